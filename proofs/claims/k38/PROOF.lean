import PyProof.Rows.All
import Wide.All
import OpenK.AllK
import Wide.FinOn
import PyProof.EqAt
import PyProof.EqKinds
import PyProof.TupleCall
import PyProof.Rows.SortRuns
import PyProof.NeData
import PyProof.P3In
import PyProof.WalkInts
import PyProof.Rows.SortWalk
import PyProof.SumWalkG
import PyProof.Rows.CallKwBuiltin
import KE.KDictList
import PyProof.WalksEnum
import PyProof.ZipIter
import PyProof.ConsumeWalk
import PyProof.ListRange
import PyProof.TupleOfSeq
import PyProof.Rows.RuleN_abs
import KE.KDictOf
import PyProof.AttrMissHeap
import PyProof.Rows.SetFrom
import KE.KDictLaws
import PyProof.ExcBaseAll.ValueError
import PyProof.ExcAttrAll.ValueError
import PySem.Challenge.RW_fewties_k38_no_trees
set_option Elab.async false
set_option linter.all false
set_option compiler.extract_closed false
set_option maxRecDepth 100000
set_option maxHeartbeats 4000000
local macro_rules | `(tactic| row_cond lo) => `(tactic| first | lia | omega)
namespace L2
open PySem PySem.Spec PyProof.Rows
noncomputable abbrev Key:=Sum Int Str
noncomputable def atd:Key->Value->Bool
 | .inl k,v=>Value.isInt k v
 | .inr x,v=>Value.isStrOf x v
noncomputable def keyH (w:World):Key->Int
 | .inl k=>hashInt k
 | .inr x=>hashStr w x
theorem abb:∀ {k:Key} {v:Value},atd k v=true->(∃ i t,k=Sum.inl i/\v=Value.int i t)\/(∃ x t,k=Sum.inr x/\v=Value.str x t)
 | .inl i,v,h=>by
  obtain ⟨t,e⟩:=Value.isInt_shape (k:=i) (v:=v) h
  exact .inl ⟨i,t,rfl,e⟩
 | .inr x,v,h=>by
  obtain ⟨t,e⟩:=Value.isStrOf_shape (x:=x) (v:=v) h
  exact .inr ⟨x,t,rfl,e⟩
theorem awx (a b:Int):decide ((Sum.inl a:Key)=Sum.inl b)=(a == b):=by
 by_cases e:a=b
 ·subst e;simp
 ·have h:¬ (Sum.inl a:Key)=Sum.inl b:=fun q=>e (Sum.inl.inj q)
  rw [decide_eq_false h]
  exact (beq_eq_false_iff_ne.mpr e).symm
theorem awy (a b:Str):decide ((Sum.inr a:Key)=Sum.inr b)=decide (a=b):=by
 by_cases e:a=b
 ·subst e;simp
 ·have h:¬ (Sum.inr a:Key)=Sum.inr b:=fun q=>e (Sum.inr.inj q)
  rw [decide_eq_false h,decide_eq_false e]
theorem awz (a:Int) (b:Str):decide ((Sum.inl a:Key)=Sum.inr b)=false:=decide_eq_false (fun q=>nomatch q)
theorem aw0 (a:Str) (b:Int):decide ((Sum.inr a:Key)=Sum.inl b)=false:=decide_eq_false (fun q=>nomatch q)
noncomputable def ahm (prog:Program) (w:World):PySem.KeyKind prog w Key where
 is:=atd
 hash:=keyH w
 inj:=fun v a b ha hb=>by
  rcases abb ha with ⟨i,t,rfl,rfl⟩ | ⟨x,t,rfl,rfl⟩
  ·rcases abb hb with ⟨j,u,rfl,e⟩ | ⟨y,u,rfl,e⟩
   ·injection e with e1 _;rw [e1]
   ·exact nomatch e
  ·rcases abb hb with ⟨j,u,rfl,e⟩ | ⟨y,u,rfl,e⟩
   ·exact nomatch e
   ·injection e with e1 _;rw [e1]
 byValue:=fun k v h=>by
  rcases abb h with ⟨i,t,rfl,rfl⟩ | ⟨x,t,rfl,rfl⟩ <;> rfl
 pyHash:=fun hv h=>by
  rcases abb hv with ⟨i,t,rfl,rfl⟩ | ⟨x,t,rfl,rfl⟩
  ·exact wpAny_pyHash_int h
  ·exact wpAny_pyHash_str h
 eqBool:=fun hu hv h=>by
  rcases abb hu with ⟨i,t,rfl,rfl⟩ | ⟨x,t,rfl,rfl⟩
  ·rcases abb hv with ⟨j,u,rfl,rfl⟩ | ⟨y,u,rfl,rfl⟩
   ·rw [awx] at h;exact wpAny_eqBool_int h
   ·rw [awz] at h;exact SeqAt.EqAt.int_str i t y u _ _ _ _ h
  ·rcases abb hv with ⟨j,u,rfl,rfl⟩ | ⟨y,u,rfl,rfl⟩
   ·rw [aw0] at h;exact SeqAt.EqAt.str_int x t j u _ _ _ _ h
   ·rw [awy] at h;exact wpAny_eqBool_str h
 «strs»:=fun k x t v h=>by
  rcases abb h with ⟨i,u,rfl,e⟩ | ⟨y,u,rfl,e⟩
  ·exact nomatch e
  ·injection e with e1 _
   subst e1
   cases v <;> rfl
end L2
namespace L2
open PySem PySem.Spec PyProof.Rows
inductive V where
 | non | bl (b:Bool) | int (i:Int) | str (x:Str) | byt (b:Array UInt8) | flt (b:UInt64) | ref (a:Addr) | ty (n:String)
 deriving DecidableEq
noncomputable def RelV:V->Value->Prop
 | .non,u=>u=Value.none
 | .bl b,u=>u=Value.bool b
 | .int i,u=>∃ t,u=Value.int i t
 | .str x,u=>∃ t,u=Value.str x t
 | .byt b,u=>∃ t,u=Value.bytes b t
 | .flt b,u=>∃ t,u=Value.float b t
 | .ref a,u=>u=Value.ref a
 | .ty n,u=>u=Value.type n
abbrev Vals:List V->List Value->Prop:=Paired RelV
theorem Vals.length {xs:List V} {us:List Value} (r:Vals xs us):xs.length=us.length:=Paired.length r
theorem Vals.get:∀ {xs:List V} {us:List Value} {i:Nat} {x:V},Vals xs us->xs[i]?=some x->∃ u,us[i]?=some u/\RelV x u
 | _,_,_,_,.nil,e=>by simp at e
 | _,_,0,_,.cons r _,e=>by simp at e;subst e;exact ⟨_,rfl,r⟩
 | _,_,i+1,x,.cons _ t,e=>by
  obtain ⟨u,h1,h2⟩:=Vals.get (i:=i) (x:=x) t (by simpa using e)
  exact ⟨u,by simpa using h1,h2⟩
theorem Vals.set {x:V} {u:Value} (r:RelV x u):∀ {xs:List V} {us:List Value} (i:Nat),Vals xs us->Vals (xs.set i x) (us.set i u)
 | _,_,_,.nil => .nil
 | _,_,0,.cons _ t => .cons r t
 | _,_,i+1,.cons q t => .cons q (Vals.set r i t)
theorem Vals.append:∀ {xs ys:List V} {us ws:List Value},Vals xs us->Vals ys ws->Vals (xs ++ ys) (us ++ ws)
 | _,_,_,_,.nil,s=>s
 | _,_,_,_,.cons r t,s => .cons r (Vals.append t s)
theorem Vals.take:∀ {xs:List V} {us:List Value} (n:Nat),Vals xs us->Vals (xs.take n) (us.take n)
 | _,_,0,_ => .nil
 | _,_,_+1,.nil => .nil
 | _,_,n+1,.cons r t => .cons r (Vals.take n t)
theorem Vals.drop:∀ {xs:List V} {us:List Value} (n:Nat),Vals xs us->Vals (xs.drop n) (us.drop n)
 | _,_,0,r=>r
 | _,_,_+1,.nil => .nil
 | _,_,n+1,.cons _ t=>Vals.drop n t
noncomputable def RelO:Option V->Option Value->Prop
 | some v,some u=>RelV v u
 | none,none=>True
 | _,_=>False
def KV {κ:Type}:List (κ × V)->List (κ × Value)->Prop:=Paired fun (p : κ × V) (q : κ × Value)=>p.1=q.1/\RelV p.2 q.2
noncomputable def kV:Key->V
 | .inl i => .int i
 | .inr x => .str x
inductive HO where
 /-- a list -/
 | lst (xs:List V)
 /-- a tuple (never changes) -/
 | tup (xs:List V)
 /-- a dict whose keys are ints and texts; one whose keys are tuples of ints and texts (the empty one is both) -/
 | dK (kvs:List (Key × V)) | dT (kvs:List (List Key × V))
 /-- a set of ints: its members, its size -/
 | set (S:Int->Bool) (n:Nat)
 /-- an instance of the class at C, its dict at dx, its attributes -/
 | ins (C dx:Addr) (fs:List (Str × V))
 /-- the dict of the instance at x -/
 | own (x:Addr)
 /-- the dict of an exception -/
 | xd (fs:List (Str × V))
 /-- a bound method, f of x -/
 | met (f x:Addr)
 /-- a range object lo, lo + 1, .. below hi -/
 | rng (lo hi:Int)
 /-- a thing that is known to the object (the script; a dict while a loop walks it): read, never written while it is so -/
 | frz (o:Obj) (u:HO)
 /-- a code object's table -/
 | tbl (ps:Array Value)
 /-- any other thing, by what is true of its one object (a def of one's own: SetO a S n:=HO.ext fun h => ..) -/
 | ext (φ:Heap->Prop)
noncomputable abbrev Hp:=Addr->Option HO
noncomputable def upd (H:Hp) (a:Addr) (o:HO):Hp:=fun b=>if b=a then some o else H b
theorem aai {H:Hp} {a:Addr} {o:HO}:upd H a o a=some o:=by unfold upd;rw [if_pos rfl]
theorem aaf {H:Hp} {a b:Addr} {o:HO} (h:b ≠ a):upd H a o b=H b:=by unfold upd;rw [if_neg h]
theorem aap {H:Hp} {a b:Addr} {o:HO} (h:H a=some o) (h':H b=none):a ≠ b:=by
 intro e;subst e;rw [h] at h';cases h'
section
variable (P:Program) (w:World)
noncomputable def ObjOk (H:Hp) (h:Heap) (a:Addr):HO->Prop
 | .lst xs=>xs.length<=sizeLine/\∃ (its:List Value) (n:Nat),Vals xs its/\h.get? a=some { cls:=.type "list",data:=.seq its.toArray n }
 | .tup xs=>xs.length<=sizeLine/\∃ its:List Value,Vals xs its/\IsTup h a its.toArray
 | .dK kvs=>kvs.length<=sizeLine/\(a == sysModules)=false/\∃ vs,KV kvs vs/\h.DictOf (ahm P w) a vs
 | .dT kvs=>kvs.length<=sizeLine/\(a == sysModules)=false/\∃ xs:List (List Key × Addr × Value),
   Paired (fun (p:List Key × V) (q:List Key × Addr × Value)=>p.1=q.1/\H q.2.1=some (.tup (p.1.map kV))/\RelV p.2 q.2.2) kvs xs /\
   ∃ o es ep,h.get? a=some o/\o.ExactDict/\o.data=.dict es ep/\es.toList=xs.map (entryOfKey (tupleKind (ahm P w)))/\(xs.map (·.1)).Nodup
 | .set S n=>h.SetOf (intKind P w) a S n
 | .ins C dx fs=>H dx=some (.own a)/\fs.length<=1000/\dx ≠ a/\h.get? a=some (PySem.W.instObj C dx) /\
   ∃ mA,h.Ns1 dx mA/\(∀ f,RelO (fs.lookup f) (mA f))/\PySem.Within mA (fs.map (·.1))
 | .own _=>∃ o,h.get? a=some o
 | .xd fs=>∃ mA,h.Ns1 a mA/\∀ f,RelO (fs.lookup f) (mA f)
 | .rng lo hi=>∃ t u v,h.get? a=some { cls:=.type "range",data:=.fields #[.int lo t,.int hi u,.int 1 v] }
 | .frz o u=>h.get? a=some o/\ObjOk H h a u
 | .tbl ps=>h.get? a=some { cls:=.none,data:=.fields ps }
 | .met f x=>h.get? a=some (PySem.W.methodObj (.ref f) (.ref x))
 | .ext φ => φ h/\(∃ o,h.get? a=some o)/\∀ h1 h2:Heap,φ h1->(∀ o,h1.get? a=some o->h2.get? a=some o)->φ h2
def HOk (H:Hp) (h:Heap):Prop:=∀ a o,H a=some o->ObjOk P w H h a o
end
section
variable {P:Program} {w:World} {H H':Hp} {h h':Heap} {a:Addr} {o:HO}
theorem ObjOk.lt (x:ObjOk P w H h a o):a < h.objs.size:=by
 cases o with
 | lst xs=>obtain ⟨_,_,_,_,e⟩:=x;exact Heap.lt_size e
 | tup xs=>obtain ⟨_,_,_,p⟩:=x;exact p.lt
 | dK kvs=>obtain ⟨_,_,_,_,o,_,_,e,_⟩:=x;exact Heap.lt_size e
 | dT kvs=>obtain ⟨_,_,_,_,o,_,_,e,_⟩:=x;exact Heap.lt_size e
 | set S n=>obtain ⟨o,_,_,_,e,_⟩:=x;exact Heap.lt_size e
 | ins C dx fs=>obtain ⟨_,_,_,e,_⟩:=x;exact Heap.lt_size e
 | own y=>obtain ⟨_,e⟩:=x;exact Heap.lt_size e
 | xd fs=>obtain ⟨_,⟨_,_,_,e,_⟩,_⟩:=x;exact Heap.lt_size e
 | rng lo hi=>obtain ⟨_,_,_,e⟩:=x;exact Heap.lt_size e
 | frz ob u=>obtain ⟨e,_⟩:=x;exact Heap.lt_size e
 | tbl ps=>exact Heap.lt_size (show h.get? a=some _ from x)
 | met f y=>exact Heap.lt_size (show h.get? a=some _ from x)
 | ext φ=>obtain ⟨_,⟨_,e⟩,_⟩:=x;exact Heap.lt_size e
theorem Paired.mapP {α β:Type} {F G : α->β->Prop}:∀ {l₁:List α} {l₂:List β},Paired F l₁ l₂->(∀ a b,F a b->G a b)->Paired G l₁ l₂
 | _,_,.nil,_ => .nil
 | _,_,.cons r t,f => .cons (f _ _ r) (Paired.mapP t f)
theorem ObjOk.stay (x:ObjOk P w H h a o) (k:∀ b u,(b=a\/H b=some (.own a))->h.get? b=some u->h'.get? b=some u)
  (ho:∀ b,H b=some (.own a)->H' b=some (.own a)) (ht:∀ b xs,H b=some (.tup xs)->H' b=some (.tup xs)):ObjOk P w H' h' a o:=by
 induction o with
 | lst xs=>obtain ⟨z,its,n,r,e⟩:=x;exact ⟨z,its,n,r,k _ _ (.inl rfl) e⟩
 | tup xs=>obtain ⟨z,its,r,ob,e,c⟩:=x;exact ⟨z,its,r,ob,k _ _ (.inl rfl) e,c⟩
 | dK kvs=>obtain ⟨z,y,vs,r,ob,es,ep,e,c⟩:=x;exact ⟨z,y,vs,r,ob,es,ep,k _ _ (.inl rfl) e,c⟩
 | dT kvs =>
  obtain ⟨z,y,xs,r,ob,es,ep,e,c⟩:=x
  exact ⟨z,y,xs,Paired.mapP r fun p q z=>⟨z.1,ht _ _ z.2.1,z.2.2⟩,ob,es,ep,k _ _ (.inl rfl) e,c⟩
 | set S n=>obtain ⟨ob,es,ep,t,e,c⟩:=x;exact ⟨ob,es,ep,t,k _ _ (.inl rfl) e,c⟩
 | ins C dx fs =>
  obtain ⟨d,z,ne,e,mA,⟨od,es,ep,e2,c⟩,r⟩:=x
  exact ⟨ho _ d,z,ne,k _ _ (.inl rfl) e,mA,⟨od,es,ep,k _ _ (.inr d) e2,c⟩,r⟩
 | own y=>obtain ⟨ob,e⟩:=x;exact ⟨ob,k _ _ (.inl rfl) e⟩
 | xd fs=>obtain ⟨mA,⟨od,es,ep,e,c⟩,r⟩:=x;exact ⟨mA,⟨od,es,ep,k _ _ (.inl rfl) e,c⟩,r⟩
 | rng lo hi=>obtain ⟨t,u,v,e⟩:=x;exact ⟨t,u,v,k _ _ (.inl rfl) e⟩
 | frz ob u ih=>obtain ⟨e,q⟩:=x;exact ⟨k _ _ (.inl rfl) e,ih q⟩
 | tbl ps =>
  have e:h.get? a=some { cls:=.none,data:=.fields ps }:=x
  show h'.get? a=some { cls:=.none,data:=.fields ps }
  exact k a _ (.inl rfl) e
 | met f y =>
  have e:h.get? a=some (PySem.W.methodObj (.ref f) (.ref y)):=x
  show h'.get? a=some (PySem.W.methodObj (.ref f) (.ref y))
  exact k a _ (.inl rfl) e
 | ext φ=>obtain ⟨p,⟨o,e⟩,st⟩:=x;exact ⟨st _ _ p fun o q=>k _ _ (.inl rfl) q,⟨o,k _ _ (.inl rfl) e⟩,st⟩
theorem HOk.lt (x:HOk P w H h) (e:H a=some o):a < h.objs.size:=(x a o e).lt
theorem HOk.fresh (x:HOk P w H h) (e:h.objs.size<=a):H a=none:=by
 cases q:H a with
 | none=>rfl
 | some u=>exact absurd (Nat.lt_of_lt_of_le (x.lt q) e) (Nat.lt_irrefl _)
theorem HOk.kept (x:HOk P w H h) (k:∀ b u,h.get? b=some u->h'.get? b=some u):HOk P w H h':=fun a o e =>
 (x a o e).stay (fun b u _ q=>k b u q) (fun _ q=>q) fun _ _ q=>q
theorem HOk.laid (x:HOk P w H h) (k:∀ b u,h.get? b=some u->h'.get? b=some u) (hp:h.objs.size<=a) (new:ObjOk P w (upd H a o) h' a o):HOk P w (upd H a o) h':=fun b u e=>by
 have hn:=x.fresh hp
 by_cases hb:b=a
 ·subst hb;rw [aai] at e;cases e;exact new
 ·rw [aaf hb] at e
  exact (x b u e).stay (fun c v _ q=>k c v q) (fun c q=>by rw [aaf (aap q hn)];exact q) fun c xs q=>by rw [aaf (aap q hn)];exact q
end
def Rd (H:Hp) (a:Addr) (u:HO):Prop:=H a=some u\/∃ o,H a=some (.frz o u)
theorem Rd.of {H:Hp} {a:Addr} {u:HO} (h:H a=some u):Rd H a u:=.inl h
theorem Rd.ok {P:Program} {w:World} {H:Hp} {h:Heap} {a:Addr} {u:HO} (r:Rd H a u) (x:HOk P w H h):ObjOk P w H h a u:=by
 rcases r with r | ⟨o,r⟩
 ·exact x a u r
 ·obtain ⟨_,q⟩:=x a _ r
  exact q
noncomputable def Mut:Option HO->Prop
 | some (.lst _)=>True
 | some (.dK _)=>True
 | some (.dT _)=>True
 | some (.set _ _)=>True
 | some (.ins _ _ _)=>True
 | some (.ext _)=>True
 | _=>False
section
variable {P:Program} {w:World} {H:Hp} {h h':Heap} {x e:Addr} {o':HO}
theorem HOk.write (ok:HOk P w H h) (mu:Mut (H x)) (he:e=x\/H e=some (.own x)) (k:∀ b u,b ≠ e->h.get? b=some u->h'.get? b=some u) (heo:∃ u,h'.get? e=some u)
  (new:ObjOk P w (upd H x o') h' x o'):HOk P w (upd H x o') h':=fun b u q=>by
 have nown:∀ c y,H c=some (.own y)->c ≠ x:=fun c y r z=>by subst z;rw [r] at mu;exact mu
 have ntup:∀ c xs,H c=some (.tup xs)->c ≠ x:=fun c xs r z=>by subst z;rw [r] at mu;exact mu
 by_cases hb:b=x
 ·subst hb;rw [aai] at q;cases q;exact new
 ·rw [aaf hb] at q
  by_cases hbe:b=e
  ·have q':H b=some (.own x):=by
    rcases he with z | z
    ·exact absurd (hbe.trans z) hb
    ·rw [hbe];exact z
   rw [q] at q';cases q'
   obtain ⟨v,hv⟩:=heo
   exact ⟨v,by rw [hbe];exact hv⟩
  ·refine (ok b u q).stay (fun c v hc r=>k c v ?_ r) (fun c r=>by rw [aaf (nown c b r)];exact r) fun c xs r=>by rw [aaf (ntup c xs r)];exact r
   rcases hc with rfl | hc
   ·exact hbe
   ·rintro rfl
    rcases he with z | z
    ·exact nown c b hc z
    ·rw [hc] at z;cases z;exact hb rfl
end
structure Un (fs ex:List Addr) (H H':Hp) (h h':Heap):Prop where
 keep:∀ b o,h.get? b=some o->H b=none->b ∉ fs->b ∉ ex->h'.get? b=some o
 slot:∀ b o,h.get? b=some o->H b=none->b∈fs->b ∉ ex->∃ sl,h'.get? b=some { o with slots:=sl }
 free:∀ b o,h.get? b=some o->H b=none->b ∉ ex->H' b=none
 there:∀ b o,h.get? b=some o->b ∉ ex->∃ o',h'.get? b=some o'
 tups:∀ b xs,H b=some (.tup xs)->H' b=some (.tup xs)
 frzs:∀ b o u,H b=some (.frz o u)->H' b=some (.frz o u)
 tbls:∀ b ps,H b=some (.tbl ps)->∃ more,H' b=some (.tbl (ps ++ more))
section
variable {fs fs' ex ex':List Addr} {H H1 H2:Hp} {h h1 h2 h':Heap} {a x e:Addr} {o:HO}
theorem Un.any (u:Un fs ex H H1 h h1) {b:Addr} {ob:Obj} (q:h.get? b=some ob) (n:H b=none) (hx:b ∉ ex):∃ sl,h1.get? b=some { ob with slots:=sl }:=by
 by_cases hb:b∈fs
 ·exact u.slot b ob q n hb hx
 ·exact ⟨ob.slots,u.keep b ob q n hb hx⟩
theorem Un.trans (a:Un fs ex H H1 h h1) (b:Un fs ex H1 H2 h1 h2):Un fs ex H H2 h h2 where
 keep:=fun c ob q n hc hx=>b.keep c ob (a.keep c ob q n hc hx) (a.free c ob q n hx) hc hx
 slot:=fun c ob q n hc hx=>by
  obtain ⟨sl,e1⟩:=a.slot c ob q n hc hx
  obtain ⟨sl',e2⟩:=b.slot c _ e1 (a.free c ob q n hx) hc hx
  exact ⟨sl',e2⟩
 free:=fun c ob q n hx=>by
  obtain ⟨o',e1⟩:=a.there c ob q hx
  exact b.free c o' e1 (a.free c ob q n hx) hx
 there:=fun c ob q hx=>by
  obtain ⟨o',e1⟩:=a.there c ob q hx
  exact b.there c o' e1 hx
 tups:=fun c xs q=>b.tups c xs (a.tups c xs q)
 frzs:=fun c ob xs q=>b.frzs c ob xs (a.frzs c ob xs q)
 tbls:=fun c ps q=>by
  obtain ⟨m1,e1⟩:=a.tbls c ps q
  obtain ⟨m2,e2⟩:=b.tbls c _ e1
  exact ⟨m1 ++ m2,by rw [e2,Array.append_assoc]⟩
theorem Un.kept (k:∀ b u,h.get? b=some u->h'.get? b=some u):Un fs ex H H h h' :=
 ⟨fun b ob q _ _ _=>k b ob q,fun b ob q _ _ _=>⟨ob.slots,k b ob q⟩,fun _ _ _ n _=>n,fun b ob q _=>⟨ob,k b ob q⟩,fun _ _ q=>q,fun _ _ _ q=>q,fun _ ps q=>⟨#[],by rw [q];simp⟩⟩
theorem Un.refl:Un fs ex H H h h:=Un.kept fun _ _ q=>q
theorem Un.laid (k:∀ b u,h.get? b=some u->h'.get? b=some u) (hp:h.objs.size<=a) (hn:H a=none):Un fs ex H (upd H a o) h h' where
 keep:=fun b u q _ _ _=>k b u q
 slot:=fun b u q _ _ _=>⟨u.slots,k b u q⟩
 free:=fun b u q n _=>by rw [aaf (Nat.ne_of_lt (Nat.lt_of_lt_of_le (Heap.lt_size q) hp))];exact n
 there:=fun b u q _=>⟨u,k b u q⟩
 tups:=fun b xs q=>by rw [aaf (aap q hn)];exact q
 frzs:=fun b u xs q=>by rw [aaf (aap q hn)];exact q
 tbls:=fun b ps q=>⟨#[],by rw [aaf (aap q hn),q];simp⟩
theorem Un.write (mu:Mut (H x)) (he:e=x\/H e=some (.own x)) (k:∀ b u,b ≠ e->h.get? b=some u->h'.get? b=some u) (heo:∃ u,h'.get? e=some u):Un fs ex H (upd H x o) h h':=by
 have hx:∀ b,H b=none->b ≠ x:=fun b n z=>by subst z;rw [n] at mu;exact mu
 have hb:∀ b,H b=none->b ≠ e:=fun b n z=>by
  subst z
  rcases he with r | r
  ·exact hx b n r
  ·rw [n] at r;cases r
 have hm:∀ b u,H b=some u->¬ Mut (some u)->b ≠ x:=fun b u q nm z=>by subst z;rw [q] at mu;exact nm mu
 refine ⟨fun b u q n _ _=>k b u (hb b n) q,fun b u q n _ _=>⟨u.slots,k b u (hb b n) q⟩,fun b u q n _=>by rw [aaf (hx b n)];exact n,fun b u q _=>?_,
  fun b xs q=>by rw [aaf (hm b _ q fun z=>z)];exact q,fun b u xs q=>by rw [aaf (hm b _ q fun z=>z)];exact q,fun b ps q=>⟨#[],by rw [aaf (hm b _ q fun z=>z),q];simp⟩⟩
 by_cases hbe:b=e
 ·subst hbe;exact heo
 ·exact ⟨u,k b u hbe q⟩
theorem Un.mono (u:Un fs ex H H1 h h1) (hs:∀ b∈fs,b∈fs') (hx:∀ b∈ex,b∈ex'):Un fs' ex' H H1 h h1 :=
 ⟨fun b ob q n hb he=>u.keep b ob q n (fun z=>hb (hs b z)) fun z=>he (hx b z),fun _ _ q n _ he=>u.any q n fun z=>he (hx _ z),fun b ob q n he=>u.free b ob q n fun z=>he (hx b z),fun b ob q he=>u.there b ob q fun z=>he (hx b z),u.tups,u.frzs,u.tbls⟩
end
noncomputable def trk (h:Heap) (H:Hp):List Addr:=(List.range h.objs.size).filter fun a=>(H a).isSome
noncomputable def hidT (h:Heap) (H:Hp):Heap:=PySem.W.hideAll h (trk h H)
theorem apa (h:Heap) (H:Hp):(hidT h H).objs.size=h.objs.size:=PySem.W.hideAll_size _ _
theorem aq3 {h:Heap} {H:Hp} {b:Addr} {o:Obj} (e:h.get? b=some o) (n:H b=none):(hidT h H).get? b=some o :=
 PySem.W.hideAll_get _ e fun hm=>by
  have q:(H b).isSome=true:=(List.mem_filter.mp hm).2
  rw [n] at q;simp at q
theorem aub {h:Heap} {H:Hp} {b:Addr} {o:Obj} (e:(hidT h H).get? b=some o):h.get? b=some o/\H b=none:=by
 have e':h.get? b=some o:=PySem.W.of_hideAll (trk h H) e
 refine ⟨e',?_⟩
 cases q:H b with
 | none=>rfl
 | some x =>
  have hm:b∈trk h H:=List.mem_filter.mpr ⟨List.mem_range.mpr (Heap.lt_size e'),by simp [q]⟩
  have z:(hidT h H).get? b=none:=PySem.W.hideAll_none (trk h H) hm
  rw [z] at e;cases e
noncomputable def auc (g h:Heap) (L:Addr):List (Addr × Obj):=(List.range h.objs.size).filterMap fun a=>if a=L\/(g.get? a).isSome=true then none else (h.get? a).map fun o=>(a,o)
noncomputable def rest (g h:Heap) (L d:Addr):List (Addr × Obj):=(auc g h L).filter fun p=>decide (p.1 ≠ d)
end L2
namespace L2
open PySem PySem.Spec PyProof.Rows
structure Mod (K:PySem.W.Frag) (mg:Str->Option Value) (base:Heap):Prop where
 kin:K.In base
 glob:base.Ns mainGlobals mg
 blt:∃ mb,base.Ns builtinsNs mb/\∀ x:Str,x ≠ "__name__"->mb x=bootBuiltins x
 nolimit:base.NoLimit
/-- the context: a def's body (or a comprehension's block) running. base: fixed through the whole law; s₀, H₀: the entry; outer: the frames whose slots others may change (a def's callers); stack: all frames that run;
  ex: iterators that were made ahead of the entry and are walked here (a comprehension's);fn: the names whose cells were made at the entry (a def: all;a comprehension's block: its own);calm: not within an except suite;pn: pins that every state bears;xe: what is wanted of an exception that leaves the code -/
structure Cx where
 prog:Program
 w:World
 K:PySem.W.Frag
 mg:Str->Option Value
 base:Heap
 A:Around
 N:List Str
 s₀:Shared
 H₀:Hp
 env:Env
 outer:List Env
 stack:List Env
 ex:List Addr
 fn:Str->Bool
 calm:Bool
 pn:List (Addr × Obj)
 xe:Value->Shared->Prop
noncomputable def frs (l:List Env):List Addr:=l.filterMap (·.frame)
noncomputable abbrev Cx.fs (X:Cx):List Addr:=frs X.outer
def Vis (sc:Scope) (x:Str):Prop:=sc.names.lookup x=some .local\/sc.names.lookup x=some .cell\/sc.names.lookup x=some .free
def Loc (sc:Scope) (x:Str):Prop:=sc.names.lookup x=some .local\/sc.names.lookup x=some .cell
def Look (env:Env) (h:Heap) (m:Str->Option Value) (x:Str) (u:Value):Prop :=
 (env.kindOf x=some .local/\m x=some u)\/((env.kindOf x=some .cell\/env.kindOf x=some .free)/\∃ c,env.cells.lookup x=some c/\h.IsCell c (some u))
structure Cx.Ok (X:Cx):Prop where
 mod:Mod X.K X.mg X.base
 kind:X.env.scope.kind=.function
 glob:X.env.globals=mainGlobals
 blt:X.env.builtins=builtinsNs
 above:X.s₀.heap.objs.size<=X.env.locals
 inj:∀ x y c,X.env.cells.lookup x=some c->X.env.cells.lookup y=some c->x=y
 has:∀ x,(X.env.kindOf x=some .cell\/X.env.kindOf x=some .free)->∃ c,X.env.cells.lookup x=some c
 cab:∀ x c,X.fn x=true->X.env.cells.lookup x=some c->X.s₀.heap.objs.size<=c
 hd:X.calm=true->X.A.handled=none
 frames:X.A.frames=some X.stack
 stk:X.stack=X.outer\/(X.stack=X.env :: X.outer/\X.env.frame=some X.env.locals)
 exf:∀ b∈X.ex,b ≠ X.env.locals/\∀ x c,X.env.cells.lookup x=some c->c ≠ b
 bs:∀ b o,X.base.get? b=some o->X.s₀.heap.get? b=some o/\X.H₀ b=none
 bsz:X.base.objs.size<=X.s₀.heap.objs.size
 noex:∀ b o,X.base.get? b=some o->b ∉ X.ex
 exfs:∀ b∈X.ex,b ∉ X.fs
 funs:X.s₀.heap.FunFrames X.base X.outer
 frf:∀ b∈X.fs,X.H₀ b=none
structure Inv (X:Cx) (pins:List (Addr × Obj)) (σ:List (Option V)) (H:Hp) (s:Shared):Prop where
 ok:X.Ok
 os:s.os=X.s₀.os
 bare:AllBare s.gens
 base:Un X.fs X.ex X.H₀ H X.s₀.heap s.heap
 loc:∃ m,s.heap.Ns X.env.locals m/\∀ (i:Nat) (x:Str) (v:V),X.N[i]?=some x->σ[i]?=some (some v)->Vis X.env.scope x->∃ u,RelV v u/\Look X.env s.heap m x u
 cell:∀ x c,X.env.cells.lookup x=some c->∃ v,s.heap.IsCell c v
 free:H X.env.locals=none
 freeC:∀ x c,X.env.cells.lookup x=some c->H c=none
 pin:∀ p∈X.pn ++ pins,s.heap.get? p.1=some p.2/\H p.1=none/\p.1 ≠ X.env.locals/\p.1 ∉ X.fs/\∀ v,p.2.data ≠ .cell v
 hok:HOk X.prog X.w H s.heap
 len : σ.length=X.N.length
section
variable {X:Cx} {pins:List (Addr × Obj)} {σ:List (Option V)} {H H':Hp} {s:Shared} {h':Heap}
theorem Cx.Ok.nofr (ok:X.Ok) {b:Addr} {o:Obj} (e:X.base.get? b=some o):b ∉ X.fs:=fun hb=>by
 have:=(ok.funs.mem hb).1
 rw [e] at this;cases this
theorem Inv.bs (I:Inv X pins σ H s):∀ b o,X.base.get? b=some o->s.heap.get? b=some o/\H b=none:=fun b o e =>
 ⟨I.base.keep b o (I.ok.bs b o e).1 (I.ok.bs b o e).2 (I.ok.nofr e) (I.ok.noex b o e),I.base.free b o (I.ok.bs b o e).1 (I.ok.bs b o e).2 (I.ok.noex b o e)⟩
theorem Inv.bk (I:Inv X pins σ H s):∀ b o,X.base.get? b=some o->s.heap.get? b=some o:=fun b o e=>(I.bs b o e).1
theorem Inv.mod (I:Inv X pins σ H s):Mod X.K X.mg X.base:=I.ok.mod
theorem Inv.kIn (I:Inv X pins σ H s):X.K.In s.heap:=I.ok.mod.kin.keeps I.bk
theorem Inv.fr (I:Inv X pins σ H s):∃ m,Fr X.base X.env.locals s.heap m :=
 let ⟨m,hn,_⟩:=I.loc
 ⟨m,hn,I.bk,Nat.le_trans I.ok.bsz I.ok.above⟩
theorem Inv.lt (I:Inv X pins σ H s):X.env.locals < s.heap.objs.size:=let ⟨_,hn,_⟩:=I.loc;hn.lt
theorem Inv.sz (I:Inv X pins σ H s):X.s₀.heap.objs.size<=s.heap.objs.size:=Nat.le_trans I.ok.above (Nat.le_of_lt I.lt)
theorem Inv.nofs (I:Inv X pins σ H s) {a:Addr} (h:s.heap.objs.size<=a):a ∉ X.fs:=fun hb=>by
 obtain ⟨_,o,ho,_⟩:=I.ok.funs.mem hb
 exact absurd (Nat.lt_of_lt_of_le (Heap.lt_size ho) (Nat.le_trans I.sz h)) (Nat.lt_irrefl _)
theorem Inv.cne (I:Inv X pins σ H s):∀ x c,X.env.cells.lookup x=some c->c ≠ X.env.locals:=fun x c e z=>by
 obtain ⟨v,o,ho,hd⟩:=I.cell x c e
 obtain ⟨m,⟨o',es,ep,ho',hd',_⟩,_⟩:=I.loc
 rw [z,ho'] at ho;cases ho;rw [hd'] at hd;cases hd
theorem Inv.funs (I:Inv X pins σ H s):s.heap.FunFrames X.base X.outer:=by
 have all:∀ (l:List Env),(∀ b∈frs l,b∈X.fs)->X.s₀.heap.FunFrames X.base l->s.heap.FunFrames X.base l:=by
  intro l
  induction l with
  | nil=>intro _ _;trivial
  | cons env r ih =>
   intro hs hl
   obtain ⟨hk,⟨L,o,hf,hn,ho,hd⟩,hr⟩:=hl
   have hL:L∈X.fs:=hs L (by unfold frs;rw [List.filterMap_cons,hf];exact List.mem_cons_self)
   obtain ⟨sl,e⟩:=I.base.slot L o ho (I.ok.frf L hL) hL fun z=>I.ok.exfs L z hL
   exact ⟨hk,⟨L,_,hf,hn,e,hd⟩,ih (fun b hb=>hs b (by unfold frs;rw [List.filterMap_cons,hf];exact List.mem_cons_of_mem _ hb)) hr⟩
 exact all X.outer (fun _ hb=>hb) I.ok.funs
theorem Inv.stack (I:Inv X pins σ H s):s.heap.FunFrames X.base X.stack:=by
 rcases I.ok.stk with e | ⟨e,hf⟩
 ·rw [e];exact I.funs
 ·rw [e]
  obtain ⟨m,hn,_⟩:=I.loc
  refine .cons (by rw [I.ok.kind];decide) hf hn ?_ I.funs
  exact Heap.get?_none_of_le (Nat.le_trans I.ok.bsz I.ok.above)
theorem Inv.stkSub (I:Inv X pins σ H s):∀ b∈frs X.stack,b∈X.env.locals :: X.fs:=fun b hb=>by
 rcases I.ok.stk with e | ⟨e,hf⟩
 ·rw [e] at hb;exact List.mem_cons_of_mem _ hb
 ·rw [e] at hb
  unfold frs at hb
  rw [List.filterMap_cons,hf] at hb
  exact hb
theorem Inv.stkFree (I:Inv X pins σ H s):∀ b∈frs X.stack,H b=none:=fun b hb=>by
 rcases List.mem_cons.mp (I.stkSub b hb) with e | hb
 ·rw [e];exact I.free
 ·obtain ⟨_,o,ho,_⟩:=I.ok.funs.mem hb
  exact I.base.free b o ho (I.ok.frf b hb) fun z=>I.ok.exfs b z hb
theorem Inv.step {g':Array GenState} {t':Nat} {d':Drawn} {ch:List Addr} (I:Inv X pins σ H s)
  (hch:∀ b∈ch,(b∈X.ex\/X.s₀.heap.objs.size<=b)/\b ≠ X.env.locals/\(∀ x c,X.env.cells.lookup x=some c->c ≠ b)/\∀ p∈X.pn ++ pins,p.1 ≠ b)
  (keep:∀ b o,b ≠ X.env.locals->b ∉ X.fs->b ∉ ch->s.heap.get? b=some o->H b=none->h'.get? b=some o)
  (slot:∀ b o,b ≠ X.env.locals->b∈X.fs->b ∉ ch->s.heap.get? b=some o->H b=none->∃ sl,h'.get? b=some { o with slots:=sl }) (free:∀ b o,b ∉ ch->s.heap.get? b=some o->H b=none->H' b=none)
  (there:∀ b o,b ∉ ch->s.heap.get? b=some o->∃ o',h'.get? b=some o')
  (tups:∀ b xs,H b=some (.tup xs)->H' b=some (.tup xs)) (frzs:∀ b o u,H b=some (.frz o u)->H' b=some (.frz o u)) (tbls:∀ b ps,H b=some (.tbl ps)->∃ more,H' b=some (.tbl (ps ++ more)))
  (ns:∀ m,s.heap.Ns X.env.locals m->h'.Ns X.env.locals m) (hok:HOk X.prog X.w H' h') (hg:AllBare g') :
  Inv X pins σ H' { s with heap:=h',gens:=g',drawn:=d',toks:=t' }:=by
 have neL:∀ b o,X.s₀.heap.get? b=some o->b ≠ X.env.locals:=fun b o e=>Nat.ne_of_lt (Nat.lt_of_lt_of_le (Heap.lt_size e) I.ok.above)
 have neC:∀ b o,X.s₀.heap.get? b=some o->b ∉ X.ex->b ∉ ch:=fun b o e hx hb=>by
  rcases (hch b hb).1 with z | z
  ·exact hx z
  ·exact absurd (Nat.lt_of_lt_of_le (Heap.lt_size e) z) (Nat.lt_irrefl _)
 have cellK:∀ x c,X.env.cells.lookup x=some c->∀ v,s.heap.IsCell c v->h'.IsCell c v:=fun x c e v z_=>by
  obtain ⟨o,ho,hd⟩:=z_
  have nch:c ∉ ch:=fun z=>(hch c z).2.2.1 x c e rfl
  by_cases hc:c∈X.fs
  ·obtain ⟨sl,q⟩:=slot c o (I.cne x c e) hc nch ho (I.freeC x c e)
   exact ⟨_,q,hd⟩
  ·exact ⟨o,keep c o (I.cne x c e) hc nch ho (I.freeC x c e),hd⟩
 refine ⟨I.ok,I.os,hg,⟨fun b o e n hb hx=>?_,fun b o e n hb hx=>?_,fun b o e n hx=>?_,fun b o e hx=>?_,fun b xs e=>tups b xs (I.base.tups b xs e),fun b o xs e=>frzs b o xs (I.base.frzs b o xs e),fun b ps e=>?_⟩,?_,fun x c e=>?_,?_,fun x c e=>?_,fun p hp=>?_,hok,I.len⟩
 ·exact keep b o (neL b o e) hb (neC b o e hx) (I.base.keep b o e n hb hx) (I.base.free b o e n hx)
 ·obtain ⟨sl,e1⟩:=I.base.slot b o e n hb hx
  obtain ⟨sl',e2⟩:=slot b _ (neL b o e) hb (neC b o e hx) e1 (I.base.free b o e n hx)
  exact ⟨sl',e2⟩
 ·obtain ⟨o',e1⟩:=I.base.there b o e hx
  exact free b o' (neC b o e hx) e1 (I.base.free b o e n hx)
 ·obtain ⟨o',e1⟩:=I.base.there b o e hx
  exact there b o' (neC b o e hx) e1
 ·obtain ⟨m1,e1⟩:=I.base.tbls b ps e
  obtain ⟨m2,e2⟩:=tbls b _ e1
  exact ⟨m1 ++ m2,by rw [e2,Array.append_assoc]⟩
 ·obtain ⟨m,hn,hl⟩:=I.loc
  refine ⟨m,ns m hn,fun i x v e1 e2 e3=>?_⟩
  obtain ⟨u,r,l⟩:=hl i x v e1 e2 e3
  refine ⟨u,r,?_⟩
  rcases l with l | ⟨k,c,e,z⟩
  ·exact .inl l
  ·exact .inr ⟨k,c,e,cellK x c e _ z⟩
 ·obtain ⟨v,z⟩:=I.cell x c e
  exact ⟨v,cellK x c e v z⟩
 ·obtain ⟨m,⟨o,_,_,ho,_⟩,_⟩:=I.loc
  exact free _ o (fun z=>(hch _ z).2.1 rfl) ho I.free
 ·obtain ⟨v,o,ho,hd⟩:=I.cell x c e
  exact free c o (fun z=>(hch c z).2.2.1 x c e rfl) ho (I.freeC x c e)
 ·obtain ⟨e,n,ne,nf,d⟩:=I.pin p hp
  have nch:p.1 ∉ ch:=fun z=>(hch p.1 z).2.2.2 p hp rfl
  exact ⟨keep p.1 p.2 ne nf nch e n,free p.1 p.2 nch e n,ne,nf,d⟩
theorem Inv.un {t':Nat} (I:Inv X pins σ H s) (u:Un X.fs [] H H' s.heap h') (hok:HOk X.prog X.w H' h'):Inv X pins σ H' { s with heap:=h',toks:=t' }:=by
 obtain ⟨m,⟨o,es,ep,ho,r⟩,_⟩:=id I.loc
 obtain ⟨sl,hL⟩:=u.any ho I.free (by simp)
 exact I.step (g':=s.gens) (d':=s.drawn) (ch:=[]) (fun _ z=>nomatch z) (fun b o _ hb _ e n=>u.keep b o e n hb (by simp)) (fun b o _ hb _ e n=>u.slot b o e n hb (by simp)) (fun b o _ e n=>u.free b o e n (by simp)) (fun b o _ e=>u.there b o e (by simp)) u.tups u.frzs u.tbls (fun m' hm=>by
  obtain ⟨o',es',ep',ho',r'⟩:=hm
  rw [ho] at ho';cases ho'
  exact ⟨_,es',ep',hL,r'⟩) hok I.bare
theorem Inv.call {g':Array GenState} {t':Nat} {d':Drawn} {ch:List Addr} (I:Inv X pins σ H s) (u:Un (frs X.stack) ch H H' s.heap h') (hok:HOk X.prog X.w H' h') (hg:AllBare g')
  (hch:∀ b∈ch,(b∈X.ex\/X.s₀.heap.objs.size<=b)/\b ≠ X.env.locals/\(∀ x c,X.env.cells.lookup x=some c->c ≠ b)/\∀ p∈X.pn ++ pins,p.1 ≠ b) :
  Inv X pins σ H' { s with heap:=h',gens:=g',drawn:=d',toks:=t' }:=by
 obtain ⟨m,⟨o,es,ep,ho,r⟩,_⟩:=id I.loc
 obtain ⟨sl,hL⟩:=u.any ho I.free fun z=>(hch _ z).2.1 rfl
 exact I.step (ch:=ch) hch (fun b o hL hb hc e n=>u.keep b o e n (fun z=>(List.mem_cons.mp (I.stkSub b z)).elim hL hb) hc) (fun b o _ _ hc e n=>u.any e n hc) (fun b o hc e n=>u.free b o e n hc) (fun b o hc e=>u.there b o e hc) u.tups u.frzs u.tbls (fun m' hm=>by
  obtain ⟨o',es',ep',ho',r'⟩:=hm
  rw [ho] at ho';cases ho'
  exact ⟨_,es',ep',hL,r'⟩) hok hg
theorem Inv.turned {t':Nat} {it:Addr} (I:Inv X pins σ H s) (k:∀ b o,b ≠ it->s.heap.get? b=some o->h'.get? b=some o) (hn:H it=none) (hL:it ≠ X.env.locals)
  (h1:it∈X.ex\/X.s₀.heap.objs.size<=it) (h2:∀ x c,X.env.cells.lookup x=some c->c ≠ it) (h3:∀ p∈X.pn ++ pins,p.1 ≠ it):Inv X pins σ H { s with heap:=h',toks:=t' }:=by
 have nit:∀ b u,H b=some u->b ≠ it:=fun b u e z=>by rw [z,hn] at e;cases e
 refine I.step (g':=s.gens) (d':=s.drawn) (ch:=[it]) (fun b hb=>?_) (fun b o _ _ hc e _=>k b o (fun z=>hc (by simp [z])) e) (fun b o _ _ hc e _=>⟨o.slots,k b o (fun z=>hc (by simp [z])) e⟩) (fun _ _ _ _ n=>n)
  (fun b o hc e=>⟨o,k b o (fun z=>hc (by simp [z])) e⟩) (fun _ _ e=>e) (fun _ _ _ e=>e) (fun b ps e=>⟨#[],by rw [e];simp⟩) (fun m hm=>?_) (fun b u e=>?_) I.bare
 ·have e:b=it:=by simpa using hb
  subst e
  exact ⟨h1,hL,h2,h3⟩
 ·obtain ⟨o,es,ep,ho,r⟩:=hm
  exact ⟨o,es,ep,k _ o (Ne.symm hL) ho,r⟩
 ·refine (I.hok b u e).stay (fun c v hc q=>k c v ?_ q) (fun _ q=>q) fun _ _ q=>q
  rcases hc with z | z
  ·rw [z];exact nit b u e
  ·exact nit c _ z
theorem Inv.tok (I:Inv X pins σ H s) (t:Nat):Inv X pins σ H { s with toks:=t }:=I.un (h':=s.heap) (t':=t) Un.refl I.hok
theorem Inv.kept {t':Nat} (I:Inv X pins σ H s) (k:∀ b u,s.heap.get? b=some u->h'.get? b=some u):Inv X pins σ H { s with heap:=h',toks:=t' }:=I.un (Un.kept k) (I.hok.kept k)
theorem Inv.laid {a:Addr} {o:HO} {t':Nat} (I:Inv X pins σ H s) (k:∀ b u,s.heap.get? b=some u->h'.get? b=some u) (hp:s.heap.objs.size<=a) (new:ObjOk X.prog X.w (upd H a o) h' a o) :
  Inv X pins σ (upd H a o) { s with heap:=h',toks:=t' }:=I.un (Un.laid k hp (I.hok.fresh hp)) (I.hok.laid k hp new)
theorem Inv.write {x e:Addr} {o:HO} {t':Nat} (I:Inv X pins σ H s) (mu:Mut (H x)) (he:e=x\/H e=some (.own x)) (k:∀ b u,b ≠ e->s.heap.get? b=some u->h'.get? b=some u) (heo:∃ u,h'.get? e=some u)
  (new:ObjOk X.prog X.w (upd H x o) h' x o):Inv X pins σ (upd H x o) { s with heap:=h',toks:=t' }:=I.un (Un.write mu he k heo) (I.hok.write mu he k heo new)
theorem Inv.pins_of {pins':List (Addr × Obj)} (I:Inv X pins σ H s) (h:∀ p∈pins',s.heap.get? p.1=some p.2/\H p.1=none/\p.1 ≠ X.env.locals/\p.1 ∉ X.fs/\∀ v,p.2.data ≠ .cell v):Inv X pins' σ H s :=
 ⟨I.ok,I.os,I.bare,I.base,I.loc,I.cell,I.free,I.freeC,fun p hp=>(List.mem_append.mp hp).elim (fun z=>I.pin p (List.mem_append_left _ z)) (h p),I.hok,I.len⟩
theorem nodup_ix {N:List Str} (hN:N.Nodup) {i j:Nat} {x:Str} (a:N[i]?=some x) (b:N[j]?=some x):i=j:=by
 obtain ⟨h1,e1⟩:=List.getElem?_eq_some_iff.mp a
 obtain ⟨h2,e2⟩:=List.getElem?_eq_some_iff.mp b
 exact (List.getElem_inj hN).mp (e1.trans e2.symm)
theorem aih {M:Model} {A:Around} {E:Value->Shared->Prop} {i:Nat} {x:Str} {v:V} {u:Value} {Q:Unit->Shared->Prop} (I:Inv X pins σ H s) (hN:X.N.Nodup) (hi:X.N[i]?=some x) (hx:Loc X.env.scope x) (r:RelV v u)
  (h:∀ s',Inv X pins (σ.set i (some v)) H s'->(∃ a,Heap.SameBut a s.heap s'.heap/\(a=X.env.locals\/X.env.cells.lookup x=some a))->Q () s') (hf:X.fn x=true\/X.env.scope.names.lookup x=some .local:=by first | exact .inl rfl | exact .inr rfl | assumption):wpAny M A (storeName X.env x u) Q E s:=by
 obtain ⟨m,hn,hl⟩:=id I.loc
 have hcls:(X.env.scope.kind == .class || (X.env.scope.kind == .module && X.env.locals != X.env.globals))=false:=by rw [I.ok.kind];rfl
 have hiσ:i < σ.length:=by rw [I.len];exact (List.getElem?_eq_some_iff.mp hi).1
 have cne:=I.cne
 have tracked:∀ {a:Addr} {h':Heap},(∃ o,s.heap.get? a=some o/\H a=none)->Heap.SameBut a s.heap h'->HOk X.prog X.w H h':=fun {a h'} ha hs b ob e=>by
  obtain ⟨_,_,hfree⟩:=ha
  refine (I.hok b ob e).stay (fun c w' hc q=>(hs.2 c ?_).trans q) (fun _ q=>q) fun _ _ q=>q
  rintro rfl
  rcases hc with rfl | hc
  ·rw [hfree] at e;cases e
  ·rw [hfree] at hc;cases hc
 rcases hx with hk | hk
 ·refine wpAny_storeName_local hk hn (fun h' hn' hs=>?_) hcls
  obtain ⟨oL,_,_,hoL,_⟩:=id hn
  refine h _ ⟨I.ok,I.os,I.bare,⟨fun b o e n hb hx=>?_,fun b o e n hb hx=>?_,I.base.free,fun b o e hx=>?_,I.base.tups,I.base.frzs,I.base.tbls⟩,⟨_,hn',fun j y v' e1 e2 e3=>?_⟩,fun y c e=>?_,I.free,I.freeC,fun p hp=>?_,tracked ⟨oL,hoL,I.free⟩ hs,by simpa using I.len⟩ ⟨_,hs,.inl rfl⟩
  ·exact (hs.2 b (Nat.ne_of_lt (Nat.lt_of_lt_of_le (Heap.lt_size e) I.ok.above))).trans (I.base.keep b o e n hb hx)
  ·obtain ⟨sl,e1⟩:=I.base.slot b o e n hb hx
   exact ⟨sl,(hs.2 b (Nat.ne_of_lt (Nat.lt_of_lt_of_le (Heap.lt_size e) I.ok.above))).trans e1⟩
  ·obtain ⟨o',e1⟩:=I.base.there b o e hx
   exact ⟨o',(hs.2 b (Nat.ne_of_lt (Nat.lt_of_lt_of_le (Heap.lt_size e) I.ok.above))).trans e1⟩
  ·by_cases hj:j=i
   ·subst hj
    rw [hi] at e1;cases e1
    rw [List.getElem?_set_self hiσ] at e2
    cases e2
    exact ⟨u,r,.inl ⟨hk,by simp⟩⟩
   ·rw [List.getElem?_set_ne (Ne.symm hj)] at e2
    obtain ⟨u',r',q⟩:=hl j y v' e1 e2 e3
    refine ⟨u',r',?_⟩
    rcases q with ⟨k,e⟩ | ⟨k,c,e,z⟩
    ·refine .inl ⟨k,?_⟩
     have:y ≠ x:=fun e=>hj (nodup_ix hN e1 (e ▸ hi))
     simp [this,e]
    ·exact .inr ⟨k,c,e,z.sameBut hs (cne y c e)⟩
  ·obtain ⟨w',z⟩:=I.cell y c e
   exact ⟨w',z.sameBut hs (cne y c e)⟩
  ·obtain ⟨e,n,ne,nf,d⟩:=I.pin p hp
   exact ⟨(hs.2 p.1 ne).trans e,n,ne,nf,d⟩
 ·have hfn:X.fn x=true:=by
   rcases hf with z | z
   ·exact z
   ·rw [z] at hk;cases hk
  obtain ⟨c,hc⟩:=I.ok.has x (.inl hk)
  obtain ⟨w',z⟩:=I.cell x c hc
  refine wpAny_storeName_cell I.ok.kind hk hc z (fun h' hc' hs=>?_)
  obtain ⟨oc,hoc,hocd⟩:=id z
  refine h { s with heap:=h' } ⟨I.ok,I.os,I.bare,⟨fun b o e n hb hx=>?_,fun b o e n hb hx=>?_,I.base.free,fun b o e hx=>?_,I.base.tups,I.base.frzs,I.base.tbls⟩,⟨m,hn.sameBut hs (Ne.symm (cne x c hc)),fun j y v' e1 e2 e3=>?_⟩,fun y c' e=>?_,I.free,I.freeC,fun p hp=>?_,tracked ⟨oc,hoc,I.freeC x c hc⟩ hs,by simpa using I.len⟩ ⟨c,hs,.inr hc⟩
  ·exact (hs.2 b (Nat.ne_of_lt (Nat.lt_of_lt_of_le (Heap.lt_size e) (I.ok.cab x c hfn hc)))).trans (I.base.keep b o e n hb hx)
  ·obtain ⟨sl,e1⟩:=I.base.slot b o e n hb hx
   exact ⟨sl,(hs.2 b (Nat.ne_of_lt (Nat.lt_of_lt_of_le (Heap.lt_size e) (I.ok.cab x c hfn hc)))).trans e1⟩
  ·obtain ⟨o',e1⟩:=I.base.there b o e hx
   exact ⟨o',(hs.2 b (Nat.ne_of_lt (Nat.lt_of_lt_of_le (Heap.lt_size e) (I.ok.cab x c hfn hc)))).trans e1⟩
  ·by_cases hj:j=i
   ·subst hj
    rw [hi] at e1;cases e1
    rw [List.getElem?_set_self hiσ] at e2
    cases e2
    exact ⟨u,r,.inr ⟨.inl hk,c,hc,hc'⟩⟩
   ·rw [List.getElem?_set_ne (Ne.symm hj)] at e2
    obtain ⟨u',r',q⟩:=hl j y v' e1 e2 e3
    refine ⟨u',r',?_⟩
    rcases q with q | ⟨k,c',e,z'⟩
    ·exact .inl q
    ·refine .inr ⟨k,c',e,z'.sameBut hs ?_⟩
     rintro rfl
     exact hj (nodup_ix hN e1 (I.ok.inj _ _ _ e hc ▸ hi))
  ·by_cases hcc:c'=c
   ·subst hcc;exact ⟨_,hc'⟩
   ·obtain ⟨w2,z2⟩:=I.cell y c' e
    exact ⟨w2,z2.sameBut hs hcc⟩
  ·obtain ⟨e,n,ne,nf,d⟩:=I.pin p hp
   refine ⟨(hs.2 p.1 ?_).trans e,n,ne,nf,d⟩
   intro q
   rw [q,hoc] at e
   have q':oc=p.2:=Option.some.inj e
   exact d w' (by rw [← q'];exact hocd)
theorem af1 {M:Model} {A:Around} {E:Value->Shared->Prop} {i:Nat} {x:Str} {v:V} {u:Value} {Q:Unit->Shared->Prop} (I:Inv X pins σ H s) (hN:X.N.Nodup) (hi:X.N[i]?=some x) (hx:Loc X.env.scope x) (r:RelV v u)
  (h:∀ s',Inv X pins (σ.set i (some v)) H s'->Q () s') (hf:X.fn x=true\/X.env.scope.names.lookup x=some .local:=by first | exact .inl rfl | exact .inr rfl | assumption):wpAny M A (storeName X.env x u) Q E s :=
 aih I hN hi hx r (fun s' I' _=>h s' I') hf
theorem Inv.call' {s':Shared} {ch:List Addr} (I:Inv X pins σ H s) (ho:s'.os=s.os) (u:Un (frs X.stack) ch H H' s.heap s'.heap) (hok:HOk X.prog X.w H' s'.heap) (hg:AllBare s'.gens)
  (hch:∀ b∈ch,(b∈X.ex\/X.s₀.heap.objs.size<=b)/\b ≠ X.env.locals/\(∀ x c,X.env.cells.lookup x=some c->c ≠ b)/\∀ p∈X.pn ++ pins,p.1 ≠ b):Inv X pins σ H' s':=by
 obtain ⟨h',g',d',t',o'⟩:=s'
 have e:o'=s.os:=ho
 subst e
 exact I.call (g':=g') (t':=t') (d':=d') u hok hg hch
end
noncomputable abbrev XK:=Value->Option Addr->Hp->Prop
noncomputable abbrev St:=List (Option V)
noncomputable abbrev VK:=V->Hp->Prop
noncomputable abbrev TE:=St->Hp->VK->Prop
noncomputable abbrev TT:=St->Hp->(Bool->Hp->Prop)->Prop
noncomputable abbrev TA:=St->Hp->(List V->Hp->Prop)->Prop
structure Ends where
 nx:St->Hp->Prop
 rt:VK
 bk:St->Hp->Prop:=fun _ _=>False
 ct:St->Hp->Prop:=fun _ _=>False
noncomputable abbrev TS:=Ends->St->Hp->Prop
def EP (X:Cx) (pins:List (Addr × Obj)) (σ:St) (Q:VK) (u:Value) (s':Shared):Prop:=∃ v H',Inv X pins σ H' s'/\RelV v u/\Q v H'
def TP (X:Cx) (pins:List (Addr × Obj)) (σ:St) (Q:Bool->Hp->Prop) (b:Bool) (s':Shared):Prop:=∃ H',Inv X pins σ H' s'/\Q b H'
def AP (X:Cx) (pins:List (Addr × Obj)) (σ:St) (Q:List V->Hp->Prop) (us:List Value) (s':Shared):Prop:=∃ vs H',Inv X pins σ H' s'/\Vals vs us/\Q vs H'
def SP (X:Cx) (pins:List (Addr × Obj)) (D:Ends) (f:Flow) (s':Shared):Prop :=
 match f with
 | .next=>∃ σ' H',Inv X pins σ' H' s'/\D.nx σ' H'
 | .brk=>∃ σ' H',Inv X pins σ' H' s'/\D.bk σ' H'
 | .cont=>∃ σ' H',Inv X pins σ' H' s'/\D.ct σ' H'
 | .ret u=>∃ v σ' H',Inv X pins σ' H' s'/\RelV v u/\D.rt v H'
def PE (X:Cx) (e:Expr) (t:TE):Prop :=
 ∀ (pins:List (Addr × Obj)) (s:Shared) (σ:St) (H:Hp) (Q:VK),Inv X pins σ H s->t σ H Q->wpAny (model X.prog X.w) X.A (eval e X.env) (EP X pins σ Q) X.xe s
def PT (X:Cx) (e:Expr) (t:TT):Prop :=
 ∀ (pins:List (Addr × Obj)) (s:Shared) (σ:St) (H:Hp) (Q:Bool->Hp->Prop),Inv X pins σ H s->t σ H Q->wpAny (model X.prog X.w) X.A (isTrue e X.env (eval e X.env)) (TP X pins σ Q) X.xe s
def PW (X:Cx) (e:Expr) (t:TT):Prop :=
 ∀ (whole:Sem Value) (pins:List (Addr × Obj)) (s:Shared) (σ:St) (H:Hp) (Q:Bool->Hp->Prop),Inv X pins σ H s->t σ H Q->wpAny (model X.prog X.w) X.A (isTrue e X.env whole) (TP X pins σ Q) X.xe s
theorem PW.pt {X:Cx} {e:Expr} {t:TT} (h:PW X e t):PT X e t:=h _
def PA (X:Cx) (es:List Expr) (t:TA):Prop :=
 ∀ (pos:Pos) (pins:List (Addr × Obj)) (s:Shared) (σ:St) (H:Hp) (Q:List V->Hp->Prop),Inv X pins σ H s->t σ H Q->wpAny (model X.prog X.w) X.A (spliced (backTo pos (starEach es X.env))) (AP X pins σ Q) X.xe s
def PS (X:Cx) (st:Stmt) (t:TS):Prop :=
 ∀ (pins:List (Addr × Obj)) (s:Shared) (σ:St) (H:Hp) (D:Ends),Inv X pins σ H s->t D σ H->wpAny (model X.prog X.w) X.A (exec st X.env) (SP X pins D) X.xe s
def PSs (X:Cx) (st:List Stmt) (t:TS):Prop :=
 ∀ (pins:List (Addr × Obj)) (s:Shared) (σ:St) (H:Hp) (D:Ends),Inv X pins σ H s->t D σ H->wpAny (model X.prog X.w) X.A (execs st X.env) (SP X pins D) X.xe s
theorem thn {α:Type} {t:Sem α} {Q Q' : α->Shared->Prop} {M:Model} {A:Around} {E:Value->Shared->Prop} {s:Shared} (h:wpAny M A t Q E s) (hQ:∀ a s,Q a s->Q' a s):wpAny M A t Q' E s:=wpAny_mono h hQ fun _ _ x=>x
end L2
namespace L2
open PySem PySem.Spec PyProof.Rows
section
variable {X:Cx}
def tVar (i:Nat):TE:=fun σ H Q=>∃ v,σ[i]?=some (some v)/\Q v H
def tC (v:V):TE:=fun _ H Q=>Q v H
theorem aw1 {i:Nat} {x:Str} {pos:Pos} (hN:X.N[i]?=some x) (hv:Vis X.env.scope x) (hd:(x == ("__debug__" : Str))=false:=by decide) (hcd:(x == ("__classdict__" : Str))=false:=by decide):PE X (.Name x pos) (tVar i):=by
 intro pins s σ H Q I h
 obtain ⟨v,e,h⟩:=h
 obtain ⟨m,hn,hl⟩:=I.loc
 obtain ⟨u,r,l⟩:=hl i x v hN e hv
 have fin:EP X pins σ Q u s:=⟨v,H,I,r,h⟩
 rcases l with ⟨hk,hm⟩ | ⟨hk,c,hc,hcell⟩
 ·exact wpAny_Name (wpAny_loadName_local I.ok.kind hk hn hm fin) hd
 ·rcases hk with hk | hk
  ·exact wpAny_Name (wpAny_loadName_cell I.ok.kind hk hc hcell fin) hd
  ·exact wpAny_Name (wpAny_loadName_free I.ok.kind hk hc hcell fin hcd) hd
theorem aae {i j pos}:PE X (.Constant (.int i) j pos) (tC (.int i)):=fun _ _ _ H _ I h=>wpAny_Constant_int ⟨.int i,H,I.tok _,⟨_,rfl⟩,h⟩
theorem agi {b j pos}:PE X (.Constant (.bool b) j pos) (tC (.bl b)):=fun _ _ _ H _ I h=>Constant_bool ⟨.bl b,H,I,rfl,h⟩
theorem acz {j pos}:PE X (.Constant .none j pos) (tC .non):=fun _ _ _ H _ I h=>Constant_none ⟨.non,H,I,rfl,h⟩
theorem abt {x j pos}:PE X (.Constant (.str x) j pos) (tC (.str x)):=fun _ _ _ H _ I h=>Calls.Constant_str ⟨.str x,H,I.tok _,⟨_,rfl⟩,h⟩
def Gl (X:Cx) (x:Str):Prop:=X.env.kindOf x=some .globalImplicit
theorem ae6 {E:Value->Shared->Prop} {pins:List (Addr × Obj)} {s:Shared} {σ:St} {H:Hp} {x:Str} {u:Value} {pos:Pos} {Q:Value->Shared->Prop} (I:Inv X pins σ H s) (hg:Gl X x) (hm:X.mg x=some u) (h:Q u s)
  (hd:(x == ("__debug__" : Str))=false:=by decide):wpAny (model X.prog X.w) X.A (eval (.Name x pos) X.env) Q E s :=
 Calls.Name_function_global I.ok.kind hg (Calls.loadGlobal_global (by rw [I.ok.glob];exact I.mod.glob.keeps I.bk) hm h) hd
theorem acb {E:Value->Shared->Prop} {pins:List (Addr × Obj)} {s:Shared} {σ:St} {H:Hp} {x:Str} {u:Value} {pos:Pos} {Q:Value->Shared->Prop} (I:Inv X pins σ H s) (hg:Gl X x) (hm:X.mg x=none) (hv:bootBuiltins x=some u) (h:Q u s)
  (hn:x ≠ "__name__":=by decide) (hd:(x == ("__debug__" : Str))=false:=by decide):wpAny (model X.prog X.w) X.A (eval (.Name x pos) X.env) Q E s:=by
 obtain ⟨mb,h1,h2⟩:=I.mod.blt
 exact Calls.Name_function_global I.ok.kind hg (Calls.loadGlobal_builtin (by rw [I.ok.glob];exact I.mod.glob.keeps I.bk) hm (by rw [I.ok.blt];exact h1.keeps I.bk) ((h2 x hn).trans hv) h) hd
theorem acj {x:Str} {v:V} {u:Value} {pos:Pos} (hg:Gl X x) (hm:X.mg x=some u) (r:RelV v u) (hd:(x == ("__debug__" : Str))=false:=by decide):PE X (.Name x pos) (tC v) :=
 fun _ _ _ H _ I h=>ae6 I hg hm ⟨v,H,I,r,h⟩ hd
theorem ahn {x:Str} {v:V} {u:Value} {pos:Pos} (hg:Gl X x) (hm:X.mg x=none) (hv:bootBuiltins x=some u) (r:RelV v u) (hn:x ≠ "__name__":=by decide) (hd:(x == ("__debug__" : Str))=false:=by decide):PE X (.Name x pos) (tC v) :=
 fun _ _ _ H _ I h=>acb I hg hm hv ⟨v,H,I,r,h⟩ hn hd
variable {a b:Expr} {ta tb:TE} {pos:Pos}
def tB (t:TE):TT:=fun σ H Q=>t σ H fun x H1=>∃ c,x=.bl c/\Q c H1
theorem agj {e:Expr} {t:TE} (h:PE X e t) (he:∀ whole,isTrue e X.env whole=(do let v ← whole;standAt e.pos;holding [v] (truthy v)):=by intro _;rfl):PT X e (tB t):=by
 intro pins s σ H Q I hw
 refine isTrue_plain (thn (h pins s σ H _ I hw) fun v s1 ⟨x,H1,I1,r1,q1⟩=>?_) (he _)
 obtain ⟨d,rfl,q⟩:=q1
 cases r1
 exact wpAny_truthy_bool ⟨H1,I1,q⟩
variable {tA tB':TT} {rest:List Expr}
def tAnd (t u:TT):TT:=fun σ H Q=>t σ H fun c H1=>if c=true then u σ H1 Q else Q false H1
def tOr (t u:TT):TT:=fun σ H Q=>t σ H fun c H1=>if c=true then Q true H1 else u σ H1 Q
def tNot (t:TT):TT:=fun σ H Q=>t σ H fun c H1=>Q (!c) H1
theorem aud (ha:PT X a tA):PW X (.BoolOp .And [a] pos) tA:=by
 intro wh pins s σ H Q I h
 refine isTrue_and (thn (ha pins s σ H Q I h) fun c s1 e=>?_)
 cases c with
 | true=>exact isTrue_and_nil e
 | false=>exact e
theorem agk (ha:PT X a tA):PW X (.BoolOp .Or [a] pos) tA:=by
 intro wh pins s σ H Q I h
 refine isTrue_or (thn (ha pins s σ H Q I h) fun c s1 e=>?_)
 cases c with
 | false=>exact isTrue_or_nil e
 | true=>exact e
theorem aw2 (ha:PT X a tA) (hb:PW X (.BoolOp .And (b :: rest) pos) tB'):PW X (.BoolOp .And (a :: b :: rest) pos) (tAnd tA tB'):=by
 intro wh pins s σ H Q I h
 refine isTrue_and (thn (ha pins s σ H _ I h) fun c s1 ⟨H1,I1,q1⟩=>?_)
 cases c with
 | true=>exact hb wh pins s1 σ H1 Q I1 q1
 | false=>exact ⟨H1,I1,q1⟩
theorem agl (ha:PT X a tA) (hb:PW X (.BoolOp .Or (b :: rest) pos) tB'):PW X (.BoolOp .Or (a :: b :: rest) pos) (tOr tA tB'):=by
 intro wh pins s σ H Q I h
 refine isTrue_or (thn (ha pins s σ H _ I h) fun c s1 ⟨H1,I1,q1⟩=>?_)
 cases c with
 | true=>exact ⟨H1,I1,q1⟩
 | false=>exact hb wh pins s1 σ H1 Q I1 q1
theorem agm (ha:PT X a tA):PT X (.UnaryOp .Not a pos) (tNot tA):=by
 intro pins s σ H Q I h
 exact isTrue_not (ha pins s σ H (fun c H1=>Q (!c) H1) I h)
def anz (ta tb:TE):TE:=fun σ H Q=>ta σ H fun x H1=>∃ c,x=.bl c/\if c=true then tb σ H1 Q else Q (.bl false) H1
def aoa (ta:TE):TE:=fun σ H Q=>ta σ H fun x H1=>∃ c,x=.bl c/\Q (.bl (!c)) H1
theorem aj1 {op} {t:TE} (h:PE X a t):PE X (.BoolOp op [a] pos) t:=fun pins s σ H Q I hw=>BoolOp_one (h pins s σ H Q I hw)
theorem aj2 (ha:PE X a ta) (hb:PE X (.BoolOp .And (b :: rest) pos) tb):PE X (.BoolOp .And (a :: b :: rest) pos) (anz ta tb):=by
 intro pins s σ H Q I h
 refine BoolOp_and (thn (ha pins s σ H _ I h) fun v s1 ⟨x,H1,I1,r1,q1⟩=>?_)
 obtain ⟨c,rfl,q1⟩:=q1
 cases r1
 refine wpAny_truthy_bool ?_
 cases c with
 | true=>exact hb pins s1 σ H1 Q I1 q1
 | false=>exact ⟨.bl false,H1,I1,rfl,q1⟩
theorem aw3 (ha:PE X a ta):PE X (.UnaryOp .Not a pos) (aoa ta):=by
 intro pins s σ H Q I h
 refine UnaryOp_ (thn (ha pins s σ H _ I h) fun v s1 ⟨x,H1,I1,r1,q1⟩=>?_)
 obtain ⟨c,rfl,q1⟩:=q1
 cases r1
 exact not_of (wpAny_truthy_bool ⟨.bl (!c),H1,I1,rfl,q1⟩)
end
end L2
namespace L2
open PySem PySem.Spec PyProof.Rows
def SqL (K:PySem.W.Frag) (H:Hp) (a:Addr) (xs:List V):Prop :=
 Rd H a (.lst xs) ∨
  ∃ (o:Obj) (its:Array Value) (n:Nat),K.lookup a=some o/\o.cls=.type "list"/\o.dict=none/\o.data=.seq its n/\its.size<=sizeLine/\Vals xs its.toList
def SqT (K:PySem.W.Frag) (H:Hp) (a:Addr) (xs:List V):Prop :=
 Rd H a (.tup xs) ∨
  ∃ (o:Obj) (its:Array Value) (n:Nat),K.lookup a=some o/\o.cls=.type "tuple"/\o.data=.seq its n/\its.size<=sizeLine/\Vals xs its.toList
noncomputable def absV:Value->Option V
 | .none=>some .non
 | .bool b=>some (.bl b)
 | .int i _=>some (.int i)
 | .str x _=>some (.str x)
 | .bytes b _=>some (.byt b)
 | .float b _=>some (.flt b)
 | .ref a=>some (.ref a)
 | .type n=>some (.ty n)
 | _=>none
theorem RelV.abs {x:V} {u:Value} (r:RelV x u):absV u=some x:=by
 cases x with
 | non=>cases r;rfl
 | bl _=>cases r;rfl
 | int _=>obtain ⟨t,rfl⟩:=r;rfl
 | str _=>obtain ⟨t,rfl⟩:=r;rfl
 | byt _=>obtain ⟨t,rfl⟩:=r;rfl
 | flt _=>obtain ⟨t,rfl⟩:=r;rfl
 | ref _=>cases r;rfl
 | ty _=>cases r;rfl
theorem RelV.inj {x y:V} {u:Value} (r:RelV x u) (q:RelV y u):x=y:=Option.some.inj (r.abs.symm.trans q.abs)
theorem Vals.inj:∀ {xs ys:List V} {us:List Value},Vals xs us->Vals ys us->xs=ys
 | _,_,_,.nil,.nil=>rfl
 | _,_,_,.cons r t,.cons r' t'=>by rw [r.inj r',Vals.inj t t']
section
variable {X:Cx} {pins:List (Addr × Obj)} {σ:St} {H:Hp} {s:Shared} {a:Addr} {xs ys:List V}
theorem SqL.of {K:PySem.W.Frag} (h:H a=some (.lst xs)):SqL K H a xs:=.inl (.inl h)
theorem SqT.of {K:PySem.W.Frag} (h:H a=some (.tup xs)):SqT K H a xs:=.inl (.inl h)
theorem Inv.list (I:Inv X pins σ H s) (h:SqL X.K H a xs):∃ its:List Value,Vals xs its/\PlainL s.heap a its.toArray/\xs.length<=sizeLine:=by
 rcases h with h | ⟨o,its,n,hk,hc,hd,hs,hz,r⟩
 ·obtain ⟨z,its,n,r,e⟩:=h.ok I.hok
  exact ⟨its,r,⟨_,n,e,rfl,rfl,rfl⟩,z⟩
 ·refine ⟨its.toList,r,⟨o,n,I.kIn a o hk,hc,hd,by simpa using hs⟩,?_⟩
  have e:=r.length
  simp only [Array.length_toList] at e
  row_cond lo
theorem Inv.tuple (I:Inv X pins σ H s) (h:SqT X.K H a xs):∃ its:List Value,Vals xs its/\IsTup s.heap a its.toArray/\xs.length<=sizeLine:=by
 rcases h with h | ⟨o,its,n,hk,hc,hs,hz,r⟩
 ·obtain ⟨z,its,r,p⟩:=h.ok I.hok
  exact ⟨its,r,p,z⟩
 ·refine ⟨its.toList,r,⟨o,I.kIn a o hk,hc,n,by simpa using hs⟩,?_⟩
  have e:=r.length
  simp only [Array.length_toList] at e
  row_cond lo
theorem Inv.list_inj (I:Inv X pins σ H s) (h:SqL X.K H a xs) (h':SqL X.K H a ys):xs=ys:=by
 obtain ⟨its,r,⟨o,n,e,_,_,d⟩,_⟩:=I.list h
 obtain ⟨its',r',⟨o',n',e',_,_,d'⟩,_⟩:=I.list h'
 rw [e] at e';cases e'
 rw [d] at d'
 injection d' with d1 _
 have:its=its':=by simpa using congrArg Array.toList d1
 subst this
 exact r.inj r'
end
noncomputable abbrev Cx.wish (X:Cx) (E:Value->Shared->Prop):Cx:={ X with xe:=E }
noncomputable abbrev Cx.nox (X:Cx):Cx:=X.wish fun _ _=>False
theorem Cx.Ok.wish {X:Cx} (ok:X.Ok) (E:Value->Shared->Prop):(X.wish E).Ok :=
 ⟨ok.mod,ok.kind,ok.glob,ok.blt,ok.above,ok.inj,ok.has,ok.cab,ok.hd,ok.frames,ok.stk,ok.exf,ok.bs,ok.bsz,ok.noex,ok.exfs,ok.funs,ok.frf⟩
theorem Cx.Ok.unwish {X:Cx} {E:Value->Shared->Prop} (ok:(X.wish E).Ok):X.Ok :=
 ⟨ok.mod,ok.kind,ok.glob,ok.blt,ok.above,ok.inj,ok.has,ok.cab,ok.hd,ok.frames,ok.stk,ok.exf,ok.bs,ok.bsz,ok.noex,ok.exfs,ok.funs,ok.frf⟩
section
variable {X:Cx} {pins:List (Addr × Obj)} {σ:St} {H:Hp} {s:Shared} {E:Value->Shared->Prop}
theorem Inv.wish (I:Inv X pins σ H s) (E:Value->Shared->Prop):Inv (X.wish E) pins σ H s:=⟨I.ok.wish E,I.os,I.bare,I.base,I.loc,I.cell,I.free,I.freeC,I.pin,I.hok,I.len⟩
theorem Inv.unwish (I:Inv (X.wish E) pins σ H s):Inv X pins σ H s:=⟨I.ok.unwish,I.os,I.bare,I.base,I.loc,I.cell,I.free,I.freeC,I.pin,I.hok,I.len⟩
theorem SP.unwish {D:Ends} {f:Flow} {s':Shared} (h:SP (X.wish E) pins D f s'):SP X pins D f s':=by
 cases f with
 | next=>obtain ⟨σ',H',I,q⟩:=h;exact ⟨σ',H',I.unwish,q⟩
 | brk=>obtain ⟨σ',H',I,q⟩:=h;exact ⟨σ',H',I.unwish,q⟩
 | cont=>obtain ⟨σ',H',I,q⟩:=h;exact ⟨σ',H',I.unwish,q⟩
 | ret u=>obtain ⟨v,σ',H',I,r,q⟩:=h;exact ⟨v,σ',H',I.unwish,r,q⟩
theorem PSs.nox {st:List Stmt} {t:TS} (h:PSs X.nox st t):PSs X st t:=fun pins s σ H D I hw =>
 wpAny_mono (h pins s σ H D (I.wish _) hw) (fun _ _ q=>q.unwish) fun _ _ z=>False.elim z
end
section
variable {X:Cx} {st:Stmt} {rest:List Stmt} {t u:TS} {e:Expr} {te:TE} {pos:Pos}
def ate:TS:=fun D σ H=>D.nx σ H
def tSeq (t u:TS):TS:=fun D σ H=>t { D with nx:=u D } σ H
theorem aa5:PSs X [] ate:=fun _ _ σ H _ I h=>wpAny_execs_nil ⟨σ,H,I,h⟩
theorem aac (h1:PS X st t) (h2:PSs X rest u):PSs X (st :: rest) (tSeq t u):=by
 intro pins s σ H D I h
 refine wpAny_execs_cons (thn (h1 pins s σ H { D with nx:=u D } I h) fun f s1 q=>?_)
 cases f with
 | next =>
  obtain ⟨σ',H',I',q⟩:=q
  exact h2 pins s1 σ' H' D I' q
 | ret v=>exact q
 | brk=>exact q
 | cont=>exact q
theorem aah (h1:PS X st t):PSs X [st] t:=by
 intro pins s σ H D I h
 refine wpAny_execs_cons (thn (h1 pins s σ H D I h) fun f s1 q=>?_)
 cases f with
 | next=>exact wpAny_execs_nil q
 | ret v=>exact q
 | brk=>exact q
 | cont=>exact q
theorem Inv.quiet {pins:List (Addr × Obj)} {σ:St} {H:Hp} {s:Shared} (I:Inv X pins σ H s):interactive X.env=false:=by simp [interactive,I.ok.kind]
def atf (te:TE):TS:=fun D σ H=>te σ H fun _ H1=>D.nx σ H1
theorem abe (he:PE X e te) (hs:swapsWith e none pos.line X.env=pure false:=by rfl):PS X (.Expr e pos) (atf te):=by
 intro pins s σ H D I h
 exact wpAny_Expr_any (thn (he pins s σ H _ I h) fun v s1 ⟨x,H1,I1,r1,q1⟩=>⟨σ,H1,I1,q1⟩) I.quiet hs
def tRet (te:TE):TS:=fun D σ H=>te σ H D.rt
theorem aas (he:PE X e te):PS X (.Return (some e) pos) (tRet te):=by
 intro pins s σ H D I h
 exact wpAny_Return_some (thn (he pins s σ H _ I h) fun v s1 ⟨x,H1,I1,r1,q1⟩=>⟨x,σ,H1,I1,r1,q1⟩)
def tIfS (c:TT) (t u:TS):TS:=fun D σ H=>c σ H fun b H1=>if b=true then t D σ H1 else u D σ H1
theorem abh {c:Expr} {a b:List Stmt} {tc:TT} (hc:PT X c tc) (ha:PSs X a t) (hb:PSs X b u):PS X (.If c a b pos) (tIfS tc t u):=by
 intro pins s σ H D I h
 refine wpAny_If (thn (hc pins s σ H _ I h) fun d s1 ⟨H1,I1,q1⟩=>?_)
 cases d with
 | true=>exact ha pins s1 σ H1 D I1 q1
 | false=>exact hb pins s1 σ H1 D I1 q1
def aw4:TS:=fun _ _ _=>False
theorem aj3:PS X st aw4:=fun _ _ _ _ _ _ h=>h.elim
end
noncomputable abbrev TG:=V->St->Hp->(St->Hp->Prop)->Prop
noncomputable abbrev TGs:=List V->St->Hp->(St->Hp->Prop)->Prop
def PG (X:Cx) (target:Expr) (t:TG):Prop :=
 ∀ (pins:List (Addr × Obj)) (s:Shared) (σ:St) (H:Hp) (v:V) (u:Value) (Q:St->Hp->Prop),Inv X pins σ H s->RelV v u->t v σ H Q ->
  wpAny (model X.prog X.w) X.A (assign target X.env u) (fun _ s'=>∃ σ' H',Inv X pins σ' H' s'/\Q σ' H') X.xe s
def PGs (X:Cx) (ts:List Expr) (t:TGs):Prop :=
 ∀ (pins:List (Addr × Obj)) (s:Shared) (σ:St) (H:Hp) (vs:List V) (us:List Value) (Q:St->Hp->Prop),Inv X pins σ H s->Vals vs us->t vs σ H Q ->
  wpAny (model X.prog X.w) X.A (assignInOrder ((assignEach ts X.env).map (·.2)) us) (fun _ s'=>∃ σ' H',Inv X pins σ' H' s'/\Q σ' H') X.xe s
noncomputable abbrev TSet:=V->V->V->Hp->(Hp->Prop)->Prop
def PSet (X:Cx) (t:TSet):Prop :=
 ∀ (pins:List (Addr × Obj)) (s:Shared) (σ:St) (H:Hp) (o i v:V) (ov iv u:Value) (Q:Hp->Prop),Inv X pins σ H s->RelV o ov->RelV i iv->RelV v u->t o i v H Q ->
  wpAny (model X.prog X.w) X.A (setItem ov iv u) (fun _ s'=>∃ H',Inv X pins σ H' s'/\Q H') X.xe s
section
variable {X:Cx} {pos:Pos}
def aa2 (i:Nat):TG:=fun v σ H Q=>Q (σ.set i (some v)) H
theorem aam {i:Nat} {x:Str} (hN:X.N.Nodup) (hi:X.N[i]?=some x) (hx:Loc X.env.scope x) (hf:X.fn x=true\/X.env.scope.names.lookup x=some .local:=by first | exact .inl rfl | exact .inr rfl | assumption):PG X (.Name x pos) (aa2 i):=by
 intro pins s σ H v u Q I r h
 exact wpAny_assign_Name (af1 I hN hi hx r (fun s' I'=>⟨_,H,I',h⟩) hf)
def gNil:TGs:=fun vs σ H Q=>vs=[]/\Q σ H
def aby (t:TG) (u:TGs):TGs:=fun vs σ H Q=>∃ v r,vs=v :: r/\t v σ H fun σ' H'=>u r σ' H' Q
theorem abw:PGs X [] gNil:=by
 intro pins s σ H vs us Q I r h
 obtain ⟨e,h⟩:=h
 subst e
 cases r
 exact assignInOrder_nil ⟨σ,H,I,h⟩
theorem aax {e:Expr} {es:List Expr} {t:TG} {u:TGs} (h1:PG X e t) (h2:PGs X es u)
  (hs:(assignEach (e :: es) X.env).map (·.2)=assign e X.env :: (assignEach es X.env).map (·.2):=by rfl):PGs X (e :: es) (aby t u):=by
 intro pins s σ H vs us Q I r h
 obtain ⟨v,vr,e1,h⟩:=h
 subst e1
 cases r with
 | cons r rr =>
  rw [hs]
  refine assignInOrder_cons (thn (h1 pins s σ H _ _ _ I r h) fun _ s1 ⟨σ1,H1,I1,q1⟩=>?_)
  exact h2 pins s1 σ1 H1 _ _ Q I1 rr q1
def gTup (K:PySem.W.Frag) (n:Nat) (t:TGs):TG:=fun v σ H Q=>∃ a xs,v=.ref a/\SqT K H a xs/\xs.length=n/\t xs σ H Q
theorem acd {es:List Expr} {k:Nat} {t:TGs} {n:Nat} (hc:X.calm=true) (h:PGs X es t)
  (hn:(assignEach es X.env).length=n:=by rfl) (hst:(assignEach es X.env).findIdx? (·.1)=none:=by rfl):PG X (.Tuple es k pos) (gTup X.K n t):=by
 intro pins s σ H v u Q I r hw
 obtain ⟨a,xs,e1,hq,hl,hw⟩:=hw
 subst e1
 cases r
 obtain ⟨its,rv,ht,hz⟩:=I.tuple hq
 refine assign_Tuple_tuple (I.ok.hd hc) ht (by simp [hn,← hl,rv.length]) hst fun h' hx=>?_
 have I1:Inv X pins σ H { s with heap:=h' }:=I.kept (t':=s.toks) fun b o e=>hx b o (Nat.ne_of_lt (Heap.lt_size e)) e
 exact h pins _ σ H xs _ Q I1 (by simpa using rv) hw
def gSub (to ti:TE) (t:TSet):TG:=fun v σ H Q=>to σ H fun o H1=>ti σ H1 fun i H2=>t o i v H2 fun H3=>Q σ H3
theorem agn {o i:Expr} {to ti:TE} {t:TSet} (ho:PE X o to) (hi:PE X i ti) (hs:PSet X t)
  (ha:∀ v,assign (.Subscript o i pos) X.env v=(do
   let ov ← holding [v] (eval o X.env)
   let iv ← holding [v,ov] (eval i X.env)
   standAt pos
   holding [v,ov,iv] (setItem ov iv v)
   release [v,ov,iv] []):=by intro _;rfl):PG X (.Subscript o i pos) (gSub to ti t):=by
 intro pins s σ H v u Q I r h
 rw [ha]
 refine wpAny_bind (wpAny_holding (thn (ho pins s σ H _ I h) fun ov s1 ⟨x,H1,I1,r1,q1⟩=>?_))
 refine wpAny_bind (wpAny_holding (thn (hi pins s1 σ H1 _ I1 q1) fun iv s2 ⟨y,H2,I2,r2,q2⟩=>?_))
 refine wpAny_bind (wpAny_standAt (wpAny_bind (wpAny_holding (thn (hs pins s2 σ H2 x y v ov iv u _ I2 r1 r2 r q2) fun _ s3 ⟨H3,I3,q3⟩=>?_))))
 exact wpAny_release ⟨σ,H3,I3,q3⟩
def tAsg (te:TE) (g:TG):TS:=fun D σ H=>te σ H fun x H1=>g x σ H1 D.nx
theorem acm {tg e:Expr} {te:TE} {g:TG} (he:PE X e te) (hg:PG X tg g) (hs:swapsWithSole [tg] e pos.line X.env=pure false:=by rfl) (hw:swappedStores [tg] e X.env=pure none:=by rfl)
  (h1:(assignEach [tg] X.env).map (·.2)=[assign tg X.env]:=by rfl):PS X (.Assign [tg] e pos) (tAsg te g):=by
 intro pins s σ H D I h
 refine wpAny_Assign_stores (thn (he pins s σ H _ I h) fun v s1 ⟨x,H1,I1,r1,q1⟩=>?_) hs hw
 rw [h1]
 exact thn (hg pins s1 σ H1 x v _ I1 r1 q1) fun _ s2 q=>q
theorem aak {i:Nat} {x:Str} {e:Expr} {te:TE} {pos':Pos} (hN:X.N.Nodup) (hi:X.N[i]?=some x) (hx:Loc X.env.scope x) (he:PE X e te) (hs:swapsWith e (some (.Name x pos')) pos.line X.env=pure false:=by rfl) (hf:X.fn x=true\/X.env.scope.names.lookup x=some .local:=by first | exact .inl rfl | exact .inr rfl | assumption) :
  PS X (.Assign [.Name x pos'] e pos) (tAsg te (aa2 i)):=by
 intro pins s σ H D I h
 refine wpAny_Assign_Name (thn (he pins s σ H _ I h) fun v s1 ⟨y,H1,I1,r1,q1⟩=>?_) hs
 exact af1 I1 hN hi hx r1 (fun s2 I2=>⟨_,H1,I2,q1⟩) hf
end
section
variable {X:Cx} {pos:Pos}
def apb (c:TT) (tb:TS):TS:=fun D σ H=>∃ W:Nat->St->Hp->Prop,(∃ m,W m σ H)/\∀ m σ H,W m σ H ->
 c σ H fun b H1=>if b=true then ∃ N:St->Hp->Prop,(∀ σ' H',N σ' H'->∃ m',m' < m/\W m' σ' H')/\tb { D with nx:=N,ct:=N,bk:=D.nx } σ H1 else D.nx σ H1
theorem aj4 {c:Expr} {body:List Stmt} {tc:TT} {tb:TS} (hp:PassesOwn (model X.prog X.w) X.A X.env X.xe) (hc:PT X c tc) (hb:PSs X body tb):PS X (.While c body [] pos) (apb tc tb):=by
 intro pins s σ H D I h
 obtain ⟨W,⟨m0,w0⟩,turn⟩:=h
 refine wpAny_While (codeAny_whileLoop (fun n s'=>∃ σ' H',Inv X pins σ' H' s'/\W n σ' H') ?_ m0 ⟨σ,H,I,w0⟩)
 rintro n s1 ⟨σ1,H1,I1,w1⟩
 refine wpAny_passesOwn hp (thn (hc pins s1 σ1 H1 _ I1 (turn n σ1 H1 w1)) fun b s2 ⟨H2,I2,q2⟩=>?_)
 cases b with
 | true =>
  obtain ⟨N,hN,q2⟩:=q2
  rw [if_pos rfl]
  refine wpAny_passesOwn hp (thn (hb pins s2 σ1 H2 _ I2 q2) fun f s3 q3=>?_)
  cases f with
  | next =>
   obtain ⟨σ3,H3,I3,n3⟩:=q3
   obtain ⟨m',hm,w3⟩:=hN σ3 H3 n3
   exact ⟨m',hm,σ3,H3,I3,w3⟩
  | cont =>
   obtain ⟨σ3,H3,I3,n3⟩:=q3
   obtain ⟨m',hm,w3⟩:=hN σ3 H3 n3
   exact ⟨m',hm,σ3,H3,I3,w3⟩
  | brk=>exact q3
  | ret v=>exact q3
 | false =>
  rw [if_neg Bool.false_ne_true]
  exact wpAny_execs_nil ⟨σ1,H2,I2,q2⟩
end
structure It where
 go:Nat->Hp->Prop
 yld:Nat->Hp->V->Hp->Prop
 stop:Nat->Hp->Prop
def FpOk (X:Cx) (pins:List (Addr × Obj)) (H:Hp) (b:Addr):Prop :=
 H b=none/\b ≠ X.env.locals/\b ∉ X.fs/\(b∈X.ex\/X.s₀.heap.objs.size<=b)/\(∀ x c,X.env.cells.lookup x=some c->c ≠ b)/\∀ p∈X.pn ++ pins,p.1 ≠ b
theorem Inv.fpOk {X:Cx} {pins:List (Addr × Obj)} {σ:St} {H H':Hp} {s:Shared} {b:Addr} (I:Inv X pins σ H s) (hb:s.heap.objs.size<=b) (hn:H' b=none):FpOk X pins H' b:=by
 refine ⟨hn,Nat.ne_of_gt (Nat.lt_of_lt_of_le I.lt hb),I.nofs hb,.inr (Nat.le_trans I.sz hb),fun x c e z=>?_,fun p hp z=>?_⟩
 ·obtain ⟨v,q⟩:=I.cell x c e
  exact absurd (Nat.lt_of_lt_of_le q.lt (by rw [z];exact hb)) (Nat.lt_irrefl _)
 ·exact absurd (Nat.lt_of_lt_of_le (Heap.lt_size (I.pin p hp).1) (by rw [z];exact hb)) (Nat.lt_irrefl _)
structure Turn (P:Program) (w:World) (K:PySem.W.Frag) (tg:Expr) (J:It) (fp:List Addr) (it:Addr) (tn:Nat->Heap->Prop):Prop where
 mem:it∈fp
 obj:∀ i h,tn i h->∀ b∈fp,∃ o,h.get? b=some o/\∀ v,o.data ≠ .cell v
 keep:∀ i h h',tn i h->(∀ b∈fp,∀ o,h.get? b=some o->h'.get? b=some o)->tn i h'
 item:∀ (X:Cx),X.prog=P->X.w=w->X.K=K->X.calm=true->∀ (i:Nat) (pins:List (Addr × Obj)) (s:Shared) (σ:St) (H:Hp) (E:Value->Shared->Prop),Inv X pins σ H s->(∀ b∈fp,FpOk X pins H b)->tn i s.heap->J.go i H ->
  wpAny (model P w) X.A (pyNext (.ref it)) (fun r s1=>∃ u,r=some u /\
   wpAny (model P w) X.A (letOwnedTupleGo tg (.ref it) u) (fun _ s2=>∃ x H',Inv X pins σ H' s2/\RelV x u/\J.yld i H x H'/\tn (i+1) s2.heap/\∀ b∈fp,H' b=none) E s1) E s
 done:∀ (X:Cx),X.prog=P->X.w=w->X.K=K->X.calm=true->∀ (i:Nat) (pins:List (Addr × Obj)) (s:Shared) (σ:St) (H:Hp) (E:Value->Shared->Prop),Inv X pins σ H s->(∀ b∈fp,FpOk X pins H b)->tn i s.heap->J.stop i H ->
  wpAny (model P w) X.A (pyNext (.ref it)) (fun r s1=>r=none/\Inv X pins σ H s1) E s
 self:∀ (A:Around) (i:Nat) (s:Shared) (Q:Value->Shared->Prop) (E:Value->Shared->Prop),tn i s.heap->Q (.ref it) s->wpAny (model P w) A (pyIter (.ref it)) Q E s
noncomputable abbrev TI:=St->Hp->(It->Hp->Prop)->Prop
def PIE (X:Cx) (pins:List (Addr × Obj)) (σ:St) (tg:Expr) (R:It->Hp->Prop) (itv:Value) (s2:Shared):Prop :=
 ∃ (it:Addr) (fp:List Addr) (tn:Nat->Heap->Prop) (J:It) (H':Hp),itv=.ref it/\Inv X pins σ H' s2/\Turn X.prog X.w X.K tg J fp it tn/\tn 0 s2.heap/\(∀ b∈fp,FpOk X pins H' b)/\R J H'
def PI (X:Cx) (tg iter:Expr) (wi:TI):Prop :=
 ∀ (pins:List (Addr × Obj)) (s:Shared) (σ:St) (H:Hp) (R:It->Hp->Prop),Inv X pins σ H s->wi σ H R ->
  wpAny (model X.prog X.w) X.A (eval iter X.env) (fun v s1=>wpAny (model X.prog X.w) X.A (pyIter v) (PIE X pins σ tg R) X.xe s1) X.xe s
theorem atg {M:Model} {A:Around} {E:Value->Shared->Prop} {s:Shared} {tg:Expr} {it:Addr} {u:Value} {o:Obj} {n:String} {vs:Array Value} {Q:Unit->Shared->Prop} (ho:s.heap.get? it=some o) (hc:o.cls=.type n) (hd:o.data=.fields vs)
  (hn:["enumerate","zip","dict_itemiterator","dict_reverseitemiterator","odict_iterator","itertools.zip_longest","itertools.pairwise"].contains n=false) (hQ:Q () s):wpAny M A (letOwnedTupleGo tg (.ref it) u) Q E s:=by
 unfold letOwnedTupleGo
 cases tg <;> first
  | exact wpAny_pure hQ
  | (cases u <;> first
    | exact wpAny_pure hQ
    | (refine wpAny_bind (wpAny_load ho ?_)
       rw [hc,hd]
       show wpAny M A (if (["enumerate","zip","dict_itemiterator","dict_reverseitemiterator","odict_iterator","itertools.zip_longest","itertools.pairwise"].contains n && vs[0]? == some (rawInt _))=true then _ else _) Q E s
       rw [if_neg (by intro h;rw [hn,Bool.false_and] at h;cases h)]
       exact wpAny_pure hQ))
noncomputable def Itl (K:PySem.W.Frag) (a:Addr):It :=
 ⟨fun i H=>∃ xs x,SqL K H a xs/\xs[i]?=some x,fun i H x H'=>H'=H/\∀ xs,SqL K H a xs->xs[i]?=some x,fun i H=>∃ xs,SqL K H a xs/\xs.length<=i⟩
noncomputable def Itr (lo:Int) (n:Nat):It:=⟨fun i _=>i < n,fun i H x H'=>H'=H/\x=.int (lo+i),fun i _=>n<=i⟩
theorem apc {P:Program} {w:World} {K:PySem.W.Frag} {tg:Expr} (a it:Addr):Turn P w K tg (Itl K a) [it] it (fun i h=>h.IsListIter it a i) where
 mem:=by simp
 obj:=fun i h st b hb=>by
  have e:b=it:=by simpa using hb
  subst e
  obtain ⟨o,e,c,d⟩:=st
  exact ⟨o,e,fun v z=>by rw [d] at z;cases z⟩
 keep:=fun i h h' st k=>st.at fun o e=>k it (by simp) o e
 item:=by
  intro X hP hw hK hc i pins s σ H E I hf st hg
  subst hP hw hK
  obtain ⟨xs,x,hq,hx⟩:=hg
  obtain ⟨its,rv,p,hz⟩:=I.list hq
  obtain ⟨u,hu,ru⟩:=rv.get hx
  obtain ⟨f0,f1,f2,f3,f4,f5⟩:=hf it (by simp)
  refine wpAny_pyNext_list_item st p.isList (x:=u) (by simpa using hu) fun h' st' sb=>?_
  have I1:Inv X pins σ H { s with heap:=h' }:=I.turned (t':=s.toks) (fun b o hb e=>(sb.2 b hb).trans e) f0 f1 f3 f4 f5
  obtain ⟨o,e,c,d⟩:=id st'
  exact ⟨u,rfl,atg (s:={ s with heap:=h' }) e c d (by decide) ⟨x,H,I1,ru,⟨rfl,fun ys hy=>by rw [I.list_inj hy hq];exact hx⟩,st',fun b hb=>(hf b hb).1⟩⟩
 done:=by
  intro X hP hw hK hc i pins s σ H E I hf st hg
  subst hP hw hK
  obtain ⟨xs,hq,hx⟩:=hg
  obtain ⟨its,rv,p,hz⟩:=I.list hq
  obtain ⟨f0,f1,f2,f3,f4,f5⟩:=hf it (by simp)
  have hl:=rv.length
  exact wpAny_pyNext_list_end (I.ok.hd hc) st p.isList (by simp;row_cond lo) fun h' eb=>⟨rfl,I.turned (t':=s.toks) (fun b o hb e=>eb b o hb e) f0 f1 f3 f4 f5⟩
 self:=fun _ _ _ _ _ st h=>wpAny_pyIter_listiter st h
theorem aob {P:Program} {w:World} {K:PySem.W.Frag} {tg:Expr} (it:Addr) (lo:Int) (n:Nat):Turn P w K tg (Itr lo n) [it] it (fun i h=>IsRangeIter h it (lo+(i:Nat) * 1) ((n:Int) - (i:Nat)) 1) where
 mem:=by simp
 obj:=fun i h st b hb=>by
  have e:b=it:=by simpa using hb
  subst e
  exact ⟨_,st,fun v z=>by
   have z':Data.fields _=Data.cell v:=z
   cases z'⟩
 keep:=fun i h h' st k=>k it (by simp) _ st
 item:=by
  intro X hP hw hK hc i pins s σ H E I hf st hg
  subst hP hw hK
  obtain ⟨f0,f1,f2,f3,f4,f5⟩:=hf it (by simp)
  have W:=Walks.range (prog:=X.prog) (w:=X.w) (I.ok.hd hc) it lo 1 n
  refine W.item i s _ _ hg st fun v h' tk hv st' kk=>?_
  obtain ⟨t,rfl⟩:=hv
  have I1:Inv X pins σ H { s with heap:=h',toks:=tk }:=I.turned (fun b o hb e=>kk b o (by simpa using hb) e) f0 f1 f3 f4 f5
  refine ⟨_,rfl,atg (s:={ s with heap:=h',toks:=tk }) (n:="range_iterator") st' rfl rfl (by decide) ⟨.int (lo+i),H,I1,⟨t,?_⟩,⟨rfl,rfl⟩,st',fun b hb=>(hf b hb).1⟩⟩
  rw [Int.mul_one]
 done:=by
  intro X hP hw hK hc i pins s σ H E I hf st hg
  subst hP hw hK
  obtain ⟨f0,f1,f2,f3,f4,f5⟩:=hf it (by simp)
  exact wpAny_pyNext_range_end (I.ok.hd hc) st (by have:n<=i:=hg;row_cond lo) fun h' eb=>⟨rfl,I.turned (t':=s.toks) (fun b o hb e=>eb b o hb e) f0 f1 f3 f4 f5⟩
 self:=fun _ _ _ _ _ st h=>wpAny_pyIter_rangeiter st h
end L2
namespace L2
open PySem PySem.Spec PyProof.Rows
section
variable {X:Cx} {tg:Expr}
def ath (K:PySem.W.Frag) (tl:TE):TI:=fun σ H R=>tl σ H fun x H1=>∃ a,x=.ref a/\(∃ xs,SqL K H1 a xs)/\R (Itl K a) H1
theorem ab4 {l:Expr} {tl:TE} (hl:PE X l tl):PI X tg l (ath X.K tl):=by
 intro pins s σ H R I h
 refine thn (hl pins s σ H _ I h) fun v s1 ⟨x,H1,I1,r1,q1⟩=>?_
 obtain ⟨a,e,⟨xs,hq⟩,q⟩:=q1
 subst e
 cases r1
 obtain ⟨its,rv,p,hz⟩:=I1.list hq
 refine wpAny_pyIter_list p.isList ?_
 refine ⟨s1.heap.objs.size,[s1.heap.objs.size],_,_,H1,rfl,I1.kept (t':=s1.toks) fun b o e=>Heap.get?_push_of_some _ e,apc a _,⟨_,Heap.get?_push_size _ rfl,rfl,rfl⟩,fun b hb=>?_,q⟩
 have e:b=s1.heap.objs.size:=by simpa using hb
 subst e
 exact I1.fpOk (Nat.le_refl _) (I1.hok.fresh (Nat.le_refl _))
theorem aj5 {pins:List (Addr × Obj)} {σ:St} {H:Hp} {s:Shared} {R:It->Hp->Prop} {E:Value->Shared->Prop} {lo hi:Int} {t u v:Tok} {tk:Nat} (I:Inv X pins σ H s) (h1 : -(2 ^ 62)<=lo) (h2:lo < 2 ^ 62) (h3 : -(2 ^ 62)<=hi) (h4:hi < 2 ^ 62)
  (q:R (Itr lo (hi - lo).toNat) H):wpAny (model X.prog X.w) X.A (pyIter (.ref s.heap.objs.size)) (PIE X pins σ tg R) E { s with heap:=s.heap.push { cls:=.type "range",data:=.fields #[.int lo t,.int hi u,.int 1 v] },toks:=tk }:=by
 refine wpAny_pyIter_range (IsRange.new ..) (small_one h1 h2 h3 h4) ?_
 have I1:Inv X pins σ H { s with heap:=s.heap.push { cls:=.type "range",data:=.fields #[.int lo t,.int hi u,.int 1 v] },toks:=tk }:=I.kept fun b o e=>Heap.get?_push_of_some _ e
 refine ⟨(s.heap.push { cls:=.type "range",data:=.fields #[.int lo t,.int hi u,.int 1 v] }).objs.size,[(s.heap.push { cls:=.type "range",data:=.fields #[.int lo t,.int hi u,.int 1 v] }).objs.size],_,_,H,rfl,
  I1.kept (t':=tk) fun b o e=>Heap.get?_push_of_some _ e,aob _ lo (hi - lo).toNat,?_,fun b hb=>?_,q⟩
 ·have e1:lo+((0:Nat):Int) * 1=lo:=by simp
  have e2:(((hi - lo).toNat:Nat):Int) - ((0:Nat):Int)=Builtin.Range.rangeSize lo hi 1:=by rw [rangeSize_one];split <;> row_cond lo
  show IsRangeIter _ _ (lo+((0:Nat):Int) * 1) ((((hi - lo).toNat:Nat):Int) - ((0:Nat):Int)) 1
  rw [e1,e2]
  exact Heap.get?_push_size _ rfl
 ·have e:b=(s.heap.push { cls:=.type "range",data:=.fields #[.int lo t,.int hi u,.int 1 v] }).objs.size:=by simpa using hb
  subst e
  exact I1.fpOk (Nat.le_refl _) (I1.hok.fresh (Nat.le_refl _))
def ati (ta:TA):TI:=fun σ H R=>ta σ H fun vs H1=>∃ j:Int,vs=[.int j]/\-(2 ^ 62)<=j/\j < 2 ^ 62/\R (Itr 0 j.toNat) H1
def atj (ta:TA):TI:=fun σ H R=>ta σ H fun vs H1=>∃ i j:Int,vs=[.int i,.int j]/\(-(2 ^ 62)<=i/\i < 2 ^ 62/\-(2 ^ 62)<=j/\j < 2 ^ 62)/\R (Itr i (j - i).toNat) H1
theorem ack {a:Expr} {ta:TA} {p pos:Pos} (hg:Gl X "range") (hm:X.mg "range" = none) (ha:PA X [a] ta) (hs:starEach [a] X.env=[(false,eval a X.env)]:=by rfl):PI X tg (.Call (.Name "range" p) [a] [] pos) (ati ta):=by
 intro pins s σ H R I h
 refine Call_ (acb I hg hm boot_range (PyProof.Rows.callWith_type1 (thn (ha pos pins s σ H _ I h) fun us s1 ⟨vs,H1,I1,r1,q1⟩=>?_) hs rfl))
 obtain ⟨j,e,q1,q2,q⟩:=q1
 subst e
 cases r1 with
 | cons r rr =>
  cases rr
  obtain ⟨t,rfl⟩:=r
  exact call_range_1 (aj5 I1 (by row_cond lo) (by row_cond lo) q1 q2 (by simpa using q))
theorem aii {a b:Expr} {ta:TA} {p pos:Pos} (hg:Gl X "range") (hm:X.mg "range" = none) (ha:PA X [a,b] ta) (hs:starEach [a,b] X.env=[(false,eval a X.env),(false,eval b X.env)]:=by rfl) (hs2:starEach [b] X.env=[(false,eval b X.env)]:=by rfl) :
  PI X tg (.Call (.Name "range" p) [a,b] [] pos) (atj ta):=by
 intro pins s σ H R I h
 refine Call_ (acb I hg hm boot_range (PyProof.Rows.callWith_type1 (thn (ha pos pins s σ H _ I h) fun us s1 ⟨vs,H1,I1,r1,q1⟩=>?_) (by rw [hs,hs2]) (by rw [hs2];rfl)))
 obtain ⟨i,j,e,⟨q1,q2,q3,q4⟩,q⟩:=q1
 subst e
 cases r1 with
 | cons r rr =>
  cases rr with
  | cons r' rr =>
   cases rr
   obtain ⟨t,rfl⟩:=r
   obtain ⟨t',rfl⟩:=r'
   exact call_range_2 (aj5 I1 q1 q2 q3 q4 q)
def tFor (wi:TI) (g:TG) (tb:TS):TS:=fun D σ H=>wi σ H fun J H1=>∃ W:Nat->Nat->St->Hp->Prop,(∃ m,W 0 m σ H1)/\∀ i m σ H,W i m σ H ->
 (J.stop i H/\D.nx σ H)\/(J.go i H/\∃ N:St->Hp->Prop,(∀ σ' H',N σ' H'->∃ m',m' < m/\W (i+1) m' σ' H')/\∀ x H',J.yld i H x H'->g x σ H' fun σ2 H2=>tb { D with nx:=N,ct:=N,bk:=D.nx } σ2 H2)
noncomputable def adl (fp:List Addr) (h:Heap):List (Addr × Obj):=fp.filterMap fun b=>(h.get? b).map fun o=>(b,o)
theorem abi {fp:List Addr} {h:Heap} {b:Addr} {o:Obj} (hb:b∈fp) (e:h.get? b=some o):(b,o)∈adl fp h:=List.mem_filterMap.mpr ⟨b,hb,by rw [e];rfl⟩
theorem apd {fp:List Addr} {h:Heap} {p:Addr × Obj} (hp:p∈adl fp h):p.1∈fp/\h.get? p.1=some p.2:=by
 obtain ⟨b,hb,e⟩:=List.mem_filterMap.mp hp
 cases q:h.get? b with
 | none=>rw [q] at e;cases e
 | some o =>
  rw [q] at e
  have e':(b,o)=p:=Option.some.inj e
  subst e'
  exact ⟨hb,q⟩
theorem Inv.pinned {pins:List (Addr × Obj)} {σ:St} {H:Hp} {s:Shared} {fp:List Addr} (I:Inv X pins σ H s) (hf:∀ b∈fp,FpOk X pins H b) (ho:∀ b∈fp,∃ o,s.heap.get? b=some o/\∀ v,o.data ≠ .cell v):Inv X (pins ++ adl fp s.heap) σ H s :=
 I.pins_of fun p hp=>(List.mem_append.mp hp).elim (fun z=>I.pin p (List.mem_append_right _ z)) fun z=>by
  obtain ⟨hb,e⟩:=apd z
  obtain ⟨f0,f1,f2,_⟩:=hf p.1 hb
  obtain ⟨o,e',d⟩:=ho p.1 hb
  rw [e] at e';cases e'
  exact ⟨e,f0,f1,f2,d⟩
theorem Inv.unpinned {pins pl:List (Addr × Obj)} {σ:St} {H:Hp} {s:Shared} (I:Inv X (pins ++ pl) σ H s):Inv X pins σ H s:=I.pins_of fun p hp=>I.pin p (List.mem_append_right _ (List.mem_append_left _ hp))
theorem ac0 {iter:Expr} {body:List Stmt} {wi:TI} {g:TG} {tb:TS} {pos:Pos} (hp:PassesOwn (model X.prog X.w) X.A X.env X.xe) (hc:X.calm=true) (hi:PI X tg iter wi) (hg:PG X tg g) (hb:PSs X body tb)
  (hs:∀ x,foldedSetIterable iter X.env x=pure x:=by intro _;rfl):PS X (.For tg iter body [] pos) (tFor wi g tb):=by
 intro pins s σ H D I h
 refine wpAny_For (thn (hi pins s σ H _ I h) fun v s1 h1=>thn h1 fun itv s2 h2=>?_) hs
 obtain ⟨it,fp,tn,J,H2,e,I2,T,st2,f2,W,⟨m0,w0⟩,turn⟩:=h2
 subst e
 -- what stays true of the iterator's objects through the loop
 have stat:∀ {H':Hp},(∀ b∈fp,H' b=none)->∀ b∈fp,FpOk X pins H' b:=fun hn b hb=>⟨hn b hb,(f2 b hb).2⟩
 refine codeAny_forLoop_any (fun n s'=>∃ i σ' H',Inv X pins σ' H' s'/\tn i s'.heap/\(∀ b∈fp,H' b=none)/\W i n σ' H') ?_ m0 ⟨0,σ,H2,I2,st2,fun b hb=>(f2 b hb).1,w0⟩
 rintro n s3 ⟨i,σ3,H3,I3,st3,fr3,w3⟩
 rcases turn i n σ3 H3 w3 with ⟨stop,qn⟩ | ⟨go,N,hN,step⟩
 ·refine wpAny_passesOwn hp (thn (T.done X rfl rfl rfl hc i pins s3 σ3 H3 X.xe I3 (stat fr3) st3 stop) fun r s4 ⟨hr,I4⟩=>?_)
  subst hr
  exact wpAny_execs_nil ⟨σ3,H3,I4,qn⟩
 ·refine wpAny_passesOwn hp (thn (T.item X rfl rfl rfl hc i pins s3 σ3 H3 X.xe I3 (stat fr3) st3 go) fun r s4 ⟨u,hr,h4⟩=>?_)
  subst hr
  refine wpAny_passesOwn hp (thn h4 fun _ s5 ⟨x,H5,I5,r5,y5,st5,fr5⟩=>?_)
  have I5':=I5.pinned (stat fr5) (T.obj _ _ st5)
  refine wpAny_passesOwn hp (thn (hg _ s5 σ3 H5 x u _ I5' r5 (step x H5 y5)) fun _ s6 ⟨σ6,H6,I6,q6⟩=>?_)
  refine wpAny_passesOwn hp (thn (hb _ s6 σ6 H6 _ I6 q6) fun f s7 q7=>?_)
  have again:∀ {σ7:St} {H7:Hp},Inv X (pins ++ adl fp s5.heap) σ7 H7 s7->N σ7 H7->∃ m,m < n/\∃ i σ' H',Inv X pins σ' H' s7/\tn i s7.heap/\(∀ b∈fp,H' b=none)/\W i m σ' H':=fun {σ7 H7} I7 n7=>by
   obtain ⟨m',hm,w7⟩:=hN σ7 H7 n7
   refine ⟨m',hm,i+1,σ7,H7,I7.unpinned,T.keep _ _ _ st5 fun b hb o e=>(I7.pin (b,o) (List.mem_append_right _ (List.mem_append_right _ (abi hb e)))).1,fun b hb=>?_,w7⟩
   obtain ⟨o,e,d⟩:=T.obj _ _ st5 b hb
   exact (I7.pin (b,o) (List.mem_append_right _ (List.mem_append_right _ (abi hb e)))).2.1
  cases f with
  | next=>obtain ⟨σ7,H7,I7,n7⟩:=q7;exact again I7 n7
  | cont=>obtain ⟨σ7,H7,I7,n7⟩:=q7;exact again I7 n7
  | brk=>obtain ⟨σ7,H7,I7,q7⟩:=q7;exact ⟨σ7,H7,I7.unpinned,q7⟩
  | ret v=>obtain ⟨x7,σ7,H7,I7,r7,q7⟩:=q7;exact ⟨x7,σ7,H7,I7.unpinned,r7,q7⟩
end
end L2
namespace L2
open PySem PySem.Spec PyProof.Rows
noncomputable abbrev R2:=V->V->Hp->VK->Prop
def OpR (X:Cx) (f:Value->Value->Sem Value) (r:R2):Prop :=
 ∀ (pins:List (Addr × Obj)) (s:Shared) (σ:St) (H:Hp) (x y:V) (v u:Value) (Q:VK),Inv X pins σ H s->RelV x v->RelV y u->r x y H Q ->
  wpAny (model X.prog X.w) X.A (f v u) (EP X pins σ Q) X.xe s
def UnR (X:Cx) (f:Value->Sem Value) (r:V->Hp->VK->Prop):Prop :=
 ∀ (pins:List (Addr × Obj)) (s:Shared) (σ:St) (H:Hp) (x:V) (v:Value) (Q:VK),Inv X pins σ H s->RelV x v->r x H Q ->
  wpAny (model X.prog X.w) X.A (f v) (EP X pins σ Q) X.xe s
def aa9 (X:Cx) (f:Value) (r:List V->Hp->VK->Prop):Prop :=
 ∀ (pins:List (Addr × Obj)) (s:Shared) (σ:St) (H:Hp) (xs:List V) (us:List Value) (Q:VK),Inv X pins σ H s->Vals xs us->r xs H Q ->
  wpAny (model X.prog X.w) X.A (call f us) (EP X pins σ Q) X.xe s
def TruR (X:Cx) (r:V->Hp->(Bool->Hp->Prop)->Prop):Prop :=
 ∀ (pins:List (Addr × Obj)) (s:Shared) (σ:St) (H:Hp) (x:V) (v:Value) (Q:Bool->Hp->Prop),Inv X pins σ H s->RelV x v->r x H Q ->
  wpAny (model X.prog X.w) X.A (truthy v) (TP X pins σ Q) X.xe s
def tOp (r:R2) (ta tb:TE):TE:=fun σ H Q=>ta σ H fun x H1=>tb σ H1 fun y H2=>r x y H2 Q
def tUn (r:V->Hp->VK->Prop) (ta:TE):TE:=fun σ H Q=>ta σ H fun x H1=>r x H1 Q
def rI (C:Int->Int->Prop) (g:Int->Int->V):R2:=fun x y H Q=>∃ i j,x=.int i/\y=.int j/\C i j/\Q (g i j) H
def rI0 (g:Int->Int->V):R2:=fun x y H Q=>∃ i j,x=.int i/\y=.int j/\Q (g i j) H
def rU (g:Int->V):V->Hp->VK->Prop:=fun x H Q=>∃ i,x=.int i/\Q (g i) H
section
variable {X:Cx} {a b c:Expr} {ta tb tc:TE} {pos:Pos}
theorem binT (ha:PE X a ta) (hb:PE X b tb) {pins:List (Addr × Obj)} {s:Shared} {σ:St} {H:Hp} {R:V->V->Hp->Prop} (I:Inv X pins σ H s)
  (h:ta σ H fun x H1=>tb σ H1 fun y H2=>R x y H2) {Q:Value->Shared->Prop} {f:Value->Value->Sem Value}
  (hf:∀ v u s2 x y H2,Inv X pins σ H2 s2->RelV x v->RelV y u->R x y H2->wpAny (model X.prog X.w) X.A (f v u) Q X.xe s2) :
  wpAny (model X.prog X.w) X.A (eval a X.env) (fun v s₁=>wpAny (model X.prog X.w) X.A (eval b X.env) (fun u s₂=>wpAny (model X.prog X.w) X.A (f v u) Q X.xe s₂) X.xe s₁) X.xe s:=by
 refine thn (ha pins s σ H _ I h) fun v s1 ⟨x,H1,I1,r1,q1⟩=>?_
 refine thn (hb pins s1 σ H1 _ I1 q1) fun u s2 ⟨y,H2,I2,r2,q2⟩=>?_
 exact hf v u s2 x y H2 I2 r1 r2 q2
theorem aar {op:Operator} {r:R2} (ho:OpR X (binaryOp op) r) (ha:PE X a ta) (hb:PE X b tb):PE X (.BinOp a op b pos) (tOp r ta tb):=by
 intro pins s σ H Q I h
 exact wpAny_BinOp (binT ha hb I h fun v u s2 x y H2 I2 rx ry q=>ho pins s2 σ H2 x y v u Q I2 rx ry q)
theorem atk {op:UnaryOp} {r:V->Hp->VK->Prop} (ho:UnR X (unaryOp op) r) (ha:PE X a ta):PE X (.UnaryOp op a pos) (tUn r ta):=by
 intro pins s σ H Q I h
 exact UnaryOp_ (thn (ha pins s σ H _ I h) fun v s1 ⟨x,H1,I1,r1,q1⟩=>ho pins s1 σ H1 x v Q I1 r1 q1)
theorem opI {f:Value->Value->Sem Value} {C:Int->Int->Prop} {g:Int->Int->Int}
  (rule:∀ (i j:Int) (t u:Tok) (s:Shared) (Q:Value->Shared->Prop) (E:Value->Shared->Prop),C i j->Q (.int (g i j) s.toks) { s with toks:=s.toks+1 }->wpAny (model X.prog X.w) X.A (f (.int i t) (.int j u)) Q E s) :
  OpR X f (rI C fun i j => .int (g i j)):=by
 intro pins s σ H x y v u Q I rx ry h
 obtain ⟨i,j,rfl,rfl,hc,q⟩:=h
 obtain ⟨t,rfl⟩:=rx
 obtain ⟨t',rfl⟩:=ry
 exact rule i j t t' s _ _ hc ⟨.int (g i j),H,I.tok _,⟨_,rfl⟩,q⟩
theorem opI0 {f:Value->Value->Sem Value} {g:Int->Int->Int}
  (rule:∀ (i j:Int) (t u:Tok) (s:Shared) (Q:Value->Shared->Prop) (E:Value->Shared->Prop),Q (.int (g i j) s.toks) { s with toks:=s.toks+1 }->wpAny (model X.prog X.w) X.A (f (.int i t) (.int j u)) Q E s) :
  OpR X f (rI0 fun i j => .int (g i j)):=by
 intro pins s σ H x y v u Q I rx ry h
 obtain ⟨i,j,rfl,rfl,q⟩:=h
 obtain ⟨t,rfl⟩:=rx
 obtain ⟨t',rfl⟩:=ry
 exact rule i j t t' s _ _ ⟨.int (g i j),H,I.tok _,⟨_,rfl⟩,q⟩
theorem opB0 {f:Value->Value->Sem Value} {g:Int->Int->Bool}
  (rule:∀ (i j:Int) (t u:Tok) (s:Shared) (Q:Value->Shared->Prop) (E:Value->Shared->Prop),Q (.bool (g i j)) s->wpAny (model X.prog X.w) X.A (f (.int i t) (.int j u)) Q E s) :
  OpR X f (rI0 fun i j => .bl (g i j)):=by
 intro pins s σ H x y v u Q I rx ry h
 obtain ⟨i,j,rfl,rfl,q⟩:=h
 obtain ⟨t,rfl⟩:=rx
 obtain ⟨t',rfl⟩:=ry
 exact rule i j t t' s _ _ ⟨.bl (g i j),H,I,rfl,q⟩
def CDiv (i j:Int):Prop:=0 < j/\j < 1073741824
def CPow (i j:Int):Prop:=0<=j/\j<=1000000/\i.natAbs < 2 ^ 64
def CMul (i j:Int):Prop:=(-(2 ^ 64) < i/\i < 2 ^ 64)\/(-(2 ^ 64) < j/\j < 2 ^ 64)
theorem CMul.ok {i j:Int} (h:CMul i j):IntMulOk i j:=by
 rcases h with ⟨h1,h2⟩ | ⟨h1,h2⟩
 ·exact .of_left (intBits_le_64 h1 h2)
 ·exact .of_right (intBits_le_64 h1 h2)
theorem abl:OpR X (binaryOp .Add) (rI0 fun i j => .int (i+j)):=opI0 fun _ _ _ _ _ _ _ q=>add_int q
theorem ace:OpR X (binaryOp .Sub) (rI0 fun i j => .int (i - j)):=opI0 fun _ _ _ _ _ _ _ q=>sub_int q
theorem ac1:OpR X (binaryOp .Mult) (rI CMul fun i j => .int (i * j)):=opI fun _ _ _ _ _ _ _ hc q=>mul_int q hc.ok
theorem aml:OpR X (binaryOp .FloorDiv) (rI CDiv fun i j => .int (i / j)):=opI fun i j _ _ _ _ _ hc q=>by
 have h1:(0:Int) < j:=hc.1
 have h2:j < 1073741824:=hc.2
 exact floordiv_int (by row_cond lo) (by rw [Int.fdiv_eq_ediv_of_nonneg i (by row_cond lo)];exact q) (.inl (PyProof.noPylong_small (by row_cond lo)))
theorem ad4:OpR X (binaryOp .Mod) (rI (fun _ j=>0 < j) fun i j => .int (i % j)):=opI fun i j _ _ _ _ _ hc q=>by
 have h1:(0:Int) < j:=hc
 exact mod_int' (by row_cond lo) (by rw [Int.fmod_eq_emod_of_nonneg i (by row_cond lo)];exact q)
theorem aw5:OpR X (binaryOp .Pow) (rI CPow fun i j => .int (i ^ j.toNat)):=opI fun _ _ _ _ _ _ _ hc q=>pow_int_small hc.1 hc.2.1 hc.2.2 q
theorem unI {f:Value->Sem Value} {g:Int->Int}
  (rule:∀ (i:Int) (t:Tok) (s:Shared) (Q:Value->Shared->Prop) (E:Value->Shared->Prop),Q (.int (g i) s.toks) { s with toks:=s.toks+1 }->wpAny (model X.prog X.w) X.A (f (.int i t)) Q E s) :
  UnR X f (rU fun i => .int (g i)):=by
 intro pins s σ H x v Q I rx h
 obtain ⟨i,rfl,q⟩:=h
 obtain ⟨t,rfl⟩:=rx
 exact rule i t s _ _ ⟨.int (g i),H,I.tok _,⟨_,rfl⟩,q⟩
theorem ape:UnR X (unaryOp .USub) (rU fun i => .int (-i)):=unI fun _ _ _ _ _ q=>neg_int q
end
noncomputable def scal:V->V->Bool
 | .non,.non=>true | .non,.int _=>true | .int _,.non=>true | .non,.bl _=>true | .bl _,.non=>true | .non,.str _=>true | .str _,.non=>true
 | .int _,.int _=>true | .bl _,.bl _=>true | .str _,.str _=>true | .byt _,.byt _=>true
 | .int _,.str _=>true | .str _,.int _=>true | .bl _,.str _=>true | .str _,.bl _=>true
 | _,_=>false
def rEq:R2:=fun x y H Q=>scal x y=true/\Q (.bl (decide (x=y))) H
def rNe:R2:=fun x y H Q=>scal x y=true/\Q (.bl (!decide (x=y))) H
theorem ae7 {i j:Int}:decide (V.int i=V.int j)=(i == j):=by
 rw [Bool.eq_iff_iff]
 simp
theorem aj6 {i j:Bool}:decide (V.bl i=V.bl j)=(i == j):=by
 rw [Bool.eq_iff_iff]
 simp
theorem amm {i j:Str}:decide (V.str i=V.str j)=(i == j):=by
 rw [Bool.eq_iff_iff]
 simp
theorem amn {i j:Array UInt8}:decide (V.byt i=V.byt j)=(i.toList == j.toList):=by
 rw [Bool.eq_iff_iff]
 cases i
 cases j
 simp
section
variable {X:Cx} {a b c:Expr} {ta tb tc:TE} {pos:Pos}
theorem aat {pins:List (Addr × Obj)} {σ:St} {H:Hp} {s:Shared} {Q:VK} {k k':Bool} (I:Inv X pins σ H s) (q:Q (.bl k) H) (e:k=k'):EP X pins σ Q (.bool k') s:=by
 subst e
 exact ⟨.bl k,H,I,rfl,q⟩
theorem adg:OpR X (compareOp .Eq) rEq:=by
 intro pins s σ H x y v u Q I rx ry h
 obtain ⟨hs,q⟩:=h
 cases x with
 | non =>
  cases rx
  cases y with
  | non=>cases ry;exact PySem.EqNone.eq_none_none (aat I q (by simp))
  | bl j=>cases ry;exact PySem.EqNone.eq_none_bool (aat I q (by simp))
  | int j=>obtain ⟨t',rfl⟩:=ry;exact PySem.EqNone.eq_none_int (aat I q (by simp))
  | str j=>obtain ⟨t',rfl⟩:=ry;exact PySem.EqNone.eq_none_str (aat I q (by simp))
  | _=>exact absurd (show false=true from hs) Bool.false_ne_true
 | bl i =>
  cases rx
  cases y with
  | non=>cases ry;exact PySem.EqNone.eq_bool_none (aat I q (by simp))
  | bl j=>cases ry;exact eq_bool (aat I q aj6)
  | str j=>obtain ⟨t',rfl⟩:=ry;exact PySem.EqMixed.eq_bool_str (aat I q (by simp))
  | _=>exact absurd (show false=true from hs) Bool.false_ne_true
 | int i =>
  obtain ⟨t,rfl⟩:=rx
  cases y with
  | non=>cases ry;exact PySem.EqNone.eq_int_none (aat I q (by simp))
  | int j=>obtain ⟨t',rfl⟩:=ry;exact eq_int (aat I q ae7)
  | str j=>obtain ⟨t',rfl⟩:=ry;exact PySem.EqMixed.eq_int_str (aat I q (by simp))
  | _=>exact absurd (show false=true from hs) Bool.false_ne_true
 | str i =>
  obtain ⟨t,rfl⟩:=rx
  cases y with
  | non=>cases ry;exact PySem.EqNone.eq_str_none (aat I q (by simp))
  | bl j=>cases ry;exact PySem.EqMixed.eq_str_bool (aat I q (by simp))
  | int j=>obtain ⟨t',rfl⟩:=ry;exact PySem.EqMixed.eq_str_int (aat I q (by simp))
  | str j=>obtain ⟨t',rfl⟩:=ry;exact eq_str (aat I q amm)
  | _=>exact absurd (show false=true from hs) Bool.false_ne_true
 | byt i =>
  obtain ⟨t,rfl⟩:=rx
  cases y with
  | byt j=>obtain ⟨t',rfl⟩:=ry;exact PySem.W.eq_bytes (aat I q amn)
  | _=>exact absurd (show false=true from hs) Bool.false_ne_true
 | _=>cases y <;> exact absurd (show false=true from hs) Bool.false_ne_true
theorem ae8:OpR X (compareOp .NotEq) rNe:=by
 intro pins s σ H x y v u Q I rx ry h
 obtain ⟨hs,q⟩:=h
 cases x with
 | non =>
  cases rx
  cases y with
  | non=>cases ry;exact PySem.EqNone.ne_none_none (aat I q (by simp))
  | bl j=>cases ry;exact PySem.EqNone.ne_none_bool (aat I q (by simp))
  | int j=>obtain ⟨t',rfl⟩:=ry;exact PySem.EqNone.ne_none_int (aat I q (by simp))
  | str j=>obtain ⟨t',rfl⟩:=ry;exact PySem.EqNone.ne_none_str (aat I q (by simp))
  | _=>exact absurd (show false=true from hs) Bool.false_ne_true
 | bl i =>
  cases rx
  cases y with
  | non=>cases ry;exact PySem.EqNone.ne_bool_none (aat I q (by simp))
  | bl j=>cases ry;exact ne_bool (aat I q (congrArg not aj6))
  | str j=>obtain ⟨t',rfl⟩:=ry;exact PySem.EqMixed.ne_bool_str (aat I q (by simp))
  | _=>exact absurd (show false=true from hs) Bool.false_ne_true
 | int i =>
  obtain ⟨t,rfl⟩:=rx
  cases y with
  | non=>cases ry;exact PySem.EqNone.ne_int_none (aat I q (by simp))
  | int j=>obtain ⟨t',rfl⟩:=ry;exact ne_int (aat I q (congrArg not ae7))
  | str j=>obtain ⟨t',rfl⟩:=ry;exact PySem.EqMixed.ne_int_str (aat I q (by simp))
  | _=>exact absurd (show false=true from hs) Bool.false_ne_true
 | str i =>
  obtain ⟨t,rfl⟩:=rx
  cases y with
  | non=>cases ry;exact PySem.EqNone.ne_str_none (aat I q (by simp))
  | bl j=>cases ry;exact PySem.EqMixed.ne_str_bool (aat I q (by simp))
  | int j=>obtain ⟨t',rfl⟩:=ry;exact PySem.EqMixed.ne_str_int (aat I q (by simp))
  | str j=>obtain ⟨t',rfl⟩:=ry;exact ne_str (aat I q (congrArg not amm))
  | _=>exact absurd (show false=true from hs) Bool.false_ne_true
 | byt i =>
  obtain ⟨t,rfl⟩:=rx
  cases y with
  | byt j=>obtain ⟨t',rfl⟩:=ry;exact PySem.W.ne_bytes (aat I q (congrArg not amn))
  | _=>exact absurd (show false=true from hs) Bool.false_ne_true
 | _=>cases y <;> exact absurd (show false=true from hs) Bool.false_ne_true
theorem aoc:OpR X (compareOp .Lt) (rI0 fun i j => .bl (decide (i < j))):=opB0 fun _ _ _ _ _ _ _ q=>lt_int q
theorem atl:OpR X (compareOp .LtE) (rI0 fun i j => .bl (decide (i<=j))):=opB0 fun _ _ _ _ _ _ _ q=>le_int q
theorem aod:OpR X (compareOp .Gt) (rI0 fun i j => .bl (decide (j < i))):=opB0 fun _ _ _ _ _ _ _ q=>gt_int q
theorem azg:OpR X (compareOp .GtE) (rI0 fun i j => .bl (decide (j<=i))):=opB0 fun _ _ _ _ _ _ _ q=>ge_int q
theorem aw6:OpR X (compareOp .Is) (fun x y H Q=>y=.non/\Q (.bl (decide (x=.non))) H):=by
 intro pins s σ H x y v u Q I rx ry h
 obtain ⟨rfl,q⟩:=h
 cases ry
 refine is_none_gen (aat I q ?_)
 cases x <;> first
  | (cases rx;rfl)
  | (obtain ⟨t,rfl⟩:=rx;rfl)
theorem aa0 (b:Expr) {op:CmpOp} (h:op ≠ .In:=by decide) (h2:op ≠ .NotIn:=by decide):behindInMarks op b=false:=by
 have e1:(op == CmpOp.In)=false:=by cases op <;> first | rfl | exact absurd rfl h
 have e2:(op == CmpOp.NotIn)=false:=by cases op <;> first | rfl | exact absurd rfl h2
 cases b <;> simp [behindInMarks,e1,e2]
theorem aho {op:CmpOp} {r:R2} (ho:OpR X (compareOp op) r) (ha:PE X a ta) (hb:PE X b tb) (hm:behindInMarks op b=false):PE X (.Compare a [op] [b] pos) (tOp r ta tb):=by
 intro pins s σ H Q I h
 exact wpAny_Compare1 (binT ha hb I h fun v u s2 x y H2 I2 rx ry q=>ho pins s2 σ H2 x y v u Q I2 rx ry q) hm
def atm (t:TE):TT:=fun σ H Q=>t σ H fun x H'=>∃ k,x=.bl k/\Q k H'
theorem aau {op:CmpOp} {r:R2} (ho:OpR X (compareOp op) r) (ha:PE X a ta) (hb:PE X b tb) (hm:behindInMarks op b=false):PT X (.Compare a [op] [b] pos) (atm (tOp r ta tb)):=by
 intro pins s σ H Q I h
 refine wpAny_isTrue_Compare1 (thn (ha pins s σ H _ I h) fun v s1 ⟨x,H1,I1,r1,q1⟩=>thn (hb pins s1 σ H1 _ I1 q1) fun u s2 ⟨y,H2,I2,r2,q2⟩ =>
  thn (ho pins s2 σ H2 x y v u _ I2 r1 r2 q2) fun c s3 ⟨z,H3,I3,r3,k,e,q3⟩=>?_) hm
 subst e
 cases r3
 exact wpAny_truthy_bool ⟨H3,I3,q3⟩
def aj7 (r r':R2) (ta tb tc:TE):TE:=fun σ H Q=>ta σ H fun x H1=>tb σ H1 fun y H2=>r x y H2 fun z H3=>∃ k,z=.bl k /\
 (if k=true then tc σ H3 fun w' H4=>r' y w' H4 Q else Q (.bl false) H3)
theorem aq4 {op op':CmpOp} {r r':R2} (ho:OpR X (compareOp op) r) (ho':OpR X (compareOp op') r') (ha:PE X a ta) (hb:PE X b tb) (hc:PE X c tc)
  (hm:lastMarks [op,op'] [b,c]=false:=by with_unfolding_all rfl):PE X (.Compare a [op,op'] [b,c] pos) (aj7 r r' ta tb tc):=by
 intro pins s σ H Q I h
 refine Compare_chain (thn (ha pins s σ H _ I h) fun v s1 ⟨x,H1,I1,r1,q1⟩=>chain_link (thn (hb pins s1 σ H1 _ I1 q1) fun u s2 ⟨y,H2,I2,r2,q2⟩ =>
  thn (ho pins s2 σ H2 x y v u _ I2 r1 r2 q2) fun d s3 ⟨z,H3,I3,r3,k,e,q3⟩=>?_)) hm
 subst e
 cases r3
 refine wpAny_truthy_bool ?_
 cases k with
 | false=>exact ite_ff ⟨.bl false,H3,I3,rfl,q3⟩
 | true=>exact ite_tt (chain_last (thn (hc pins s3 σ H3 _ I3 q3) fun w' s4 ⟨z',H4,I4,r4,q4⟩=>ho' pins s4 σ H4 y z' u w' Q I4 r2 r4 q4))
def TruV (K:PySem.W.Frag) (x:V) (H:Hp) (k:Bool):Prop :=
 match x with
 | .non=>k=false
 | .bl b=>k=b
 | .int i=>k=(i != 0)
 | .str y=>y.length<=sizeLine/\k=((y.length:Int) != 0)
 | .byt y=>y.size<=sizeLine/\k=((y.size:Int) != 0)
 | .ref p=>(∃ xs,SqL K H p xs/\k = !xs.isEmpty)\/(∃ xs,SqT K H p xs/\k = !xs.isEmpty)\/∃ kvs,H p=some (.dK kvs)/\k = !kvs.isEmpty
 | _=>False
theorem aoe {κ:Type} {kvs:List (κ × V)} {vs:List (κ × Value)} (r:KV kvs vs):(!vs.isEmpty) = !kvs.isEmpty:=by
 cases r <;> rfl
theorem ago {xs:List V} {its:List Value} (r:Vals xs its):(!its.toArray.isEmpty) = !xs.isEmpty:=by
 cases r <;> simp
theorem aeo:(sizeLine:Nat) < 2 ^ 63:=by rw [sizeLine_eq];decide
theorem aw7:TruR X (fun x H Q=>∃ k,TruV X.K x H k/\Q k H):=by
 intro pins s σ H x v Q I rx h
 obtain ⟨k,e,q⟩:=h
 have hl:=aeo
 have hs:sizeLine=16777216:=sizeLine_eq
 cases x with
 | non =>
  cases rx
  have e':k=false:=e
  subst e'
  exact truthy_none ⟨H,I,q⟩
 | bl b =>
  cases rx
  have e':k=b:=e
  subst e'
  exact wpAny_truthy_bool ⟨H,I,q⟩
 | int i =>
  obtain ⟨t,rfl⟩:=rx
  have e':k=(i != 0):=e
  subst e'
  exact PySem.P.truthy_int ⟨H,I,q⟩
 | str y =>
  obtain ⟨t,rfl⟩:=rx
  obtain ⟨hy,e'⟩:y.length<=sizeLine/\k=((y.length:Int) != 0):=e
  subst e'
  exact PySem.P.truthy_str (by row_cond lo) ⟨H,I.tok _,q⟩
 | byt y =>
  obtain ⟨t,rfl⟩:=rx
  obtain ⟨hy,e'⟩:y.size<=sizeLine/\k=((y.size:Int) != 0):=e
  subst e'
  exact PySem.W.truthy_bytes (by row_cond lo) ⟨H,I.tok _,q⟩
 | ref p =>
  cases rx
  have e':(∃ xs,SqL X.K H p xs/\k = !xs.isEmpty)\/(∃ xs,SqT X.K H p xs/\k = !xs.isEmpty)\/∃ kvs,H p=some (.dK kvs)/\k = !kvs.isEmpty:=e
  rcases e' with ⟨xs,hx,e'⟩ | ⟨xs,hx,e'⟩ | ⟨kvs,hx,e'⟩
  ·subst e'
   obtain ⟨its,r,pl,hz⟩:=I.list hx
   have hlen:=r.length
   exact wpAny_truthy_list pl.isList (by simp only [List.size_toArray];row_cond lo) ⟨H,I.tok _,by rw [ago r];exact q⟩
  ·subst e'
   obtain ⟨its,r,pl,hz⟩:=I.tuple hx
   have hlen:=r.length
   exact truthy_tuple pl (by simp only [List.size_toArray];row_cond lo) ⟨H,I.tok _,by rw [ago r];exact q⟩
  ·subst e'
   obtain ⟨hz,hS,vs,r,m⟩:kvs.length<=sizeLine/\(p == sysModules)=false/\∃ vs,KV kvs vs/\s.heap.DictOf (ahm X.prog X.w) p vs:=I.hok p _ hx
   have hlen:kvs.length=vs.length:=Paired.length r
   exact wpAny_truthy_dict hS m (by row_cond lo) ⟨H,I.tok _,by rw [aoe r];exact q⟩
 | _=>exact (show False from e).elim
theorem aq5 (ha:PE X a ta) (he:∀ whole,isTrue a X.env whole=(do let v ← whole;standAt a.pos;holding [v] (truthy v))) :
  PT X a (fun σ H Q=>ta σ H fun x H'=>∃ k,TruV X.K x H' k/\Q k H'):=by
 intro pins s σ H Q I h
 exact isTrue_plain (thn (ha pins s σ H _ I h) fun v s1 ⟨x,H1,I1,r1,q1⟩=>aw7 pins s1 σ H1 x v Q I1 r1 q1) (he _)
theorem acn {x:V} {us:List Value} (r:Vals [x] us):∃ u,us=[u]/\RelV x u:=by
 cases r with
 | cons r1 r2=>cases r2;exact ⟨_,rfl,r1⟩
theorem ae9 {x y:V} {us:List Value} (r:Vals [x,y] us):∃ u w',us=[u,w']/\RelV x u/\RelV y w':=by
 cases r with
 | cons r1 r2 =>
  cases r2 with
  | cons r3 r4=>cases r4;exact ⟨_,_,rfl,r1,r3⟩
theorem apf (hc:X.calm=true):aa9 X (.builtin "max") (fun xs H Q=>∃ i j,xs=[.int i,.int j]/\Q (.int (if j > i then j else i)) H):=by
 intro pins s σ H xs us Q I r h
 obtain ⟨i,j,rfl,q⟩:=h
 obtain ⟨u,w',rfl,⟨t,rfl⟩,⟨t',rfl⟩⟩:=ae9 r
 refine max_two_ints (I.ok.hd hc) fun h' tk k=>⟨_,H,I.kept k,?_,q⟩
 by_cases hj:j > i
 ·rw [if_pos hj,if_pos hj];exact ⟨_,rfl⟩
 ·rw [if_neg hj,if_neg hj];exact ⟨_,rfl⟩
theorem apg (hc:X.calm=true):aa9 X (.builtin "min") (fun xs H Q=>∃ i j,xs=[.int i,.int j]/\Q (.int (if j < i then j else i)) H):=by
 intro pins s σ H xs us Q I r h
 obtain ⟨i,j,rfl,q⟩:=h
 obtain ⟨u,w',rfl,⟨t,rfl⟩,⟨t',rfl⟩⟩:=ae9 r
 refine min_two_ints (I.ok.hd hc) fun h' tk k=>⟨_,H,I.kept k,?_,q⟩
 by_cases hj:j < i
 ·rw [if_pos hj,if_pos hj];exact ⟨_,rfl⟩
 ·rw [if_neg hj,if_neg hj];exact ⟨_,rfl⟩
end
end L2
namespace L2
open PySem PySem.Spec PyProof.Rows
structure ObjM (h:Heap) (x dx C:Addr) (mA:Str->Option Value):Prop where
 obj:h.get? x=some (PySem.W.instObj C dx)
 ns:h.Ns1 dx mA
 ne:dx ≠ x
theorem aph {h:Heap} {dx:Addr} {mA:Str->Option Value} (n:h.Ns1 dx mA):∃ od,h.get? dx=some od/\∀ name,PySem.W.lookIn name od=some (mA name):=by
 obtain ⟨o,es,ep,ho,hd,hk,_,hm⟩:=n
 refine ⟨o,ho,fun name=>?_⟩
 have e:=hm name
 unfold nsFind findBy at e
 rw [← Array.find?_toList] at e
 unfold PySem.W.lookIn
 rw [hd]
 dsimp only
 split
 ·rename_i y q
  rw [q] at e
  exact congrArg some e
 ·rename_i q
  rw [q] at e
  have a:es.toList.any (·.refKey)=false:=by
   rw [List.any_eq_false]
   intro y hy
   obtain ⟨z,t,hkey⟩:=hk y (Array.mem_toList_iff.mp hy)
   simp [DictEntry.refKey,hkey]
  have a':¬ es.toList.any (·.refKey)=true:=by rw [a];exact Bool.false_ne_true
  rw [if_neg a']
  exact congrArg some e
theorem ObjM.look {h:Heap} {x dx C:Addr} {mA:Str->Option Value} (I:ObjM h x dx C mA):∃ od,PySem.W.InstAt h x (PySem.W.instObj C dx) C (some od)/\∀ name,PySem.W.lookIn name od=some (mA name) :=
 let ⟨od,ho,hl⟩:=aph I.ns
 ⟨od,⟨I.obj,rfl,rfl,ho⟩,hl⟩
section
variable {prog:Program} {w:World} {A:Around} {E:Value->Shared->Prop} {s:Shared} {K:PySem.W.Frag} {x dx C f:Addr} {mA:Str->Option Value} {name:Str} {v:Value}
end
noncomputable def putF (f:Str) (v:V):List (Str × V)->List (Str × V)
 | []=>[(f,v)]
 | (g,x) :: r=>if g=f then (g,v) :: r else (g,x) :: putF f v r
section
variable {P:Program} {w:World} {H H':Hp} {h h':Heap} {a C dx:Addr} {fs fs':List (Str × V)}
theorem ins_get (hok:HOk P w H h) (e:H a=some (.ins C dx fs)):∃ mA,ObjM h a dx C mA/\(∀ f,RelO (fs.lookup f) (mA f))/\PySem.Within mA (fs.map (·.1))/\fs.length<=1000/\H dx=some (.own a):=by
 obtain ⟨d,z,ne,ob,mA,n,r,q⟩:=(show ObjOk P w H h a (.ins C dx fs) from hok a _ e)
 exact ⟨mA,⟨ob,n,ne⟩,r,q,z,d⟩
end
structure Cls (K:PySem.W.Frag) (C:Addr):Prop where
 pg:PySem.W.plainGet K C Str.empty=true
 hd:PySem.W.hasDictIn K C=true
 po:PySem.W.plainOver K C=true
 sa:PySem.W.findIn K (.ref C) "__setattr__" = some (some (.builtin "object.__setattr__"))
theorem Cls.get {K:PySem.W.Frag} {C:Addr} (c:Cls K C) (f:Str):PySem.W.plainGet K C f=true:=c.pg
section
variable {X:Cx} {pins:List (Addr × Obj)} {σ:St} {H:Hp} {s:Shared} {a C dx:Addr} {fs:List (Str × V)} {f:Str} {v:V} {A:Around} {E:Value->Shared->Prop}
end
section
variable {X:Cx} {o e value:Expr} {f:Str} {pos pos' tpos:Pos} {ta tv:TE}
end
section
variable {X:Cx} {pins:List (Addr × Obj)} {σ:St} {H:Hp} {s:Shared} {A:Around} {E:Value->Shared->Prop} {Q:Value->Shared->Prop} {c:Value} {b:Bool}
inductive TyOf (K:PySem.W.Frag) (H:Hp):V->Value->Prop where
 | non:TyOf K H .non (.type "NoneType")
 | bl (x:Bool):TyOf K H (.bl x) (.type "bool")
 | int (i:Int):TyOf K H (.int i) (.type "int")
 | str (x:Str):TyOf K H (.str x) (.type "str")
 | flt (x:UInt64):TyOf K H (.flt x) (.type "float")
 | lst {a:Addr} {xs:List V} (e:H a=some (.lst xs)):TyOf K H (.ref a) (.type "list")
 | frz {a:Addr} {o:Obj} {xs:List V} (e:H a=some (.frz o (.lst xs))):TyOf K H (.ref a) (.type "list")
 | tup {a:Addr} {xs:List V} (e:H a=some (.tup xs)):TyOf K H (.ref a) (.type "tuple")
 | dK {a:Addr} {kvs:List (Key × V)} (e:H a=some (.dK kvs)):TyOf K H (.ref a) (.type "dict")
 | dT {a:Addr} {kvs:List (List Key × V)} (e:H a=some (.dT kvs)):TyOf K H (.ref a) (.type "dict")
 | ins {a C dx:Addr} {fs:List (Str × V)} (e:H a=some (.ins C dx fs)) (cl:Cls K C) (ha:PySem.W.findIn K (.ref C) "__class__" = some (some (.builtin "object.__class__")))
   (hn:PySem.W.specialIn K (.builtin "object.__class__") "__get__" = some (some (.builtin "getset_descriptor.__get__"))) (htk:PySem.W.takesIn K (.builtin "object.__class__")=some true)
   (hm:PySem.W.mroIn K C (.type "object")=some true):TyOf K H (.ref a) (.ref C)
theorem api {x:V} {u t:Value} (I:Inv X pins σ H s) (rx:RelV x u) (ty:TyOf X.K H x t) (e:PySem.W.kitOne X.K t c=some b) (h:∀ tk,Q (.bool b) { s with toks:=tk }) :
  wpAny (model X.prog X.w) A (call (.builtin "isinstance") [u,c]) Q E s:=by
 cases ty with
 | non=>cases (show u=Value.none from rx);exact PySem.W.kia_one PySem.W.kitx_none I.kIn True.intro e (fun z=>nomatch z) h
 | bl y=>cases (show u=Value.bool y from rx);exact PySem.W.kia_one PySem.W.kitx_bool I.kIn True.intro e (fun z=>nomatch z) h
 | int i=>obtain ⟨t,q⟩:=(show ∃ t,u=Value.int i t from rx);cases q;exact PySem.W.kia_one PySem.W.kitx_int I.kIn True.intro e (fun z=>nomatch z) h
 | str y=>obtain ⟨t,q⟩:=(show ∃ t,u=Value.str y t from rx);cases q;exact PySem.W.kia_one PySem.W.kitx_str I.kIn True.intro e (fun z=>nomatch z) h
 | flt y=>obtain ⟨t,q⟩:=(show ∃ t,u=Value.float y t from rx);cases q;exact PySem.W.kia_one PySem.W.kitx_float I.kIn True.intro e (fun z=>nomatch z) h
 | @lst a xs ea =>
  cases (show u=Value.ref a from rx)
  obtain ⟨_,_,n,_,h1⟩:=(show ObjOk X.prog X.w H s.heap a (.lst xs) from I.hok a _ ea)
  exact PySem.W.kia_one PySem.W.kitx_list I.kIn ⟨_,h1,rfl⟩ e (fun z=>nomatch z) h
 | @frz a ob xs ea =>
  cases (show u=Value.ref a from rx)
  obtain ⟨_,_,_,n,_,h1⟩:=(show ObjOk X.prog X.w H s.heap a (.frz ob (.lst xs)) from I.hok a _ ea)
  exact PySem.W.kia_one PySem.W.kitx_list I.kIn ⟨_,h1,rfl⟩ e (fun z=>nomatch z) h
 | @tup a xs ea =>
  cases (show u=Value.ref a from rx)
  obtain ⟨_,_,_,p⟩:=(show ObjOk X.prog X.w H s.heap a (.tup xs) from I.hok a _ ea)
  obtain ⟨o,h1,h2,_⟩:=p
  exact PySem.W.kia_one PySem.W.kitx_tuple I.kIn ⟨o,h1,h2⟩ e (fun z=>nomatch z) h
 | @dK a kvs ea =>
  cases (show u=Value.ref a from rx)
  obtain ⟨_,_,vs,_,p⟩:=(show ObjOk X.prog X.w H s.heap a (.dK kvs) from I.hok a _ ea)
  obtain ⟨o,es,ep,h1,h2,_⟩:=p
  exact PySem.W.kia_one PySem.W.kitx_dict I.kIn ⟨o,h1,h2.1⟩ e (fun z=>nomatch z) h
 | @dT a kvs ea =>
  cases (show u=Value.ref a from rx)
  obtain ⟨_,_,xs,_,o,es,ep,h1,h2,_⟩:=(show ObjOk X.prog X.w H s.heap a (.dT kvs) from I.hok a _ ea)
  exact PySem.W.kia_one PySem.W.kitx_dict I.kIn ⟨o,h1,h2.1⟩ e (fun z=>nomatch z) h
 | @ins a C dx fs ea cl ha hn htk hm =>
  cases (show u=Value.ref a from rx)
  obtain ⟨mA,O,_⟩:=ins_get I.hok ea
  obtain ⟨od,J,_⟩:=O.look
  exact PySem.W.kia_one (PySem.W.kitx_own (cl.get _) cl.hd ha hn htk hm) I.kIn J e (fun z=>nomatch z) h
end
end L2
namespace L2
open PySem PySem.Spec PyProof.Rows
structure Room (k:Nat) (A:Around):Prop where
 hd:A.handled=none
 dp:A.depth+3 * k+5 < recursionLimit
 un:A.units+16 * k+200 < cLine
theorem Room.mono {j k:Nat} {A:Around} (r:Room k A) (h:j<=k):Room j A:=⟨r.hd,by have:=r.dp;row_cond lo,by have:=r.un;row_cond lo⟩
theorem Room.deeper {k:Nat} {A:Around} (r:Room (k+1) A) (env:Env):Room k (A.deeper env) :=
 ⟨r.hd,by have:=r.dp;show A.depth+1+3 * k+5 < _;row_cond lo,by have:=r.un;show A.units+3+16 * k+200 < _;row_cond lo⟩
theorem Room.in1 {k:Nat} {A:Around} (r:Room (k+1) A):Room k A.in1 :=
 ⟨r.hd,by have:=r.dp;show A.depth+3 * k+5 < _;row_cond lo,by have:=r.un;show A.units+1+16 * k+200 < _;row_cond lo⟩
theorem Room.depth {k:Nat} {A:Around} (r:Room k A):A.depth < recursionLimit:=by have:=r.dp;row_cond lo
theorem Room.units {k:Nat} {A:Around} (r:Room k A):A.units+64 < cLine:=by have:=r.un;row_cond lo
def tNil:TA:=fun _ H Q=>Q [] H
def aa4 (ta:TE) (tr:TA):TA:=fun σ H Q=>ta σ H fun x H1=>tr σ H1 fun xs H2=>Q (x :: xs) H2
section
variable {X:Cx} {e:Expr} {es:List Expr} {te:TE} {t:TA} {pos:Pos}
theorem aab:PA X [] tNil:=fun _ _ _ _ H Q I h=>Calls.spliced_nil ⟨[],H,I,.nil,h⟩
theorem aaa (ha:PE X e te) (hr:PA X es t) (hs:starEach (e :: es) X.env=(false,eval e X.env) :: starEach es X.env:=by rfl):PA X (e :: es) (aa4 te t):=by
 intro pos pins s σ H Q I h
 rw [hs]
 show wpAny _ _ (spliced ((false,eval e X.env) :: backTo pos (starEach es X.env))) _ _ s
 refine Calls.spliced_cons (thn (ha pins s σ H _ I h) fun u s1 ⟨x,H1,I1,r1,q1⟩=>?_)
 exact thn (hr pos pins s1 σ H1 _ I1 q1) fun us s2 ⟨xs,H2,I2,r2,q2⟩=>⟨x :: xs,H2,I2,.cons r1 r2,q2⟩
def tTup (t:TA):TE:=fun σ H Q=>t σ H fun xs H1=>xs.length<=sizeLine/\∀ p,H1 p=none->Q (.ref p) (upd H1 p (.tup xs))
def tLst (t:TA):TE:=fun σ H Q=>t σ H fun xs H1=>xs.length<=sizeLine/\∀ p,H1 p=none->Q (.ref p) (upd H1 p (.lst xs))
theorem aba {x1} (h:PA X es t):PE X (.Tuple es x1 pos) (tTup t):=by
 intro pins s σ H Q I hq
 refine wpAny_Tuple_spliced (thn (h pos pins s σ H _ I hq) fun us s1 ⟨xs,H1,I1,r,z,q⟩=>⟨by rw [← r.length];exact z,?_⟩)
 have hf:H1 s1.heap.objs.size=none:=I1.hok.fresh (Nat.le_refl _)
 refine ⟨.ref s1.heap.objs.size,upd H1 s1.heap.objs.size (.tup xs),I1.laid (t':=s1.toks) (fun b u e=>Heap.get?_push_of_some _ e) (Nat.le_refl _) ?_,rfl,q _ hf⟩
 exact ⟨z,us,r,⟨_,Heap.get?_push_size _ rfl,rfl,_,rfl⟩⟩
theorem aa7 (h:PA X es t):PE X (.List es pos) (tLst t):=by
 intro pins s σ H Q I hq
 refine wpAny_List_spliced (thn (h pos pins s σ H _ I hq) fun us s1 ⟨xs,H1,I1,r,z,q⟩=>⟨by rw [← r.length];exact z,?_⟩)
 have hf:H1 s1.heap.objs.size=none:=I1.hok.fresh (Nat.le_refl _)
 refine ⟨.ref s1.heap.objs.size,upd H1 s1.heap.objs.size (.lst xs),I1.laid (t':=s1.toks) (fun b u e=>Heap.get?_push_of_some _ e) (Nat.le_refl _) ?_,rfl,q _ hf⟩
 exact ⟨z,us,0,r,Heap.get?_push_size _ rfl⟩
end
noncomputable abbrev Sp:=List V->Hp->VK->XK->Prop
noncomputable abbrev CXT:=List Env->Hp->Shared->XK->Value->Shared->Prop
structure Env0 (P:Program) (w:World) (K:PySem.W.Frag) (mg:Str->Option Value) (base:Heap) (A:Around) (outer:List Env) (s:Shared) (H:Hp):Prop where
 frames:A.frames=some outer
 mod:Mod K mg base
 bs:∀ b o,base.get? b=some o->s.heap.get? b=some o/\H b=none
 bsz:base.objs.size<=s.heap.objs.size
 funs:s.heap.FunFrames base outer
 frf:∀ b∈frs outer,H b=none
 hok:HOk P w H s.heap
 bare:AllBare s.gens
def CE (outer:List Env) (P:Program) (w:World) (H:Hp) (s:Shared) (Q:VK) (u:Value) (s':Shared):Prop :=
 ∃ v H',s'.os=s.os/\AllBare s'.gens/\Un (frs outer) [] H H' s.heap s'.heap/\HOk P w H' s'.heap/\RelV v u/\Q v H'
def CR (CX:CXT) (outer:List Env) (P:Program) (w:World) (H:Hp) (s:Shared) (Q:VK) (E:XK) (r:Result) (s':Shared):Prop :=
 match r with
 | .ok (.ret u)=>CE outer P w H s Q u s'
 | .ok _=>False
 | .error e=>CX outer H s E e s'
structure FnOk (P:Program) (w:World) (K:PySem.W.Frag) (mg:Str->Option Value) (base:Heap) (CX:CXT) (k:Nat) (f:Addr) (fd:FuncData) (ps:List Str) (sp:Sp):Prop where
 len:∀ vs H Q E,sp vs H Q E->vs.length=ps.length
 run:∀ (A:Around) (outer:List Env) (s:Shared) (H:Hp) (args:Args) (us:List Value) (vs:List V) (Q:VK) (E:XK),Room k A->Env0 P w K mg base A outer s H->BindsTo s fd args (ps.zip us)->Vals vs us->sp vs H Q E ->
  codeAny (model P w) A (.call (.ref f) args) (CR CX outer P w H s Q E) s
theorem FnOk.mono {P:Program} {w:World} {K:PySem.W.Frag} {mg:Str->Option Value} {base:Heap} {CX:CXT} {j k:Nat} {f:Addr} {fd:FuncData} {ps:List Str} {sp:Sp} (F:FnOk P w K mg base CX j f fd ps sp) (h:j<=k) :
  FnOk P w K mg base CX k f fd ps sp:=⟨F.len,fun A outer s H args us vs Q E hr=>F.run A outer s H args us vs Q E (hr.mono h)⟩
theorem FnOk.imp {P:Program} {w:World} {K:PySem.W.Frag} {mg:Str->Option Value} {base:Heap} {CX:CXT} {k:Nat} {f:Addr} {fd:FuncData} {ps:List Str} {sp sp':Sp} (F:FnOk P w K mg base CX k f fd ps sp)
  (h:∀ vs H Q E,sp' vs H Q E->sp vs H Q E):FnOk P w K mg base CX k f fd ps sp' :=
 ⟨fun vs H Q E q=>F.len vs H Q E (h _ _ _ _ q),fun A outer s H args us vs Q E hr he hb hv hs=>F.run A outer s H args us vs Q E hr he hb hv (h _ _ _ _ hs)⟩
theorem Env0.in1 {P:Program} {w:World} {K:PySem.W.Frag} {mg:Str->Option Value} {base:Heap} {A:Around} {outer:List Env} {s:Shared} {H:Hp} (e:Env0 P w K mg base A outer s H) :
  Env0 P w K mg base A.in1 outer s H:=⟨e.frames,e.mod,e.bs,e.bsz,e.funs,e.frf,e.hok,e.bare⟩
section
variable {X:Cx} {pins:List (Addr × Obj)} {σ:St} {H:Hp} {s s':Shared}
theorem Inv.env0 (I:Inv X pins σ H s):Env0 X.prog X.w X.K X.mg X.base X.A X.stack s H :=
 ⟨I.ok.frames,I.ok.mod,I.bs,Nat.le_trans I.ok.bsz I.sz,I.stack,I.stkFree,I.hok,I.bare⟩
theorem Inv.after {Q:VK} {u:Value} (I:Inv X pins σ H s) (h:CE X.stack X.prog X.w H s Q u s'):EP X pins σ Q u s':=by
 obtain ⟨v,H',os,bare,un,hok,r,q⟩:=h
 obtain ⟨hh,g,d,t,os'⟩:=s'
 obtain rfl:os'=s.os:=os
 exact ⟨v,H',I.call (h':=hh) (g':=g) (d':=d) (t':=t) (ch:=[]) un hok bare (fun b z=>absurd z (by simp)),r,q⟩
end
def abk (sp:Sp) (dvs:List V) (E:XK) (t:TA):TE:=fun σ H Q=>t σ H fun vs H1=>sp (vs ++ dvs) H1 Q E
def Binds (K:PySem.W.Frag) (fd:FuncData) (ps:List Str) (ds:List Value):Prop :=
 ∀ (s:Shared) (us:List Value),K.In s.heap->(us ++ ds).length=ps.length->BindsTo s fd ⟨us,[]⟩ (ps.zip (us ++ ds))
theorem Binds.all {K:PySem.W.Frag} {fd:FuncData} {ps:List Str} (h:∀ us:List Value,us.length=ps.length->bindArgs fd ⟨us,[]⟩=pure (ps.zip us)):Binds K fd ps []:=fun s us _ hl=>by
 rw [List.append_nil] at hl ⊢
 exact .of_eq (h us hl)
def agp (CX:CXT) (X:Cx) (E:XK):Prop:=∀ (pins:List (Addr × Obj)) (σ:St) (H:Hp) (s:Shared) (e:Value) (s':Shared),Inv X pins σ H s->CX X.stack H s E e s'->X.xe e s'
section
variable {X:Cx} {CX:CXT} {k:Nat} {f C:Addr} {fd:FuncData} {ps:List Str} {sp:Sp} {dvs:List V} {ds:List Value} {E:XK} {x m:Str} {p pos apos:Pos} {e o:Expr} {es:List Expr} {ta:TE} {t:TA}
theorem aw8 {pins:List (Addr × Obj)} {σ:St} {H:Hp} {s:Shared} {Q:VK} {us:List Value} {vs:List V} (F:FnOk X.prog X.w X.K X.mg X.base CX k f fd ps sp) (hr:Room k X.A) (hb:Binds X.K fd ps ds) (hd:Vals dvs ds) (hx:agp CX X E)
  (I:Inv X pins σ H s) (r:Vals vs us) (h:sp (vs ++ dvs) H Q E):wpAny (model X.prog X.w) X.A (call (.ref f) us) (EP X pins σ Q) X.xe s:=by
 have r2:Vals (vs ++ dvs) (us ++ ds):=r.append hd
 have hl:(us ++ ds).length=ps.length:=by rw [← r2.length];exact F.len _ _ _ _ h
 refine wpAny_call (codeAny_mono (F.run X.A X.stack s H ⟨us,[]⟩ (us ++ ds) (vs ++ dvs) Q E hr I.env0 (hb s us I.kIn hl) r2 h) fun r s' hq=>?_)
 cases r with
 | error e=>exact hx pins σ H s e s' I hq
 | ok fl =>
  cases fl with
  | ret u=>exact I.after hq
  | next=>exact False.elim hq
  | brk=>exact False.elim hq
  | cont=>exact False.elim hq
theorem amo (F:FnOk X.prog X.w X.K X.mg X.base CX k f fd ps sp) (hr:Room k X.A) (hg:Gl X x) (hm:X.mg x=some (.ref f)) (hk:PySem.W.keepIn X.K (.ref f)=true) (hb:Binds X.K fd ps ds) (hd:Vals dvs ds) (hx:agp CX X E)
  (ha:PA X (e :: es) t) (hdb:(x == ("__debug__" : Str))=false:=by decide) (he:starEach (e :: es) X.env=(false,eval e X.env) :: starEach es X.env:=by rfl) (hpl:(backTo pos (starEach es X.env)).any (·.1)=false:=by rfl) :
  PE X (.Call (.Name x p) (e :: es) [] pos) (abk sp dvs E t):=by
 intro pins s σ H Q I h
 refine wpAny_Call_Name_kw (ae6 I hg hm ?_ hdb)
 refine PySem.W.callWith_K (h₀:=X.base) I.ok.mod.kin hk (thn (ha pos pins s σ H _ I h) fun us s1 ⟨vs,H1,I1,r,q⟩=>⟨I1.kIn,?_⟩) he hpl
 exact aw8 F hr hb hd hx I1 r q
end
def PK (X:Cx) (kws:List Keyword) (t:TA):Prop :=
 ∀ (pos:Pos) (pins:List (Addr × Obj)) (s:Shared) (σ:St) (H:Hp) (Q:List V->Hp->Prop),Inv X pins σ H s->t σ H Q->wpAny (model X.prog X.w) X.A (evalAll ((backToKw pos (keywordEach kws X.env)).map (·.2))) (AP X pins σ Q) X.xe s
section
variable {X:Cx} {CX:CXT} {k:Nat} {f C:Addr} {fd:FuncData} {ps ks:List Str} {sp:Sp} {E:XK} {x m:Str} {p pos apos kpos:Pos} {e o:Expr} {es:List Expr} {kws:List Keyword} {te ta:TE} {t tk:TA} {nm:Option Str}
theorem aw9:PK X [] tNil:=fun _ _ _ _ H Q I h=>wpAny_evalAll_nil ⟨[],H,I,.nil,h⟩
theorem aue (ha:PE X e te) (hr:PK X kws t):PK X (⟨nm,e,kpos⟩ :: kws) (aa4 te t):=by
 intro pos pins s σ H Q I h
 show wpAny _ _ (evalAll ((do let v ← eval e X.env;standAt pos;pure v) :: (backToKw pos (keywordEach kws X.env)).map (·.2))) _ _ s
 refine wpAny_evalAll_cons (wpAny_bind (thn (ha pins s σ H _ I h) fun u s1 ⟨x,H1,I1,r1,q1⟩=>wpAny_bind (wpAny_standAt (wpAny_pure ?_))))
 exact thn (hr pos pins s1 σ H1 _ I1 q1) fun us s2 ⟨xs,H2,I2,r2,q2⟩=>⟨x :: xs,H2,I2,.cons r1 r2,q2⟩
variable {g:List Value->List Value->List Value} {gV:List V->List V->List V}
end
structure FnScope (N P:List Str) (sc:Scope):Prop where
 kind:sc.kind=.function
 co:sc.isCoroutine=false
 gen:sc.isGenerator=false
 nd:N.Nodup
 pre:N.take P.length=P
 par:∀ x∈P,sc.names.lookup x=some .local\/sc.names.lookup x=some .cell
 nofree:∀ y∈sc.names,y.2 ≠ .free
theorem aij {kindOf:Str->Option NameKind} {x:Str}:∀ {binds:List (Str × Value)} {m:Str->Option Value},(∀ v,(x,v) ∉ binds)->bindL kindOf binds m x=m x
 | [],_,_=>rfl
 | (n,v) :: r,m,h=>by
  unfold bindL
  rw [aij fun w hw=>h w (List.mem_cons_of_mem _ hw)]
  split
  ·have:x ≠ n:=by rintro rfl;exact h v List.mem_cons_self
   simp [this]
  ·rfl
theorem aik {kindOf:Str->Option NameKind} {x:Str}:∀ {binds:List (Str × Value)} {m:Str->Option Value},(∀ v,(x,v) ∉ binds)->bindC kindOf binds m x=m x
 | [],_,_=>rfl
 | (n,v) :: r,m,h=>by
  unfold bindC
  rw [aik fun w hw=>h w (List.mem_cons_of_mem _ hw)]
  split
  ·rfl
  ·have:x ≠ n:=by rintro rfl;exact h v List.mem_cons_self
   simp [this]
theorem ail {kindOf:Str->Option NameKind} {x:Str} {v:Value}:∀ {P:List Str} {vs:List Value} {i:Nat} {m:Str->Option Value},P.Nodup->P[i]?=some x->vs[i]?=some v->kindOf x=some .local ->
  bindL kindOf (P.zip vs) m x=some v
 | [],_,_,_,_,h,_,_=>by simp at h
 | _ :: _,[],_,_,_,_,h,_=>by simp at h
 | p :: P,w :: vs,0,m,nd,h1,h2,hk=>by
  simp at h1 h2;subst h1;subst h2
  show bindL kindOf ((p,w) :: P.zip vs) m p=_
  unfold bindL
  rw [aij fun v hv=>(List.nodup_cons.mp nd).1 (List.of_mem_zip hv).1,if_pos hk]
  simp
 | p :: P,w :: vs,i+1,m,nd,h1,h2,hk=>by
  show bindL kindOf ((p,w) :: P.zip vs) m x=_
  unfold bindL
  exact ail (i:=i) (List.nodup_cons.mp nd).2 (by simpa using h1) (by simpa using h2) hk
theorem aim {kindOf:Str->Option NameKind} {x:Str} {v:Value}:∀ {P:List Str} {vs:List Value} {i:Nat} {m:Str->Option Value},P.Nodup->P[i]?=some x->vs[i]?=some v->kindOf x ≠ some .local ->
  bindC kindOf (P.zip vs) m x=some v
 | [],_,_,_,_,h,_,_=>by simp at h
 | _ :: _,[],_,_,_,_,h,_=>by simp at h
 | p :: P,w :: vs,0,m,nd,h1,h2,hk=>by
  simp at h1 h2;subst h1;subst h2
  show bindC kindOf ((p,w) :: P.zip vs) m p=_
  unfold bindC
  rw [aik fun v hv=>(List.nodup_cons.mp nd).1 (List.of_mem_zip hv).1,if_neg hk]
  simp
 | p :: P,w :: vs,i+1,m,nd,h1,h2,hk=>by
  show bindC kindOf ((p,w) :: P.zip vs) m x=_
  unfold bindC
  exact aim (i:=i) (List.nodup_cons.mp nd).2 (by simpa using h1) (by simpa using h2) hk
noncomputable def start (N:List Str) (vs:List V):St:=vs.map some ++ List.replicate (N.length - vs.length) none
noncomputable def cxOf (CX:CXT) (P:Program) (w:World) (K:PySem.W.Frag) (mg:Str->Option Value) (base:Heap) (N:List Str) (qual:Str) (scope:Scope) (f:Addr) (cd:Value) (A:Around) (outer:List Env) (s:Shared) (H:Hp) (E:XK):Cx where
 prog:=P
 w:=w
 K:=K
 mg:=mg
 base:=base
 A:=A.deeper (envOfC qual scope s.heap.objs.size f cd)
 N:=N
 s₀:=s
 H₀:=H
 env:=envOfC qual scope s.heap.objs.size f cd
 outer:=outer
 stack:=envOfC qual scope s.heap.objs.size f cd :: outer
 ex:=[]
 calm:=true
 fn:=fun _=>true
 pn:=[]
 xe:=fun e s'=>wpAny (model P w) (A.deeper (envOfC qual scope s.heap.objs.size f cd)) (leaving (envOfC qual scope s.heap.objs.size f cd) e) (fun _ s''=>CX outer H s E e s'') (fun e' s''=>CX outer H s E e' s'') s'
theorem aj8 {sc:Scope} {n:Nat} {x:Str} (h:sc.names.lookup x=some .cell):∃ c,(cellsFrom n sc.names []).lookup x=some c:=by
 have q:=PySem.W.cellsFrom_some sc.names n [] (.inl h)
 exact Option.isSome_iff_exists.mp q
theorem apj {CX:CXT} {P:Program} {w:World} {K:PySem.W.Frag} {mg:Str->Option Value} {base:Heap} {N ps:List Str} {qual:Str} {scope:Scope} {f:Addr} {cd:Value} {A:Around} {outer:List Env} {s s1:Shared} {H:Hp} {E:XK} {us:List Value} {vs:List V}
  (S:FnScope N ps scope) (hd:A.handled=none) (e0:Env0 P w K mg base A outer s H) (hl:vs.length=ps.length) (r:Vals vs us)
  (x:InCallC s s.heap.objs.size (bindL (envOfC qual scope s.heap.objs.size f cd).kindOf (ps.zip us) fun _=>none) (cellsFrom (s.heap.objs.size+1) scope.names []) (bindC (envOfC qual scope s.heap.objs.size f cd).kindOf (ps.zip us) fun _=>none) s1) :
  Inv (cxOf CX P w K mg base N qual scope f cd A outer s H E) [] (start N vs) H s1:=by
 have hpl:ps.length<=N.length:=by have:=congrArg List.length S.pre;rw [List.length_take] at this;row_cond lo
 obtain ⟨h1,tk,rfl,hk⟩:=x.done
 have noA:∀ b:Addr,b ∉ (cxOf CX P w K mg base N qual scope f cd A outer s H E).ex:=fun b z=>absurd (show b∈([]:List Addr) from z) (by simp)
 refine ⟨⟨e0.mod,S.kind,rfl,rfl,Nat.le_refl _,fun y z c h1 h2=>?_,fun y hy=>?_,fun y c _ h=>?_,fun _=>hd,Around.frames_deeper e0.frames,.inr ⟨rfl,rfl⟩,fun b z=>absurd z (noA b),e0.bs,e0.bsz,fun b _ _=>noA b,fun b z=>absurd z (noA b),e0.funs,e0.frf⟩,
  rfl,e0.bare,Un.kept hk,⟨_,x.toInCall.ns,fun i y v h1 h2 h3=>?_⟩,fun y c h=>⟨_,x.cell y c h⟩,e0.hok.fresh (Nat.le_refl _),fun y c h=>?_,fun p hp=>absurd (show p∈([]:List (Addr × Obj)) from hp) (by simp),e0.hok.kept hk,?_⟩
 ·exact name_of_addr x.apart (PySem.mem_of_lookup h1) (PySem.mem_of_lookup h2)
 ·have hy:scope.names.lookup y=some .cell\/scope.names.lookup y=some .free:=hy
  rcases hy with hy | hy
  ·exact aj8 hy
  ·exact absurd rfl (S.nofree _ (PySem.mem_of_lookup hy))
 ·exact Nat.le_of_lt (x.above y c (PySem.mem_of_lookup h))
 ·have hi:i < vs.length:=by
   unfold start at h2
   by_cases hi:i < vs.length
   ·exact hi
   ·rw [List.getElem?_append_right (by simpa using hi)] at h2
    rw [List.getElem?_replicate] at h2
    split at h2 <;> cases h2
  have ha:vs[i]?=some v:=by
   unfold start at h2
   rw [List.getElem?_append_left (by simpa using hi),List.getElem?_map] at h2
   cases e:vs[i]? with
   | none=>rw [e] at h2;cases h2
   | some a=>rw [e] at h2;cases h2;rfl
  obtain ⟨u,hu,rv⟩:=r.get ha
  have hp:ps[i]?=some y:=by
   rw [← S.pre,List.getElem?_take_of_lt (by row_cond lo)];exact h1
  have ndP:ps.Nodup:=by rw [← S.pre];exact S.nd.sublist (List.take_sublist _ _)
  refine ⟨u,rv,?_⟩
  rcases S.par y (List.mem_of_getElem? hp) with k | k
  ·exact .inl ⟨k,ail ndP hp hu k⟩
  ·obtain ⟨c,e⟩:=aj8 (n:=s.heap.objs.size+1) k
   refine .inr ⟨.inl k,c,e,?_⟩
   have q:=x.cell y c e
   rw [aim ndP hp hu (by show scope.names.lookup y ≠ _;rw [k];decide)] at q
   exact q
 ·exact e0.hok.fresh (Nat.le_of_lt (x.above y c (PySem.mem_of_lookup h)))
 ·unfold start
  show _=N.length
  rw [List.length_append,List.length_map,List.length_replicate]
  row_cond lo
theorem atn {CX:CXT} {P:Program} {w:World} {K:PySem.W.Frag} {mg:Str->Option Value} {base:Heap} {k:Nat} {f:Addr} {name qual:Str} {params:Arguments} {body:List Stmt} {scope:Scope} {dV kV doc pm cdv ct oc:Value} {an od:Option Addr}
  {osl:Array (Option Value)} {N ps:List Str} {sp:Sp} (lk:K.lookup f=some ⟨oc,od,.func (PySem.W.fnOf name qual params body scope dV kV doc pm an cdv ct),osl⟩) (hcd:PySem.W.codeIn K cdv qual=true) (S:FnScope N ps scope)
  (len:∀ vs H Q E,sp vs H Q E->vs.length=ps.length)
  (hbody:∀ (A:Around) (outer:List Env) (s:Shared) (H:Hp) (vs:List V) (Q:VK) (E:XK),Room k (A.deeper (envOfC qual scope s.heap.objs.size f cdv))->sp vs H Q E ->
   ∃ t,PSs (cxOf CX P w K mg base N qual scope f cdv A outer s H E) body t/\t { nx:=fun _ H'=>Q .non H',rt:=Q } (start N vs) H) :
  FnOk P w K mg base CX (k+1) f (PySem.W.fnOf name qual params body scope dV kV doc pm an cdv ct) ps sp:=by
 refine ⟨len,fun A outer s H args us vs Q E hr e0 hb r hsp=>?_⟩
 have hl:=len _ _ _ _ hsp
 have KX:K.In s.heap:=e0.mod.kin.keeps fun b o e=>(e0.bs b o e).1
 have lim:s.heap.NoLimit:=e0.mod.nolimit.keeps fun b o e=>(e0.bs b o e).1
 have hkind:∀ y∈ps.zip us,scope.names.lookup y.1=some .local\/(scope.names.lookup y.1=some .cell/\((cellsFrom (s.heap.objs.size+1) scope.names []).lookup y.1).isSome=true):=fun ⟨n,v⟩ hy=>by
  rcases S.par n (List.of_mem_zip hy).1 with q | q
  ·exact .inl q
  ·exact .inr ⟨q,PySem.W.cellsFrom_some _ _ _ (.inl q)⟩
 refine codeAny_call_function hr.depth (KX _ _ lk) rfl S.co S.gen rfl (PySem.W.codeRec_of KX hcd) (hb _ _ _ _ ?_)
 refine wpAny_newFunctionEnv_cells S.kind hkind fun env he s1 x=>?_
 subst he
 refine ⟨lim.keeps x.toInCall.keep,codeAny_func ?_⟩
 obtain ⟨t,ht,hq⟩:=hbody A outer s H vs Q E (hr.deeper _) hsp
 have I:Inv (cxOf CX P w K mg base N qual scope f cdv A outer s H E) [] (start N vs) H s1:=apj S hr.hd e0 hl r x
 refine wpAny_mono (ht [] s1 (start N vs) H _ I hq) (fun fl s' hs=>?_) fun e s' hs=>hs
 have fin:∀ {σ':St} {H':Hp} {v:V} {u:Value},Inv (cxOf CX P w K mg base N qual scope f cdv A outer s H E) [] σ' H' s'->RelV v u->Q v H'->CE outer P w H s Q u s' :=
  fun {σ' H' v u} J rv q=>⟨v,H',J.os,J.bare,J.base,J.hok,rv,q⟩
 cases fl with
 | ret u =>
  obtain ⟨v,σ',H',J,rv,q⟩:=hs
  exact fin J rv q
 | next =>
  obtain ⟨σ',H',J,q⟩:=hs
  exact fin (v:=V.non) (u:=Value.none) J rfl q
 | brk =>
  obtain ⟨_,_,_,q⟩:=hs
  exact False.elim q
 | cont =>
  obtain ⟨_,_,_,q⟩:=hs
  exact False.elim q
end L2
namespace L2
open PySem PySem.Spec PyProof.Rows
section
variable {X:Cx} {x:Str} {p pos:Pos} {e:Expr} {es:List Expr} {t:TA} {id T:String} {r:List V->Hp->VK->Prop}
def tCB (r:List V->Hp->VK->Prop) (t:TA):TE:=fun σ H Q=>t σ H fun vs H1=>r vs H1 Q
theorem aan (hc:aa9 X (.builtin id) r) (hg:Gl X x) (hm:X.mg x=none) (hv:bootBuiltins x=some (.builtin id)) (ha:PA X (e :: es) t) (hn:x ≠ "__name__":=by decide) (hdb:(x == ("__debug__" : Str))=false:=by decide)
  (he:starEach (e :: es) X.env=(false,eval e X.env) :: starEach es X.env:=by rfl) (hpl:(backTo pos (starEach es X.env)).any (·.1)=false:=by rfl):PE X (.Call (.Name x p) (e :: es) [] pos) (tCB r t):=by
 intro pins s σ H Q I h
 refine wpAny_Call_Name_kw (acb I hg hm hv ?_ hn hdb)
 exact PyProof.Rows.callWith_builtin1 (thn (ha pos pins s σ H _ I h) fun us s1 ⟨vs,H1,I1,r1,q1⟩=>hc pins s1 σ H1 vs us Q I1 r1 q1) he hpl
theorem aep (hc:aa9 X (.type T) r) (hg:Gl X x) (hm:X.mg x=none) (hv:bootBuiltins x=some (.type T)) (ha:PA X (e :: es) t) (hn:x ≠ "__name__":=by decide) (hdb:(x == ("__debug__" : Str))=false:=by decide)
  (he:starEach (e :: es) X.env=(false,eval e X.env) :: starEach es X.env:=by rfl) (hpl:(backTo pos (starEach es X.env)).any (·.1)=false:=by rfl):PE X (.Call (.Name x p) (e :: es) [] pos) (tCB r t):=by
 intro pins s σ H Q I h
 refine wpAny_Call_Name_kw (acb I hg hm hv ?_ hn hdb)
 exact PyProof.Rows.callWith_type1 (thn (ha pos pins s σ H _ I h) fun us s1 ⟨vs,H1,I1,r1,q1⟩=>hc pins s1 σ H1 vs us Q I1 r1 q1) he hpl
end
end L2
namespace HT
open PySem PyProof.Rows
noncomputable def lexLt:List Int->List Int->Bool
 | [],[]=>false
 | [],_ :: _=>true
 | _ :: _,[]=>false
 | x :: xs,y :: ys=>if x=y then lexLt xs ys else decide (x < y)
theorem aea (x y:Int) (xs ys:List Int):lexLt (x :: xs) (y :: ys)=if x=y then lexLt xs ys else decide (x < y):=rfl
theorem aq6 (A:Around) (s:Shared) (a:Int) (t:Tok) (c:Int) (u:Tok) (prog:Program) (w:World) (E:Value->Shared->Prop) (Q:Value->Shared->Prop) (h:Q (.bool (decide (a < c))) s) :
  wpAny (model prog w) A (richCompare .Lt (.int a t) (.int c u)) Q E s :=
 (PyProof.Rows.lt_int h:wpAny (model prog w) A (compareOp .Lt (.int a t) (.int c u)) Q E s)
section
open PySem.SeqAt
open PySem.AutoSeq1 (wpAny_loadPart')
open PySem.MeetsSeq PySem.MeetsSeq2 PySem.MeetsSeq3
end
section
variable {prog:Program} {w:World} {A:Around} {E:Value->Shared->Prop} {s:Shared}
noncomputable def sIx (n d:Nat):Option Int->Nat
 | none=>d
 | some v=>if v < 0 then (v+(n:Int)).toNat else min v.toNat n
end
end HT
namespace L2
open PySem PySem.Spec PyProof.Rows
noncomputable abbrev TO:=St->Hp->(Option Int->Hp->Prop)->Prop
def PO (X:Cx) (e:Option Expr) (t:TO):Prop :=
 ∀ (pins:List (Addr × Obj)) (s:Shared) (σ:St) (H:Hp) (Q:Option Int->Hp->Prop),Inv X pins σ H s->t σ H Q ->
  wpAny (model X.prog X.w) X.A (evalPart e X.env) (fun u s'=>∃ o H',Inv X pins σ H' s'/\IsPart u o/\Q o H') X.xe s
def amp:TO:=fun _ H Q=>Q none H
def ato (t:TE):TO:=fun σ H Q=>t σ H fun x H1=>∃ i,x=.int i/\Q (some i) H1
theorem ab5 {ns:List Int}:∀ {us:List Value},Vals (ns.map V.int) us->IntsAre us ns:=by
 induction ns with
 | nil=>intro us r;rw [List.map_nil] at r;cases r;exact .nil
 | cons n ns ih =>
  intro us r
  rw [List.map_cons] at r
  cases r with
  | cons r1 r2 =>
   obtain ⟨t,e⟩:=r1
   subst e
   exact .cons n t (ih r2)
section
variable {X:Cx} {e:Expr} {te:TE} {lo hi:Option Expr} {tl th:TO} {pos p2:Pos}
theorem amq:PO X none amp:=by
 intro pins s σ H Q I h
 rw [evalPart_none]
 exact wpAny_pure ⟨none,H,I,.none,h⟩
theorem amr (h:PE X e te):PO X (some e) (ato te):=by
 intro pins s σ H Q I hw
 rw [evalPart_some]
 refine thn (h pins s σ H _ I hw) fun u s1 ⟨x,H1,I1,r1,q1⟩=>?_
 obtain ⟨i,rfl,q⟩:=q1
 obtain ⟨t,rfl⟩:=r1
 exact ⟨some i,H1,I1,.int i t,q⟩
def SlR (X:Cx) (r:V->Option Int->Option Int->Hp->VK->Prop):Prop :=
 ∀ (pins:List (Addr × Obj)) (s:Shared) (σ:St) (H:Hp) (x:V) (v vl vu:Value) (lo hi:Option Int) (sl:Addr) (Q:VK),Inv X pins σ H s->RelV x v->s.heap.IsSliceOf sl vl vu .none->IsPart vl lo->IsPart vu hi->r x lo hi H Q ->
  ∃ T id,typeLookup (.type T) "__getitem__" = pure (some (.builtin id))/\s.TypeIs v T/\wpAny (model X.prog X.w) X.A (getItem v (.ref sl)) (EP X pins σ Q) X.xe s
def tSl (r:V->Option Int->Option Int->Hp->VK->Prop) (te:TE) (tl th:TO):TE:=fun σ H Q=>te σ H fun x H1=>tl σ H1 fun l H2=>th σ H2 fun u H3=>r x l u H3 Q
theorem aj9 {r:V->Option Int->Option Int->Hp->VK->Prop} (hr:SlR X r) (he:PE X e te) (hl:PO X lo tl) (hu:PO X hi th):PE X (.Subscript e (.Slice lo hi none p2) pos) (tSl r te tl th):=by
 intro pins s σ H Q I h
 refine Subscript_ (thn (he pins s σ H _ I h) fun v s1 ⟨x,H1,I1,r1,q1⟩=>?_)
 refine wpAny_Slice (thn (hl pins s1 σ H1 _ I1 q1) fun vl s2 ⟨l,H2,I2,pl,q2⟩=>thn (hu pins s2 σ H2 _ I2 q2) fun vu s3 ⟨u,H3,I3,pu,q3⟩=>?_)
 rw [evalPart_none]
 refine wpAny_pure ?_
 have I4:Inv X pins σ H3 { s3 with heap:=s3.heap.push { cls:=.type "slice",data:=.fields #[vl,vu,.none] } }:=I3.kept (t':=s3.toks) fun b ob q=>Heap.get?_push_of_some _ q
 obtain ⟨T,id,hT,ht,hg⟩:=hr pins { s3 with heap:=s3.heap.push { cls:=.type "slice",data:=.fields #[vl,vu,.none] } } σ H3 x v vl vu l u s3.heap.objs.size Q I4 r1 (Heap.IsSliceOf.new ..) pl pu q3
 show wpAny (model X.prog X.w) X.A (subscriptTail e (.Slice lo hi none p2) v (.ref s3.heap.objs.size)) (EP X pins σ Q) X.xe { s3 with heap:=s3.heap.push { cls:=.type "slice",data:=.fields #[vl,vu,.none] } }
 exact tail_any (ops:=[.ref s3.heap.objs.size,v]) ht hT hg (by with_unfolding_all rfl)
noncomputable def cutV (xs:List V) (lo hi:Option Int):List V:=(xs.drop (HT.sIx xs.length 0 lo)).take (HT.sIx xs.length xs.length hi - HT.sIx xs.length 0 lo)
theorem al4 (xs:List V) (lo hi:Option Int):(cutV xs lo hi).length<=xs.length:=by
 unfold cutV
 rw [List.length_take,List.length_drop]
 row_cond lo
end
end L2
namespace L2
open PySem PySem.Spec PyProof.Rows
noncomputable def ixN (n:Nat) (i:Int):Option Nat:=if 0<=i then (if i < n then some i.toNat else none) else if -(n:Int)<=i then some (i+n).toNat else none
noncomputable def atI {α:Type} (xs:List α) (i:Int):Option α:=(ixN xs.length i).bind fun j=>xs[j]?
theorem ams {n:Nat} {i:Int} {j:Nat} (h:ixN n i=some j):seqIndex? i n=some j/\j < n/\-(n:Int)<=i/\i < n:=by
 unfold ixN at h
 by_cases h0:0<=i
 ·rw [if_pos h0] at h
  by_cases h1:i < n
  ·rw [if_pos h1] at h
   have e:i.toNat=j:=Option.some.inj h
   exact ⟨by rw [seqIndex_of h0 h1,e],by row_cond lo,by row_cond lo,h1⟩
  ·rw [if_neg h1] at h;cases h
 ·rw [if_neg h0] at h
  by_cases h1 : -(n:Int)<=i
  ·rw [if_pos h1] at h
   have e:(i+n).toNat=j:=Option.some.inj h
   exact ⟨by rw [seqIndex_neg (by row_cond lo) h1,e],by row_cond lo,h1,by row_cond lo⟩
  ·rw [if_neg h1] at h;cases h
theorem amt {α:Type} {xs:List α} {i:Int} {v : α} (h:atI xs i=some v):∃ j,seqIndex? i xs.length=some j/\xs[j]?=some v/\j < xs.length/\-(xs.length:Int)<=i/\i < xs.length:=by
 unfold atI at h
 cases e:ixN xs.length i with
 | none=>rw [e] at h;cases h
 | some j =>
  rw [e] at h
  obtain ⟨h1,h2,h3,h4⟩:=ams e
  exact ⟨j,h1,h,h2,h3,h4⟩
theorem afa {α:Type} {xs:List α} {j:Nat} {v : α} (h:xs[j]?=some v):atI xs (j:Int)=some v:=by
 have hj:j < xs.length:=(List.getElem?_eq_some_iff.mp h).1
 have e:ixN xs.length (j:Int)=some j:=by
  unfold ixN
  rw [if_pos (by row_cond lo),if_pos (by row_cond lo)];simp
 unfold atI;rw [e];exact h
def auf (b:Expr):Prop:=∀ o i,subscripted b false o i=operate [o,i] (getItem o i)
def IxR (X:Cx) (r:R2):Prop :=
 ∀ (value slice:Expr) (pins:List (Addr × Obj)) (s:Shared) (σ:St) (H:Hp) (x y:V) (v u:Value) (Q:VK),Inv X pins σ H s->RelV x v->RelV y u->r x y H Q ->
  subscripted slice false v u=operate [v,u] (getItem v u)->wpAny (model X.prog X.w) X.A (subscriptTail value slice v u) (EP X pins σ Q) X.xe s
def MtR (X:Cx) (id:String) (r:V->List V->Hp->VK->Prop):Prop :=
 ∀ (pins:List (Addr × Obj)) (s:Shared) (σ:St) (H:Hp) (x:V) (xs:List V) (v:Value) (us:List Value) (Q:VK),Inv X pins σ H s->RelV x v->Vals xs us->r x xs H Q ->
  wpAny (model X.prog X.w) X.A (call (.builtin id) (v :: us)) (EP X pins σ Q) X.xe s
section
variable {X:Cx} {a b:Expr} {ta tb:TE} {pos:Pos}
theorem IxR.or {r r':R2} (h:IxR X r) (h':IxR X r'):IxR X (fun x y H Q=>r x y H Q\/r' x y H Q):=by
 intro value slice pins s σ H x y v u Q I rx ry q hs
 rcases q with q | q
 ·exact h value slice pins s σ H x y v u Q I rx ry q hs
 ·exact h' value slice pins s σ H x y v u Q I rx ry q hs
theorem aay {r:R2} (hr:IxR X r) (ha:PE X a ta) (hb:PE X b tb) (hs:auf b):PE X (.Subscript a b pos) (tOp r ta tb):=by
 intro pins s σ H Q I h
 exact Subscript_ (binT ha hb I h fun v u s2 x y H2 I2 rx ry q=>hr a b pins s2 σ H2 x y v u Q I2 rx ry q (hs _ _))
def rIxL (K:PySem.W.Frag):R2:=fun x y H Q=>∃ p xs i v,x=.ref p/\y=.int i/\SqL K H p xs/\atI xs i=some v/\Q v H
def rIxT (K:PySem.W.Frag):R2:=fun x y H Q=>∃ p xs i v,x=.ref p/\y=.int i/\SqT K H p xs/\atI xs i=some v/\Q v H
theorem ix_list:IxR X (rIxL X.K):=by
 intro value slice pins s σ H x y v u Q I rx ry h hs
 obtain ⟨p,xs,i,z,rfl,rfl,hq,he,q⟩:=h
 cases rx
 obtain ⟨t,rfl⟩:=ry
 obtain ⟨its,r,pl,hz⟩:=I.list hq
 obtain ⟨j,h1,h2,h3,h4,h5⟩:=amt he
 obtain ⟨w,ew,rw'⟩:=r.get h2
 have hl:=r.length
 have hn:=aeo
 have fin:EP X pins σ Q w s:=⟨z,H,I,rw',q⟩
 by_cases h0:0<=i
 ·have hj:i.toNat=j:=by
   rw [seqIndex_of h0 h5] at h1
   exact Option.some.inj h1
  exact item_listR pl.isList h0 (by row_cond lo) (by rw [hj];simpa using ew) fin hs
 ·have hj:(i+(its.toArray.size:Int)).toNat=j:=by
   rw [seqIndex_neg (by row_cond lo) h4] at h1
   rw [List.size_toArray,← hl]
   exact Option.some.inj h1
  exact subscriptTail_builtinR (x:=w) pl.isList.typeIs slot_list_getitem.lookup
   (wpAny_getItem_list_neg (Q:=fun r s'=>r=w/\EP X pins σ Q r s') pl.isList (by row_cond lo) (by rw [List.size_toArray] <;> row_cond lo) (by row_cond lo) (by rw [hj];simpa using ew) ⟨rfl,fin⟩) hs
theorem axa:IxR X (rIxT X.K):=by
 intro value slice pins s σ H x y v u Q I rx ry h hs
 obtain ⟨p,xs,i,z,rfl,rfl,hq,he,q⟩:=h
 cases rx
 obtain ⟨t,rfl⟩:=ry
 obtain ⟨its,r,pl,hz⟩:=I.tuple hq
 obtain ⟨j,h1,h2,h3,h4,h5⟩:=amt he
 obtain ⟨w,ew,rw'⟩:=r.get h2
 have hl:=r.length
 have hn:=aeo
 have fin:EP X pins σ Q w s:=⟨z,H,I,rw',q⟩
 exact subscriptTail_builtinR (x:=w) pl.typeIs slot_tuple_getitem.lookup
  (getItem_tuple (j:=j) (Q:=fun r s'=>r=w/\EP X pins σ Q r s') pl (by row_cond lo) (by row_cond lo) (by rw [List.size_toArray,← hl];exact h1) (by simpa using ew) ⟨rfl,fin⟩) hs
theorem aof (its:List Value) (n j:Nat) (u:Value):Obj.mapSeq (·.setIfInBounds j u) { cls:=.type "list",data:=.seq its.toArray n }={ cls:=.type "list",data:=.seq (its.set j u).toArray n }:=by
 simp [Obj.mapSeq]
theorem Inv.lst {pins:List (Addr × Obj)} {σ:St} {H:Hp} {s:Shared} {p:Addr} {xs:List V} (I:Inv X pins σ H s) (h:H p=some (.lst xs)) :
  ∃ (its:List Value) (n:Nat),Vals xs its/\s.heap.get? p=some { cls:=.type "list",data:=.seq its.toArray n }/\xs.length<=sizeLine:=by
 obtain ⟨z,its,n,r,e⟩:=I.hok p _ h
 exact ⟨its,n,r,e,z⟩
theorem Inv.lstUpd {pins:List (Addr × Obj)} {σ:St} {H:Hp} {s:Shared} {p:Addr} {xs ys:List V} {its its':List Value} {n n':Nat} {f:Obj->Obj} (I:Inv X pins σ H s) (h:H p=some (.lst xs))
  (ho:s.heap.get? p=some { cls:=.type "list",data:=.seq its.toArray n }) (hf:f { cls:=.type "list",data:=.seq its.toArray n }={ cls:=.type "list",data:=.seq its'.toArray n' }) (r:Vals ys its') (hz:ys.length<=sizeLine) (t:Nat) :
  Inv X pins σ (upd H p (.lst ys)) { s with heap:=s.heap.update p f,toks:=t }:=by
 have e:(s.heap.update p f).get? p=some { cls:=.type "list",data:=.seq its'.toArray n' }:=by
  rw [Heap.get?_update_self f ho (by rw [hf] <;> rfl),hf]
 refine I.write (x:=p) (e:=p) (by rw [h];trivial) (.inl rfl) (fun b u hb q=>(Heap.get?_update_other _ _ (Ne.symm hb)).trans q) ⟨_,e⟩ ?_
 exact ⟨hz,its',n',r,e⟩
def aog:V->V->V->Hp->(Hp->Prop)->Prop:=fun o i v H Q=>∃ p xs k j,o=.ref p/\i=.int k/\H p=some (.lst xs)/\ixN xs.length k=some j/\Q (upd H p (.lst (xs.set j v)))
theorem aeb:PSet X aog:=by
 intro pins s σ H o i v ov iv u Q I ro ri rv h
 obtain ⟨p,xs,k,j,rfl,rfl,hp,hj,q⟩:=h
 cases ro
 obtain ⟨t,rfl⟩:=ri
 obtain ⟨its,n,r,ho,hz⟩:=I.lst hp
 obtain ⟨h1,h2,h3,h4⟩:=ams hj
 have hl:=r.length
 have hn:=aeo
 have I':Inv X pins σ (upd H p (.lst (xs.set j v))) { s with heap:=s.heap.update p (Obj.mapSeq (·.setIfInBounds j u)) } :=
  I.lstUpd hp ho (aof its n j u) (r.set rv j) (by rw [List.length_set];exact hz) s.toks
 by_cases h0:0<=k
 ·have hk:k.toNat=j:=by
   rw [seqIndex_of h0 h4] at h1
   exact Option.some.inj h1
  exact PySem.W.ki_setAt ho h0 (by row_cond lo) (by rw [List.size_toArray,← hl];exact h4) (by rw [hk];exact ⟨_,I',q⟩)
 ·have hk:(k+(its.toArray.size:Int)).toNat=j:=by
   rw [seqIndex_neg (by row_cond lo) h3] at h1
   rw [List.size_toArray,← hl]
   exact Option.some.inj h1
  exact PySem.W.ki_setBack ho (by row_cond lo) (by rw [List.size_toArray,← hl];exact h3) (by row_cond lo) (by rw [hk];exact ⟨_,I',q⟩)
theorem aka (lo hi:Option Int) (n:Nat):(sliceBounds lo hi none n).1=((HT.sIx n 0 lo:Nat):Int)/\(sliceBounds lo hi none n).2.1=((HT.sIx n n hi:Nat):Int)/\(sliceBounds lo hi none n).2.2=1:=by
 refine ⟨?_,?_,rfl⟩
 ·cases lo with
  | none=>simp [sliceBounds,HT.sIx]
  | some i =>
   simp only [sliceBounds,HT.sIx,Option.getD_none,show (1:Int) > 0 by decide,if_true]
   by_cases h:i < 0
   ·simp only [h,if_true] <;> row_cond lo
   ·simp only [h,if_false] <;> row_cond lo
 ·cases hi with
  | none=>simp [sliceBounds,HT.sIx]
  | some i =>
   simp only [sliceBounds,HT.sIx,Option.getD_none,show (1:Int) > 0 by decide,if_true]
   by_cases h:i < 0
   ·simp only [h,if_true] <;> row_cond lo
   ·simp only [h,if_false] <;> row_cond lo
theorem ai6 (its:List Value) (lo hi:Option Int):slicePick its.toArray lo hi none=((its.drop (HT.sIx its.length 0 lo)).take (HT.sIx its.length its.length hi - HT.sIx its.length 0 lo)).toArray:=by
 obtain ⟨h1,h2,h3⟩:=aka lo hi its.toArray.size
 unfold slicePick
 rw [h1,h2,h3]
 simp only [sliceRange_one,pick_run,List.size_toArray] <;> rfl
def rSlL (K:PySem.W.Frag):V->Option Int->Option Int->Hp->VK->Prop:=fun x lo hi H Q=>∃ a xs,x=.ref a/\SqL K H a xs/\∀ p,H p=none->Q (.ref p) (upd H p (.lst (cutV xs lo hi)))
theorem amu:SlR X (rSlL X.K):=by
 intro pins s σ H x v vl vu lo hi sl Q I rx hs pl pu h
 obtain ⟨a,xs,rfl,hx,q⟩:=h
 cases rx
 obtain ⟨its,r,ht,hz⟩:=I.list hx
 have hlen:=r.length
 refine ⟨"list",_,slot_list_getitem.lookup,ht.isList.typeIs,?_⟩
 refine wpAny_getItem_list_slice ht.isList hs pl pu .none (by simp) ?_ (by rw [List.size_toArray] <;> row_cond lo)
 rw [ai6,← hlen]
 refine ⟨.ref s.heap.objs.size,_,I.laid (t':=s.toks) (o:=.lst (cutV xs lo hi)) (fun b ob q=>Heap.get?_push_of_some _ q) (Nat.le_refl _) ?_,rfl,q _ (I.hok.fresh (Nat.le_refl _))⟩
 exact ⟨Nat.le_trans (al4 xs lo hi) hz,_,0,(r.drop (HT.sIx xs.length 0 lo)).take (HT.sIx xs.length xs.length hi - HT.sIx xs.length 0 lo),Heap.get?_push_size _ rfl⟩
theorem akb:aa9 X (.builtin "len") (fun xs H Q=>∃ p ys,xs=[.ref p]/\(SqL X.K H p ys\/SqT X.K H p ys)/\Q (.int ys.length) H):=by
 intro pins s σ H xs us Q I r h
 obtain ⟨p,ys,rfl,hq,q⟩:=h
 obtain ⟨u,rfl,rx⟩:=acn r
 cases rx
 have hn:=aeo
 rcases hq with hq | hq
 ·obtain ⟨its,r',pl,hz⟩:=I.list hq
  have hlen:=r'.length
  exact Calls.call_len_list pl.isList (by simp only [List.size_toArray] <;> row_cond lo) ⟨.int ys.length,H,I.tok _,⟨s.toks+1,by rw [List.size_toArray,hlen]⟩,q⟩
 ·obtain ⟨its,r',pl,hz⟩:=I.tuple hq
  have hlen:=r'.length
  exact len_tuple pl (by simp only [List.size_toArray] <;> row_cond lo) ⟨.int ys.length,H,I.tok _,⟨s.toks+1,by rw [List.size_toArray,hlen]⟩,q⟩
theorem akc:aa9 X (.type "list") (fun xs H Q=>∃ p ys,xs=[.ref p]/\(SqL X.K H p ys\/SqT X.K H p ys)/\∀ l,H l=none->Q (.ref l) (upd H l (.lst ys))):=by
 intro pins s σ H xs us Q I r h
 obtain ⟨p,ys,rfl,hq,q⟩:=h
 obtain ⟨u,rfl,rx⟩:=acn r
 cases rx
 have fin:∀ (its:List Value),Vals ys its->ys.length<=sizeLine->∀ (h':Heap) (c':Nat),(∀ b o',s.heap.get? b=some o'->h'.get? b=some o') ->
   h'.get? s.heap.objs.size=some { cls:=.type "list",dict:=none,data:=.seq its.toArray c',slots:=#[] }->EP X pins σ Q (.ref s.heap.objs.size) { s with heap:=h' }:=fun its r' hz h' c' kp e =>
  ⟨.ref s.heap.objs.size,_,I.laid (t':=s.toks) kp (Nat.le_refl _) (show ObjOk X.prog X.w _ h' _ (.lst ys) from ⟨hz,its,c',r',e⟩),rfl,q _ (I.hok.fresh (Nat.le_refl _))⟩
 rcases hq with hq | hq
 ·obtain ⟨its,r',pl,hz⟩:=I.list hq
  have hlen:=r'.length
  obtain ⟨o,ho,hc,n,hd⟩:=pl.isList
  exact call_list_seq p (.inl rfl) ho hc hd (fun h' c' kp e=>fin its r' hz h' c' kp e) (by simp only [List.size_toArray] <;> row_cond lo)
 ·obtain ⟨its,r',pl,hz⟩:=I.tuple hq
  have hlen:=r'.length
  obtain ⟨o,ho,hc,n,hd⟩:=pl
  exact call_list_seq p (.inr rfl) ho hc hd (fun h' c' kp e=>fin its r' hz h' c' kp e) (by simp only [List.size_toArray] <;> row_cond lo)
def tyV (K:PySem.W.Frag) (T:String) (x:V) (H:Hp):Prop:=match x with
 | .str _=>T = "str"
 | .int _=>T = "int"
 | .ref p=>(T = "list"/\∃ xs,SqL K H p xs)\/(T = "tuple"/\∃ o,K.lookup p=some o/\o.cls=.type "tuple"/\o.dict=none) ∨
   (T = "dict"/\((∃ kvs,H p=some (.dK kvs))\/∃ kvs,H p=some (.dT kvs)))\/(T = "set"/\∃ S n,H p=some (.set S n))
 | _=>False
theorem axb {pins:List (Addr × Obj)} {σ:St} {H:Hp} {s:Shared} {T:String} {x:V} {v:Value} (I:Inv X pins σ H s) (r:RelV x v) (ty:tyV X.K T x H) :
  s.TypeIs v T/\∀ a,v=.ref a->∃ ob,s.heap.get? a=some ob/\ob.dict=none:=by
 cases x with
 | str z =>
  obtain ⟨t,rfl⟩:=r
  cases (show T = "str" from ty)
  exact ⟨typeIs_str s z t,fun _ e=>nomatch e⟩
 | int i =>
  obtain ⟨t,rfl⟩:=r
  cases (show T = "int" from ty)
  exact ⟨typeIs_int s i t,fun _ e=>nomatch e⟩
 | ref p =>
  cases r
  rcases ty with ⟨rfl,xs,hq⟩ | ⟨rfl,o,hk,hc,hd⟩ | ⟨rfl,hk⟩ | ⟨rfl,S,n,hk⟩
  ·obtain ⟨its,_,pl,_⟩:=I.list hq
   refine ⟨pl.isList.typeIs,fun a e=>?_⟩
   cases e
   obtain ⟨o,n,e,c,hd,_⟩:=pl
   exact ⟨o,e,hd⟩
  ·refine ⟨⟨o,I.kIn p o hk,hc⟩,fun a e=>?_⟩
   cases e
   exact ⟨o,I.kIn _ o hk,hd⟩
  ·have z:∃ o,s.heap.get? p=some o/\o.ExactDict:=by
    rcases hk with ⟨kvs,hk⟩ | ⟨kvs,hk⟩
    ·obtain ⟨_,_,_,_,o,_,_,e,ex,_⟩:=I.hok p _ hk
     exact ⟨o,e,ex⟩
    ·obtain ⟨_,_,_,_,o,_,_,e,ex,_⟩:=I.hok p _ hk
     exact ⟨o,e,ex⟩
   obtain ⟨o,e,ex⟩:=z
   refine ⟨⟨o,e,ex.1⟩,fun a e2=>?_⟩
   cases e2
   exact ⟨o,e,ex.2.1⟩
  ·obtain ⟨o,_,_,_,e,ex,_⟩:=I.hok p _ hk
   refine ⟨⟨o,e,ex.1⟩,fun a e2=>?_⟩
   cases e2
   exact ⟨o,e,ex.2.1⟩
 | _=>exact False.elim ty
def tBM (K:PySem.W.Frag) (T:String) (r:V->List V->Hp->VK->Prop) (to:TE) (t:TA):TE:=fun σ H Q=>to σ H fun x H1=>tyV K T x H1/\t σ H1 fun xs H2=>r x xs H2 Q
variable {o e:Expr} {es:List Expr} {to:TE} {t:TA} {name:Str} {apos cpos:Pos} {T id:String} {r:V->List V->Hp->VK->Prop}
theorem aco (pa:PlainAttrs T) (slot:Slot T name id) (hty:typeOf (.builtin id)=pure (.type "method_descriptor")) (hm:MtR X id r) (ho:PE X o to) (ha:PA X (e :: es) t)
  (hbase:attributeBase o name X.env (eval o X.env)=eval o X.env:=by rfl)
  (hfew:((backTo cpos (starEach (e :: es) X.env)).all (fun x => !x.1) && (backToKw cpos (keywordEach [] X.env)).all (fun x=>x.1.isSome)
   && decide ((e :: es).length+([]:List Keyword).length+(if ([]:List Keyword).isEmpty then 0 else 1) < 30))=true:=by rfl)
  (hline:(apos.endLine == cpos.line)=true:=by rfl) (hs:starEach (e :: es) X.env=(false,eval e X.env) :: starEach es X.env:=by rfl) (hplain:(backTo cpos (starEach es X.env)).any (·.1)=false:=by rfl) :
  PE X (.Call (.Attribute o name apos) (e :: es) [] cpos) (tBM X.K T r to t):=by
 intro pins s σ H Q I h
 refine wpAny_Call_method_late hbase hfew hline rfl (thn (ho pins s σ H _ I h) fun v s1 ⟨x,H1,I1,r1,ty,q1⟩=>?_)
 obtain ⟨h1,h2⟩:=axb I1 r1 ty
 refine ⟨T,id,pa,slot,hty,h1,h2,?_⟩
 have hA:=ha cpos pins s1 σ H1 _ I1 q1
 rw [hs] at hA ⊢
 refine Calls.callWith_builtin (by show (false || (backTo cpos (starEach es X.env)).any (·.1))=false;rw [hplain] <;> rfl) (Calls.evalArgs_plain ?_)
 exact thn hA fun us s2 ⟨vs,H2,I2,r2,q2⟩=>hm pins s2 σ H2 x vs v us Q I2 r1 r2 q2
/- xs.append(e), list.index on a module's tuple .. are MtR facts of 06m -/
end
end L2
namespace L2
open PySem PySem.Spec PyProof.Rows
def MtM (X:Cx) (id:String) (r:V->List V->Hp->VK->Prop):Prop :=
 ∀ (pins:List (Addr × Obj)) (s:Shared) (σ:St) (H:Hp) (x:V) (xs:List V) (v:Value) (us:List Value) (Q:VK),Inv X pins σ H s->RelV x v->Vals xs us->r x xs H Q ->
  wpAny (model X.prog X.w) X.A (call (.builtin id) (v :: us)) (EP X pins σ Q) X.xe s
theorem Vals.one:∀ {x:V} {us:List Value},Vals [x] us->∃ u,us=[u]/\RelV x u
 | _,_,.cons r .nil=>⟨_,rfl,r⟩
theorem Vals.eraseIdx:∀ {xs:List V} {us:List Value} (i:Nat),Vals xs us->Vals (xs.eraseIdx i) (us.eraseIdx i)
 | _,_,_,.nil => .nil
 | _,_,0,.cons _ t=>t
 | _,_,i+1,.cons r t => .cons r (Vals.eraseIdx i t)
theorem Vals.reverse {xs:List V} {us:List Value} (h:Vals xs us):Vals xs.reverse us.reverse:=by
 induction h with
 | nil=>exact .nil
 | cons r t ih=>rw [List.reverse_cons,List.reverse_cons];exact Vals.append ih (.cons r .nil)
theorem Vals.rep {xs:List V} {us:List Value} (h:Vals xs us):∀ k:Nat,Vals (List.replicate k xs).flatten (List.replicate k us).flatten
 | 0 => .nil
 | k+1=>by
  rw [List.replicate_succ,List.replicate_succ,List.flatten_cons,List.flatten_cons]
  exact Vals.append h (Vals.rep h k)
theorem ain {α:Type}:∀ (l:List α) (i:Nat),(l.eraseIdx i).length<=l.length
 | [],_=>Nat.le_refl _
 | _ :: _,0=>Nat.le_succ _
 | _ :: r,i+1=>Nat.succ_le_succ (ain r i)
theorem aio (its:List Value):∀ (k:Nat) (acc:List Value),
  List.foldl (fun x1 x2=>x1 ++ x2) acc.toArray (List.replicate k its.toArray)=(acc ++ (List.replicate k its).flatten).toArray
 | 0,acc=>by simp
 | k+1,acc=>by
  have e:acc.toArray ++ its.toArray=(acc ++ its).toArray:=by simp
  have e2:(acc ++ its) ++ (List.replicate k its).flatten=acc ++ (List.replicate (k+1) its).flatten:=by
   rw [List.replicate_succ,List.flatten_cons,List.append_assoc]
  rw [← e2,← aio its k (acc ++ its),← e,List.replicate_succ,List.foldl_cons]
section
variable {X:Cx} {pins:List (Addr × Obj)} {σ:St} {H:Hp} {s:Shared} {l b:Addr} {xs ys zs:List V}
theorem Inv.lset {its its':List Value} {n:Nat} {f:Array Value->Array Value} {t':Nat} (I:Inv X pins σ H s) (hH:H l=some (.lst xs))
  (e:s.heap.get? l=some { cls:=.type "list",data:=.seq its.toArray n }) (hf:f its.toArray=its'.toArray) (hv:Vals ys its') (hz:ys.length<=sizeLine) :
  Inv X pins σ (upd H l (.lst ys)) { s with heap:=s.heap.update l (Obj.mapSeq f),toks:=t' }:=by
 have q:=PySem.IsL.update e f
 rw [hf] at q
 refine I.write (x:=l) (e:=l) (by rw [hH];exact trivial) (.inl rfl) (fun b' u hb hu=>(Heap.get?_update_other s.heap (Obj.mapSeq f) (Ne.symm hb)).trans hu) ⟨_,q⟩ ?_
 exact ⟨hz,its',_,hv,q⟩
theorem Inv.lnew {its:List Value} {t':Nat} (I:Inv X pins σ H s) (hv:Vals ys its) (hz:ys.length<=sizeLine) :
  Inv X pins σ (upd H s.heap.objs.size (.lst ys)) { s with heap:=s.heap.push { cls:=.type "list",data:=.seq its.toArray },toks:=t' } :=
 I.laid (fun _ _ q=>Heap.get?_push_of_some _ q) (Nat.le_refl _) ⟨hz,its,0,hv,Heap.get?_push_size _ rfl⟩
theorem Inv.fresh (I:Inv X pins σ H s):H s.heap.objs.size=none:=I.hok.fresh (Nat.le_refl _)
theorem Inv.lstM (I:Inv X pins σ H s) (hH:H l=some (.lst xs)):xs.length<=sizeLine/\∃ (its:List Value) (n:Nat),Vals xs its/\xs.length=its.length/\s.heap.get? l=some { cls:=.type "list",data:=.seq its.toArray n }:=by
 obtain ⟨z,its,n,r,e⟩:=I.hok l _ hH
 exact ⟨z,its,n,r,r.length,e⟩
theorem aq7 {n:Nat} (h:n<=sizeLine):Builtin.List.listTooLong n=false:=by
 unfold Builtin.List.listTooLong
 exact decide_eq_false (by row_cond lo)
end
section
variable {X:Cx}
def ad5:V->List V->Hp->VK->Prop:=fun x vs H Q=>∃ l xs y,x=.ref l/\vs=[y]/\H l=some (.lst xs)/\xs.length < sizeLine/\Q .non (upd H l (.lst (xs ++ [y])))
theorem abq:MtM X "list.append" ad5:=by
 intro pins s σ H x vs v us Q I rx rv h
 obtain ⟨l,xs,y,rfl,rfl,hH,hz,q⟩:=h
 cases rx
 obtain ⟨u,rfl,ru⟩:=rv.one
 obtain ⟨z,its,n,r,hl,e⟩:=I.lstM hH
 refine call_meets F.slot_list_append ⟨_,e,rfl⟩ F.entry_list_append (F.args_list_append_2 _ _) (PySem.list_append l its.toArray n u (by rw [List.size_toArray];row_cond lo)) ⟨e,?_⟩
 refine ⟨.non,_,I.lset (its':=its ++ [u]) hH e (by simp) (r.append (.cons ru .nil)) ?_,rfl,q⟩
 rw [List.length_append,List.length_singleton]
 row_cond lo
def agq:V->List V->Hp->VK->Prop:=fun x vs H Q=>∃ l xs i k y,x=.ref l/\vs=[.int i]/\H l=some (.lst xs)/\-(2 ^ 63)<=i/\i < 2 ^ 63/\seqIndex? i xs.length=some k/\xs[k]?=some y/\Q y (upd H l (.lst (xs.eraseIdx k)))
theorem aq8:MtM X "list.pop" agq:=by
 intro pins s σ H x vs v us Q I rx rv h
 obtain ⟨l,xs,i,k,y,rfl,rfl,hH,h1,h2,hk,hy,q⟩:=h
 cases rx
 obtain ⟨u,rfl,ru⟩:=rv.one
 obtain ⟨t,rfl⟩:=ru
 obtain ⟨z,its,n,r,hl,e⟩:=I.lstM hH
 obtain ⟨w,hw,rw'⟩:=r.get hy
 refine call_meets F.slot_list_pop ⟨_,e,rfl⟩ F.entry_list_pop (F.args_list_pop_2 _ _)
  (MeetsSeq.list_pop_at l its.toArray n i t k w (fitsIndex_both h1 h2) (by rw [List.size_toArray,← hl];exact hk) (by rw [← Array.getElem?_toList];exact hw) (by rw [List.size_toArray];row_cond lo)) ⟨e,?_⟩
 refine ⟨y,_,I.lset (its':=its.eraseIdx k) hH e ?_ (r.eraseIdx k) ?_,rw',q⟩
 ·show its.toArray.eraseIdxIfInBounds k=(its.eraseIdx k).toArray
  rw [List.eraseIdxIfInBounds_toArray]
 ·have:=ain xs k
  row_cond lo
def rCat:R2:=fun x y H Q=>∃ l b xs zs,x=.ref l/\y=.ref b/\H l=some (.lst xs)/\H b=some (.lst zs)/\xs.length+zs.length<=sizeLine/\∀ p,H p=none->Q (.ref p) (upd H p (.lst (xs ++ zs)))
theorem aeq:OpR X (binaryOp .Add) rCat:=by
 intro pins s σ H x y v u Q I rx ry h
 obtain ⟨l,b,xs,zs,rfl,rfl,hH,hB,hz,q⟩:=h
 cases rx
 cases ry
 obtain ⟨z,its,n,r,hl,e⟩:=I.lstM hH
 obtain ⟨z2,its2,n2,r2,hl2,e2⟩:=I.lstM hB
 refine PySem.P.add_list e e2 ?_ (by rw [List.size_toArray,List.size_toArray];row_cond lo)
 have ea:its.toArray ++ its2.toArray=(its ++ its2).toArray:=by simp
 rw [ea]
 exact ⟨.ref _,_,I.lnew (t':=s.toks) (r.append r2) (by rw [List.length_append];row_cond lo),rfl,q _ I.fresh⟩
def rRep:R2:=fun x y H Q=>∃ l k xs,x=.ref l/\y=.int k/\H l=some (.lst xs)/\-(2 ^ 63)<=k/\k < 2 ^ 63/\xs.length * k.toNat<=sizeLine /\
 ∀ p,H p=none->Q (.ref p) (upd H p (.lst (List.replicate k.toNat xs).flatten))
theorem amv {α:Type} (xs:List α) (k:Nat):(List.replicate k xs).flatten.length=k * xs.length:=by
 induction k with
 | zero=>simp
 | succ k ih=>rw [List.replicate_succ,List.flatten_cons,List.length_append,ih,Nat.succ_mul,Nat.add_comm]
theorem axc:OpR X (binaryOp .Mult) rRep:=by
 intro pins s σ H x y v u Q I rx ry h
 obtain ⟨l,k,xs,rfl,rfl,hH,h1,h2,hz,q⟩:=h
 cases rx
 obtain ⟨t,rfl⟩:=ry
 obtain ⟨z,its,n,r,hl,e⟩:=I.lstM hH
 have hlen:its.toArray.size * k.toNat<=sizeLine:=by rw [List.size_toArray,← hl];exact hz
 have hcap:¬ its.toArray.size * k.toNat > (2 ^ 63 - 1) / 8:=by
  have:(sizeLine:Nat)<=(2 ^ 63 - 1) / 8:=by decide
  row_cond lo
 have hfit:¬ (!Builtin.List.listFitsIndex k)=true:=by
  rw [fitsIndex_both h1 h2]
  exact Bool.false_ne_true
 have hlong:¬ Builtin.List.listTooLong (its.toArray.size * k.toNat)=true:=by
  rw [aq7 hlen]
  exact Bool.false_ne_true
 have hnew:List.foldl (fun x1 x2=>x1 ++ x2) #[] (List.replicate (if its.toArray.isEmpty=true then 0 else k.toNat) its.toArray)=(List.replicate k.toNat its).flatten.toArray:=by
  have f0:∀ m:Nat,List.foldl (fun x1 x2=>x1 ++ x2) #[] (List.replicate m its.toArray)=(List.replicate m its).flatten.toArray:=fun m=>by
   have:=aio its m []
   rw [List.nil_append] at this
   exact this
  rw [f0]
  cases its with
  | nil=>simp
  | cons a r'=>rw [if_neg (by simp)]
 refine wpAny_binaryOp_repeat_ref (T:="list") (U:="int") (by decide) ⟨_,e,rfl⟩ (fun s'=>typeIs_int s' k t) noFill_list_mul F.fills_int_mul F.slot_int_rmul repeat_list F.slot_int_index.lookup
  (call_meets F.slot_int_rmul (typeIs_int s k t) F.entry_int_rmul (F.args_int_rmul_2 _ _) (int___rmul___int_list k t l its.toArray n)
   ⟨e,rfl,⟨_,e,rfl⟩,call_meets F.slot_list_mul ⟨_,e,rfl⟩ F.entry_list_mul (F.args_list_mul_2 _ _) (AutoListH.list___mul___list_int_3 l its.toArray n k t hfit hcap hlong) ⟨e,?_⟩⟩)
 rw [hnew]
 exact ⟨.ref _,_,I.lnew (t':=s.toks) (r.rep k.toNat) (by rw [amv,Nat.mul_comm];exact hz),rfl,q _ I.fresh⟩
end
section
variable {prog:Program} {w:World} {A:Around} {E:Value->Shared->Prop} {s:Shared}
end
section
variable {X:Cx}
end
end L2
namespace L2
open PySem PySem.Spec PyProof.Rows
section
variable {κ:Type} [DecidableEq κ]
noncomputable def valV (kvs:List (κ × V)) (k : κ):Option V:=(kvs.find? fun kv=>decide (kv.1=k)).map (·.2)
noncomputable def putK (kvs:List (κ × V)) (k : κ) (v:V):List (κ × V) :=
 if (kvs.any fun kv=>decide (kv.1=k))=true then kvs.map (fun kv=>if kv.1=k then (kv.1,v) else kv) else kvs ++ [(k,v)]
noncomputable def atp (kvs:List (κ × V)) (k : κ):List (κ × V):=kvs.filter fun kv=>decide (kv.1 ≠ k)
theorem akd {p : κ × V} {r:List (κ × V)} {k : κ} (e:p.1=k):valV (p :: r) k=some p.2:=by simp [valV,List.find?_cons,e]
theorem ake {p : κ × V} {r:List (κ × V)} {k : κ} (e:¬ p.1=k):valV (p :: r) k=valV r k:=by simp [valV,List.find?_cons,e]
theorem RelO.getD {o:Option V} {u:Option Value} {d:V} {d':Value} (r:RelO o u) (rd:RelV d d'):RelV (o.getD d) (u.getD d'):=by
 cases o with
 | none=>cases u with
  | none=>exact rd
  | some _=>exact (show False from r).elim
 | some _=>cases u with
  | none=>exact (show False from r).elim
  | some _=>exact r
theorem KV.val {kvs:List (κ × V)} {vs:List (κ × Value)} (r:KV kvs vs) (k : κ):RelO (valV kvs k) (valueAt vs k):=by
 unfold KV at r
 induction r with
 | nil=>exact True.intro
 | @cons p q ps qs h t ih =>
  obtain ⟨h1,h2⟩:=h
  by_cases e:p.1=k
  ·have e':q.1=k:=h1.symm.trans e
   have b:valueAt (q :: qs) k=some q.2:=by simp [valueAt,List.find?_cons,e']
   rw [akd e,b];exact h2
  ·have e':¬ q.1=k:=fun z=>e (h1.trans z)
   have b:valueAt (q :: qs) k=valueAt qs k:=by simp [valueAt,List.find?_cons,e']
   rw [ake e,b];exact ih
theorem KV.any {kvs:List (κ × V)} {vs:List (κ × Value)} (r:KV kvs vs) (k : κ):(kvs.any fun kv=>decide (kv.1=k))=vs.any fun kv=>decide (kv.1=k):=by
 unfold KV at r
 induction r with
 | nil=>rfl
 | cons h t ih=>rw [List.any_cons,List.any_cons,ih,h.1]
theorem KV.drop {kvs:List (κ × V)} {vs:List (κ × Value)} (r:KV kvs vs) (k : κ):KV (atp kvs k) (without vs k):=by
 unfold KV at r ⊢
 unfold atp without
 induction r with
 | nil=>exact .nil
 | @cons p q ps qs h t ih =>
  obtain ⟨h1,h2⟩:=h
  rw [List.filter_cons,List.filter_cons]
  by_cases e:p.1=k
  ·have a:¬ decide (p.1 ≠ k)=true:=by simp [e]
   have b:¬ decide (q.1 ≠ k)=true:=by simp [h1.symm.trans e]
   rw [if_neg a,if_neg b];exact ih
  ·have e':¬ q.1=k:=fun z=>e (h1.trans z)
   have a:decide (p.1 ≠ k)=true:=by simp [e]
   have b:decide (q.1 ≠ k)=true:=by simp [e']
   rw [if_pos a,if_pos b];exact .cons ⟨h1,h2⟩ ih
theorem KV.length {kvs:List (κ × V)} {vs:List (κ × Value)} (r:KV kvs vs):kvs.length=vs.length:=Paired.length r
end
abbrev KT (H:Hp):List (List Key × V)->List (List Key × Addr × Value)->Prop:=Paired fun p q=>p.1=q.1/\H q.2.1=some (.tup (p.1.map kV))/\RelV p.2 q.2.2
theorem KT.val {H:Hp} {kvs:List (List Key × V)} {xs:List (List Key × Addr × Value)} (r:KT H kvs xs) (k:List Key):RelO (valV kvs k) ((atKey xs k).map (·.2)):=by
 induction r with
 | nil=>exact True.intro
 | @cons p q ps qs h t ih =>
  obtain ⟨h1,_,h2⟩:=h
  by_cases e:p.1=k
  ·have e':q.1=k:=h1.symm.trans e
   have b:atKey (q :: qs) k=some q.2:=by simp [atKey,List.find?_cons,e']
   rw [akd e,b];exact h2
  ·have e':¬ q.1=k:=fun z=>e (h1.trans z)
   have b:atKey (q :: qs) k=atKey qs k:=by simp [atKey,List.find?_cons,e']
   rw [ake e,b];exact ih
theorem KT.keeps {H H':Hp} {kvs:List (List Key × V)} {xs:List (List Key × Addr × Value)} (r:KT H kvs xs) (ht:∀ b ys,H b=some (.tup ys)->H' b=some (.tup ys)):KT H' kvs xs :=
 Paired.mapP r fun _ _ z=>⟨z.1,ht _ _ z.2.1,z.2.2⟩
section
variable {P:Program} {w:World} {H:Hp} {h:Heap} {a:Addr}
end
def DGet (H:Hp) (a:Addr) (y:V) (r:Option V):Prop :=
 (∃ kvs k,Rd H a (.dK kvs)/\y=kV k/\r=valV kvs k)\/∃ kvs k b,Rd H a (.dT kvs)/\y=.ref b/\H b=some (.tup (k.map kV))/\r=valV kvs k
def DPut (H:Hp) (a:Addr) (y v:V) (H':Hp):Prop :=
 (∃ kvs k,H a=some (.dK kvs)/\y=kV k/\kvs.length < sizeLine/\H'=upd H a (.dK (putK kvs k v))) ∨
 ∃ kvs k b,H a=some (.dT kvs)/\y=.ref b/\H b=some (.tup (k.map kV))/\kvs.length < sizeLine/\H'=upd H a (.dT (putK kvs k v))
theorem DGet.k {H:Hp} {a:Addr} {kvs:List (Key × V)} {k:Key} (e:H a=some (.dK kvs)):DGet H a (kV k) (valV kvs k):=.inl ⟨kvs,k,.inl e,rfl,rfl⟩
theorem DPut.k {H:Hp} {a:Addr} {kvs:List (Key × V)} {k:Key} {v:V} (e:H a=some (.dK kvs)) (hl:kvs.length < sizeLine):DPut H a (kV k) v (upd H a (.dK (putK kvs k v))):=.inl ⟨kvs,k,e,rfl,hl,rfl⟩
section
variable {X:Cx} {pins:List (Addr × Obj)} {σ:St} {H:Hp} {s:Shared} {a:Addr} {y v:V} {u r:Value} {o:Option V} {A:Around} {E:Value->Shared->Prop}
theorem Inv.big (I:Inv X pins σ H s):sysModules < s.heap.objs.size:=by
 have h:mainGlobals < s.heap.objs.size:=(I.mod.glob.keeps I.bk).lt
 exact Nat.lt_trans (by decide) h
end
section
variable {X:Cx} {pins:List (Addr × Obj)} {σ:St} {H:Hp} {s:Shared} {a:Addr} {kvs:List (Key × V)} {k:Key} {u:Value} {A:Around} {E:Value->Shared->Prop}
end
section
variable {X:Cx} {o i e value:Expr} {pos pos' tpos:Pos} {td ty tv:TE}
end
section
variable {X:Cx} {pos:Pos}
end
section
variable {X:Cx} {pins:List (Addr × Obj)} {σ:St} {H:Hp} {s:Shared} {a:Addr} {y d:V} {u r:Value} {o:Option V} {A:Around} {E:Value->Shared->Prop}
end
section
variable {X:Cx} {o e f:Expr} {apos cpos:Pos} {td ty tx:TE}
end
section
variable {X:Cx} {pins:List (Addr × Obj)} {σ:St} {H:Hp} {s:Shared} {a:Addr} {kvs:List (Key × V)} {A:Around} {E:Value->Shared->Prop}
end
section
variable {X:Cx} {pins:List (Addr × Obj)} {σ:St} {H:Hp} {s:Shared} {a:Addr} {y:V} {u:Value} {A:Around} {E:Value->Shared->Prop}
end
end L2
namespace Att
open PySem PySem.W PySem.Calls PyProof.Rows
theorem agr {P:Params} {h:Heap}:∀ (ns:List Int) (vs:List Value),WellAll P h vs (ns.map WData.int)->IntsAre vs ns:=by
 intro ns
 induction ns with
 | nil =>
  intro vs w
  rw [List.map_nil] at w
  cases w
  exact .nil
 | cons n ns ih =>
  intro vs w
  rw [List.map_cons] at w
  cases w with
  | cons a b =>
   cases a
   exact .cons _ _ (ih _ b)
theorem apk {l:OpenLaw} {n:Nat} (hn:l.most=some n) {P:Params} {h:Heap} {args:List WData} {vals:List Value}
  (hpre:l.row.toRowW.claim.pre args=true) (hwl:WellAll P h vals args) :
  ∃ a vs ns,vals=[Value.ref a]/\args=[WData.list (ns.map WData.int)]/\h.get? a=some { cls:=.type "list",data:=.seq vs.toArray }/\IntsAre vs ns/\ns.length<=n:=by
 have hsh:WShape.hasAll [] args [.list .int]=true:=(pre_splitW hpre).1
 have hc:l.pre.holds [] { args:=args }=true:=(pre_splitW hpre).2
 obtain ⟨d,r,rfl,h1,h2⟩:=hasAllW_cons hsh
 obtain rfl:=hasAllW_nil h2
 obtain ⟨xs,rfl,h3⟩:=hasW_list h1
 obtain ⟨ns,rfl⟩:=items_int h3
 have hlen:ns.length<=n:=by
  unfold OpenLaw.pre at hc
  have h4:(WTm.not (.lt (.lit (.int (n:Int))) (.len (.arg 0)))).holds [] { args:=[.list (ns.map .int)] }=true:=by
   have h4:=(holds_andW hc).1
   rw [hn] at h4
   exact h4
  have h5:=condW_of h4 (w_not (w_lt w_lit (w_len_list (w_arg rfl))))
  rw [List.length_map] at h5
  refine Nat.le_of_not_lt fun q=>?_
  have q':(n:Int) < ((ns.length:Nat):Int):=by row_cond lo
  first
   | (rw [decide_eq_true q'] at h5;exact absurd h5 (by decide))
   | (simp at h5; row_cond lo)
 cases hwl with
 | cons w1 w2 =>
  cases w2
  cases w1 with
  | list ho hall=>exact ⟨_,_,ns,rfl,rfl,ho,agr ns _ hall,hlen⟩
theorem apl (l:OpenLaw) (args:List WData):l.row.toRowW.claim.post args (.bool true) args=true :=
 postW_of (r:=l.row.toRowW) (X:=(true == true))
  (show WShape.has [] (.bool true) .bool=true by first | rfl | decide | simp [WShape.has,WShape.arms,WShape.armsAll])
  (show (WTm.eq .res (.lit (.bool true))).value [] { args:=args,res:=some (.bool true),after:=args }=some (.bool (true == true)) from w_eq_bool (w_res rfl) w_lit) rfl
theorem attach_call {l:OpenLaw} {n:Nat} {q:Program} {loose:List Str} {XP:(Str->Option Value)->Heap->Prop} {YP:World->Heap->Prop} {d:DefRec}
  (hn:l.most=some n) (hdf:d.params.defaults=[])
  (call:∀ (w:World) (s₀ s₁:Shared) (mg mb:Str->Option Value) (fa:Addr) (o:Obj) (pm cd doc:Value) (a:Addr) (vs:List Value) (ns:List Int),
   Ground q loose [] XP w s₀ mg mb s₁.heap->YP w s₁.heap ->
   s₁.heap.get? fa=some o->o.data=.func (docDef d.name d.params d.body d.scope pm cd doc)->s₁.heap.CodeRec cd d.name->mg d.name=some (.ref fa) ->
   s₁.heap.get? a=some { cls:=.type "list",data:=.seq vs.toArray }->IntsAre vs ns->ns.length<=n->s₁.gens = #[] ->
   codeAny (model l.prog w) callerA (.call (.ref fa) ⟨[.ref a],[]⟩) (fun r s'=>r=.ok (.ret (.bool true))/\OldK s₁.heap s'.heap/\s'.os=s₁.os/\AllBare s'.gens) s₁) :
  WalkO q loose XP YP l.row.toRowW d [] (fun f vs=>PySem.call f vs):=by
 intro w s₀ s₁ mg mb G Y fa o pm cd doc dV kV ho hd hcd hD hmg hg args vals as hpre hlay hrd hwl hlo
 obtain rfl:dV=.none:=Dflts.none hD hdf
 obtain rfl:kV=.none:=Dflts.noKw hD
 obtain ⟨a,vs,ns,rfl,rfl,hobj,hints,hlen⟩:=apk hn hpre hwl
 refine enter_call (codeAny_mono (call w s₀ s₁ mg mb fa o pm cd doc a vs ns G Y ho (fd_plain hd) hcd hmg hobj hints hlen hg) fun r s' hq=>?_)
 obtain ⟨rfl,h2,h3,h4⟩:=hq
 exact ⟨.inl ⟨.bool true,.bool true,[],rfl,fun _=>rfl,.bool true,apl l _,fun _=>⟨List.Pairwise.nil,fun _ hm=>(nomatch hm)⟩⟩,h2,h3,h4⟩
section
variable {prog:Program} {w:World} {A:Around} {E:Value->Shared->Prop} {s:Shared} {K:Frag}
end
end Att
namespace L2
open PySem PySem.Spec PyProof.Rows
theorem aip:∀ {vs:List Value} {ns:List Int},IntsAre vs ns->Vals (ns.map V.int) vs
 | _,_,.nil => .nil
 | _,_,.cons n t h => .cons ⟨t,rfl⟩ (aip h)
def Only (H:Hp):Prop:=∀ b,H b=none\/∃ o xs,H b=some (.frz o (.lst xs))
theorem aq9 {P:Program} {w:World} {K:PySem.W.Frag} {mg mb:Str->Option Value} {CX:CXT} {k:Nat} {fa a:Addr} {fd:FuncData} {x:Str} {sp:Sp} {s₁:Shared} {vs:List Value} {ns:List Int}
  (KX:K.In s₁.heap) (hns:s₁.heap.Ns mainGlobals mg) (hb:s₁.heap.Ns builtinsNs mb) (hbb:∀ x:Str,x ≠ "__name__"->mb x=bootBuiltins x) (hlim:s₁.heap.NoLimit) (hg:s₁.gens = #[])
  (ha:s₁.heap.get? a=some { cls:=.type "list",data:=.seq vs.toArray }) (hi:IntsAre vs ns) (hl:ns.length<=sizeLine) (hr:Room k callerA)
  (F:∀ base:Heap,K.In base->base.Ns mainGlobals mg->FnOk P w K mg base CX k fa fd [x] sp) (hbind:∀ (s:Shared) (u:Value),BindsTo s fd ⟨[u],[]⟩ [(x,u)])
  (hsp:∀ H:Hp,Only H->SqL K H a (ns.map V.int)->sp [.ref a] H (fun v _=>v=.bl true) fun _ _ _=>False)
  (hCX:∀ H e s',CX [] H s₁ (fun _ _ _=>False) e s'->False) :
  codeAny (model P w) callerA (.call (.ref fa) ⟨[.ref a],[]⟩) (fun r s'=>r=.ok (.ret (.bool true))/\OldK s₁.heap s'.heap/\s'.os=s₁.os/\AllBare s'.gens) s₁:=by
 have rv:=aip hi
 have lenV:=hi.length
 -- from an abstract heap in which nothing but the script may be tracked
 have core:∀ H:Hp,Only H->SqL K H a (ns.map V.int)->HOk P w H s₁.heap->(∀ b,H b ≠ none->b=a)->(H a ≠ none->K.lookup a=none) ->
   codeAny (model P w) callerA (.call (.ref fa) ⟨[.ref a],[]⟩) (fun r s'=>r=.ok (.ret (.bool true))/\OldK s₁.heap s'.heap/\s'.os=s₁.os/\AllBare s'.gens) s₁:=by
  intro H hO hS hok hA hK
  have base_of:∀ {b:Addr} {o:Obj},s₁.heap.get? b=some o->H b=none->(hidT s₁.heap H).get? b=some o:=fun e n=>aq3 e n
  have noA:∀ {b:Addr} {o:Obj} {es:Array DictEntry} {ep:Nat},s₁.heap.get? b=some o->o.data=.dict es ep->H b=none:=fun {b o es ep} e d=>by
   cases q:H b with
   | none=>rfl
   | some u =>
    have e':b=a:=hA b (by rw [q];simp)
    subst e'
    rw [ha] at e;cases e
    have d':Data.seq vs.toArray _=Data.dict es ep:=d
    cases d'
  have nsK:∀ {b:Addr} {m:Str->Option Value},s₁.heap.Ns b m->(hidT s₁.heap H).Ns b m:=fun {b m} ⟨o,es,ep,e,d,r⟩=>⟨o,es,ep,base_of e (noA e d),d,r⟩
  have hKb:K.In (hidT s₁.heap H):=fun b o e=>base_of (KX b o e) (by
   cases q:H b with
   | none=>rfl
   | some u =>
    have e':b=a:=hA b (by rw [q];simp)
    subst e'
    rw [hK (by rw [q];simp)] at e;cases e)
  have hM:Mod K mg (hidT s₁.heap H):=⟨hKb,nsK hns,⟨mb,nsK hb,hbb⟩,let ⟨mc,h1,h2⟩:=hlim;⟨mc,nsK h1,h2⟩⟩
  have e0:Env0 P w K mg (hidT s₁.heap H) callerA [] s₁ H:=⟨rfl,hM,fun b o e=>aub e,Nat.le_of_eq (apa _ _),trivial,fun b hb=>absurd (show b∈([]:List Addr) from hb) (by simp),hok,.of_eq hg⟩
  refine codeAny_mono ((F _ hKb (nsK hns)).run callerA [] s₁ H ⟨[.ref a],[]⟩ [.ref a] [.ref a] _ _ hr e0 (hbind s₁ (.ref a)) (.cons rfl .nil) (hsp H hO hS)) fun r s' h=>?_
  cases r with
  | error e=>exact (hCX H e s' h).elim
  | ok fl =>
   cases fl with
   | next=>exact False.elim h
   | brk=>exact False.elim h
   | cont=>exact False.elim h
   | ret u =>
    obtain ⟨v,H',os,bare,un,hok',r',q⟩:=h
    have q':v=.bl true:=q
    subst q'
    obtain rfl:u=Value.bool true:=r'
    refine ⟨rfl,OldK.of_keep fun b o e=>?_,os,bare⟩
    cases q:H b with
    | none=>exact un.keep b o e q (by intro z;exact absurd (show b∈([]:List Addr) from z) (by simp)) (by simp)
    | some u =>
     rcases hO b with z | ⟨ob,xs,z⟩
     ·rw [q] at z;cases z
     ·have z2:=un.frzs b ob _ z
      obtain ⟨e1,_⟩:=hok b _ z
      obtain ⟨e2,_⟩:=hok' b _ z2
      rw [e] at e1;cases e1
      exact e2
 cases hk:K.lookup a with
 | some o =>
  -- the script is one of the module's own objects
  have e:=KX a o hk
  rw [ha] at e
  cases e
  refine core (fun _=>none) (fun _ => .inl rfl) (.inr ⟨_,vs.toArray,_,hk,rfl,rfl,rfl,by rw [List.size_toArray,lenV];exact hl,by simpa using rv⟩) (fun b u z=>by have z':(none:Option HO)=some u:=z;cases z') (fun b z=>absurd rfl z) fun z=>absurd rfl z
 | none =>
  refine core (fun b=>if b=a then some (.frz { cls:=.type "list",data:=.seq vs.toArray } (.lst (ns.map V.int))) else none) (fun b=>?_) (.inl (.inr ⟨{ cls:=.type "list",data:=.seq vs.toArray },if_pos rfl⟩)) (fun b u z=>?_) (fun b z=>?_) fun _=>hk
  ·by_cases hb:b=a
   ·exact .inr ⟨_,_,if_pos hb⟩
   ·exact .inl (if_neg hb)
  ·by_cases hb:b=a
   ·have z':=(if_pos hb).symm.trans z
    cases z'
    subst hb
    exact ⟨ha,by rw [List.length_map];exact hl,vs,_,rv,ha⟩
   ·have z':=(if_neg hb).symm.trans z
    cases z'
  ·by_cases hb:b=a
   ·exact hb
   ·exact absurd (if_neg hb) z
end L2
namespace L2
open PySem PySem.Spec PyProof.Rows
noncomputable abbrev KOf {K:PySem.W.Frag} {h:Heap} (_:K.In h):PySem.W.Frag:=K
theorem walk_of {l:PySem.W.OpenLaw} {n k:Nat} {q:Program} {loose:List Str} {XP:(Str->Option Value)->Heap->Prop} {YP:World->Heap->Prop} {d:DefRec} {K:Params->PySem.W.Frag} {CX:World->CXT} {sp:World->Sp} {x:Str}
  (hn:l.most=some n) (hn2:n<=sizeLine) (hdf:d.params.defaults=[]) (hr:Room k callerA)
  (hY:∀ (w:World) (h:Heap),YP w h->(K w.params).In h)
  (F:∀ (w:World) (mg:Str->Option Value) (fa:Addr) (h:Heap),(K w.params).In h->h.Ns mainGlobals mg->mg d.name=some (.ref fa) ->
   ∃ fd:FuncData,(∀ (s:Shared) (u:Value),BindsTo s fd ⟨[u],[]⟩ [(x,u)]) /\
    ∀ base:Heap,(K w.params).In base->base.Ns mainGlobals mg->FnOk l.prog w (K w.params) mg base (CX w) k fa fd [x] (sp w))
  (hsp:∀ (w:World) (H:Hp) (a:Addr) (ns:List Int),ns.length<=n->Only H->SqL (K w.params) H a (ns.map V.int)->sp w [.ref a] H (fun v _=>v=.bl true) fun _ _ _=>False)
  (hCX:∀ (w:World) (H:Hp) (s:Shared) (e:Value) (s':Shared),CX w [] H s (fun _ _ _=>False) e s'->False) :
  PySem.W.WalkO q loose XP YP l.row.toRowW d [] (fun f vs=>PySem.call f vs):=by
 refine Att.attach_call hn hdf fun w s₀ s₁ mg mb fa o pm cd doc a vs ns G Y ho hd hcd hmg hobj hints hlen hg=>?_
 have KX:=hY w _ Y
 obtain ⟨fd,hb,hF⟩:=F w mg fa _ KX G.T.g hmg
 exact aq9 KX G.T.g G.T.b G.T.builtins G.T.nolimit hg hobj hints (Nat.le_trans hlen hn2) hr hF hb (fun H hO hS=>hsp w H a ns hlen hO hS) fun H e s'=>hCX w H s₁ e s'
end L2
/- THE LAST THEOREM (shape; LID, My.* are yours):
  My.Adr: a structure of the addresses that your layer names (classes,functions);My.Txt K t: a structure (Prop) of the equations over K;
  My.txt_mk:{K} {implicit addresses ..} (e1:nsIn K mainGlobals "law" = some (some (.ref f))) (e2:K.lookup f=some ⟨oc,od,.func (fnOf "law" "law" params body scope dV kV doc pm an cdv ct),sl⟩) (e3:codeIn K cdv "law" = true) .. : ∃ t,My.Txt K t
set_option maxRecDepth 100000 in
set_option maxHeartbeats 0 in
theorem PySem.Challenge.cw_LID_holds : PySem.Challenge.rw_LID.Holds := by
 w_on;o_law;k_head;(case hw=>w_witness2)
 k_fill
 refine L2.walk_of (l:=PySem.Challenge.rw_LID) (n:=63) (k:=40) (x:="script") (CX:=fun w => ..) (sp:=fun _=>My.sp_law) rfl (by decide) rfl ⟨rfl,by decide,by decide⟩ (fun w h Y=>PySem.W.kIn_of Y) ?F ?S ?C
 case F =>
  intro w mg fa h KX G hmg
  have T:∃ t,My.Txt (L2.KOf KX) t:=by
   dsimp only [L2.KOf]                          -- K must stand as «<heap const> w.params» for k_is
   refine' My.txt_mk ?e1 ?e2 ?e3 ..
   (case e1=>PySem.W.k_is)                    -- in the order: a name -> its address -> its object -> its parts
   (case e2=>PySem.W.k_is)
   ..
  obtain ⟨t,T⟩:=T
  have e0:=hmg.symm.trans (PySem.W.mg_of KX G T.law)
  cases e0                                       -- fa is the law's own address
  exact ⟨_,fun s u => .of_eq rfl,fun base kb nb=>My.law_fn T kb nb⟩     -- if «.of_eq rfl» comes too early: refine' ⟨_,?b,fun base kb nb=>My.law_fn T kb nb⟩;exact fun s u => .of_eq rfl
 case S=>exact fun w H a ns hl hO hS => ..
 case C=>exact ..
(the tactic k_is has no namespace: write k_is) -/
namespace L2
open PySem PySem.Spec PyProof.Rows
noncomputable def aaq (s:Stmt):Arguments:=match s with
 | .FunctionDef _ a _ _ _ _ _ _ _ _=>a
 | _=>{ posonlyargs:=[],args:=[],vararg:=none,kwonlyargs:=[],kw_defaults:=[],kwarg:=none,defaults:=[] }
noncomputable def aao (s:Stmt):List Stmt:=match s with
 | .FunctionDef _ _ b _ _ _ _ _ _ _=>b
 | _=>[]
noncomputable def aad (s:Stmt):Scope:=match s with
 | .FunctionDef _ _ _ _ _ _ sc _ _ _=>sc
 | _=>{ kind:=.function,names:=[],isGenerator:=false,isCoroutine:=false }
noncomputable abbrev CX0:CXT:=fun _ _ _ _ _ _=>False
noncomputable abbrev E0:XK:=fun _ _ _=>False
theorem azh {X:Cx}:agp CX0 X E0:=fun _ _ _ _ _ _ _ h=>h.elim
structure Fun (K:PySem.W.Frag) (x qual:Str) (st:Stmt) (f:Addr) (fd:FuncData):Prop where
 ex:∃ (oc:Value) (od:Option Addr) (kV doc pm:Value) (an:Option Addr) (cdv ct:Value) (osl:Array (Option Value)),
  fd=PySem.W.fnOf x qual (aaq st) (aao st) (aad st) .none kV doc pm an cdv ct/\K.lookup f=some ⟨oc,od,.func fd,osl⟩/\PySem.W.codeIn K cdv qual=true
 kp:PySem.W.keepIn K (.ref f)=true
section
variable {P:Program} {w:World} {K:PySem.W.Frag} {mg:Str->Option Value} {base:Heap}
theorem Fun.ok {x qual:Str} {st:Stmt} {f:Addr} {fd:FuncData} {N ps:List Str} {k:Nat} {sp:Sp} (F:Fun K x qual st f fd) (S:FnScope N ps (aad st)) (len:∀ vs H Q E,sp vs H Q E->vs.length=ps.length)
  (hbody:∀ (cdv:Value) (A:Around) (outer:List Env) (s:Shared) (H:Hp) (vs:List V) (Q:VK) (E:XK),Room k (A.deeper (envOfC qual (aad st) s.heap.objs.size f cdv))->sp vs H Q E ->
   ∃ t,PSs (cxOf CX0 P w K mg base N qual (aad st) f cdv A outer s H E).nox (aao st) t/\t { nx:=fun _ H'=>Q .non H',rt:=Q } (start N vs) H):FnOk P w K mg base CX0 (k+1) f fd ps sp:=by
 obtain ⟨oc,od,kV,doc,pm,an,cdv,ct,osl,rfl,lk,hcd⟩:=F.ex
 refine atn lk hcd S len fun A outer s H vs Q E hr hsp=>?_
 obtain ⟨t,h,q⟩:=hbody cdv A outer s H vs Q E hr hsp
 exact ⟨t,h.nox,q⟩
theorem Fun.binds {x qual:Str} {st:Stmt} {f:Addr} {fd:FuncData} {ps:List Str} (F:Fun K x qual st f fd)
  (h:∀ (kV doc pm:Value) (an:Option Addr) (cdv ct:Value) (us:List Value),us.length=ps.length->bindArgs (PySem.W.fnOf x qual (aaq st) (aao st) (aad st) .none kV doc pm an cdv ct) ⟨us,[]⟩=pure (ps.zip us)):Binds K fd ps []:=by
 obtain ⟨oc,od,kV,doc,pm,an,cdv,ct,osl,rfl,lk,hcd⟩:=F.ex
 exact .all (h kV doc pm an cdv ct)
theorem aav {x qual:Str} {st:Stmt} {f:Addr} {oc:Value} {od an:Option Addr} {osl:Array (Option Value)} {kV doc pm cdv ct:Value} (l:K.lookup f=some ⟨oc,od,.func (PySem.W.fnOf x qual (aaq st) (aao st) (aad st) .none kV doc pm an cdv ct),osl⟩)
  (c:PySem.W.codeIn K cdv qual=true) (k:PySem.W.keepIn K (.ref f)=true):Fun K x qual st f (PySem.W.fnOf x qual (aaq st) (aao st) (aad st) .none kV doc pm an cdv ct):=⟨⟨oc,od,kV,doc,pm,an,cdv,ct,osl,rfl,l,c⟩,k⟩
end
theorem adt {n:Nat} (h:n<=1000):n < sizeLine:=Nat.lt_of_le_of_lt h (by decide)
section
variable {X:Cx}
theorem pv (i:Nat) {x:Str} {pos:Pos} (hN:X.N[i]?=some x:=by rfl) (hv:Vis X.env.scope x:=by first | exact Or.inl rfl | exact Or.inr (Or.inl rfl) | exact Or.inr (Or.inr rfl)) (hd:(x == ("__debug__" : Str))=false:=by decide)
  (hcd:(x == ("__classdict__" : Str))=false:=by decide):PE X (.Name x pos) (tVar i):=aw1 hN hv hd hcd
end
theorem iteF {A B:Prop} (h:B):if false=true then A else B:=by
 rw [if_neg Bool.false_ne_true]
 exact h
theorem iteT {A B:Prop} (h:A):if true=true then A else B:=by
 rw [if_pos rfl]
 exact h
def Same (H H':Hp):Prop:=∀ b o,H b=some o->H' b=some o
theorem Same.refl (H:Hp):Same H H:=fun _ _ h=>h
theorem Same.trans {H H1 H2:Hp} (a:Same H H1) (b:Same H1 H2):Same H H2:=fun c o h=>b c o (a c o h)
theorem Same.free {H H':Hp} (e:Same H H') {l:Addr} (h:H' l=Option.none):H l=Option.none:=by
 cases q:H l with
 | none=>rfl
 | some o =>
  rw [e l o q] at h
  cases h
theorem Same.seq {K:PySem.W.Frag} {H H':Hp} {a:Addr} {xs:List V} (e:Same H H') (h:SqL K H a xs):SqL K H' a xs:=by
 rcases h with (h | ⟨o,h⟩) | h
 ·exact .inl (.inl (e _ _ h))
 ·exact .inl (.inr ⟨o,e _ _ h⟩)
 ·exact .inr h
section
variable {X:Cx}
end
section
variable {κ:Type} [DecidableEq κ]
end
end L2
namespace L2
open PySem PySem.Spec PyProof.Rows
noncomputable def clos (env:Env):List (Str × NameKind)->List (Str × Addr)->List (Str × Addr)
 | [],cs=>cs
 | (n,k) :: r,cs=>if k == NameKind.free then (match env.cells.lookup n with | some a=>clos env r ((n,a) :: cs) | none=>clos env r cs) else clos env r cs
theorem ags {env:Env} {sc:Scope} (h:∀ n,(n,NameKind.free)∈sc.names->∃ a,env.cells.lookup n=some a):closureFor sc env=pure (clos env sc.names []):=by
 have all:∀ (l:List (Str × NameKind)) (cs:List (Str × Addr)),(∀ n,(n,NameKind.free)∈l->∃ a,env.cells.lookup n=some a) ->
   (forIn l cs fun (x:Str × NameKind) (cs:List (Str × Addr))=>match x with | (name,kind)=>if kind == NameKind.free then (do let a ← cellOf env name;pure (ForInStep.yield ((name,a) :: cs))) else pure (ForInStep.yield cs))=(pure (clos env l cs):Sem _):=by
  intro l
  induction l with
  | nil=>intro cs _;rfl
  | cons p r ih =>
   intro cs hl
   obtain ⟨n,k⟩:=p
   rw [List.forIn_cons]
   unfold clos
   dsimp only
   cases hk:(k == NameKind.free) with
   | false =>
    simp only [Bool.false_eq_true,if_false,pure_bind]
    exact ih cs fun m hm=>hl m (List.mem_cons_of_mem _ hm)
   | true =>
    have ek:k=NameKind.free:=by simpa using hk
    subst ek
    obtain ⟨a,ha⟩:=hl n List.mem_cons_self
    have ec:cellOf env n=pure a:=by unfold cellOf;rw [ha]
    simp only [if_true,ec,pure_bind,ha]
    exact ih _ fun m hm=>hl m (List.mem_cons_of_mem _ hm)
 have e:=all sc.names [] h
 unfold closureFor
 refine Eq.trans (b:=(pure (clos env sc.names []):Sem _) >>= fun cs=>pure cs) ?_ (pure_bind _ _)
 exact congrArg (fun z:Sem (List (Str × Addr))=>z >>= fun cs=>pure cs) e
theorem adu {env:Env} {x:Str} {c:Addr}:∀ {l:List (Str × NameKind)} {cs:List (Str × Addr)},(clos env l cs).lookup x=some c->env.cells.lookup x=some c\/cs.lookup x=some c
 | [],cs,h => .inr h
 | (n,k) :: r,cs,h=>by
  unfold clos at h
  by_cases hk:(k == NameKind.free)=true
  ·rw [if_pos hk] at h
   cases ha:env.cells.lookup n with
   | none=>rw [ha] at h;exact adu h
   | some a =>
    rw [ha] at h
    rcases adu h with e | e
    ·exact .inl e
    ·rw [List.lookup_cons] at e
     cases hx:(x == n) with
     | true =>
      rw [hx] at e
      have:x=n:=by simpa using hx
      subst this
      cases e
      exact .inl ha
     | false=>rw [hx] at e;exact .inr e
  ·rw [if_neg hk] at h
   exact adu h
theorem adw {env:Env} {x:Str}:∀ {l:List (Str × NameKind)} {cs:List (Str × Addr)},(∃ c,cs.lookup x=some c)->∃ c,(clos env l cs).lookup x=some c
 | [],cs,h=>h
 | (n,k) :: r,cs,h=>by
  unfold clos
  by_cases hk:(k == NameKind.free)=true
  ·rw [if_pos hk]
   cases ha:env.cells.lookup n with
   | none=>exact adw h
   | some a =>
    refine adw ?_
    rw [List.lookup_cons]
    cases hx:(x == n) with
    | true=>exact ⟨_,rfl⟩
    | false=>exact h
  ·rw [if_neg hk]
   exact adw h
theorem adm {env:Env} {x:Str} (h:∃ a,env.cells.lookup x=some a):∀ {l:List (Str × NameKind)} {cs:List (Str × Addr)},(x,NameKind.free)∈l->∃ c,(clos env l cs).lookup x=some c
 | [],_,hm=>absurd hm (by simp)
 | (n,k) :: r,cs,hm=>by
  rcases List.mem_cons.mp hm with e | hm
  ·cases e
   obtain ⟨a,ha⟩:=h
   unfold clos
   rw [if_pos (by rfl),ha]
   refine adw ⟨a,?_⟩
   rw [List.lookup_cons]
   simp
  ·unfold clos
   by_cases hk:(k == NameKind.free)=true
   ·rw [if_pos hk]
    cases ha:env.cells.lookup n with
    | none=>exact adm h hm
    | some a=>exact adm h hm
   ·rw [if_neg hk]
    exact adm h hm
theorem aer {env:Env} {x:Str}:∀ {names:List (Str × NameKind)},(∀ y∈names,y.2 ≠ .cell) ->
  ((names.map fun (n,k)=>if (k == NameKind.free && env.scope.kind == .function && env.kindOf n == some .cell) then (n,NameKind.cell) else (n,k)).lookup x=some .cell ∨
   (names.map fun (n,k)=>if (k == NameKind.free && env.scope.kind == .function && env.kindOf n == some .cell) then (n,NameKind.cell) else (n,k)).lookup x=some .free)->names.lookup x=some .free
 | [],_,h=>by rcases h with h | h <;> simp at h
 | (n,k) :: r,hc,h=>by
  have ih:=@aer env x r fun y hy=>hc y (List.mem_cons_of_mem _ hy)
  rw [List.lookup_cons]
  simp only [List.map_cons] at h
  by_cases hq:(k == NameKind.free && env.scope.kind == .function && env.kindOf n == some .cell)=true
  ·rw [if_pos hq] at h
   have ek:k=NameKind.free:=by
    have:=hq;simp only [Bool.and_eq_true] at this;simpa using this.1.1
   subst ek
   cases hx:(x == n) with
   | true=>rfl
   | false=>simp only [List.lookup_cons,hx] at h;exact ih h
  ·rw [if_neg hq] at h
   cases hx:(x == n) with
   | true =>
    simp only [List.lookup_cons,hx] at h
    rcases h with h | h
    ·cases h;exact absurd rfl (hc (n,NameKind.cell) List.mem_cons_self)
    ·exact h
   | false=>simp only [List.lookup_cons,hx] at h;exact ih h
theorem adx {env:Env} {x:Str}:∀ {names:List (Str × NameKind)},names.lookup x=some .free ->
  ((names.map fun (n,k)=>if (k == NameKind.free && env.scope.kind == .function && env.kindOf n == some .cell) then (n,NameKind.cell) else (n,k)).lookup x=some .cell ∨
   (names.map fun (n,k)=>if (k == NameKind.free && env.scope.kind == .function && env.kindOf n == some .cell) then (n,NameKind.cell) else (n,k)).lookup x=some .free)
 | [],h=>by simp at h
 | (n,k) :: r,h=>by
  have ih:=@adx env x r
  rw [List.lookup_cons] at h
  simp only [List.map_cons]
  by_cases hq:(k == NameKind.free && env.scope.kind == .function && env.kindOf n == some .cell)=true
  ·rw [if_pos hq]
   cases hx:(x == n) with
   | true=>left;simp [List.lookup_cons,hx]
   | false=>rw [hx] at h;simp only [List.lookup_cons,hx];exact ih h
  ·rw [if_neg hq]
   cases hx:(x == n) with
   | true=>rw [hx] at h;right;simp only [List.lookup_cons,hx];exact h
   | false=>rw [hx] at h;simp only [List.lookup_cons,hx];exact ih h
noncomputable def Cx.comp (X:Cx) (N:List Str) (sc:Scope) (C:Addr) (s0:Shared) (H0:Hp) (ex:List Addr):Cx where
 prog:=X.prog
 w:=X.w
 K:=X.K
 mg:=X.mg
 base:=X.base
 A:=X.A
 N:=N
 s₀:=s0
 H₀:=H0
 env:=compEnvC sc (clos X.env sc.names []) C X.env
 outer:=X.stack
 stack:=X.stack
 ex:=ex
 fn:=fun _=>false
 calm:=X.calm
 pn:=[]
 xe:=fun _ _=>False
noncomputable def pick (src:List (Option Nat)) (σ:St):St:=src.map fun o=>match o with | some j=>(σ[j]?).getD none | none=>none
structure LcOk (X:Cx) (N:List Str) (sc:Scope) (src:List (Option Nat)):Prop where
 kind:sc.kind=.function
 nocell:∀ y∈sc.names,y.2 ≠ .cell
 own:∀ y∈sc.names,y.2=.local->sc.names.lookup y.1=some .local
 outs:∀ y∈sc.names,y.2=.free->X.env.kindOf y.1=some .cell\/X.env.kindOf y.1=some .free
 len:src.length=N.length
 from':∀ (i j:Nat),src[i]?=some (some j)->∃ x,N[i]?=some x/\X.N[j]?=some x/\sc.names.lookup x=some .free
theorem LcOk.clo {X:Cx} {N:List Str} {sc:Scope} {src:List (Option Nat)} (L:LcOk X N sc src) (ok:X.Ok):closureFor sc X.env=pure (clos X.env sc.names []) :=
 ags fun n hn=>ok.has n (L.outs (n,.free) hn rfl)
theorem akf {X:Cx} {pins:List (Addr × Obj)} {σ:St} {H:Hp} {s:Shared} {N:List Str} {sc:Scope} {src:List (Option Nat)} {fp:List Addr} {h1:Heap} {t':Nat}
  (L:LcOk X N sc src) (I:Inv X pins σ H s) (hf:∀ b∈fp,FpOk X pins H b) (ho:∀ b∈fp,b < s.heap.objs.size)
  (hn:h1.Ns s.heap.objs.size fun _=>none) (hk:∀ b o,s.heap.get? b=some o->h1.get? b=some o) :
  Inv (X.comp N sc s.heap.objs.size s H fp) [] (pick src σ) H { s with heap:=h1,toks:=t' }:=by
 have look:∀ {x c},(clos X.env sc.names []).lookup x=some c->X.env.cells.lookup x=some c:=fun {x c} e=>by
  rcases adu e with z | z
  ·exact z
  ·simp at z
 refine ⟨⟨I.ok.mod,L.kind,I.ok.glob,I.ok.blt,Nat.le_refl _,fun x y c e1 e2=>?_,fun x hx=>?_,fun x c z _=>?_,I.ok.hd,I.ok.frames,.inl rfl,fun b hb=>⟨?_,fun x c e=>?_⟩,I.bs,Nat.le_trans I.ok.bsz I.sz,fun b o e hb=>?_,fun b hb z=>?_,I.stack,I.stkFree⟩,
  rfl,I.bare,Un.kept hk,⟨_,hn,fun i x v e1 e2 e3=>?_⟩,fun x c e=>?_,I.hok.fresh (Nat.le_refl _),fun x c e=>I.freeC x c (look e),fun p hp=>?_,I.hok.kept hk,?_⟩
 ·exact I.ok.inj x y c (look e1) (look e2)
 ·have q:=aer (env:=X.env) (x:=x) L.nocell hx
  exact adm (I.ok.has x (L.outs (x,.free) (PySem.mem_of_lookup q) rfl)) (PySem.mem_of_lookup q)
 ·exact Bool.noConfusion z
 ·exact Nat.ne_of_lt (ho b hb)
 ·exact (hf b hb).2.2.2.2.1 x c (look e)
 ·rcases (hf b hb).2.2.2.1 with z | z
  ·exact I.ok.noex b o e z
  ·exact absurd (Nat.lt_of_lt_of_le (Heap.lt_size e) (Nat.le_trans I.ok.bsz z)) (Nat.lt_irrefl _)
 ·rcases List.mem_cons.mp (I.stkSub b z) with q | q
  ·exact (hf b hb).2.1 q
  ·exact (hf b hb).2.2.1 q
 ·unfold pick at e2
  rw [List.getElem?_map] at e2
  cases q:src[i]? with
  | none=>rw [q] at e2;cases e2
  | some o =>
   rw [q] at e2
   cases o with
   | none=>cases e2
   | some j =>
    obtain ⟨y,n1,n2,n3⟩:=L.from' i j q
    have e1':N[i]?=some x:=e1
    rw [e1'] at n1
    cases n1
    have ej : σ[j]?=some (some v):=by
     cases q2 : σ[j]? with
     | none=>simp [q2] at e2
     | some z=>simp [q2] at e2;rw [e2]
    have ho:=L.outs (x,.free) (PySem.mem_of_lookup n3) rfl
    have vis:Vis X.env.scope x:=by
     rcases ho with z | z
     ·exact .inr (.inl z)
     ·exact .inr (.inr z)
    obtain ⟨m,_,hl⟩:=I.loc
    obtain ⟨u,r,l⟩:=hl j x v n2 ej vis
    refine ⟨u,r,.inr ⟨?_,?_⟩⟩
    ·exact adx (env:=X.env) n3
    ·rcases l with ⟨z,_⟩ | ⟨_,c,hc,oc,hoc,hd⟩
     ·rcases ho with z' | z' <;> (rw [z'] at z;cases z)
     ·obtain ⟨c',e'⟩:=adm (env:=X.env) ⟨c,hc⟩ (PySem.mem_of_lookup n3) (cs:=[])
      have:=look e'
      rw [hc] at this;cases this
      exact ⟨c,e',oc,hk c oc hoc,hd⟩
 ·obtain ⟨v,oc,hoc,hd⟩:=I.cell x c (look e)
  exact ⟨v,oc,hk c oc hoc,hd⟩
 ·exact absurd (show p∈([]:List (Addr × Obj)) from hp) (by simp)
 ·show (pick src σ).length=N.length
  unfold pick
  rw [List.length_map]
  exact L.len
end L2
namespace L2
open PySem PySem.Spec PyProof.Rows
def PIf (X:Cx) (ifs:List Expr) (t:TT):Prop :=
 ∀ (pins:List (Addr × Obj)) (s:Shared) (σ:St) (H:Hp) (Q:Bool->Hp->Prop),Inv X pins σ H s->t σ H Q ->
  wpAny (model X.prog X.w) X.A (forIn ifs true fun c r=>if r=true then do let ok ← isTrue c X.env (eval c X.env);pure (ForInStep.yield ok) else pure (ForInStep.yield r)) (TP X pins σ Q) X.xe s
def tYes:TT:=fun _ H Q=>Q true H
theorem ab6 {X:Cx}:PIf X [] tYes:=fun _ _ _ H _ I h=>wpAny_tests_nil ⟨H,I,h⟩
theorem ahp {X:Cx} {c:Expr} {t:TT} (h:PT X c t):PIf X [c] t:=fun pins s σ H Q I q=>wpAny_tests_one (h pins s σ H Q I q)
noncomputable abbrev LW:=Nat->Nat->List V->St->Hp->Prop
def akg (J:It) (g:TG) (tif:TT) (te:TE) (acc:Addr) (Qd:List V->Hp->Prop) (W:LW):Prop:=∀ (i m:Nat) (ys:List V) (σ:St) (H:Hp),W i m ys σ H->H acc=some (.lst ys)/\((J.stop i H/\Qd ys H)\/(J.go i H /\
 ∃ Nx:List V->St->Hp->Prop,(∀ ys' σ' H',Nx ys' σ' H'->∃ m',m' < m/\W (i+1) m' ys' σ' H')/\∀ x H2,J.yld i H x H2 ->
 g x σ H2 fun σ3 H3=>tif σ3 H3 fun b H4=>if b=true then te σ3 H4 fun y H5=>H5 acc=some (.lst ys)/\ys.length < sizeLine/\Nx (ys ++ [y]) σ3 (upd H5 acc (.lst (ys ++ [y]))) else Nx ys σ3 H4))
theorem apm {X:Cx} {tg iter elt:Expr} {ifs:List Expr} {sc:Scope} {pos:Pos} {J:It} {fp:List Addr} {it:Addr} {tn:Nat->Heap->Prop} {g:TG} {tif:TT} {te:TE} {acc:Addr} {Qd:List V->Hp->Prop} {W:LW} {R:Result->Shared->Prop}
  (T:Turn X.prog X.w X.K tg J fp it tn) (hc:X.calm=true) (hxe:∀ e s,¬ X.xe e s) (hg:PG X tg g) (hif:PIf X ifs tif) (he:PE X elt te)
  (turn:akg J g tif te acc Qd W) (hR:∀ ys σ H s,Inv X [] σ H s->Qd ys H->R (.ok .next) s)
  {i m:Nat} {ys:List V} {σ:St} {H:Hp} {s:Shared} (I:Inv X [] σ H s) (st:tn i s.heap) (hf:∀ b∈fp,FpOk X [] H b) (w:W i m ys σ H) :
  codeAny (model X.prog X.w) X.A (.compLoop (.ListComp elt [⟨tg,iter,ifs,0⟩] sc pos) 0 (.ref it) (.ref acc) X.env) R s:=by
 have stat:∀ {H':Hp},(∀ b∈fp,H' b=none)->∀ b∈fp,FpOk X [] H' b:=fun hn b hb=>⟨hn b hb,(hf b hb).2⟩
 refine codeAny_loop rfl (fun n s'=>∃ i ys σ' H',Inv X [] σ' H' s'/\tn i s'.heap/\(∀ b∈fp,H' b=none)/\W i n ys σ' H') ?_ m ⟨i,ys,σ,H,I,st,fun b hb=>(hf b hb).1,w⟩
 rintro n s1 ⟨i,ys,σ1,H1,I1,st1,fr1,w1⟩
 show wpAny _ X.A ((compTurn (.ListComp elt [⟨tg,iter,ifs,0⟩] sc pos) 0 (.ref it) (.ref acc) X.env).onRaise (fun x=>do noteFrame x X.env;theTreesLotGoes x)) _ _ s1
 refine wpAny_noted ?_
 rw [compTurn_list]
 refine wpAny_bind (wpAny_standAt (wpAny_bind ?_))
 obtain ⟨hacc,⟨stop,qd⟩ | ⟨go,Nx,hNx,step⟩⟩:=turn i n ys σ1 H1 w1
 ·refine thn (T.done X rfl rfl rfl hc i [] s1 σ1 H1 _ I1 (stat fr1) st1 stop) fun r s2 ⟨hr,I2⟩=>?_
  subst hr
  exact wpAny_pure (hR ys σ1 H1 s2 I2 qd)
 ·refine thn (T.item X rfl rfl rfl hc i [] s1 σ1 H1 _ I1 (stat fr1) st1 go) fun r s2 ⟨u,hr,h2⟩=>?_
  subst hr
  refine wpAny_bind (thn h2 fun _ s3 ⟨x,H3,I3,r3,y3,st3,fr3⟩=>?_)
  have I3':=I3.pinned (stat fr3) (T.obj _ _ st3)
  refine wpAny_bind (wpAny_mono (hg _ s3 σ1 H3 x u _ I3' r3 (step x H3 y3)) (fun _ s4 ⟨σ4,H4,I4,q4⟩=>?_) fun e s' z=>(hxe e s' z).elim)
  have back:∀ {σ7:St} {H7:Hp} {s7:Shared} {zs:List V},Inv X ([] ++ adl fp s3.heap) σ7 H7 s7->(∃ m',m' < n/\W (i+1) m' zs σ7 H7)->∃ m,m < n/\∃ i ys σ' H',Inv X [] σ' H' s7/\tn i s7.heap/\(∀ b∈fp,H' b=none)/\W i m ys σ' H':=fun {σ7 H7 s7 zs} I7 w7=>by
   obtain ⟨m',hm,w7⟩:=w7
   refine ⟨m',hm,i+1,zs,σ7,H7,I7.unpinned,T.keep _ _ _ st3 fun b hb o e=>(I7.pin (b,o) (List.mem_append_right _ (List.mem_append_right _ (abi hb e)))).1,fun b hb=>?_,w7⟩
   obtain ⟨o,e,d⟩:=T.obj _ _ st3 b hb
   exact (I7.pin (b,o) (List.mem_append_right _ (List.mem_append_right _ (abi hb e)))).2.1
  refine wpAny_bind (wpAny_mono (hif _ s4 σ4 H4 _ I4 q4) (fun b s5 ⟨H5,I5,q5⟩=>?_) fun e s' z=>(hxe e s' z).elim)
  cases b with
  | false =>
   rw [if_neg Bool.false_ne_true] at q5
   exact wpAny_pure ⟨rfl,back I5 (hNx _ _ _ q5)⟩
  | true =>
   rw [if_pos rfl] at q5
   refine wpAny_bind (wpAny_bind (wpAny_mono (he _ s5 σ4 H5 _ I5 q5) (fun yv s6 ⟨y,H6,I6,r6,a6,l6,w6⟩=>?_) fun e s' z=>(hxe e s' z).elim))
   have ap:=abq (X:=X) _ s6 σ4 H6 (.ref acc) [y] (.ref acc) [yv] (fun _ H'=>H'=upd H6 acc (.lst (ys ++ [y]))) I6 rfl (.cons r6 .nil) ⟨acc,ys,y,rfl,rfl,a6,l6,rfl⟩
   refine wpAny_bind (wpAny_mono ap (fun _ s7 ⟨v7,H7,I7,_,e7⟩=>?_) fun e s' z=>(hxe e s' z).elim)
   subst e7
   exact wpAny_pure (wpAny_pure ⟨rfl,back I7 (hNx _ _ _ w6)⟩)
def tLC (src:List (Option Nat)) (wi:TI) (g:TG) (tif:TT) (te:TE):TE:=fun σ H Q=>wi σ H fun J H1=>∀ acc,H1 acc=none->∃ W:LW,(∃ m,W 0 m [] (pick src σ) (upd H1 acc (.lst [])))/\akg J g tif te acc (fun _ H'=>Q (.ref acc) H') W
section
variable {X:Cx} {N:List Str} {tg iter elt:Expr} {ifs:List Expr} {sc:Scope} {src:List (Option Nat)} {wi:TI} {g:TG} {tif:TT} {te:TE} {pos:Pos}
theorem aug (hc:X.calm=true) (L:LcOk X N sc src) (hg:∀ C s0 H0 ex,PG (X.comp N sc C s0 H0 ex) tg g) (hif:∀ C s0 H0 ex,PIf (X.comp N sc C s0 H0 ex) ifs tif) (he:∀ C s0 H0 ex,PE (X.comp N sc C s0 H0 ex) elt te)
  {pins:List (Addr × Obj)} {s3:Shared} {σ:St} {H3:Hp} {Q:VK} (I3:Inv X pins σ H3 s3) {it acc:Addr} {fp:List Addr} {J:It} {tn:Nat->Heap->Prop} (T:Turn X.prog X.w X.K tg J fp it tn) (st3:tn 0 s3.heap) (f3:∀ b∈fp,FpOk X pins H3 b)
  {W:LW} {m0:Nat} (w0:W 0 m0 [] (pick src σ) H3) (turn:akg J g tif te acc (fun _ H'=>Q (.ref acc) H') W) (use:Option (Value->Sem Unit)) (P:Value->Shared->Prop)
  (hP:∀ C H' s' m,Inv X pins σ H' s'->Q (.ref acc) H'->s'.heap.Ns C m->H' C=none->C ≠ X.env.locals->(C∈X.ex\/X.s₀.heap.objs.size<=C)->(∀ x c,X.env.cells.lookup x=some c->c ≠ C)->(∀ p∈X.pn ++ pins,p.1 ≠ C) ->
   compPost (model X.prog X.w) X.A X.xe use P (.ref acc) C (.ok .next) s') :
  wpAny (model X.prog X.w) X.A (newFunctionEnv sc X.env.globals (clos X.env sc.names []) [] X.env.qual none .none (some X.env)) (fun cenv s₄ =>
    codeAny (model X.prog X.w) X.A (.compStart (.ListComp elt [⟨tg,iter,ifs,0⟩] sc pos) 0 (.ref it) (.ref acc) { cenv with scope:=relabel sc X.env }) (compPost (model X.prog X.w) X.A X.xe use P (.ref acc) cenv.locals) s₄) X.xe s3:=by
 refine wpAny_newFunctionEnv L.nocell (by intro y hy;simp at hy) (fun h4 hns4 hsb4=>?_) L.kind
 have szf:∀ b∈fp,b < s3.heap.objs.size:=fun b hb=>by
  obtain ⟨o,ho,_⟩:=T.obj _ _ st3 b hb
  exact Heap.lt_size ho
 have k34:∀ b o,s3.heap.get? b=some o->h4.get? b=some o:=fun b o e=>hsb4.extBut b o (Nat.ne_of_lt (Heap.lt_size e)) (Heap.get?_push_of_some _ e)
 have I4:=akf (t':=s3.toks+([]:List (Str × Value)).length) L I3 f3 szf (by simpa using hns4) k34
 have st4:tn 0 h4:=T.keep _ _ _ st3 fun b _ o e=>k34 b o e
 have f4:∀ b∈fp,FpOk (X.comp N sc s3.heap.objs.size s3 H3 fp) [] H3 b:=fun b hb =>
  ⟨(f3 b hb).1,(I4.ok.exf b hb).1,I4.ok.exfs b hb,.inl hb,(I4.ok.exf b hb).2,fun p hp=>absurd (show p∈([]:List (Addr × Obj)) from hp) (by simp)⟩
 have fin:∀ (ys:List V) σ' H' s',Inv (X.comp N sc s3.heap.objs.size s3 H3 fp) [] σ' H' s'->Q (.ref acc) H'->compPost (model X.prog X.w) X.A X.xe use P (.ref acc) s3.heap.objs.size (.ok .next) s':=fun ys σ' H' s' J' q'=>by
  have Jo:Inv X pins σ H' s':=I3.call' (ch:=fp) J'.os J'.base J'.hok J'.bare fun b hb=>⟨(f3 b hb).2.2.2.1,(f3 b hb).2.1,(f3 b hb).2.2.2.2.1,(f3 b hb).2.2.2.2.2⟩
  obtain ⟨m,hn,_⟩:=J'.loc
  refine hP _ H' s' m Jo q' hn J'.free (Nat.ne_of_gt I3.lt) (.inr I3.sz) (fun x c e z=>?_) fun p hp z=>?_
  ·obtain ⟨v,o,ho,_⟩:=I3.cell x c e
   exact absurd (Heap.lt_size ho) (by rw [z];exact Nat.lt_irrefl _)
  ·exact absurd (Heap.lt_size (I3.pin p hp).1) (by rw [z];exact Nat.lt_irrefl _)
 have loop:codeAny (model X.prog X.w) X.A (.compLoop (.ListComp elt [⟨tg,iter,ifs,0⟩] sc pos) 0 (.ref it) (.ref acc) (X.comp N sc s3.heap.objs.size s3 H3 fp).env)
   (compPost (model X.prog X.w) X.A X.xe use P (.ref acc) s3.heap.objs.size) { s3 with heap:=h4,toks:=s3.toks+([]:List (Str × Value)).length } :=
  apm (X:=X.comp N sc s3.heap.objs.size s3 H3 fp) T hc (fun _ _ z=>z) (hg _ _ _ _) (hif _ _ _ _) (he _ _ _ _) turn fin I4 st4 f4 w0
 exact codeAny_compStart_list loop (T.self _ 0 _ _ _ st4 loop)
theorem akh (hc:X.calm=true) (L:LcOk X N sc src) (hi:PI X tg iter wi) (hg:∀ C s0 H0 ex,PG (X.comp N sc C s0 H0 ex) tg g) (hif:∀ C s0 H0 ex,PIf (X.comp N sc C s0 H0 ex) ifs tif) (he:∀ C s0 H0 ex,PE (X.comp N sc C s0 H0 ex) elt te)
  {pins:List (Addr × Obj)} {s:Shared} {σ:St} {H:Hp} {Q:VK} (I:Inv X pins σ H s) (h:tLC src wi g tif te σ H Q) (use:Option (Value->Sem Unit)) (P:Value->Shared->Prop)
  (hP:∀ acc C H' s' m,Inv X pins σ H' s'->Q (.ref acc) H'->s'.heap.Ns C m->H' C=none->C ≠ X.env.locals->(C∈X.ex\/X.s₀.heap.objs.size<=C)->(∀ x c,X.env.cells.lookup x=some c->c ≠ C)->(∀ p∈X.pn ++ pins,p.1 ≠ C) ->
   compPost (model X.prog X.w) X.A X.xe use P (.ref acc) C (.ok .next) s')
  (hs:∀ x,foldedSetIterable iter X.env x=pure x) :
  wpAny (model X.prog X.w) X.A (comprehension (.ListComp elt [⟨tg,iter,ifs,0⟩] sc pos) sc X.env (firstIterPos [⟨tg,iter,ifs,0⟩] pos) (newList []) false (eval iter X.env) use) P X.xe s:=by
 refine wpAny_comprehension_free rfl hs (L.clo I.ok) L.kind L.own (thn (hi pins s σ H _ I h) fun v s1 h1=>thn h1 fun itv s2 h2=>?_)
 obtain ⟨it,fp,tn,J,H2,e,I2,T,st2,f2,q2⟩:=h2
 subst e
 have hacc:H2 s2.heap.objs.size=none:=I2.hok.fresh (Nat.le_refl _)
 obtain ⟨W,⟨m0,w0⟩,turn⟩:=q2 s2.heap.objs.size hacc
 have szf:∀ b∈fp,b < s2.heap.objs.size:=fun b hb=>by
  obtain ⟨o,ho,_⟩:=T.obj _ _ st2 b hb
  exact Heap.lt_size ho
 refine wpAny_newObj_type ?_
 refine aug hc L hg hif he (H3:=upd H2 s2.heap.objs.size (.lst [])) ?_ T ?_ ?_ w0 turn use P (hP _)
 ·exact I2.laid (t':=s2.toks) (fun b u e=>Heap.get?_push_of_some _ e) (Nat.le_refl _) ⟨Nat.zero_le _,[],0,.nil,Heap.get?_push_size _ rfl⟩
 ·exact T.keep _ _ _ st2 fun b _ o e=>Heap.get?_push_of_some _ e
 ·exact fun b hb=>⟨by rw [aaf (Nat.ne_of_lt (szf b hb))];exact (f2 b hb).1,(f2 b hb).2⟩
theorem ady (hc:X.calm=true) (L:LcOk X N sc src) (hi:PI X tg iter wi) (hg:∀ C s0 H0 ex,PG (X.comp N sc C s0 H0 ex) tg g) (hif:∀ C s0 H0 ex,PIf (X.comp N sc C s0 H0 ex) ifs tif) (he:∀ C s0 H0 ex,PE (X.comp N sc C s0 H0 ex) elt te)
  (hs:∀ x,foldedSetIterable iter X.env x=pure x:=by intro _;rfl):PE X (.ListComp elt [⟨tg,iter,ifs,0⟩] sc pos) (tLC src wi g tif te):=by
 intro pins s σ H Q I h
 rw [eval_ListComp]
 refine akh hc L hi hg hif he I h none _ (fun acc C H' s' m J q hn hC hL hx hcl hp=>?_) hs
 refine ⟨m,hn,fun h' sb=>⟨.ref acc,H',?_,rfl,q⟩⟩
 exact J.turned (t':=s'.toks) (fun b o hb e=>sb.extBut b o hb e) hC hL hx hcl hp
end
end L2
namespace L2
open PySem PySem.Spec PyProof.Rows
section
variable {X:Cx} {N:List Str} {tg iter elt:Expr} {ifs:List Expr} {sc:Scope} {src:List (Option Nat)} {wi:TI} {g:TG} {tif:TT} {te:TE} {pos spos px:Pos}
theorem aki {i:Nat} {x:Str} (hN:X.N.Nodup) (hi':X.N[i]?=some x) (hx:Loc X.env.scope x) (hc:X.calm=true) (L:LcOk X N sc src) (hi:PI X tg iter wi) (hg:∀ C s0 H0 ex,PG (X.comp N sc C s0 H0 ex) tg g)
  (hif:∀ C s0 H0 ex,PIf (X.comp N sc C s0 H0 ex) ifs tif) (he:∀ C s0 H0 ex,PE (X.comp N sc C s0 H0 ex) elt te)
  (hsw:swapsWith (.ListComp elt [⟨tg,iter,ifs,0⟩] sc pos) (some (.Name x px)) spos.line X.env=pure true:=by rfl)
  (hf:X.fn x=true\/X.env.scope.names.lookup x=some .local:=by first | exact .inl rfl | exact .inr rfl | assumption)
  (hs:∀ x,foldedSetIterable iter X.env x=pure x:=by intro _;rfl):PS X (.Assign [.Name x px] (.ListComp elt [⟨tg,iter,ifs,0⟩] sc pos) spos) (tAsg (tLC src wi g tif te) (aa2 i)):=by
 intro pins s σ H D I h
 rw [exec_Assign_Name_used _ _ _ _ hsw]
 refine wpAny_bind (wpAny_standAt (wpAny_bind ?_))
 show wpAny _ X.A (do let _ ← comprehension (.ListComp elt [⟨tg,iter,ifs,0⟩] sc pos) sc X.env _ (newList []) false (eval iter X.env) (some (assign (.Name x px) X.env))) _ _ s
 refine wpAny_bind (wpAny_mono (akh hc L hi hg hif he I h (some (assign (.Name x px) X.env)) (fun _ s'=>SP X pins D .next s') (fun acc C H' s' m J q hn hC hL hx' hcl hp=>?_) hs) (fun _ s' hq=>wpAny_pure (wpAny_pure hq)) fun _ _ e=>e)
 show wpAny _ X.A (assign (.Name x px) X.env (.ref acc)) _ _ _
 refine wpAny_assign_Name (aih J hN hi' hx (v:=.ref acc) rfl (fun s2 J2 ⟨a,sb,ha⟩=>?_) hf)
 have hne:C ≠ a:=by
  rcases ha with z | z
  ·rw [z];exact hL
  ·exact (hcl x a z).symm
 refine ⟨m,hn.sameBut sb hne,fun h' sb'=>⟨_,H',?_,q⟩⟩
 exact J2.turned (t':=s2.toks) (fun b o hb e=>sb'.extBut b o hb e) hC hL hx' hcl hp
end
section
variable {g:TG} {tif:TT} {te:TE} {acc:Addr} {Qd:List V->Hp->Prop} {σ0:St} {H0:Hp}
end
end L2
namespace L2
open PySem PySem.Spec PyProof.Rows
def amw (J:It) (g:TG) (tif:TT) (te:TE) (acc:Addr) (Qd:List V->St->Hp->Prop) (W:LW):Prop:=∀ (i m:Nat) (ys:List V) (σ:St) (H:Hp),W i m ys σ H->H acc=some (.lst ys)/\((J.stop i H/\Qd ys σ H)\/(J.go i H /\
 ∃ Nx:List V->St->Hp->Prop,(∀ ys' σ' H',Nx ys' σ' H'->∃ m',m' < m/\W (i+1) m' ys' σ' H')/\∀ x H2,J.yld i H x H2 ->
 g x σ H2 fun σ3 H3=>tif σ3 H3 fun b H4=>if b=true then te σ3 H4 fun y H5=>H5 acc=some (.lst ys)/\ys.length < sizeLine/\Nx (ys ++ [y]) σ3 (upd H5 acc (.lst (ys ++ [y]))) else Nx ys σ3 H4))
def ahq (J:It) (g:TG) (tif:TT) (wi2:TI) (g2:TG) (tif2:TT) (te:TE) (acc:Addr) (Qd:List V->Hp->Prop) (W:LW):Prop:=∀ (i m:Nat) (ys:List V) (σ:St) (H:Hp),W i m ys σ H->((J.stop i H/\Qd ys H)\/(J.go i H /\
 ∃ Nx:List V->St->Hp->Prop,(∀ ys' σ' H',Nx ys' σ' H'->∃ m',m' < m/\W (i+1) m' ys' σ' H')/\∀ x H2,J.yld i H x H2 ->
 g x σ H2 fun σ3 H3=>tif σ3 H3 fun b H4=>if b=true then wi2 σ3 H4 fun J2 H5=>∃ W2:LW,(∃ m2,W2 0 m2 ys σ3 H5)/\amw J2 g2 tif2 te acc Nx W2 else Nx ys σ3 H4))
theorem ai7 (elt t1 i1 t2 i2:Expr) (f1 f2:List Expr) (sc:Scope) (pos:Pos) (it acc:Value) (env:Env) :
  compTurn (.ListComp elt [⟨t1,i1,f1,0⟩,⟨t2,i2,f2,0⟩] sc pos) 0 it acc env=(do
   standAt i1.pos
   match ← pyNext it with
   | none=>pure (.done .next)
   | some v =>
    letOwnedTupleGo t1 it v
    assign t1 env v
    let mut ok:=true
    for c in f1 do
     if ok then ok ← isTrue c env (eval c env)
    if ok then
     let x ← eval i2 env
     standAt i2.pos
     let x ← foldedSetIterable i2 env x
     let _ ← runOwn (.compStart (.ListComp elt [⟨t1,i1,f1,0⟩,⟨t2,i2,f2,0⟩] sc pos) 1 (← holding [x] (pyIter x)) acc env) env
    again (.compLoop (.ListComp elt [⟨t1,i1,f1,0⟩,⟨t2,i2,f2,0⟩] sc pos) 0 it acc env)):=by rfl
theorem ai8 (elt t1 i1 t2 i2:Expr) (f1 f2:List Expr) (sc:Scope) (pos:Pos) (it acc:Value) (env:Env) :
  compTurn (.ListComp elt [⟨t1,i1,f1,0⟩,⟨t2,i2,f2,0⟩] sc pos) 1 it acc env=(do
   standAt i2.pos
   match ← pyNext it with
   | none=>pure (.done .next)
   | some v =>
    letOwnedTupleGo t2 it v
    assign t2 env v
    let mut ok:=true
    for c in f2 do
     if ok then ok ← isTrue c env (eval c env)
    if ok then
     (do let _ ← call (.builtin "list.append") [acc,← eval elt env])
    again (.compLoop (.ListComp elt [⟨t1,i1,f1,0⟩,⟨t2,i2,f2,0⟩] sc pos) 1 it acc env)):=by rfl
theorem apn {prog:Program} {w:World} {A:Around} {R:Result->Shared->Prop} {s:Shared} {elt t1 i1 t2 i2:Expr} {f1 f2:List Expr} {sc:Scope} {pos:Pos} {it acc:Value} {env:Env}
  (h0:codeAny (model prog w) A (.compLoop (.ListComp elt [⟨t1,i1,f1,0⟩,⟨t2,i2,f2,0⟩] sc pos) 1 it acc env) R s)
  (h:wpAny (model prog w) A (pyIter it) (fun it' s'=>codeAny (model prog w) A (.compLoop (.ListComp elt [⟨t1,i1,f1,0⟩,⟨t2,i2,f2,0⟩] sc pos) 1 it' acc env) R s') (notedBy (model prog w) A env fun x s'=>R (.error x) s') s) :
  codeAny (model prog w) A (.compStart (.ListComp elt [⟨t1,i1,f1,0⟩,⟨t2,i2,f2,0⟩] sc pos) 1 it acc env) R s:=by
 refine codeAny_of_tree ?_
 show wpAny _ _ ((compStart (.ListComp elt [⟨t1,i1,f1,0⟩,⟨t2,i2,f2,0⟩] sc pos) 1 it acc env).onRaise (fun x=>do noteFrame x env;standAt theWindowsPlace)) _ _ s
 refine wpAny_notedAt ?_
 unfold compStart
 show wpAny _ _ (ask >>= _) _ _ s
 apply wpAny_bind;apply wpAny_askSetting;apply wpAny_ite;split
 ·first | exact wpAny_bind (wpAny_pure (wpAny_pure ⟨rfl,h0⟩)) | exact wpAny_pure ⟨rfl,h0⟩
 ·have q:wpAny (model prog w) A (pyIter it >>= fun it'=>again (.compLoop (.ListComp elt [⟨t1,i1,f1,0⟩,⟨t2,i2,f2,0⟩] sc pos) 1 it' acc env)) (fun fin s'=>match fin with | .done f=>R (.ok f) s' | .again c'=>c'.quiet=true/\codeAny (model prog w) A c' R s') (notedBy (model prog w) A env fun x s'=>R (.error x) s') s :=
   wpAny_bind (wpAny_mono h (fun it' s' h'=>wpAny_pure ⟨rfl,h'⟩) fun _ _ x=>x)
  first
   | exact wpAny_bind (wpAny_rule (wpAny_bind (wpAny_standAt (wpAny_bind (wpAny_mono h (fun it' s' h'=>wpAny_pure ⟨rfl,h'⟩) fun _ _ x=>x)))))
   | (apply wpAny_bind;apply wpAny_rule;show wpAny _ _ (standAt i2.pos >>= _) _ _ s;exact wpAny_bind (wpAny_standAt (wpAny_bind (wpAny_mono h (fun it' s' h'=>wpAny_pure ⟨rfl,h'⟩) fun _ _ x=>x))))
theorem aoh {X:Cx} {elt t1 i1 tg iter:Expr} {f1 ifs:List Expr} {sc:Scope} {pos:Pos} {J:It} {fp:List Addr} {it:Addr} {tn:Nat->Heap->Prop} {g:TG} {tif:TT} {te:TE} {acc:Addr} {Qd:List V->St->Hp->Prop} {W:LW} {R:Result->Shared->Prop} {pins:List (Addr × Obj)}
  (T:Turn X.prog X.w X.K tg J fp it tn) (hc:X.calm=true) (hxe:∀ e s,¬ X.xe e s) (hg:PG X tg g) (hif:PIf X ifs tif) (he:PE X elt te)
  (turn:amw J g tif te acc Qd W) (hR:∀ ys σ H s,Inv X pins σ H s->Qd ys σ H->R (.ok .next) s)
  {i m:Nat} {ys:List V} {σ:St} {H:Hp} {s:Shared} (I:Inv X pins σ H s) (st:tn i s.heap) (hf:∀ b∈fp,FpOk X pins H b) (w:W i m ys σ H) :
  codeAny (model X.prog X.w) X.A (.compLoop (.ListComp elt [⟨t1,i1,f1,0⟩,⟨tg,iter,ifs,0⟩] sc pos) 1 (.ref it) (.ref acc) X.env) R s:=by
 have stat:∀ {H':Hp},(∀ b∈fp,H' b=none)->∀ b∈fp,FpOk X pins H' b:=fun hn b hb=>⟨hn b hb,(hf b hb).2⟩
 refine codeAny_loop rfl (fun n s'=>∃ i ys σ' H',Inv X pins σ' H' s'/\tn i s'.heap/\(∀ b∈fp,H' b=none)/\W i n ys σ' H') ?_ m ⟨i,ys,σ,H,I,st,fun b hb=>(hf b hb).1,w⟩
 rintro n s1 ⟨i,ys,σ1,H1,I1,st1,fr1,w1⟩
 show wpAny _ X.A ((compTurn (.ListComp elt [⟨t1,i1,f1,0⟩,⟨tg,iter,ifs,0⟩] sc pos) 1 (.ref it) (.ref acc) X.env).onRaise (fun x=>do noteFrame x X.env;theTreesLotGoes x)) _ _ s1
 refine wpAny_noted ?_
 rw [ai8]
 refine wpAny_bind (wpAny_standAt (wpAny_bind ?_))
 obtain ⟨hacc,⟨stop,qd⟩ | ⟨go,Nx,hNx,step⟩⟩:=turn i n ys σ1 H1 w1
 ·refine thn (T.done X rfl rfl rfl hc i pins s1 σ1 H1 _ I1 (stat fr1) st1 stop) fun r s2 ⟨hr,I2⟩=>?_
  subst hr
  exact wpAny_pure (hR ys σ1 H1 s2 I2 qd)
 ·refine thn (T.item X rfl rfl rfl hc i pins s1 σ1 H1 _ I1 (stat fr1) st1 go) fun r s2 ⟨u,hr,h2⟩=>?_
  subst hr
  refine wpAny_bind (thn h2 fun _ s3 ⟨x,H3,I3,r3,y3,st3,fr3⟩=>?_)
  have I3':=I3.pinned (stat fr3) (T.obj _ _ st3)
  refine wpAny_bind (wpAny_mono (hg _ s3 σ1 H3 x u _ I3' r3 (step x H3 y3)) (fun _ s4 ⟨σ4,H4,I4,q4⟩=>?_) fun e s' z=>(hxe e s' z).elim)
  have back:∀ {σ7:St} {H7:Hp} {s7:Shared} {zs:List V},Inv X (pins ++ adl fp s3.heap) σ7 H7 s7->(∃ m',m' < n/\W (i+1) m' zs σ7 H7)->∃ m,m < n/\∃ i ys σ' H',Inv X pins σ' H' s7/\tn i s7.heap/\(∀ b∈fp,H' b=none)/\W i m ys σ' H':=fun {σ7 H7 s7 zs} I7 w7=>by
   obtain ⟨m',hm,w7⟩:=w7
   refine ⟨m',hm,i+1,zs,σ7,H7,I7.unpinned,T.keep _ _ _ st3 fun b hb o e=>(I7.pin (b,o) (List.mem_append_right _ (List.mem_append_right _ (abi hb e)))).1,fun b hb=>?_,w7⟩
   obtain ⟨o,e,d⟩:=T.obj _ _ st3 b hb
   exact (I7.pin (b,o) (List.mem_append_right _ (List.mem_append_right _ (abi hb e)))).2.1
  refine wpAny_bind (wpAny_mono (hif _ s4 σ4 H4 _ I4 q4) (fun b s5 ⟨H5,I5,q5⟩=>?_) fun e s' z=>(hxe e s' z).elim)
  cases b with
  | false =>
   rw [if_neg Bool.false_ne_true] at q5
   exact wpAny_pure ⟨rfl,back I5 (hNx _ _ _ q5)⟩
  | true =>
   rw [if_pos rfl] at q5
   refine wpAny_bind (wpAny_bind (wpAny_mono (he _ s5 σ4 H5 _ I5 q5) (fun yv s6 ⟨y,H6,I6,r6,a6,l6,w6⟩=>?_) fun e s' z=>(hxe e s' z).elim))
   have ap:=abq (X:=X) _ s6 σ4 H6 (.ref acc) [y] (.ref acc) [yv] (fun _ H'=>H'=upd H6 acc (.lst (ys ++ [y]))) I6 rfl (.cons r6 .nil) ⟨acc,ys,y,rfl,rfl,a6,l6,rfl⟩
   refine wpAny_bind (wpAny_mono ap (fun _ s7 ⟨v7,H7,I7,_,e7⟩=>?_) fun e s' z=>(hxe e s' z).elim)
   subst e7
   exact wpAny_pure (wpAny_pure ⟨rfl,back I7 (hNx _ _ _ w6)⟩)
theorem aoi {X:Cx} {elt t1 i1 t2 i2:Expr} {f1 f2:List Expr} {sc:Scope} {pos:Pos} {J:It} {fp:List Addr} {it:Addr} {tn:Nat->Heap->Prop} {g:TG} {tif:TT} {wi2:TI} {g2:TG} {tif2:TT} {te:TE} {acc:Addr} {Qd:List V->Hp->Prop} {W:LW} {R:Result->Shared->Prop}
  (T:Turn X.prog X.w X.K t1 J fp it tn) (hc:X.calm=true) (hxe:∀ e s,¬ X.xe e s) (hg:PG X t1 g) (hif:PIf X f1 tif) (hi2:PI X t2 i2 wi2) (hg2:PG X t2 g2) (hif2:PIf X f2 tif2) (he:PE X elt te)
  (hs2:∀ x,foldedSetIterable i2 X.env x=pure x)
  (turn:ahq J g tif wi2 g2 tif2 te acc Qd W) (hR:∀ ys σ H s,Inv X [] σ H s->Qd ys H->R (.ok .next) s)
  {i m:Nat} {ys:List V} {σ:St} {H:Hp} {s:Shared} (I:Inv X [] σ H s) (st:tn i s.heap) (hf:∀ b∈fp,FpOk X [] H b) (w:W i m ys σ H) :
  codeAny (model X.prog X.w) X.A (.compLoop (.ListComp elt [⟨t1,i1,f1,0⟩,⟨t2,i2,f2,0⟩] sc pos) 0 (.ref it) (.ref acc) X.env) R s:=by
 have stat:∀ {H':Hp},(∀ b∈fp,H' b=none)->∀ b∈fp,FpOk X [] H' b:=fun hn b hb=>⟨hn b hb,(hf b hb).2⟩
 refine codeAny_loop rfl (fun n s'=>∃ i ys σ' H',Inv X [] σ' H' s'/\tn i s'.heap/\(∀ b∈fp,H' b=none)/\W i n ys σ' H') ?_ m ⟨i,ys,σ,H,I,st,fun b hb=>(hf b hb).1,w⟩
 rintro n s1 ⟨i,ys,σ1,H1,I1,st1,fr1,w1⟩
 show wpAny _ X.A ((compTurn (.ListComp elt [⟨t1,i1,f1,0⟩,⟨t2,i2,f2,0⟩] sc pos) 0 (.ref it) (.ref acc) X.env).onRaise (fun x=>do noteFrame x X.env;theTreesLotGoes x)) _ _ s1
 refine wpAny_noted ?_
 rw [ai7]
 refine wpAny_bind (wpAny_standAt (wpAny_bind ?_))
 obtain ⟨stop,qd⟩ | ⟨go,Nx,hNx,step⟩:=turn i n ys σ1 H1 w1
 ·refine thn (T.done X rfl rfl rfl hc i [] s1 σ1 H1 _ I1 (stat fr1) st1 stop) fun r s2 ⟨hr,I2⟩=>?_
  subst hr
  exact wpAny_pure (hR ys σ1 H1 s2 I2 qd)
 ·refine thn (T.item X rfl rfl rfl hc i [] s1 σ1 H1 _ I1 (stat fr1) st1 go) fun r s2 ⟨u,hr,h2⟩=>?_
  subst hr
  refine wpAny_bind (thn h2 fun _ s3 ⟨x,H3,I3,r3,y3,st3,fr3⟩=>?_)
  have I3':=I3.pinned (stat fr3) (T.obj _ _ st3)
  refine wpAny_bind (wpAny_mono (hg _ s3 σ1 H3 x u _ I3' r3 (step x H3 y3)) (fun _ s4 ⟨σ4,H4,I4,q4⟩=>?_) fun e s' z=>(hxe e s' z).elim)
  have back:∀ {σ7:St} {H7:Hp} {s7:Shared} {zs:List V},Inv X ([] ++ adl fp s3.heap) σ7 H7 s7->(∃ m',m' < n/\W (i+1) m' zs σ7 H7)->∃ m,m < n/\∃ i ys σ' H',Inv X [] σ' H' s7/\tn i s7.heap/\(∀ b∈fp,H' b=none)/\W i m ys σ' H':=fun {σ7 H7 s7 zs} I7 w7=>by
   obtain ⟨m',hm,w7⟩:=w7
   refine ⟨m',hm,i+1,zs,σ7,H7,I7.unpinned,T.keep _ _ _ st3 fun b hb o e=>(I7.pin (b,o) (List.mem_append_right _ (List.mem_append_right _ (abi hb e)))).1,fun b hb=>?_,w7⟩
   obtain ⟨o,e,d⟩:=T.obj _ _ st3 b hb
   exact (I7.pin (b,o) (List.mem_append_right _ (List.mem_append_right _ (abi hb e)))).2.1
  refine wpAny_bind (wpAny_mono (hif _ s4 σ4 H4 _ I4 q4) (fun b s5 ⟨H5,I5,q5⟩=>?_) fun e s' z=>(hxe e s' z).elim)
  cases b with
  | false =>
   rw [if_neg Bool.false_ne_true] at q5
   exact wpAny_pure ⟨rfl,back I5 (hNx _ _ _ q5)⟩
  | true =>
   rw [if_pos rfl] at q5
   refine wpAny_bind (wpAny_mono (hi2 _ s5 σ4 H5 _ I5 q5) (fun xv s6 h6=>?_) fun e s' z=>(hxe e s' z).elim)
   refine wpAny_bind (wpAny_standAt (wpAny_bind ?_))
   rw [hs2 xv]
   refine wpAny_pure (wpAny_bind (wpAny_holding (wpAny_mono h6 (fun itv s7 h7=>?_) fun e s' z=>(hxe e s' z).elim)))
   obtain ⟨it2,fp2,tn2,J2,H7,e,I7,T2,st2,f2',W2,⟨m2,w2⟩,turn2⟩:=h7
   subst e
   refine wpAny_bind (wpAny_runOwn ?_)
   have loop:=aoh (R:=fun r s'=>match r with | .ok f=>(∃ m,m < n/\∃ i ys σ' H',Inv X [] σ' H' s'/\tn i s'.heap/\(∀ b∈fp,H' b=none)/\W i m ys σ' H') | .error e=>False) (t1:=t1) (i1:=i1) (f1:=f1) (iter:=i2) (sc:=sc) (pos:=pos) T2 hc hxe hg2 hif2 he turn2 (fun ys' σ8 H8 s8 I8 q8=>back I8 (hNx _ _ _ q8)) I7 st2 f2' w2
   have st:=apn loop (T2.self _ 0 _ _ _ st2 loop)
   refine codeAny_mono st fun r s' h=>?_
   cases r with
   | error e=>exact h.elim
   | ok f=>exact wpAny_pure ⟨rfl,h⟩
def tLC2 (src:List (Option Nat)) (wi:TI) (g:TG) (tif:TT) (wi2:TI) (g2:TG) (tif2:TT) (te:TE):TE:=fun σ H Q=>wi σ H fun J H1=>∀ acc,H1 acc=none->∃ W:LW,(∃ m,W 0 m [] (pick src σ) (upd H1 acc (.lst [])))/\ahq J g tif wi2 g2 tif2 te acc (fun _ H'=>Q (.ref acc) H') W
section
variable {X:Cx} {N:List Str} {t1 i1 t2 i2 elt:Expr} {f1 f2:List Expr} {sc:Scope} {src:List (Option Nat)} {wi wi2:TI} {g g2:TG} {tif tif2:TT} {te:TE} {pos:Pos}
theorem ara (hc:X.calm=true) (L:LcOk X N sc src) (hg:∀ C s0 H0 ex,PG (X.comp N sc C s0 H0 ex) t1 g) (hif:∀ C s0 H0 ex,PIf (X.comp N sc C s0 H0 ex) f1 tif) (hi2:∀ C s0 H0 ex,PI (X.comp N sc C s0 H0 ex) t2 i2 wi2) (hg2:∀ C s0 H0 ex,PG (X.comp N sc C s0 H0 ex) t2 g2) (hif2:∀ C s0 H0 ex,PIf (X.comp N sc C s0 H0 ex) f2 tif2) (he:∀ C s0 H0 ex,PE (X.comp N sc C s0 H0 ex) elt te)
  (hs2:∀ C s0 H0 ex x,foldedSetIterable i2 (X.comp N sc C s0 H0 ex).env x=pure x)
  {pins:List (Addr × Obj)} {s3:Shared} {σ:St} {H3:Hp} {Q:VK} (I3:Inv X pins σ H3 s3) {it acc:Addr} {fp:List Addr} {J:It} {tn:Nat->Heap->Prop} (T:Turn X.prog X.w X.K t1 J fp it tn) (st3:tn 0 s3.heap) (f3:∀ b∈fp,FpOk X pins H3 b)
  {W:LW} {m0:Nat} (w0:W 0 m0 [] (pick src σ) H3) (turn:ahq J g tif wi2 g2 tif2 te acc (fun _ H'=>Q (.ref acc) H') W) (use:Option (Value->Sem Unit)) (P:Value->Shared->Prop)
  (hP:∀ C H' s' m,Inv X pins σ H' s'->Q (.ref acc) H'->s'.heap.Ns C m->H' C=none->C ≠ X.env.locals->(C∈X.ex\/X.s₀.heap.objs.size<=C)->(∀ x c,X.env.cells.lookup x=some c->c ≠ C)->(∀ p∈X.pn ++ pins,p.1 ≠ C) ->
   compPost (model X.prog X.w) X.A X.xe use P (.ref acc) C (.ok .next) s') :
  wpAny (model X.prog X.w) X.A (newFunctionEnv sc X.env.globals (clos X.env sc.names []) [] X.env.qual none .none (some X.env)) (fun cenv s₄ =>
    codeAny (model X.prog X.w) X.A (.compStart (.ListComp elt [⟨t1,i1,f1,0⟩,⟨t2,i2,f2,0⟩] sc pos) 0 (.ref it) (.ref acc) { cenv with scope:=relabel sc X.env }) (compPost (model X.prog X.w) X.A X.xe use P (.ref acc) cenv.locals) s₄) X.xe s3:=by
 refine wpAny_newFunctionEnv L.nocell (by intro y hy;simp at hy) (fun h4 hns4 hsb4=>?_) L.kind
 have szf:∀ b∈fp,b < s3.heap.objs.size:=fun b hb=>by
  obtain ⟨o,ho,_⟩:=T.obj _ _ st3 b hb
  exact Heap.lt_size ho
 have k34:∀ b o,s3.heap.get? b=some o->h4.get? b=some o:=fun b o e=>hsb4.extBut b o (Nat.ne_of_lt (Heap.lt_size e)) (Heap.get?_push_of_some _ e)
 have I4:=akf (t':=s3.toks+([]:List (Str × Value)).length) L I3 f3 szf (by simpa using hns4) k34
 have st4:tn 0 h4:=T.keep _ _ _ st3 fun b _ o e=>k34 b o e
 have f4:∀ b∈fp,FpOk (X.comp N sc s3.heap.objs.size s3 H3 fp) [] H3 b:=fun b hb =>
  ⟨(f3 b hb).1,(I4.ok.exf b hb).1,I4.ok.exfs b hb,.inl hb,(I4.ok.exf b hb).2,fun p hp=>absurd (show p∈([]:List (Addr × Obj)) from hp) (by simp)⟩
 have fin:∀ (ys:List V) σ' H' s',Inv (X.comp N sc s3.heap.objs.size s3 H3 fp) [] σ' H' s'->Q (.ref acc) H'->compPost (model X.prog X.w) X.A X.xe use P (.ref acc) s3.heap.objs.size (.ok .next) s':=fun ys σ' H' s' J' q'=>by
  have Jo:Inv X pins σ H' s':=I3.call' (ch:=fp) J'.os J'.base J'.hok J'.bare fun b hb=>⟨(f3 b hb).2.2.2.1,(f3 b hb).2.1,(f3 b hb).2.2.2.2.1,(f3 b hb).2.2.2.2.2⟩
  obtain ⟨m,hn,_⟩:=J'.loc
  refine hP _ H' s' m Jo q' hn J'.free (Nat.ne_of_gt I3.lt) (.inr I3.sz) (fun x c e z=>?_) fun p hp z=>?_
  ·obtain ⟨v,o,ho,_⟩:=I3.cell x c e
   exact absurd (Heap.lt_size ho) (by rw [z];exact Nat.lt_irrefl _)
  ·exact absurd (Heap.lt_size (I3.pin p hp).1) (by rw [z];exact Nat.lt_irrefl _)
 have loop:codeAny (model X.prog X.w) X.A (.compLoop (.ListComp elt [⟨t1,i1,f1,0⟩,⟨t2,i2,f2,0⟩] sc pos) 0 (.ref it) (.ref acc) (X.comp N sc s3.heap.objs.size s3 H3 fp).env)
   (compPost (model X.prog X.w) X.A X.xe use P (.ref acc) s3.heap.objs.size) { s3 with heap:=h4,toks:=s3.toks+([]:List (Str × Value)).length } :=
  aoi (X:=X.comp N sc s3.heap.objs.size s3 H3 fp) T hc (fun _ _ z=>z) (hg _ _ _ _) (hif _ _ _ _) (hi2 _ _ _ _) (hg2 _ _ _ _) (hif2 _ _ _ _) (he _ _ _ _) (hs2 _ _ _ _) turn fin I4 st4 f4 w0
 exact codeAny_compStart_list loop (T.self _ 0 _ _ _ st4 loop)
theorem axd (hc:X.calm=true) (L:LcOk X N sc src) (hi:PI X t1 i1 wi) (hg:∀ C s0 H0 ex,PG (X.comp N sc C s0 H0 ex) t1 g) (hif:∀ C s0 H0 ex,PIf (X.comp N sc C s0 H0 ex) f1 tif) (hi2:∀ C s0 H0 ex,PI (X.comp N sc C s0 H0 ex) t2 i2 wi2) (hg2:∀ C s0 H0 ex,PG (X.comp N sc C s0 H0 ex) t2 g2) (hif2:∀ C s0 H0 ex,PIf (X.comp N sc C s0 H0 ex) f2 tif2) (he:∀ C s0 H0 ex,PE (X.comp N sc C s0 H0 ex) elt te)
  (hs:∀ x,foldedSetIterable i1 X.env x=pure x:=by intro _;rfl) (hs2:∀ C s0 H0 ex x,foldedSetIterable i2 (X.comp N sc C s0 H0 ex).env x=pure x:=by intros;rfl):PE X (.ListComp elt [⟨t1,i1,f1,0⟩,⟨t2,i2,f2,0⟩] sc pos) (tLC2 src wi g tif wi2 g2 tif2 te):=by
 intro pins s σ H Q I h
 rw [eval_ListComp]
 refine wpAny_comprehension_free rfl hs (L.clo I.ok) L.kind L.own (thn (hi pins s σ H _ I h) fun v s1 h1=>thn h1 fun itv s2 h2=>?_)
 obtain ⟨it,fp,tn,J,H2,e,I2,T,st2,f2',q2⟩:=h2
 subst e
 have hacc:H2 s2.heap.objs.size=none:=I2.hok.fresh (Nat.le_refl _)
 obtain ⟨W,⟨m0,w0⟩,turn⟩:=q2 s2.heap.objs.size hacc
 have szf:∀ b∈fp,b < s2.heap.objs.size:=fun b hb=>by
  obtain ⟨o,ho,_⟩:=T.obj _ _ st2 b hb
  exact Heap.lt_size ho
 refine wpAny_newObj_type ?_
 refine ara (pins:=pins) hc L hg hif hi2 hg2 hif2 he hs2 (H3:=upd H2 s2.heap.objs.size (.lst [])) ?_ T ?_ ?_ w0 turn none _ ?_
 ·exact I2.laid (t':=s2.toks) (fun b u e=>Heap.get?_push_of_some _ e) (Nat.le_refl _) ⟨Nat.zero_le _,[],0,.nil,Heap.get?_push_size _ rfl⟩
 ·exact T.keep _ _ _ st2 fun b _ o e=>Heap.get?_push_of_some _ e
 ·exact fun b hb=>⟨by rw [aaf (Nat.ne_of_lt (szf b hb))];exact (f2' b hb).1,(f2' b hb).2⟩
 ·intro C H' s' m J q hn hC hL hx hcl hp
  refine ⟨m,hn,fun h' sb=>⟨.ref s2.heap.objs.size,H',?_,rfl,q⟩⟩
  exact J.turned (t':=s'.toks) (fun b o hb e=>sb.extBut b o hb e) hC hL hx hcl hp
end
end L2
namespace L2
open PySem PySem.Spec PyProof.Rows
def rLen (K:PySem.W.Frag):List V->Hp->VK->Prop:=fun xs H Q=>∃ p ys,xs=[.ref p]/\(SqL K H p ys\/SqT K H p ys)/\Q (.int ys.length) H
theorem ab0 {X:Cx}:aa9 X (.builtin "len") (rLen X.K):=akb
def aju:List V->Hp->VK->Prop:=fun xs H Q=>∃ i j,xs=[.int i,.int j]/\Q (.int (if j > i then j else i)) H
def ajv:List V->Hp->VK->Prop:=fun xs H Q=>∃ i j,xs=[.int i,.int j]/\Q (.int (if j < i then j else i)) H
theorem agt {X:Cx} (hc:X.calm=true):aa9 X (.builtin "max") aju:=apf hc
theorem adh {X:Cx} (hc:X.calm=true):aa9 X (.builtin "min") ajv:=apg hc
section
variable {σ:St} {H:Hp} {D:Ends} {K:PySem.W.Frag}
theorem amx {i:Nat} {v:V} {Q:St->Hp->Prop} (h:Q (σ.set i (some v)) H):aa2 i v σ H Q:=h
theorem apo {Q:List V->Hp->Prop} (h:Q [] H):tNil σ H Q:=h
theorem axe {t:TA} {Q:VK} (h:t σ H fun xs H1=>xs.length<=sizeLine/\∀ p,H1 p=none->Q (.ref p) (upd H1 p (.lst xs))):tLst t σ H Q:=h
theorem apq {i j:Int} {Q:VK} (h:Q (.bl (decide (i=j))) H):rEq (.int i) (.int j) H Q:=by
 have e:decide (V.int i=V.int j)=decide (i=j):=by rw [ae7];exact Bool.beq_eq_decide_eq i j
 exact ⟨rfl,by rw [e];exact h⟩
theorem axf {i j:Int} {Q:VK} (h:Q (.bl (!decide (i=j))) H):rNe (.int i) (.int j) H Q:=by
 have e:decide (V.int i=V.int j)=decide (i=j):=by rw [ae7];exact Bool.beq_eq_decide_eq i j
 exact ⟨rfl,by rw [e];exact h⟩
theorem axg {i j:Bool} {Q:VK} (h:Q (.bl (decide (i=j))) H):rEq (.bl i) (.bl j) H Q:=by
 have e:decide (V.bl i=V.bl j)=decide (i=j):=by rw [aj6];cases i <;> cases j <;> rfl
 exact ⟨rfl,by rw [e];exact h⟩
theorem axh {a:Addr} {xs:List V} {i:Int} {v:V} {Q:VK} (ha:H a=some (.lst xs)) (hv:atI xs i=some v) (h:Q v H):rIxL K (.ref a) (.int i) H Q:=⟨a,xs,i,v,rfl,rfl,SqL.of ha,hv,h⟩
theorem axi {a:Addr} {xs:List V} {i:Int} {v:V} {Q:VK} (ha:H a=some (.tup xs)) (hv:atI xs i=some v) (h:Q v H):rIxT K (.ref a) (.int i) H Q:=⟨a,xs,i,v,rfl,rfl,SqT.of ha,hv,h⟩
theorem amy {a:Addr} {xs:List V} {k:Int} {j:Nat} {v:V} {Q:Hp->Prop} (ha:H a=some (.lst xs)) (hj:ixN xs.length k=some j) (h:Q (upd H a (.lst (xs.set j v)))):aog (.ref a) (.int k) v H Q:=⟨a,xs,k,j,rfl,rfl,ha,hj,h⟩
theorem aes {a:Addr} {xs:List V} {y:V} {Q:VK} (ha:H a=some (.lst xs)) (hl:xs.length < sizeLine) (h:Q .non (upd H a (.lst (xs ++ [y])))):ad5 (.ref a) [y] H Q:=⟨a,xs,y,rfl,rfl,ha,hl,h⟩
theorem axj {a b:Addr} {xs zs:List V} {Q:VK} (ha:H a=some (.lst xs)) (hb:H b=some (.lst zs)) (hl:xs.length+zs.length<=sizeLine) (h:∀ p,H p=none->Q (.ref p) (upd H p (.lst (xs ++ zs)))):rCat (.ref a) (.ref b) H Q:=⟨a,b,xs,zs,rfl,rfl,ha,hb,hl,h⟩
theorem amz {a:Addr} {xs:List V} {Q:VK} (ha:H a=some (.lst xs)) (h:Q (.int xs.length) H):rLen K [.ref a] H Q:=⟨a,xs,rfl,.inl (SqL.of ha),h⟩
theorem am0 {i j:Int} {Q:VK} (h:Q (.int (if j > i then j else i)) H):aju [.int i,.int j] H Q:=⟨i,j,rfl,h⟩
theorem am1 {i j:Int} {Q:VK} (h:Q (.int (if j < i then j else i)) H):ajv [.int i,.int j] H Q:=⟨i,j,rfl,h⟩
theorem ahr {c:Prop} [Decidable c] {A B:Prop} (hc:c) (h:A):if decide c=true then A else B:=by rw [decide_eq_true hc];exact iteT h
theorem ahs {c:Prop} [Decidable c] {A B:Prop} (hc:¬ c) (h:B):if decide c=true then A else B:=by rw [decide_eq_false hc];exact iteF h
theorem abm {c:Prop} [Decidable c] {A B:Prop} (h1:c->A) (h2:¬ c->B):if decide c=true then A else B:=by
 by_cases hc:c
 ·exact ahr hc (h1 hc)
 ·exact ahs hc (h2 hc)
theorem ixN0 {n:Nat}:ixN (n+1) 0=some 0:=by unfold ixN;rw [if_pos (by decide),if_pos (by row_cond lo)];rfl
theorem ixN2 {n:Nat}:ixN (n+3) 2=some 2:=by unfold ixN;rw [if_pos (by decide),if_pos (by row_cond lo)];rfl
end
end L2
namespace L2
open PySem PySem.Spec PyProof.Rows
structure CallOk (P:Program) (w:World) (K:PySem.W.Frag) (mg:Str->Option Value) (base:Heap) (x:Str) (k:Nat) (ps:List Str) (sp:Sp) (f:Addr) (fd:FuncData):Prop where
 ok:FnOk P w K mg base CX0 k f fd ps sp
 mgx:mg x=some (.ref f)
 kp:PySem.W.keepIn K (.ref f)=true
 bd:Binds K fd ps []
def Can (P:Program) (w:World) (K:PySem.W.Frag) (mg:Str->Option Value) (base:Heap) (x:Str) (k:Nat) (ps:List Str) (sp:Sp):Prop:=∃ f fd,CallOk P w K mg base x k ps sp f fd
structure DefAt (K:PySem.W.Frag) (mg:Str->Option Value) (x:Str) (st:Stmt) (ps:List Str) (f:Addr) (fd:FuncData):Prop where
 fn:Fun K x x st f fd
 mgx:mg x=some (.ref f)
 bd:Binds K fd ps []
theorem DefAt.can {P:Program} {w:World} {K:PySem.W.Frag} {mg:Str->Option Value} {base:Heap} {x:Str} {st:Stmt} {k:Nat} {ps:List Str} {sp:Sp} {f:Addr} {fd:FuncData} (D:DefAt K mg x st ps f fd) (ok:FnOk P w K mg base CX0 k f fd ps sp):Can P w K mg base x k ps sp :=
 ⟨f,fd,ok,D.mgx,D.fn.kp,D.bd⟩
section
variable {X:Cx} {k j:Nat} {ps:List Str} {sp:Sp} {x:Str} {p pos:Pos} {e:Expr} {es:List Expr} {t:TA}
theorem aag (F:Can X.prog X.w X.K X.mg X.base x k ps sp) (hr:Room j X.A) (ha:PA X (e :: es) t) (hj:k<=j:=by decide) (hg:Gl X x:=by rfl) (hdb:(x == ("__debug__" : Str))=false:=by decide)
  (he:starEach (e :: es) X.env=(false,eval e X.env) :: starEach es X.env:=by rfl) (hpl:(backTo pos (starEach es X.env)).any (·.1)=false:=by rfl) :
  PE X (.Call (.Name x p) (e :: es) [] pos) (abk sp [] E0 t):=by
 obtain ⟨f,fd,C⟩:=F
 exact amo C.ok (hr.mono hj) hg C.mgx C.kp C.bd .nil azh ha hdb he hpl
end
theorem abn {X:Cx} {N:List Str} {sc:Scope} {src:List (Option Nat)} (h1:sc.kind=.function) (h2:sc.names.all (fun y=>y.2 != .cell)=true) (h3:sc.names.all (fun y=>y.2 != .local || sc.names.lookup y.1 == some .local)=true)
  (h4:sc.names.all (fun y=>y.2 != .free || X.env.kindOf y.1 == some .cell || X.env.kindOf y.1 == some .free)=true) (h5:src.length=N.length)
  (h6:(List.range src.length).all (fun i=>match src[i]? with | some (some j)=>(match N[i]?,X.N[j]? with | some x,some y=>x == y && sc.names.lookup x == some .free | _,_=>false) | _=>true)=true):LcOk X N sc src:=by
 refine ⟨h1,fun y hy e=>?_,fun y hy e=>?_,fun y hy e=>?_,h5,fun i j e=>?_⟩
 ·have:=List.all_eq_true.mp h2 y hy
  rw [e] at this
  exact absurd this (by decide)
 ·have:=List.all_eq_true.mp h3 y hy
  rw [e] at this
  simpa using this
 ·have:=List.all_eq_true.mp h4 y hy
  rw [e] at this
  simpa using this
 ·have hi:i < src.length:=(List.getElem?_eq_some_iff.mp e).1
  have:=List.all_eq_true.mp h6 i (List.mem_range.mpr hi)
  rw [e] at this
  dsimp only at this
  cases h7:N[i]? with
  | none=>rw [h7] at this;cases this
  | some x =>
   cases h8:X.N[j]? with
   | none=>rw [h7,h8] at this;cases this
   | some y =>
    rw [h7,h8] at this
    simp only [Bool.and_eq_true] at this
    have e1:x=y:=by simpa using this.1
    subst e1
    exact ⟨x,rfl,rfl,by simpa using this.2⟩
end L2
namespace L2
open PySem PySem.Spec PyProof.Rows
section
variable {σ:St} {H:Hp} {D:Ends} {K:PySem.W.Frag}
theorem axk {a:Addr} {xs:List V} {i:Int} {v:V} {Q:VK} (ha:SqL K H a xs) (hv:atI xs i=some v) (h:Q v H):rIxL K (.ref a) (.int i) H Q:=⟨a,xs,i,v,rfl,rfl,ha,hv,h⟩
theorem auh {a:Addr} {xs:List V} {Q:VK} (ha:SqL K H a xs) (h:Q (.int xs.length) H):rLen K [.ref a] H Q:=⟨a,xs,rfl,.inl ha,h⟩
theorem apr {Q:Bool->Hp->Prop} (h:Q true H):tYes σ H Q:=h
theorem arb {a:Addr} {xs:List V} {i:Int} {k:Nat} {y:V} {Q:VK} (ha:H a=some (.lst xs)) (h1 : -(2 ^ 63)<=i) (h2:i < 2 ^ 63) (h3:seqIndex? i xs.length=some k) (h4:xs[k]?=some y) (h:Q y (upd H a (.lst (xs.eraseIdx k)))):agq (.ref a) [.int i] H Q :=
 ⟨a,xs,i,k,y,rfl,rfl,ha,h1,h2,h3,h4,h⟩
end
end L2
namespace L2
open PySem
theorem adn:bootBuiltins "len" = some (.builtin "len"):=by decide +kernel
theorem ado:bootBuiltins "max" = some (.builtin "max"):=by decide +kernel
theorem aet:bootBuiltins "min" = some (.builtin "min"):=by decide +kernel
theorem adz:bootBuiltins "sorted" = some (.builtin "sorted"):=by decide +kernel
theorem aa8:bootBuiltins "isinstance" = some (.builtin "isinstance"):=by decide +kernel
theorem axl:bootBuiltins "int" = some (.type "int"):=by decide +kernel
theorem am2:bootBuiltins "list" = some (.type "list"):=by decide +kernel
theorem aps:bootBuiltins "set" = some (.type "set"):=by decide +kernel
theorem akj:bootBuiltins "enumerate" = some (.type "enumerate"):=by decide +kernel
theorem aui:bootBuiltins "bool" = some (.type "bool"):=by decide +kernel
theorem axm:bootBuiltins "zip" = some (.type "zip"):=by decide +kernel
end L2
namespace TS
open PySem PyProof.Rows
noncomputable def auj:Nat->Nat->StateT SortSt Sem (Option Nat):=sortPriv% PySem.Builtin.countRun
noncomputable def arc:Nat->Nat->Nat->StateT SortSt Sem Bool:=sortPriv% PySem.Builtin.binarySort
noncomputable def azi:StateT SortSt Sem Unit:=sortPriv% PySem.Builtin.sortRuns
structure Cmp (M:Model) (A:Around) (E:Value->Shared->Prop) (s:Shared) (κ:SortKind) (S:Keyed->Prop) (R:Keyed->Keyed->Bool):Prop where
 ask:∀ x y,S x->S y->∀ (Q:Option Bool->SortSt->Prop) (st:SortSt),kindOf st = κ->Q (some (R x y)) st->wpS M A E s (lt' x y) Q st
 asy:∀ x y,S x->S y->R x y=true->R y x=false
 tr:∀ x y z,S x->S y->S z->R y x=false->R z y=false->R z x=false
section
variable {M:Model} {A:Around} {E:Value->Shared->Prop} {s:Shared} {κ:SortKind} {S:Keyed->Prop} {R:Keyed->Keyed->Bool}
theorem akk {arr:Array Keyed} {i:Nat} {x:Keyed} {Q:Keyed->SortSt->Prop} {st:SortSt} (hx:arr[i]?=some x) (h:Q x st):wpS M A E s (elem' arr i) Q st:=by
 rw [elem'_eq,hx]
 exact wpS_pure h
theorem akl {x:String} {Q:Unit->SortSt->Prop} {st:SortSt} (h:Q () st):wpS M A E s (liftM (PySem.rule x):StateT SortSt Sem Unit) Q st :=
 wpS_lift (wpAny_rule ⟨rfl,h⟩)
end
end TS
namespace TS
open PySem PyProof.Rows
def Srt (R:Keyed->Keyed->Bool) (l:List Keyed):Prop:=l.Pairwise fun x y=>R y x=false
structure Mid (R:Keyed->Keyed->Bool) (L out a b:List Keyed):Prop where
 perm:(out ++ a ++ b).Perm L
 so:Srt R out
 le:∀ x∈out,∀ y∈a ++ b,R y x=false
 sa:Srt R a
 sb:Srt R b
section
variable {R:Keyed->Keyed->Bool} {L out a b p:List Keyed}
theorem Mid.done (m:Mid R L out a b) (h:a=[]\/b=[]):(out ++ a ++ b).Perm L/\Srt R (out ++ a ++ b):=by
 refine ⟨m.perm,?_⟩
 rw [List.append_assoc]
 refine List.pairwise_append.mpr ⟨m.so,?_,m.le⟩
 rcases h with h | h
 ·subst h;exact m.sb
 ·subst h;rw [List.append_nil];exact m.sa
end
structure Eqv (st st':SortSt):Prop where
 k:kindOf st'=kindOf st
 a:arrOf st'=arrOf st
 p:pendingOf st'=pendingOf st
 f:failedOf st'=failedOf st
theorem Eqv.refl (st:SortSt):Eqv st st:=⟨rfl,rfl,rfl,rfl⟩
theorem Eqv.trans {a b c:SortSt} (h:Eqv a b) (g:Eqv b c):Eqv a c:=⟨g.k.trans h.k,g.a.trans h.a,g.p.trans h.p,g.f.trans h.f⟩
section
variable {M:Model} {A:Around} {E:Value->Shared->Prop} {s:Shared} {κ:SortKind} {S:Keyed->Prop} {R:Keyed->Keyed->Bool}
theorem Cmp.irr {x:Keyed} (C:Cmp M A E s κ S R) (hx:S x):R x x=false:=by
 cases e:R x x with
 | false=>rfl
 | true=>have:=C.asy x x hx hx e;rw [e] at this;cases this
end
end TS
namespace TS
open PySem PyProof.Rows
section
variable {M:Model} {A:Around} {E:Value->Shared->Prop} {s:Shared} {κ:SortKind} {S:Keyed->Prop} {R:Keyed->Keyed->Bool}
structure Lo (S:Keyed->Prop) (R:Keyed->Keyed->Bool) (a b out:Array Keyed) (ia ib:Nat):Prop where
 mid:Mid R (a.toList ++ b.toList) out.toList (a.toList.drop ia) (b.toList.drop ib)
 ia:ia<=a.size
 ib:ib<=b.size
theorem Lo.len {a b out:Array Keyed} {ia ib:Nat} (l:Lo S R a b out ia ib):out.size+(a.size - ia)+(b.size - ib)=a.size+b.size:=by
 have:=l.mid.perm.length_eq
 simp at this
 row_cond lo
section
variable {ρ β γ δ ε ζ η:Type}
end
theorem ab7 {c:Prop} [Decidable c] {α:Type} {m1 m2:StateT SortSt Sem α} {Q : α->SortSt->Prop} {st:SortSt} (h1:c->wpS M A E s m1 Q st) (h2:¬ c->wpS M A E s m2 Q st):wpS M A E s (if c then m1 else m2) Q st:=by
 by_cases h:c
 ·rw [if_pos h];exact h1 h
 ·rw [if_neg h];exact h2 h
end
end TS
namespace TS
open PySem PyProof.Rows
structure MidH (R:Keyed->Keyed->Bool) (L a b tl:List Keyed):Prop where
 perm:(a ++ b ++ tl).Perm L
 so:Srt R tl
 le:∀ x∈a ++ b,∀ y∈tl,R y x=false
 sa:Srt R a
 sb:Srt R b
section
variable {R:Keyed->Keyed->Bool} {L tl a b p:List Keyed}
theorem MidH.done (m:MidH R L a b tl) (h:a=[]\/b=[]):(a ++ b ++ tl).Perm L/\Srt R (a ++ b ++ tl):=by
 refine ⟨m.perm,List.pairwise_append.mpr ⟨?_,m.so,m.le⟩⟩
 rcases h with h | h
 ·subst h;exact m.sb
 ·subst h;rw [List.append_nil];exact m.sa
end
section
variable {M:Model} {A:Around} {E:Value->Shared->Prop} {s:Shared} {κ:SortKind} {S:Keyed->Prop} {R:Keyed->Keyed->Bool}
structure Hi (S:Keyed->Prop) (R:Keyed->Keyed->Bool) (a b out:Array Keyed) (na nb:Nat):Prop where
 mid:MidH R (a.toList ++ b.toList) (a.toList.take na) (b.toList.take nb) out.toList.reverse
 na:na<=a.size
 nb:nb<=b.size
theorem Hi.len {a b out:Array Keyed} {na nb:Nat} (l:Hi S R a b out na nb):out.size+na+nb=a.size+b.size:=by
 have:=l.mid.perm.length_eq
 have h1:=l.na
 have h2:=l.nb
 simp at this
 row_cond lo
end
end TS
namespace TS
open PySem PyProof.Rows
section
variable {M:Model} {A:Around} {E:Value->Shared->Prop} {s:Shared} {κ:SortKind} {S:Keyed->Prop} {R:Keyed->Keyed->Bool}
end
end TS
namespace TS
open PySem PyProof.Rows
noncomputable def e (xs:Array Keyed) (k:Nat):Keyed:=(xs[k]?).getD (.none,.none)
theorem agu {xs:Array Keyed} {k:Nat} (h:k < xs.size):xs[k]?=some (e xs k):=by
 unfold e;rw [Array.getElem?_eq_getElem h];rfl
def Asc (R:Keyed->Keyed->Bool) (xs:Array Keyed) (l h:Nat):Prop:=∀ i j,l<=i->i<=j->j < h->R (e xs j) (e xs i)=false
def Des (R:Keyed->Keyed->Bool) (xs:Array Keyed) (l h:Nat):Prop:=∀ i j,l<=i->i<=j->j < h->R (e xs i) (e xs j)=false
structure Bs (κ:SortKind) (p0:Array (Nat × Nat × Nat)) (a0:Array Keyed) (lo:Nat) (st:SortSt):Prop where
 k:kindOf st = κ
 f:failedOf st=none
 p:pendingOf st=p0
 perm:(arrOf st).toList.Perm a0.toList
 pre:∀ k,k < lo->(arrOf st)[k]?=a0[k]?
theorem ard {xs:Array Keyed} {src d:Nat} (hs:src < xs.size) (hd:d<=src) (k:Nat):e (bubble xs src d) k=if k=src - d then e xs src else if src - d < k/\k<=src then e xs (k - 1) else e xs k:=by
 unfold e
 rw [getElem?_bubble hs d hd]
 repeat' split
 all_goals rfl
theorem aci {xs:Array Keyed} {i j:Nat} (hj:j<=xs.size) (k:Nat):e (mirror xs i j ((j - i) / 2)) k=if i<=k/\k < j then e xs (i+j - 1 - k) else e xs k:=by
 unfold e
 rw [getElem?_mirror_all hj]
 split <;> rfl
section
variable {M:Model} {A:Around} {E:Value->Shared->Prop} {s:Shared} {κ:SortKind} {S:Keyed->Prop} {R:Keyed->Keyed->Bool} {p0:Array (Nat × Nat × Nat)} {a0:Array Keyed} {lo:Nat}
theorem Bs.size {st:SortSt} (B:Bs κ p0 a0 lo st):(arrOf st).size=a0.size:=by
 have:=B.perm.length_eq
 simpa using this
theorem Bs.sat {st:SortSt} (B:Bs κ p0 a0 lo st) (hS:∀ x∈a0.toList,S x) {k:Nat} (hk:k < a0.size):S (e (arrOf st) k):=by
 have h:=agu (xs:=arrOf st) (k:=k) (by rw [B.size];exact hk)
 refine hS _ (B.perm.mem_iff.mp ?_)
 rw [← Array.getElem?_toList] at h
 exact List.mem_of_getElem? h
theorem aeu (C:Cmp M A E s κ S R) (hS:∀ x∈a0.toList,S x) {st:SortSt} (B:Bs κ p0 a0 lo st) {i j:Nat} (hi:i < a0.size) (hj:j < a0.size) {Q:Option Bool->SortSt->Prop} (h:Q (some (R (e (arrOf st) i) (e (arrOf st) j))) st) :
  wpS M A E s (ltAt' i j) Q st:=by
 rw [ltAt'_eq]
 refine wpS_bind (wpS_get ?_)
 refine wpS_bind (akk (agu (by rw [B.size];exact hi)) ?_)
 refine wpS_bind (akk (agu (by rw [B.size];exact hj)) ?_)
 exact C.ask _ _ (B.sat hS hi) (B.sat hS hj) _ _ B.k h
theorem arf (C:Cmp M A E s κ S R) {xs:Array Keyed} {l h:Nat} (hS:∀ k,k<=h->S (e xs k)) (hl:l < h) (a:Asc R xs l h) (n:R (e xs h) (e xs (h - 1))=false):Asc R xs l (h+1):=by
 intro i j h1 h2 h3
 by_cases hj:j=h
 ·subst hj
  by_cases hi:i=j
  ·subst hi;exact C.irr (hS _ (Nat.le_refl _))
  ·exact C.tr _ (e xs (j - 1)) _ (hS _ (by row_cond lo)) (hS _ (by row_cond lo)) (hS _ (by row_cond lo)) (a i (j - 1) h1 (by row_cond lo) (by row_cond lo)) n
 ·exact a i j h1 h2 (by row_cond lo)
theorem aec (C:Cmp M A E s κ S R) {xs:Array Keyed} {l h:Nat} (hS:∀ k,k<=h->S (e xs k)) (hl:l < h) (a:Des R xs l h) (n:R (e xs (h - 1)) (e xs h)=false):Des R xs l (h+1):=by
 intro i j h1 h2 h3
 by_cases hj:j=h
 ·subst hj
  by_cases hi:i=j
  ·subst hi;exact C.irr (hS _ (Nat.le_refl _))
  ·exact C.tr _ (e xs (j - 1)) _ (hS _ (by row_cond lo)) (hS _ (by row_cond lo)) (hS _ (by row_cond lo)) n (a i (j - 1) h1 (by row_cond lo) (by row_cond lo))
 ·exact a i j h1 h2 (by row_cond lo)
theorem Bs.set {st:SortSt} (B:Bs κ p0 a0 lo st) {xs:Array Keyed} (hp:xs.Perm (arrOf st)) (hl:∀ k,k < lo->xs[k]?=(arrOf st)[k]?):Bs κ p0 a0 lo (setArr st xs) :=
 ⟨B.k,B.f,B.p,hp.toList.trans B.perm,fun k hk=>(hl k hk).trans (B.pre k hk)⟩
theorem aoj (C:Cmp M A E s κ S R) (hS:∀ x∈a0.toList,S x) {st:SortSt} (B:Bs κ p0 a0 lo st) {n ok:Nat} (hn:lo+n<=a0.size) (hok:ok<=n) (h1:1<=n) (hs:Asc R (arrOf st) lo (lo+ok)) {Q:Bool->SortSt->Prop}
  (h:∀ st',Bs κ p0 a0 lo st'->Asc R (arrOf st') lo (lo+n)->Q true st'):wpS M A E s (arc lo n ok) Q st:=by
 refine wpS_bind (wpS_mono (Q:=fun (z:Option Bool × Unit) st'=>z.1=none/\Bs κ p0 a0 lo st'/\Asc R (arrOf st') lo (lo+n)) ?_ ?_)
 ·refine wpS_forRange (fun k (z:Option Bool × Unit) st'=>z.1=none/\Bs κ p0 a0 lo st'/\Asc R (arrOf st') lo (lo+k)) ?_ ?_ ⟨rfl,B,fun i j q1 q2 q3=>?_⟩
  ·rintro k ⟨o,_⟩ st1 hk1 hk2 ⟨rfl,B1,as⟩
   have SE:∀ j,j < lo+n->S (e (arrOf st1) j):=fun j hj=>B1.sat hS (by row_cond lo)
   refine wpS_bind (wpS_mono (Q:=fun (z:Option Bool × Nat × Nat) st'=>st'=st1/\z.1=none/\z.2.1<=k/\(∀ i,i < z.2.1->R (e (arrOf st1) (lo+k)) (e (arrOf st1) (lo+i))=false)/\(∀ i,z.2.1<=i->i < k->R (e (arrOf st1) (lo+k)) (e (arrOf st1) (lo+i))=true)) ?_ ?_)
   ·refine wpS_forRange (fun t (z:Option Bool × Nat × Nat) st'=>st'=st1/\z.1=none/\z.2.1<=z.2.2/\z.2.2<=k/\z.2.2 - z.2.1+t<=k/\(∀ i,i < z.2.1->R (e (arrOf st1) (lo+k)) (e (arrOf st1) (lo+i))=false)/\(∀ i,z.2.2<=i->i < k->R (e (arrOf st1) (lo+k)) (e (arrOf st1) (lo+i))=true)) ?_ ?_
     ⟨rfl,rfl,Nat.zero_le _,Nat.le_refl _,by dsimp only;row_cond lo,fun i hi=>absurd hi (Nat.not_lt_zero _),fun i q1 q2=>by dsimp only at q1;row_cond lo⟩
    ·rintro t ⟨o,l,r⟩ st2 _ ht ⟨rfl,eo,q1,q2,q3,q4,q5⟩
     dsimp only at eo q1 q2 q3 q4 q5 ⊢
     subst eo
     refine ab7 (fun hlr=>?_) (fun hlr=>?_)
     ·have:l=r:=by row_cond lo
      subst this
      exact wpS_pure ⟨rfl,rfl,q2,q4,q5⟩
     ·have hm:(l+r) / 2 < r:=by row_cond lo
      have hm2:l<=(l+r) / 2:=by row_cond lo
      refine wpS_bind (aeu C hS B1 (by row_cond lo) (by row_cond lo) ?_)
      dsimp only
      cases er:R (e (arrOf st2) (lo+k)) (e (arrOf st2) (lo+(l+r) / 2)) with
      | true =>
       rw [if_pos rfl]
       refine wpS_pure ⟨rfl,rfl,hm2,by dsimp only;row_cond lo,by dsimp only;row_cond lo,q4,fun i i1 i2=>?_⟩
       dsimp only at i1
       cases e2:R (e (arrOf st2) (lo+k)) (e (arrOf st2) (lo+i)) with
       | true=>rfl
       | false =>
        have:=C.tr _ _ _ (SE _ (by row_cond lo)) (SE _ (by row_cond lo)) (SE _ (by row_cond lo)) (as (lo+(l+r) / 2) (lo+i) (by row_cond lo) (by row_cond lo) (by row_cond lo)) e2
        rw [this] at er;cases er
      | false =>
       rw [if_neg (by decide)]
       refine wpS_pure ⟨rfl,rfl,by dsimp only;row_cond lo,q2,by dsimp only;row_cond lo,fun i i1=>?_,q5⟩
       dsimp only at i1
       exact C.tr _ _ _ (SE _ (by row_cond lo)) (SE _ (by row_cond lo)) (SE _ (by row_cond lo)) (as (lo+i) (lo+(l+r) / 2) (by row_cond lo) (by row_cond lo) (by row_cond lo)) er
    ·rintro ⟨o,l,r⟩ st2 ⟨rfl,eo,q1,q2,q3,q4,q5⟩
     dsimp only at eo q1 q2 q3 q4 q5 ⊢
     have : l = r := by have:k ≤ max 0 k := by row_cond lo
                        row_cond lo
     subst this
     exact ⟨rfl,eo,q2,q4,q5⟩
   ·rintro ⟨o,l,r⟩ st2 ⟨rfl,eo,q1,q4,q5⟩
    dsimp only at eo q1 q4 q5 ⊢
    subst eo
    dsimp only
    have hsz:lo+k < (arrOf st2).size:=by rw [B1.size];row_cond lo
    have hd:(lo+k) - (lo+l)=k - l:=by row_cond lo
    refine wpS_bind (wpS_modify ?_)
    have eb:∀ j,e (bubble (arrOf st2) (lo+k) (lo+k - (lo+l))) j=if j=lo+l then e (arrOf st2) (lo+k) else if lo+l < j/\j<=lo+k then e (arrOf st2) (j - 1) else e (arrOf st2) j:=fun j=>by
     rw [ard hsz (by row_cond lo),show lo+k - (lo+k - (lo+l))=lo+l by row_cond lo]
    refine wpS_pure ⟨rfl,B1.set (bubble_perm _ _ _) (fun j hj=>?_),fun i j i1 i2 i3=>?_⟩
    ·show (bubble (arrOf st2) (lo+k) (lo+k - (lo+l)))[j]?=_
     rw [getElem?_bubble hsz _ (by row_cond lo),if_neg (by row_cond lo),if_neg (by row_cond lo)]
    ·show R (e (bubble (arrOf st2) (lo+k) (lo+k - (lo+l))) j) (e (bubble (arrOf st2) (lo+k) (lo+k - (lo+l))) i)=false
     rw [eb,eb]
     have SE':∀ j,j < lo+n->S (e (arrOf st2) j):=SE
     by_cases j1:j=lo+l
     ·rw [if_pos j1]
      by_cases i4:i=lo+l
      ·rw [if_pos i4];exact C.irr (SE _ (by row_cond lo))
      ·rw [if_neg i4,if_neg (by row_cond lo)]
       have:=q4 (i - lo) (by row_cond lo)
       rw [show lo+(i - lo)=i by row_cond lo] at this
       exact this
     ·rw [if_neg j1]
      by_cases j2:lo+l < j/\j<=lo+k
      ·rw [if_pos j2]
       have gt:=q5 (j - 1 - lo) (by row_cond lo) (by row_cond lo)
       rw [show lo+(j - 1 - lo)=j - 1 by row_cond lo] at gt
       by_cases i4:i=lo+l
       ·rw [if_pos i4];exact C.asy _ _ (SE _ (by row_cond lo)) (SE _ (by row_cond lo)) gt
       ·rw [if_neg i4]
        by_cases i5:lo+l < i/\i<=lo+k
        ·rw [if_pos i5];exact as (i - 1) (j - 1) (by row_cond lo) (by row_cond lo) (by row_cond lo)
        ·rw [if_neg i5];exact as i (j - 1) (by row_cond lo) (by row_cond lo) (by row_cond lo)
      ·rw [if_neg j2,if_neg (by row_cond lo),if_neg (by row_cond lo)]
       exact as i j (by row_cond lo) (by row_cond lo) (by row_cond lo)
  ·rintro ⟨o,_⟩ st1 ⟨eo,B1,as⟩
   exact ⟨eo,B1,fun i j i1 i2 i3=>as i j i1 i2 (by row_cond lo)⟩
  ·by_cases hj:j < lo+ok
   ·exact hs i j q1 q2 hj
   ·have:i=j:=by row_cond lo
    subst this
    exact C.irr (B.sat hS (by row_cond lo))
 ·rintro ⟨o,_⟩ st1 ⟨eo,B1,as⟩
  dsimp only at eo ⊢
  subst eo
  exact wpS_pure (h st1 B1 as)
end
end TS
namespace TS
open PySem PyProof.Rows
def Eqb (R:Keyed->Keyed->Bool) (xs:Array Keyed) (l h:Nat):Prop:=∀ i j,l<=i->i < h->l<=j->j < h->R (e xs i) (e xs j)=false
section
variable {M:Model} {A:Around} {E:Value->Shared->Prop} {s:Shared} {κ:SortKind} {S:Keyed->Prop} {R:Keyed->Keyed->Bool} {p0:Array (Nat × Nat × Nat)} {a0:Array Keyed} {lo:Nat}
theorem am3 {α:Type} {prog:StateT SortSt Sem α} {P:SortSt->Prop} {Q : α->SortSt->Prop} {G:Prop} (use:(∀ st,P st->wpS M A E s prog Q st)->G) (pf:∀ st,P st->wpS M A E s prog Q st):G:=use pf
theorem akm (C:Cmp M A E s κ S R) (hS:∀ x∈a0.toList,S x) {st:SortSt} (B:Bs κ p0 a0 lo st) {a nrem:Nat} (h1:1<=a) (h2:a<=nrem) (hn:lo+nrem<=a0.size) (as:Asc R (arrOf st) lo (lo+a)) {Q:Option (Option Nat) × Nat->SortSt->Prop}
  (h:∀ n,a<=n->n<=nrem->Asc R (arrOf st) lo (lo+n)->(n < nrem->R (e (arrOf st) (lo+n)) (e (arrOf st) (lo+n - 1))=true)->Q (none,n) st) :
  wpS M A E s (forIn [a:nrem] ((none,a):Option (Option Nat) × Nat) (fun (_:Nat) z=>ltAt' (lo+z.2) (lo+z.2 - 1) >>= fun x=>match x with
   | some smaller=>if smaller=true then pure (ForInStep.done (none,z.2)) else pure (ForInStep.yield (none,z.2+1))
   | _=>pure (ForInStep.done (some none,z.2)))) Q st:=by
 refine wpS_forRange (fun t (z:Option (Option Nat) × Nat) st'=>st'=st/\z=(none,t)/\Asc R (arrOf st) lo (lo+t)) ?_ ?_ ⟨rfl,rfl,as⟩
 ·rintro t ⟨o,n⟩ st1 t1 t2 ⟨rfl,ez,as1⟩
  cases ez
  dsimp only
  refine wpS_bind (aeu C hS B (by row_cond lo) (by row_cond lo) ?_)
  dsimp only
  cases er:R (e (arrOf st1) (lo+t)) (e (arrOf st1) (lo+t - 1)) with
  | true =>
   rw [if_pos rfl]
   exact wpS_pure (h t t1 (by row_cond lo) as1 fun _=>er)
  | false =>
   rw [if_neg (by decide)]
   exact wpS_pure ⟨rfl,rfl,arf C (h:=lo+t) (fun k hk=>B.sat hS (by row_cond lo)) (by row_cond lo) as1 er⟩
 ·rintro ⟨o,n⟩ st1 ⟨rfl,ez,as1⟩
  cases ez
  rw [show max a nrem=nrem by row_cond lo] at as1 ⊢
  exact h nrem h2 (Nat.le_refl _) as1 fun z=>absurd z (Nat.lt_irrefl _)
theorem arh (C:Cmp M A E s κ S R) {st:SortSt} (B:Bs κ p0 a0 lo st) {n:Nat} (hn:lo+n<=a0.size) (de:Des R (arrOf st) lo (lo+n)) :
  Bs κ p0 a0 lo (setArr st (mirror (arrOf st) lo (lo+n) ((lo+n - lo) / 2)))/\Asc R (mirror (arrOf st) lo (lo+n) ((lo+n - lo) / 2)) lo (lo+n):=by
 have hz:lo+n<=(arrOf st).size:=by rw [B.size];exact hn
 refine ⟨B.set (mirror_perm _ _ _ _) (fun k hk=>by rw [getElem?_mirror_all hz,if_neg (by row_cond lo)]),fun i j h1 h2 h3=>?_⟩
 rw [aci hz,aci hz,if_pos (by row_cond lo),if_pos (by row_cond lo)]
 exact de _ _ (by row_cond lo) (by row_cond lo) (by row_cond lo)
theorem aht (C:Cmp M A E s κ S R) (hS:∀ x∈a0.toList,S x) {st:SortSt} (B:Bs κ p0 a0 lo st) {l h m:Nat} (hl:lo<=l) (hh:h<=a0.size) (hm:h<=m) (hm2:m<=a0.size) (de:Des R (arrOf st) lo m) (eq:Eqb R (arrOf st) l h) :
  Bs κ p0 a0 lo (setArr st (mirror (arrOf st) l h ((h - l) / 2)))/\Des R (mirror (arrOf st) l h ((h - l) / 2)) lo m:=by
 have hz:h<=(arrOf st).size:=by rw [B.size];exact hh
 refine ⟨B.set (mirror_perm _ _ _ _) (fun k hk=>by rw [getElem?_mirror_all hz,if_neg (by row_cond lo)]),fun i j h1 h2 h3=>?_⟩
 rw [aci hz,aci hz]
 have SE:∀ k,k < m->S (e (arrOf st) k):=fun k hk=>B.sat hS (by row_cond lo)
 by_cases c1:l<=i/\i < h
 ·rw [if_pos c1]
  by_cases c2:l<=j/\j < h
  ·rw [if_pos c2]
   exact eq _ _ (by row_cond lo) (by row_cond lo) (by row_cond lo) (by row_cond lo)
  ·rw [if_neg c2]
   exact de _ _ (by row_cond lo) (by row_cond lo) (by row_cond lo)
 ·rw [if_neg c1]
  by_cases c2:l<=j/\j < h
  ·rw [if_pos c2]
   exact de _ _ (by row_cond lo) (by row_cond lo) (by row_cond lo)
  ·rw [if_neg c2]
   exact de _ _ (by row_cond lo) (by row_cond lo) (by row_cond lo)
theorem apt (C:Cmp M A E s κ S R) (hS:∀ x∈a0.toList,S x) {st:SortSt} (B:Bs κ p0 a0 lo st) {nrem:Nat} (h1:1<=nrem) (hn:lo+nrem<=a0.size) {Q:Option Nat->SortSt->Prop}
  (h:∀ st' n,Bs κ p0 a0 lo st'->1<=n->n<=nrem->Asc R (arrOf st') lo (lo+n)->Q (some n) st'):wpS M A E s (auj lo nrem) Q st:=by
 refine wpS_bind (akm C hS B (Nat.le_refl 1) h1 hn (fun i j i1 i2 i3=>?_) fun n n1 n2 as br=>?_)
 ·have:i=j:=by row_cond lo
  subst this
  exact C.irr (B.sat hS (by row_cond lo))
 dsimp only
 refine ab7 (fun en=>wpS_pure (h st n B n1 n2 as)) (fun en=>?_)
 have en':n ≠ nrem:=by simpa using en
 have hlt:n < nrem:=by row_cond lo
 have br':=br hlt
 refine am3 (M:=M) (A:=A) (E:=E) (s:=s) (α:=Option Nat) (Q:=Q) (P:=fun st2=>Bs κ p0 a0 lo st2/\Des R (arrOf st2) lo (lo+n)/\R (e (arrOf st2) (lo+n)) (e (arrOf st2) (lo+n - 1))=true) (prog:=?prog) (fun JP=>?use) (fun st2 ⟨B2,de,br2⟩=>?pf)
 case use =>
  refine ab7 (fun g1=>?_) (fun g1=>?_)
  ·refine wpS_bind (aeu C hS B (by row_cond lo) (by row_cond lo) ?_)
   dsimp only
   cases er:R (e (arrOf st) lo) (e (arrOf st) (lo+n - 1)) with
   | true=>rw [if_pos rfl];exact wpS_pure (h st n B n1 n2 as)
   | false =>
    rw [if_neg (by decide)]
    -- all of them are equal
    have SE:∀ k,k < lo+n->S (e (arrOf st) k):=fun k hk=>B.sat hS (by row_cond lo)
    have all:Eqb R (arrOf st) lo (lo+n):=fun i j i1 i2 j1 j2=>by
     -- j<=last<=first<=i
     have a1:=as j (lo+n - 1) j1 (by row_cond lo) (by row_cond lo)
     have a2:=as lo i (Nat.le_refl _) i1 i2
     exact C.tr _ _ _ (SE j j2) (SE lo (by row_cond lo)) (SE i i2) (C.tr _ _ _ (SE j j2) (SE (lo+n - 1) (by row_cond lo)) (SE lo (by row_cond lo)) a1 er) a2
    have de:Des R (arrOf st) lo (lo+n):=fun i j i1 i2 i3=>all i j i1 (by row_cond lo) (by row_cond lo) i3
    have hz:lo+n<=(arrOf st).size:=by rw [B.size];row_cond lo
    obtain ⟨B3,de3⟩:=aht C hS B (Nat.le_refl lo) (show lo+n<=a0.size by row_cond lo) (Nat.le_refl _) (by row_cond lo) de all
    refine wpS_bind (wpS_modify ?_)
    refine JP _ ⟨B3,de3,?_⟩
    show R (e (mirror (arrOf st) lo (lo+n) ((lo+n - lo) / 2)) (lo+n)) (e (mirror (arrOf st) lo (lo+n) ((lo+n - lo) / 2)) (lo+n - 1))=true
    rw [aci hz,aci hz,if_neg (by row_cond lo),if_pos (by row_cond lo)]
    rw [show lo+(lo+n) - 1 - (lo+n - 1)=lo by row_cond lo]
    cases e2:R (e (arrOf st) (lo+n)) (e (arrOf st) lo) with
    | true=>rfl
    | false =>
     have:=C.tr _ _ _ (SE (lo+n - 1) (by row_cond lo)) (SE lo (by row_cond lo)) (B.sat hS (show lo+n < a0.size by row_cond lo)) er e2
     rw [this] at br';cases br'
  ·have:n=1:=by row_cond lo
   subst this
   refine JP st ⟨B,fun i j i1 i2 i3=>?_,br'⟩
   have:i=j:=by row_cond lo
   subst this
   exact C.irr (B.sat hS (by row_cond lo))
 case pf =>
  -- the falling part
  refine wpS_bind (akl ?_)
  refine wpS_bind (wpS_mono (Q:=fun (z:Option (Option Nat) × Nat × Nat) st'=>z.1=none/\Bs κ p0 a0 lo st'/\z.2.1<=nrem/\z.2.2+1<=z.2.1/\Des R (arrOf st') lo (lo+z.2.1)/\Eqb R (arrOf st') (lo+z.2.1 - (z.2.2+1)) (lo+z.2.1)) ?_ ?_)
  ·refine wpS_forRange (fun t (z:Option (Option Nat) × Nat × Nat) st'=>z.1=none/\z.2.1=t/\Bs κ p0 a0 lo st'/\z.2.2+1<=z.2.1/\Des R (arrOf st') lo (lo+z.2.1)/\Eqb R (arrOf st') (lo+z.2.1 - (z.2.2+1)) (lo+z.2.1)) ?_ ?_ ⟨rfl,rfl,B2,by dsimp only;row_cond lo,?_,fun i j i1 i2 j1 j2=>?_⟩
   ·rintro t ⟨o,m,neq⟩ st3 t1 t2 ⟨eo,em,B3,hq,de3,eq3⟩
    dsimp only at eo em hq de3 eq3 ⊢
    subst eo em
    have SE:∀ k,k < a0.size->S (e (arrOf st3) k):=fun k hk=>B3.sat hS hk
    refine wpS_bind (aeu C hS B3 (by row_cond lo) (by row_cond lo) ?_)
    dsimp only
    cases er:R (e (arrOf st3) (lo+m)) (e (arrOf st3) (lo+m - 1)) with
    | true =>
     rw [if_pos rfl]
     refine ab7 (fun g=>?_) (fun g=>?_)
     ·have hz:lo+m<=(arrOf st3).size:=by rw [B3.size];row_cond lo
      obtain ⟨B4,de4⟩:=aht C hS B3 (l:=lo+m - (neq+1)) (h:=lo+m) (by row_cond lo) (by row_cond lo) (Nat.le_refl _) (by row_cond lo) de3 eq3
      have em1:∀ k,e (mirror (arrOf st3) (lo+m - (neq+1)) (lo+m) ((lo+m - (lo+m - (neq+1))) / 2)) k=if lo+m - (neq+1)<=k/\k < lo+m then e (arrOf st3) (lo+m - (neq+1)+(lo+m) - 1 - k) else e (arrOf st3) k:=fun k=>aci hz k
      refine wpS_bind (wpS_modify ?_)
      refine wpS_pure ⟨rfl,rfl,B4,by dsimp only;row_cond lo,?_,fun i j i1 i2 j1 j2=>?_⟩
      ·show Des R (mirror (arrOf st3) (lo+m - (neq+1)) (lo+m) ((lo+m - (lo+m - (neq+1))) / 2)) lo (lo+(m+1))
       refine aec C (h:=lo+m) (fun k hk=>B4.sat hS (by row_cond lo)) (by row_cond lo) de4 ?_
       rw [em1,em1,if_pos (by row_cond lo),if_neg (by row_cond lo)]
       rw [show lo+m - (neq+1)+(lo+m) - 1 - (lo+m - 1)=lo+m - (neq+1) by row_cond lo]
       exact C.tr _ _ _ (SE _ (by row_cond lo)) (SE (lo+m - 1) (by row_cond lo)) (SE _ (by row_cond lo)) (C.asy _ _ (SE _ (by row_cond lo)) (SE _ (by row_cond lo)) er) (de3 _ _ (by row_cond lo) (by row_cond lo) (by row_cond lo))
      ·dsimp only at i1 i2 j1 j2
       have:i=j:=by row_cond lo
       subst this
       exact C.irr (B4.sat hS (by row_cond lo))
     ·have:neq=0:=by row_cond lo
      subst this
      refine wpS_pure ⟨rfl,rfl,B3,by dsimp only;row_cond lo,aec C (h:=lo+m) (fun k hk=>SE k (by row_cond lo)) (by row_cond lo) de3 (C.asy _ _ (SE _ (by row_cond lo)) (SE _ (by row_cond lo)) er),fun i j i1 i2 j1 j2=>?_⟩
      dsimp only at i1 i2 j1 j2
      have:i=j:=by row_cond lo
      subst this
      exact C.irr (SE _ (by row_cond lo))
    | false =>
     rw [if_neg (by decide)]
     refine wpS_bind (aeu C hS B3 (by row_cond lo) (by row_cond lo) ?_)
     dsimp only
     cases er2:R (e (arrOf st3) (lo+m - 1)) (e (arrOf st3) (lo+m)) with
     | true =>
      rw [if_pos rfl]
      exact wpS_pure ⟨rfl,B3,by dsimp only;row_cond lo,hq,de3,eq3⟩
     | false =>
      rw [if_neg (by decide)]
      refine wpS_pure ⟨rfl,rfl,B3,by dsimp only;row_cond lo,aec C (h:=lo+m) (fun k hk=>SE k (by row_cond lo)) (by row_cond lo) de3 er2,fun i j i1 i2 j1 j2=>?_⟩
      dsimp only at i1 i2 j1 j2
      by_cases ci:i=lo+m
      ·by_cases cj:j=lo+m
       ·rw [ci,cj];exact C.irr (SE _ (by row_cond lo))
       ·rw [ci]
        exact C.tr _ _ _ (SE j (by row_cond lo)) (SE (lo+m - 1) (by row_cond lo)) (SE _ (by row_cond lo)) (eq3 (lo+m - 1) j (by row_cond lo) (by row_cond lo) (by row_cond lo) (by row_cond lo)) er
      ·by_cases cj:j=lo+m
       ·rw [cj]
        exact C.tr _ _ _ (SE _ (by row_cond lo)) (SE (lo+m - 1) (by row_cond lo)) (SE i (by row_cond lo)) er2 (eq3 i (lo+m - 1) (by row_cond lo) (by row_cond lo) (by row_cond lo) (by row_cond lo))
       ·exact eq3 i j (by row_cond lo) (by row_cond lo) (by row_cond lo) (by row_cond lo)
   ·rintro ⟨o,m,neq⟩ st3 ⟨eo,em,B3,hq,de3,eq3⟩
    dsimp only at eo em hq de3 eq3 ⊢
    exact ⟨eo,B3,by row_cond lo,hq,de3,eq3⟩
   ·exact aec C (h:=lo+n) (fun k hk=>B2.sat hS (by row_cond lo)) (by row_cond lo) de (C.asy _ _ (B2.sat hS (by row_cond lo)) (B2.sat hS (by row_cond lo)) br2)
   ·dsimp only at i1 i2 j1 j2
    have:i=j:=by row_cond lo
    subst this
    exact C.irr (B2.sat hS (by row_cond lo))
  ·rintro ⟨o,m,neq⟩ st3 ⟨eo,B3,hm,hq,de3,eq3⟩
   dsimp only at eo hm hq de3 eq3 ⊢
   subst eo
   dsimp only
   refine am3 (M:=M) (A:=A) (E:=E) (s:=s) (α:=Option Nat) (Q:=Q) (P:=fun st4=>Bs κ p0 a0 lo st4/\Des R (arrOf st4) lo (lo+m)) (prog:=?prog2) (fun JP=>?use2) (fun st4 ⟨B4,de4⟩=>?pf2)
   case use2 =>
    refine ab7 (fun g=>?_) (fun g=>?_)
    ·obtain ⟨B4,de4⟩:=aht C hS B3 (l:=lo+m - (neq+1)) (h:=lo+m) (by row_cond lo) (by row_cond lo) (Nat.le_refl _) (by row_cond lo) de3 eq3
     refine wpS_bind (wpS_modify ?_)
     exact JP _ ⟨B4,de4⟩
    ·exact JP _ ⟨B3,de3⟩
   case pf2 =>
    obtain ⟨B5,as5⟩:=arh C B4 (n:=m) (by row_cond lo) de4
    refine wpS_bind (wpS_modify ?_)
    refine wpS_bind (akm C hS B5 (by row_cond lo) hm hn as5 fun n' n1' n2' as' _=>?_)
    exact wpS_pure (h _ n' B5 (by row_cond lo) n2' as')
end
end TS
namespace TS
open PySem PyProof.Rows
noncomputable def flat (rs:List (List Keyed × Nat)):List Keyed:=(rs.map (·.1)).flatten
noncomputable def pend:Nat->List (List Keyed × Nat)->List (Nat × Nat × Nat)
 | _,[]=>[]
 | k,(r,pw) :: t=>(k,r.length,pw) :: pend (k+r.length) t
theorem ari:flat []=[]:=rfl
theorem apu (r:List Keyed × Nat) (t:List (List Keyed × Nat)):flat (r :: t)=r.1 ++ flat t:=rfl
theorem al5 (p q:List (List Keyed × Nat)):flat (p ++ q)=flat p ++ flat q:=by simp [flat]
theorem afv:∀ (k:Nat) (p q:List (List Keyed × Nat)),pend k (p ++ q)=pend k p ++ pend (k+(flat p).length) q
 | k,[],q=>by simp [pend,ari]
 | k,(r,pw) :: t,q=>by
  simp only [List.cons_append,pend,apu,List.length_append,List.cons.injEq,true_and]
  rw [afv (k+r.length) t q,Nat.add_assoc]
section
variable {M:Model} {A:Around} {E:Value->Shared->Prop} {s:Shared} {κ:SortKind} {S:Keyed->Prop} {R:Keyed->Keyed->Bool} {a0:Array Keyed}
structure Rn (κ:SortKind) (R:Keyed->Keyed->Bool) (a0:Array Keyed) (rs:List (List Keyed × Nat)) (rest:List Keyed) (st:SortSt):Prop where
 k:kindOf st = κ
 f:failedOf st=none
 arr:(arrOf st).toList=flat rs ++ rest
 pn:(pendingOf st).toList=pend 0 rs
 ok:∀ r∈rs,r.1 ≠ []/\Srt R r.1
 perm:(arrOf st).toList.Perm a0.toList
theorem Rn.run {rs:List (List Keyed × Nat)} {rest:List Keyed} {st st':SortSt} {n:Nat} (N:Rn κ R a0 rs rest st) (B:Bs κ (pendingOf st) (arrOf st) (flat rs).length st') (h1:1<=n) (hn:(flat rs).length+n<=(arrOf st).size) (as:Asc R (arrOf st') (flat rs).length ((flat rs).length+n)) :
  ∃ r rest',r.length=n/\r ≠ []/\Srt R r/\Rn κ R a0 rs (r ++ rest') st':=by
 have hsz:=B.size
 have hfl:(arrOf st').toList.take (flat rs).length=flat rs:=by
  have e1:(arrOf st').toList.take (flat rs).length=(arrOf st).toList.take (flat rs).length:=by
   apply List.ext_getElem?
   intro k
   rw [List.getElem?_take,List.getElem?_take]
   split
   ·rename_i hk
    have:=B.pre k hk
    simpa using this
   ·rfl
  rw [e1,N.arr,List.take_left]
 refine ⟨((arrOf st').toList.drop (flat rs).length).take n,((arrOf st').toList.drop (flat rs).length).drop n,?_,?_,?_,B.k,B.f,?_,?_,N.ok,B.perm.trans N.perm⟩
 ·simp;row_cond lo
 ·intro z
  have:=congrArg List.length z
  simp at this
  row_cond lo
 ·unfold Srt
  rw [List.pairwise_iff_getElem]
  intro i j hi hj hij
  have hj':j < n:=by simp at hj;row_cond lo
  have get:∀ k,k < n->∀ (hk:k < (((arrOf st').toList.drop (flat rs).length).take n).length),(((arrOf st').toList.drop (flat rs).length).take n)[k]=e (arrOf st') ((flat rs).length+k):=by
   intro k hk hk2
   rw [List.getElem_take,List.getElem_drop]
   have h3:=agu (xs:=arrOf st') (k:=(flat rs).length+k) (by row_cond lo)
   have h4:(flat rs).length+k < (arrOf st').toList.length:=by simp;row_cond lo
   have h5:(arrOf st').toList[(flat rs).length+k]?=some (e (arrOf st') ((flat rs).length+k)):=by simpa using h3
   rw [List.getElem?_eq_getElem h4] at h5
   exact Option.some.inj h5
  rw [get i (by row_cond lo) hi,get j hj' hj]
  exact as _ _ (by row_cond lo) (by row_cond lo) (by row_cond lo)
 ·rw [List.take_append_drop]
  conv=>lhs;rw [← List.take_append_drop (flat rs).length (arrOf st').toList,hfl]
 ·rw [B.p];exact N.pn
theorem Rn.bs {rs:List (List Keyed × Nat)} {rest:List Keyed} {st:SortSt} (N:Rn κ R a0 rs rest st):Bs κ (pendingOf st) (arrOf st) (flat rs).length st:=⟨N.k,N.f,rfl,List.Perm.refl _,fun _ _=>rfl⟩
theorem Rn.size {rs:List (List Keyed × Nat)} {rest:List Keyed} {st:SortSt} (N:Rn κ R a0 rs rest st):(arrOf st).size=a0.size:=by
 have:=N.perm.length_eq;simpa using this
theorem Rn.len {rs:List (List Keyed × Nat)} {rest:List Keyed} {st:SortSt} (N:Rn κ R a0 rs rest st):(flat rs).length+rest.length=a0.size:=by
 have:=congrArg List.length N.arr
 have h2:=N.size
 simp at this
 row_cond lo
theorem Rn.push {rs:List (List Keyed × Nat)} {r rest:List Keyed} {st st':SortSt} (N:Rn κ R a0 rs (r ++ rest) st) (h0:r ≠ []) (hs:Srt R r) (k:kindOf st'=kindOf st) (f:failedOf st'=failedOf st) (a:arrOf st'=arrOf st)
  (p:pendingOf st'=(pendingOf st).push ((flat rs).length,r.length,0)):Rn κ R a0 (rs ++ [(r,0)]) rest st':=by
 refine ⟨k.trans N.k,f.trans N.f,?_,?_,fun q hq=>?_,by rw [a];exact N.perm⟩
 ·rw [a,N.arr,al5];simp [flat,List.append_assoc]
 ·rw [p,Array.toList_push,N.pn,afv];simp [pend]
 ·rcases List.mem_append.mp hq with hq | hq
  ·exact N.ok q hq
  ·have:q=(r,0):=by simpa using hq
   subst this;exact ⟨h0,hs⟩
end
end TS
namespace TS
open PySem PyProof.Rows
section
variable {M:Model} {A:Around} {E:Value->Shared->Prop} {s:Shared} {κ:SortKind} {S:Keyed->Prop} {R:Keyed->Keyed->Bool} {a0:Array Keyed}
structure Dn (R:Keyed->Keyed->Bool) (a0:Array Keyed) (st:SortSt):Prop where
 f:failedOf st=none
 perm:(arrOf st).toList.Perm a0.toList
 asc:Asc R (arrOf st) 0 a0.size
 one:(pendingOf st).size<=1
theorem Dn.srt {st:SortSt} (D:Dn R a0 st):Srt R (arrOf st).toList:=by
 have hz:(arrOf st).toList.length=a0.size:=by rw [D.perm.length_eq];simp
 refine List.pairwise_iff_getElem.mpr fun i j hi hj hij=>?_
 have:=D.asc i j (Nat.zero_le _) (by row_cond lo) (by row_cond lo)
 unfold e at this
 rw [← Array.getElem?_toList,← Array.getElem?_toList,List.getElem?_eq_getElem hi,List.getElem?_eq_getElem hj] at this
 exact this
theorem Dn.of {st:SortSt} {p1:Nat × Nat × Nat} (B:Bs κ #[] a0 0 st) (as:Asc R (arrOf st) 0 (0+a0.size)) {st':SortSt} (k:failedOf st'=failedOf st) (a:arrOf st'=arrOf st) (p:pendingOf st'=(pendingOf st).push p1):Dn R a0 st':=by
 refine ⟨by rw [k];exact B.f,by rw [a];exact B.perm,by rw [a];simpa using as,?_⟩
 rw [p,B.p]
 simp
theorem aok (C:Cmp M A E s κ S R) (hS:∀ x∈a0.toList,S x) {st:SortSt} (h0:arrOf st=a0) (hk:kindOf st = κ) (hf:failedOf st=none) (hp:pendingOf st = #[]) (h1:1<=a0.size) (h64:a0.size < 64) {Q:Unit->SortSt->Prop}
  (h:∀ st',failedOf st'=none->(arrOf st').toList.Perm a0.toList->Srt R (arrOf st').toList->Q () st'):wpS M A E s azi Q st:=by
 have size0:(arrOf st).size=a0.size:=by rw [h0]
 have B0:Bs κ #[] a0 0 st:=⟨hk,hf,hp,by rw [h0],fun k hk=>by row_cond lo⟩
 have hmr:minRun' (arrOf st).size (arrOf st).size 0=a0.size:=by
  rw [size0]
  obtain ⟨f,hf⟩:∃ f,a0.size=f+1:=⟨a0.size - 1,by row_cond lo⟩
  have:minRun' (f+1) a0.size 0=a0.size:=by rw [minRun'_succ,if_pos h64];rfl
  rwa [← hf] at this
 refine wpS_bind (wpS_get ?_)
 dsimp only
 refine wpS_bind (wpS_mono (Q:=fun (c:Option Unit × Nat) st1=>c.1=none/\Dn R a0 st1) ?_ ?_)
 ·refine wpS_forRange (fun i (c:Option Unit × Nat) st1=>c.1=none/\((i=0/\c.2=0/\Bs κ #[] a0 0 st1)\/(c.2=a0.size/\Dn R a0 st1))) ?_ ?_ ⟨rfl,.inl ⟨rfl,rfl,B0⟩⟩
  ·rintro i ⟨c1,lo⟩ st1 _ hi ⟨e1,hc⟩
   dsimp only at e1 hc ⊢
   subst e1
   rcases hc with ⟨rfl,rfl,B1⟩ | ⟨rfl,D⟩
   ·refine ab7 (fun hge=>?_) (fun hlt=>?_)
    ·exfalso
     have:0 ≥ (arrOf st).size:=hge
     row_cond lo
    ·refine wpS_bind (apt C hS B1 (nrem:=(arrOf st).size - 0) (by row_cond lo) (by row_cond lo) fun st2 n B2 n1 n2 as2=>?_)
     dsimp only
     refine ab7 (fun hmin=>?_) (fun hmin=>?_)
     ·refine wpS_bind (akl ?_)
      have hmin':n < minRun' (arrOf st).size (arrOf st).size 0:=hmin
      generalize hnn:min (_:Nat) _=nn
      have hnn':min ((arrOf st).size - 0) (minRun' (arrOf st).size (arrOf st).size 0)=nn:=hnn
      have en:nn=a0.size:=by row_cond lo
      clear hnn hnn'
      subst en
      refine wpS_bind (aoj C hS B2 (n:=a0.size) (ok:=n) (by row_cond lo) (by row_cond lo) h1 as2 fun st3 B3 as3=>?_)
      rw [if_neg (by decide)]
      refine wpS_bind (wpS_get ?_)
      have hb:(pendingOf st3).back?=none:=by rw [B3.p];rfl
      rw [hb]
      dsimp only
      exact wpS_bind (wpS_modify (wpS_pure ⟨rfl,.inr ⟨by simp,.of B3 as3 rfl rfl rfl⟩⟩))
     ·have hmin':¬ n < minRun' (arrOf st).size (arrOf st).size 0:=hmin
      have en:n=a0.size:=by row_cond lo
      subst en
      refine wpS_bind (wpS_get ?_)
      have hb:(pendingOf st2).back?=none:=by rw [B2.p];rfl
      rw [hb]
      dsimp only
      exact wpS_bind (wpS_modify (wpS_pure ⟨rfl,.inr ⟨by simp,.of B2 as2 rfl rfl rfl⟩⟩))
   ·refine ab7 (fun hge=>wpS_pure ⟨rfl,D⟩) (fun hlt=>?_)
    exfalso
    have:¬ a0.size ≥ (arrOf st).size:=hlt
    row_cond lo
  ·rintro ⟨c1,lo⟩ st1 ⟨e1,hc⟩
   dsimp only at e1 hc ⊢
   refine ⟨e1,?_⟩
   rcases hc with ⟨e,_,_⟩ | ⟨_,D⟩
   ·exfalso
    have:(arrOf st).size<=max 0 (arrOf st).size:=Nat.le_max_right _ _
    have:max 0 (arrOf st).size=0:=e
    row_cond lo
   ·exact D
 ·rintro ⟨c1,lo⟩ st1 ⟨e1,D⟩
  dsimp only at e1 ⊢
  subst e1
  dsimp only
  refine wpS_bind (wpS_mono (Q:=fun (c:Option Unit × Unit) st4=>c.1=none/\Dn R a0 st4) ?_ ?_)
  ·refine wpS_forRange (fun j (c:Option Unit × Unit) st4=>c.1=none/\Dn R a0 st4) ?_ (fun c st4 h4=>h4) ⟨rfl,D⟩
   rintro j ⟨c4,u4⟩ st4 _ _ ⟨e4,D4⟩
   dsimp only at e4
   subst e4
   refine wpS_bind (wpS_get ?_)
   refine ab7 (fun h1=>wpS_pure ⟨rfl,D4⟩) (fun h1=>?_)
   exfalso
   have h1':¬ (pendingOf st4).size<=1:=h1
   have:=D4.one
   row_cond lo
  ·rintro ⟨c4,u4⟩ st4 ⟨e4,D4⟩
   dsimp only at e4 ⊢
   subst e4
   dsimp only
   exact wpS_pure (h st4 D4.f D4.perm D4.srt)
end
end TS
namespace L2
open PySem PySem.Spec PyProof.Rows
mutual
inductive Rep (H:Hp):V->PyData->Prop
 | non:Rep H .non .none
 | bl (b:Bool):Rep H (.bl b) (.bool b)
 | int (i:Int):Rep H (.int i) (.int i)
 | str (x:Str):Rep H (.str x) (.str x)
 | lst {a:Addr} {xs:List V} {ds:List PyData}:H a=some (.lst xs)->Reps H xs ds->Rep H (.ref a) (.list ds)
 | tup {a:Addr} {xs:List V} {ds:List PyData}:H a=some (.tup xs)->Reps H xs ds->Rep H (.ref a) (.tuple ds)
inductive Reps (H:Hp):List V->List PyData->Prop
 | nil:Reps H [] []
 | cons {v:V} {vs:List V} {d:PyData} {ds:List PyData}:Rep H v d->Reps H vs ds->Reps H (v :: vs) (d :: ds)
end
mutual
theorem Rep.same {H H':Hp} (s:Same H H'):∀ {v:V} {d:PyData},Rep H v d->Rep H' v d
 | _,_,.non => .non
 | _,_,.bl b => .bl b
 | _,_,.int i => .int i
 | _,_,.str x => .str x
 | _,_,.lst h r => .lst (s _ _ h) (Reps.same s r)
 | _,_,.tup h r => .tup (s _ _ h) (Reps.same s r)
theorem Reps.same {H H':Hp} (s:Same H H'):∀ {vs:List V} {ds:List PyData},Reps H vs ds->Reps H' vs ds
 | _,_,.nil => .nil
 | _,_,.cons r t => .cons (Rep.same s r) (Reps.same s t)
end
theorem Reps.length {H:Hp}:∀ {vs:List V} {ds:List PyData},Reps H vs ds->vs.length=ds.length
 | _,_,.nil=>rfl
 | _,_,.cons _ t=>by simp [Reps.length t]
theorem Reps.get {H:Hp}:∀ {vs:List V} {ds:List PyData} {i:Nat} {d:PyData},Reps H vs ds->ds[i]?=some d->∃ v,vs[i]?=some v/\Rep H v d
 | _,_,_,_,.nil,e=>by simp at e
 | _,_,0,_,.cons r _,e=>by simp at e;subst e;exact ⟨_,rfl,r⟩
 | _,_,i+1,d,.cons _ t,e=>by
  obtain ⟨u,h1,h2⟩:=Reps.get (i:=i) (d:=d) t (by simpa using e)
  exact ⟨u,by simpa using h1,h2⟩
theorem Reps.append {H:Hp}:∀ {vs ws:List V} {ds es:List PyData},Reps H vs ds->Reps H ws es->Reps H (vs ++ ws) (ds ++ es)
 | _,_,_,_,.nil,s=>s
 | _,_,_,_,.cons r t,s => .cons r (Reps.append t s)
section
variable {X:Cx} {pins:List (Addr × Obj)} {σ:St} {H:Hp} {s:Shared}
mutual
theorem Rep.reads (I:Inv X pins σ H s):∀ {v:V} {d:PyData} {u:Value},Rep H v d->RelV v u->∃ as,Reads s.heap u d as
 | _,_,_,.non,r=>by cases r;exact ⟨_,.none⟩
 | _,_,_,.bl b,r=>by cases r;exact ⟨_,.bool b⟩
 | _,_,_,.int i,r=>by obtain ⟨t,rfl⟩:=r;exact ⟨_,.int i t⟩
 | _,_,_,.str x,r=>by obtain ⟨t,rfl⟩:=r;exact ⟨_,.str x t⟩
 | _,_,_,.lst (a:=a) (xs:=xs) h q,r=>by
  cases r
  obtain ⟨_,its,n,rv,e⟩:=(show ObjOk X.prog X.w H s.heap a (.lst xs) from I.hok a _ h)
  obtain ⟨as,ra⟩:=Reps.reads I q rv
  exact ⟨_,.list e rfl rfl (by simpa using ra)⟩
 | _,_,_,.tup (a:=a) (xs:=xs) h q,r=>by
  cases r
  obtain ⟨_,its,rv,o,e,c,n,dd⟩:=(show ObjOk X.prog X.w H s.heap a (.tup xs) from I.hok a _ h)
  obtain ⟨as,ra⟩:=Reps.reads I q rv
  exact ⟨_,.tuple e c dd (by simpa using ra)⟩
theorem Reps.reads (I:Inv X pins σ H s):∀ {vs:List V} {ds:List PyData} {us:List Value},Reps H vs ds->Vals vs us->∃ as,ReadsAll s.heap us ds as
 | _,_,_,.nil,.nil=>⟨_,.nil⟩
 | _,_,_,.cons r t,.cons q qs=>by
  obtain ⟨as,ra⟩:=Rep.reads I r q
  obtain ⟨bs,rb⟩:=Reps.reads I t qs
  exact ⟨_,.cons ra rb⟩
end
end
mutual
noncomputable def aaj:PyData->Bool
 | .none | .int _=>true
 | .list xs | .tuple xs=>plainDs xs
 | _=>false
noncomputable def plainDs:List PyData->Bool
 | []=>true
 | x :: xs=>aaj x && plainDs xs
end
mutual
theorem ab1:∀ (d:PyData),aaj d=true->d.canLay0=true
 | .none,_=>by simp [PyData.canLay0]
 | .int _,_=>by simp [PyData.canLay0]
 | .list xs,h=>by simp only [PyData.canLay0];exact plain_lays xs (by simpa [aaj] using h)
 | .tuple xs,h=>by simp only [PyData.canLay0];exact plain_lays xs (by simpa [aaj] using h)
 | .bool _,h=>by simp [aaj] at h
 | .str _,h=>by simp [aaj] at h
 | .dict _,h=>by simp [aaj] at h
theorem plain_lays:∀ (ds:List PyData),plainDs ds=true->PyData.canLayAll0 ds=true
 | [],_=>by simp [PyData.canLayAll0]
 | x :: xs,h=>by
  have h':aaj x=true/\plainDs xs=true:=by simpa [plainDs] using h
  simp only [PyData.canLayAll0,ab1 x h'.1,plain_lays xs h'.2,Bool.and_self]
end
mutual
theorem aev:∀ (d e:PyData),aaj d=true->aaj e=true->(PyData.eqv d e=true ↔ d=e)
 | .none,e,_,h=>by cases e <;> simp_all [aaj,PyData.eqv]
 | .int i,e,_,h=>by cases e <;> simp_all [aaj,PyData.eqv]
 | .list xs,e,g,h=>by
  cases e with
  | list ys=>simp only [PyData.eqv,PyData.list.injEq];exact eqvAll_plain xs ys (by simpa [aaj] using g) (by simpa [aaj] using h)
  | _=>simp_all [aaj,PyData.eqv]
 | .tuple xs,e,g,h=>by
  cases e with
  | tuple ys=>simp only [PyData.eqv,PyData.tuple.injEq];exact eqvAll_plain xs ys (by simpa [aaj] using g) (by simpa [aaj] using h)
  | _=>simp_all [aaj,PyData.eqv]
 | .bool _,_,h,_=>by simp [aaj] at h
 | .str _,_,h,_=>by simp [aaj] at h
 | .dict _,_,h,_=>by simp [aaj] at h
theorem eqvAll_plain:∀ (ds es:List PyData),plainDs ds=true->plainDs es=true->(PyData.eqvAll ds es=true ↔ ds=es)
 | [],[],_,_=>by simp [PyData.eqvAll]
 | [],_ :: _,_,_=>by simp [PyData.eqvAll]
 | _ :: _,[],_,_=>by simp [PyData.eqvAll]
 | x :: xs,y :: ys,g,h=>by
  have g':aaj x=true/\plainDs xs=true:=by simpa [plainDs] using g
  have h':aaj y=true/\plainDs ys=true:=by simpa [plainDs] using h
  simp only [PyData.eqvAll,Bool.and_eq_true,List.cons.injEq,aev x y g'.1 h'.1,eqvAll_plain xs ys g'.2 h'.2]
end
theorem afw (ds:List PyData):plainDs ds=true ↔ ∀ d∈ds,aaj d=true:=by
 induction ds with
 | nil=>simp [plainDs]
 | cons d ds ih=>simp [plainDs,ih]
def rNeD:R2:=fun x y H Q=>∃ d e,Rep H x d/\Rep H y e/\aaj d=true/\aaj e=true/\d.depth<=60/\Q (.bl (!PyData.eqv d e)) H
section
variable {X:Cx}
theorem apv (hu:X.A.units+64 < cLine):OpR X (compareOp .NotEq) rNeD:=by
 intro pins s σ H x y v u Q I rx ry h
 obtain ⟨d,e,rd,re,hd,he,hz,q⟩:=h
 obtain ⟨as,ra⟩:=rd.reads I rx
 obtain ⟨bs,rb⟩:=re.reads I ry
 refine SeqAt.compareNe_reads ra rb (ab1 _ hd) (ab1 _ he) ?_ ⟨.bl _,H,I,rfl,q⟩
 have:=Nat.min_le_left d.depth e.depth
 row_cond lo
def rInD (neg:Bool):R2:=fun x y H Q=>∃ d es,Rep H x d/\(Rep H y (.list es)\/Rep H y (.tuple es))/\aaj d=true/\plainDs es=true/\d.depth<=60/\Q (.bl (if neg then !es.any (fun z=>PyData.eqv z d) else es.any (fun z=>PyData.eqv z d))) H
theorem apw (hu:X.A.units+64 < cLine):OpR X (compareOp .NotIn) (rInD true):=by
 intro pins s σ H x y v u Q I rx ry h
 obtain ⟨d,es,rd,re,hd,he,hz,q⟩:=h
 obtain ⟨as,ra⟩:=rd.reads I rx
 have hm:=Nat.min_le_right (PyData.depthAll es) d.depth
 rcases re with re | re
 ·obtain ⟨bs,rb⟩:=re.reads I ry
  exact SeqAt.notIn_list_reads rb ra (plain_lays _ he) (ab1 _ hd) (by row_cond lo) ⟨.bl _,H,I,rfl,q⟩
 ·obtain ⟨bs,rb⟩:=re.reads I ry
  exact SeqAt.notIn_tuple_reads rb ra (plain_lays _ he) (ab1 _ hd) (by row_cond lo) ⟨.bl _,H,I,rfl,q⟩
def rIsi (K:PySem.W.Frag):List V->Hp->VK->Prop:=fun xs H Q=>∃ (x:V) (T:String) (t:Value) (b:Bool),xs=[x,.ty T]/\TyOf K H x t/\PySem.W.kitOne K t (.type T)=some b/\Q (.bl b) H
theorem akn:aa9 X (.builtin "isinstance") (rIsi X.K):=by
 intro pins s σ H xs us Q I r h
 obtain ⟨x,T,t,b,rfl,ty,e,q⟩:=h
 obtain ⟨u,c,rfl,ru,rc⟩:=ae9 r
 cases rc
 exact api I ru ty e fun tk=>⟨.bl b,H,I.tok _,rfl,q⟩
end
end L2
namespace HT
open PySem PyProof.Rows
section
open PySem.SeqAt
open PySem.AutoSeq1 (wpAny_loadPart')
open PySem.MeetsSeq PySem.MeetsSeq2 PySem.MeetsSeq3
end
section
variable {prog:Program} {w:World} {A:Around} {E:Value->Shared->Prop} {s:Shared}
end
end HT
namespace L2
open PySem PySem.Spec PyProof.Rows
section
variable {X:Cx}
end
end L2
namespace HT
open PySem PyProof.Rows
theorem ahu (val:Nat->Int):∀ k,argBest (fun i j=>decide (val i > val j)) k<=k/\∀ i,i<=k->val i<=val (argBest (fun i j=>decide (val i > val j)) k)
 | 0 => ⟨Nat.le_refl _, fun i hi => by have : i = 0 := by row_cond lo
                                       subst this;exact Int.le_refl _⟩
 | k+1=>by
  obtain ⟨h1,h2⟩:=ahu val k
  unfold argBest
  by_cases hc:val (k+1) > val (argBest (fun i j=>decide (val i > val j)) k)
  ·rw [if_pos (decide_eq_true hc)]
   refine ⟨Nat.le_refl _,fun i hi=>?_⟩
   by_cases e:i=k+1
   ·subst e;exact Int.le_refl _
   ·have:=h2 i (by row_cond lo)
    exact Int.le_trans this (Int.le_of_lt hc)
  ·rw [if_neg (by simpa using hc)]
   refine ⟨by row_cond lo,fun i hi=>?_⟩
   by_cases e:i=k+1
   ·subst e;row_cond lo
   ·exact h2 i (by row_cond lo)
theorem ahv (val:Nat->Int):∀ k,argBest (fun i j=>decide (val i < val j)) k<=k/\∀ i,i<=k->val (argBest (fun i j=>decide (val i < val j)) k)<=val i
 | 0 => ⟨Nat.le_refl _, fun i hi => by have : i = 0 := by row_cond lo
                                       subst this;exact Int.le_refl _⟩
 | k+1=>by
  obtain ⟨h1,h2⟩:=ahv val k
  unfold argBest
  by_cases hc:val (k+1) < val (argBest (fun i j=>decide (val i < val j)) k)
  ·rw [if_pos (decide_eq_true hc)]
   refine ⟨Nat.le_refl _,fun i hi=>?_⟩
   by_cases e:i=k+1
   ·subst e;exact Int.le_refl _
   ·have:=h2 i (by row_cond lo)
    exact Int.le_trans (Int.le_of_lt hc) this
  ·rw [if_neg (by simpa using hc)]
   refine ⟨by row_cond lo,fun i hi=>?_⟩
   by_cases e:i=k+1
   ·subst e;row_cond lo
   ·exact h2 i (by row_cond lo)
noncomputable def val (ns:List Int) (i:Nat):Int:=(ns[i]?).getD 0
theorem ac2 {us:List Value} {ns:List Int} (hi:IntsAre us ns) (i:Nat) (v:Value) (h:us.toArray[i]?=some v):∃ t,v=.int (val ns i) t:=by
 induction hi generalizing i with
 | nil=>simp at h
 | cons n t r ih =>
  cases i with
  | zero=>simp at h;subst h;exact ⟨t,by simp [val]⟩
  | succ i =>
   obtain ⟨t',e⟩:=ih i (by simpa using h)
   exact ⟨t',by simpa [val] using e⟩
theorem afb {ns:List Int} {i:Nat} (h:i < ns.length):val ns i∈ns:=by
 unfold val
 rw [List.getElem?_eq_getElem h]
 exact List.getElem_mem h
theorem agv {ns:List Int} {x:Int} (h:x∈ns):∃ i,i < ns.length/\val ns i=x:=by
 obtain ⟨i,hi,e⟩:=List.mem_iff_getElem.mp h
 exact ⟨i,hi,by unfold val;rw [List.getElem?_eq_getElem hi];exact e⟩
section
variable {prog:Program} {w:World} {A:Around} {E:Value->Shared->Prop} {s:Shared}
theorem max_list {l:Addr} {us:List Value} {ns:List Int} {Q:Value->Shared->Prop} (hh:A.handled=none) (hl:s.heap.IsList l us.toArray) (hi:IntsAre us ns) (hne:ns ≠ [])
  (h:∀ m t h' tk,m∈ns->(∀ x∈ns,x<=m)->(∀ b o,s.heap.get? b=some o->h'.get? b=some o)->Q (.int m t) { s with heap:=h',toks:=tk }) :
  wpAny (model prog w) A (call (.builtin "max") [.ref l]) Q E s:=by
 have hlt:l < s.heap.objs.size:=by obtain ⟨_,e,_⟩:=hl;exact Heap.lt_size e
 have hz:us.length=ns.length:=hi.length
 have hp:0 < ns.length:=List.length_pos_iff.mpr hne
 refine call_max_walk (wpAny_pyIter_list hl ?_)
 refine ⟨_,[s.heap.objs.size,l],_,_,_,_,_,rfl,Walks.list (A:=A.in1) hh _ l (Nat.ne_of_lt hlt) us.toArray,⟨⟨_,Heap.get?_push_size _ rfl,rfl,rfl⟩,hl.push _⟩,fun b hb=>?_,by simp;row_cond lo,CmpOf.ints_gt (val ns) (fun i v=>ac2 hi i v),fun v h' tk hP hk=>?_⟩
 ·show b < (s.heap.push _).objs.size
  rw [Heap.size_push]
  rcases List.mem_cons.mp hb with rfl | hb
  ·exact Nat.lt_succ_self _
  ·rcases List.mem_cons.mp hb with rfl | hb
   ·exact Nat.lt_succ_of_lt hlt
   ·cases hb
 ·obtain ⟨t,e⟩:=ac2 hi _ _ hP
  obtain ⟨b1,b2⟩:=ahu (val ns) (us.toArray.size - 1)
  have hs:us.toArray.size=ns.length:=by simp [hz]
  rw [hs] at b1 b2
  subst e
  refine h _ t h' tk (afb (by rw [hs];row_cond lo)) (fun x hx=>?_) fun b o e=>?_
  ·obtain ⟨i,hi',e⟩:=agv hx
   have:=b2 i (by row_cond lo)
   rw [e] at this
   rw [hs]
   exact this
  ·refine hk b o (fun hm=>?_) (Heap.get?_push_of_some _ e)
   rcases List.mem_cons.mp hm with e1 | hm
   ·exact absurd (e1 ▸ Heap.lt_size e) (Nat.lt_irrefl _)
   ·cases hm
theorem min_list {l:Addr} {us:List Value} {ns:List Int} {Q:Value->Shared->Prop} (hh:A.handled=none) (hl:s.heap.IsList l us.toArray) (hi:IntsAre us ns) (hne:ns ≠ [])
  (h:∀ m t h' tk,m∈ns->(∀ x∈ns,m<=x)->(∀ b o,s.heap.get? b=some o->h'.get? b=some o)->Q (.int m t) { s with heap:=h',toks:=tk }) :
  wpAny (model prog w) A (call (.builtin "min") [.ref l]) Q E s:=by
 have hlt:l < s.heap.objs.size:=by obtain ⟨_,e,_⟩:=hl;exact Heap.lt_size e
 have hz:us.length=ns.length:=hi.length
 have hp:0 < ns.length:=List.length_pos_iff.mpr hne
 refine call_min_walk (wpAny_pyIter_list hl ?_)
 refine ⟨_,[s.heap.objs.size,l],_,_,_,_,_,rfl,Walks.list (A:=A.in1) hh _ l (Nat.ne_of_lt hlt) us.toArray,⟨⟨_,Heap.get?_push_size _ rfl,rfl,rfl⟩,hl.push _⟩,fun b hb=>?_,by simp;row_cond lo,CmpOf.ints_lt (val ns) (fun i v=>ac2 hi i v),fun v h' tk hP hk=>?_⟩
 ·show b < (s.heap.push _).objs.size
  rw [Heap.size_push]
  rcases List.mem_cons.mp hb with rfl | hb
  ·exact Nat.lt_succ_self _
  ·rcases List.mem_cons.mp hb with rfl | hb
   ·exact Nat.lt_succ_of_lt hlt
   ·cases hb
 ·obtain ⟨t,e⟩:=ac2 hi _ _ hP
  obtain ⟨b1,b2⟩:=ahv (val ns) (us.toArray.size - 1)
  have hs:us.toArray.size=ns.length:=by simp [hz]
  rw [hs] at b1 b2
  subst e
  refine h _ t h' tk (afb (by rw [hs];row_cond lo)) (fun x hx=>?_) fun b o e=>?_
  ·obtain ⟨i,hi',e⟩:=agv hx
   have:=b2 i (by row_cond lo)
   rw [e] at this
   rw [hs]
   exact this
  ·refine hk b o (fun hm=>?_) (Heap.get?_push_of_some _ e)
   rcases List.mem_cons.mp hm with e1 | hm
   ·exact absurd (e1 ▸ Heap.lt_size e) (Nat.lt_irrefl _)
   ·cases hm
theorem max_tup {l:Addr} {us:List Value} {ns:List Int} {Q:Value->Shared->Prop} (hh:A.handled=none) (hl:s.heap.IsTuple l us.toArray) (hi:IntsAre us ns) (hne:ns ≠ [])
  (h:∀ m t h' tk,m∈ns->(∀ x∈ns,x<=m)->(∀ b o,s.heap.get? b=some o->h'.get? b=some o)->Q (.int m t) { s with heap:=h',toks:=tk }) :
  wpAny (model prog w) A.in1 (pyIter (.ref l)) (fun it s₂=>∃ I fp wr n P St bt,it=.ref I/\Walks prog w A.in1 I fp wr n P St/\St 0 s₂.heap/\(∀ b∈fp,b < s₂.heap.objs.size)/\0 < n/\CmpOf prog w A.in1 .Gt P bt /\
   ∀ v h' tk,P (argBest bt (n - 1)) v->(∀ b o,b ∉ wr->s₂.heap.get? b=some o->h'.get? b=some o)->Q v { s₂ with heap:=h',toks:=tk }) E s:=by
 have hlt:l < s.heap.objs.size:=by obtain ⟨_,e,_⟩:=hl;exact Heap.lt_size e
 have hz:us.length=ns.length:=hi.length
 have hp:0 < ns.length:=List.length_pos_iff.mpr hne
 refine wpAny_pyIter_tuple hl ?_
 refine ⟨_,[s.heap.objs.size,l],[_],_,_,_,_,rfl,Walks.tuple (A:=A.in1) hh _ l (Nat.ne_of_lt hlt) us.toArray,⟨⟨_,Heap.get?_push_size _ rfl,rfl,rfl⟩,hl.push _⟩,fun b hb=>?_,by simp;row_cond lo,CmpOf.ints_gt (val ns) (fun i v=>ac2 hi i v),fun v h' tk hP hk=>?_⟩
 ·show b < (s.heap.push _).objs.size
  rw [Heap.size_push]
  rcases List.mem_cons.mp hb with rfl | hb
  ·exact Nat.lt_succ_self _
  ·rcases List.mem_cons.mp hb with rfl | hb
   ·exact Nat.lt_succ_of_lt hlt
   ·cases hb
 ·obtain ⟨t,e⟩:=ac2 hi _ _ hP
  obtain ⟨b1,b2⟩:=ahu (val ns) (us.toArray.size - 1)
  have hs:us.toArray.size=ns.length:=by simp [hz]
  rw [hs] at b1 b2
  subst e
  refine h _ t h' tk (afb (by rw [hs];row_cond lo)) (fun x hx=>?_) fun b o e=>?_
  ·obtain ⟨i,hi',e⟩:=agv hx
   have:=b2 i (by row_cond lo)
   rw [e] at this
   rw [hs]
   exact this
  ·refine hk b o (fun hm=>?_) (Heap.get?_push_of_some _ e)
   rcases List.mem_cons.mp hm with e1 | hm
   ·exact absurd (e1 ▸ Heap.lt_size e) (Nat.lt_irrefl _)
   ·cases hm
theorem min_tup {l:Addr} {us:List Value} {ns:List Int} {Q:Value->Shared->Prop} (hh:A.handled=none) (hl:s.heap.IsTuple l us.toArray) (hi:IntsAre us ns) (hne:ns ≠ [])
  (h:∀ m t h' tk,m∈ns->(∀ x∈ns,m<=x)->(∀ b o,s.heap.get? b=some o->h'.get? b=some o)->Q (.int m t) { s with heap:=h',toks:=tk }) :
  wpAny (model prog w) A.in1 (pyIter (.ref l)) (fun it s₂=>∃ I fp wr n P St bt,it=.ref I/\Walks prog w A.in1 I fp wr n P St/\St 0 s₂.heap/\(∀ b∈fp,b < s₂.heap.objs.size)/\0 < n/\CmpOf prog w A.in1 .Lt P bt /\
   ∀ v h' tk,P (argBest bt (n - 1)) v->(∀ b o,b ∉ wr->s₂.heap.get? b=some o->h'.get? b=some o)->Q v { s₂ with heap:=h',toks:=tk }) E s:=by
 have hlt:l < s.heap.objs.size:=by obtain ⟨_,e,_⟩:=hl;exact Heap.lt_size e
 have hz:us.length=ns.length:=hi.length
 have hp:0 < ns.length:=List.length_pos_iff.mpr hne
 refine wpAny_pyIter_tuple hl ?_
 refine ⟨_,[s.heap.objs.size,l],[_],_,_,_,_,rfl,Walks.tuple (A:=A.in1) hh _ l (Nat.ne_of_lt hlt) us.toArray,⟨⟨_,Heap.get?_push_size _ rfl,rfl,rfl⟩,hl.push _⟩,fun b hb=>?_,by simp;row_cond lo,CmpOf.ints_lt (val ns) (fun i v=>ac2 hi i v),fun v h' tk hP hk=>?_⟩
 ·show b < (s.heap.push _).objs.size
  rw [Heap.size_push]
  rcases List.mem_cons.mp hb with rfl | hb
  ·exact Nat.lt_succ_self _
  ·rcases List.mem_cons.mp hb with rfl | hb
   ·exact Nat.lt_succ_of_lt hlt
   ·cases hb
 ·obtain ⟨t,e⟩:=ac2 hi _ _ hP
  obtain ⟨b1,b2⟩:=ahv (val ns) (us.toArray.size - 1)
  have hs:us.toArray.size=ns.length:=by simp [hz]
  rw [hs] at b1 b2
  subst e
  refine h _ t h' tk (afb (by rw [hs];row_cond lo)) (fun x hx=>?_) fun b o e=>?_
  ·obtain ⟨i,hi',e⟩:=agv hx
   have:=b2 i (by row_cond lo)
   rw [e] at this
   rw [hs]
   exact this
  ·refine hk b o (fun hm=>?_) (Heap.get?_push_of_some _ e)
   rcases List.mem_cons.mp hm with e1 | hm
   ·exact absurd (e1 ▸ Heap.lt_size e) (Nat.lt_irrefl _)
   ·cases hm
end
end HT
namespace L2
open PySem PySem.Spec PyProof.Rows
section
variable {X:Cx}
def acy (ns:List Int) (m:Int):Prop:=m∈ns/\∀ x∈ns,x<=m
def atq (ns:List Int) (m:Int):Prop:=m∈ns/\∀ x∈ns,m<=x
def afc (K:PySem.W.Frag):List V->Hp->VK->Prop:=fun xs H Q=>∃ (a:Addr) (ns:List Int),xs=[.ref a]/\(SqL K H a (ns.map V.int)\/SqT K H a (ns.map V.int))/\ns ≠ []/\∀ m,acy ns m->Q (.int m) H
def aol (K:PySem.W.Frag):List V->Hp->VK->Prop:=fun xs H Q=>∃ (a:Addr) (ns:List Int),xs=[.ref a]/\(SqL K H a (ns.map V.int)\/SqT K H a (ns.map V.int))/\ns ≠ []/\∀ m,atq ns m->Q (.int m) H
theorem ac9 (hc:X.calm=true):aa9 X (.builtin "max") (afc X.K):=by
 intro pins s σ H xs us Q I r h
 obtain ⟨a,ns,rfl,ha,hne,q⟩:=h
 obtain ⟨u,rfl,ru⟩:=acn r
 cases ru
 rcases ha with ha | ha
 ·obtain ⟨its,r1,p1,_⟩:=I.list ha
  have i1:IntsAre its.toArray.toList ns:=ab5 r1
  exact HT.max_list (I.ok.hd hc) p1.isList (by simpa using i1) hne fun m t h' tk m1 m2 kp=>⟨.int m,H,I.kept kp,⟨_,rfl⟩,q m ⟨m1,m2⟩⟩
 ·obtain ⟨its,r1,p1,_⟩:=I.tuple ha
  have i1:IntsAre its.toArray.toList ns:=ab5 r1
  refine call_max_walk (HT.max_tup (I.ok.hd hc) p1 (by simpa using i1) hne fun m t h' tk m1 m2 kp=>⟨.int m,H,I.kept kp,⟨_,rfl⟩,q m ⟨m1,m2⟩⟩)
theorem apx (hc:X.calm=true):aa9 X (.builtin "min") (aol X.K):=by
 intro pins s σ H xs us Q I r h
 obtain ⟨a,ns,rfl,ha,hne,q⟩:=h
 obtain ⟨u,rfl,ru⟩:=acn r
 cases ru
 rcases ha with ha | ha
 ·obtain ⟨its,r1,p1,_⟩:=I.list ha
  have i1:IntsAre its.toArray.toList ns:=ab5 r1
  exact HT.min_list (I.ok.hd hc) p1.isList (by simpa using i1) hne fun m t h' tk m1 m2 kp=>⟨.int m,H,I.kept kp,⟨_,rfl⟩,q m ⟨m1,m2⟩⟩
 ·obtain ⟨its,r1,p1,_⟩:=I.tuple ha
  have i1:IntsAre its.toArray.toList ns:=ab5 r1
  refine call_min_walk (HT.min_tup (I.ok.hd hc) p1 (by simpa using i1) hne fun m t h' tk m1 m2 kp=>⟨.int m,H,I.kept kp,⟨_,rfl⟩,q m ⟨m1,m2⟩⟩)
end
end L2
namespace L2
open PySem PySem.Spec PyProof.Rows
def tTru (K:PySem.W.Frag) (ta:TE):TT:=fun σ H Q=>ta σ H fun x H'=>∃ k,TruV K x H' k/\Q k H'
def rIsN:R2:=fun x y H Q=>y=.non/\Q (.bl (decide (x=.non))) H
section
variable {X:Cx} {a:Expr} {ta:TE}
theorem axn (ha:PE X a ta) (he:∀ whole,isTrue a X.env whole=(do let v ← whole;standAt a.pos;holding [v] (truthy v)):=by intro _;rfl):PT X a (tTru X.K ta):=aq5 ha he
def ab8 (K:PySem.W.Frag):R2:=fun x y H Q=>rIxL K x y H Q\/rIxT K x y H Q
theorem aaz:IxR X (ab8 X.K):=ix_list.or axa
theorem auk {i j n:Int} {x1 x2:Nat} {p1 p2 pos:Pos} (h:i ^ j.toNat=n) (hc:CPow i j):PE X (.BinOp (.Constant (.int i) x1 p1) .Pow (.Constant (.int j) x2 p2) pos) (tC (.int n)):=by
 intro pins s σ H Q I q
 subst h
 exact aar aw5 aae aae pins s σ H Q I ⟨i,j,rfl,rfl,hc,q⟩
theorem ahw:OpR X (compareOp .Is) rIsN:=aw6
end
section
variable {σ:St} {H:Hp} {D:Ends} {K:PySem.W.Frag}
theorem aed {a:Addr} {xs:List V} {i:Int} {v:V} {Q:VK} (ha:H a=some (.lst xs)) (hv:atI xs i=some v) (h:Q v H):ab8 K (.ref a) (.int i) H Q:=.inl (axh ha hv h)
theorem arj {a:Addr} {xs:List V} {i:Int} {v:V} {Q:VK} (ha:H a=some (.tup xs)) (hv:atI xs i=some v) (h:Q v H):ab8 K (.ref a) (.int i) H Q:=.inr (axi ha hv h)
theorem ark {a:Addr} {xs:List V} {i:Int} {v:V} {Q:VK} (ha:SqL K H a xs) (hv:atI xs i=some v) (h:Q v H):ab8 K (.ref a) (.int i) H Q:=.inl (axk ha hv h)
theorem abo {A B:Prop} (h:A):if true=true then A else B:=by rw [if_pos rfl];exact h
theorem ab2 {A B:Prop} (h:B):if false=true then A else B:=by rw [if_neg Bool.false_ne_true];exact h
theorem am4 {A B:Prop} (h:B):if (!true)=true then A else B:=by rw [if_neg (by decide)];exact h
theorem aul {A B:Prop} (h:A):if (!false)=true then A else B:=by rw [if_pos (by decide)];exact h
theorem arl {c:Prop} [Decidable c] {A B:Prop} (hc:c) (h:B):if (!decide c)=true then A else B:=by rw [decide_eq_true hc];exact am4 h
theorem af2 {K:PySem.W.Frag}:PySem.W.kitOne K (.type "NoneType") (.type "int")=some false:=by first | rfl | decide
theorem afr {K:PySem.W.Frag}:PySem.W.kitOne K (.type "NoneType") (.type "bool")=some false:=by first | rfl | decide
theorem aew {K:PySem.W.Frag}:PySem.W.kitOne K (.type "NoneType") (.type "tuple")=some false:=by first | rfl | decide
theorem afs {K:PySem.W.Frag}:PySem.W.kitOne K (.type "NoneType") (.type "list")=some false:=by first | rfl | decide
theorem af3 {K:PySem.W.Frag}:PySem.W.kitOne K (.type "NoneType") (.type "str")=some false:=by first | rfl | decide
theorem aft {K:PySem.W.Frag}:PySem.W.kitOne K (.type "NoneType") (.type "dict")=some false:=by first | rfl | decide
theorem ako {K:PySem.W.Frag}:PySem.W.kitOne K (.type "bool") (.type "int")=some true:=by first | rfl | decide
theorem ai9 {K:PySem.W.Frag}:PySem.W.kitOne K (.type "bool") (.type "bool")=some true:=by first | rfl | decide
theorem ahx {K:PySem.W.Frag}:PySem.W.kitOne K (.type "bool") (.type "tuple")=some false:=by first | rfl | decide
theorem aja {K:PySem.W.Frag}:PySem.W.kitOne K (.type "bool") (.type "list")=some false:=by first | rfl | decide
theorem akp {K:PySem.W.Frag}:PySem.W.kitOne K (.type "bool") (.type "str")=some false:=by first | rfl | decide
theorem ajb {K:PySem.W.Frag}:PySem.W.kitOne K (.type "bool") (.type "dict")=some false:=by first | rfl | decide
theorem al6 {K:PySem.W.Frag}:PySem.W.kitOne K (.type "int") (.type "int")=some true:=by first | rfl | decide
theorem akq {K:PySem.W.Frag}:PySem.W.kitOne K (.type "int") (.type "bool")=some false:=by first | rfl | decide
theorem ajc {K:PySem.W.Frag}:PySem.W.kitOne K (.type "int") (.type "tuple")=some false:=by first | rfl | decide
theorem akr {K:PySem.W.Frag}:PySem.W.kitOne K (.type "int") (.type "list")=some false:=by first | rfl | decide
theorem al7 {K:PySem.W.Frag}:PySem.W.kitOne K (.type "int") (.type "str")=some false:=by first | rfl | decide
theorem aks {K:PySem.W.Frag}:PySem.W.kitOne K (.type "int") (.type "dict")=some false:=by first | rfl | decide
theorem al8 {K:PySem.W.Frag}:PySem.W.kitOne K (.type "str") (.type "int")=some false:=by first | rfl | decide
theorem akt {K:PySem.W.Frag}:PySem.W.kitOne K (.type "str") (.type "bool")=some false:=by first | rfl | decide
theorem ajd {K:PySem.W.Frag}:PySem.W.kitOne K (.type "str") (.type "tuple")=some false:=by first | rfl | decide
theorem aku {K:PySem.W.Frag}:PySem.W.kitOne K (.type "str") (.type "list")=some false:=by first | rfl | decide
theorem al9 {K:PySem.W.Frag}:PySem.W.kitOne K (.type "str") (.type "str")=some true:=by first | rfl | decide
theorem akv {K:PySem.W.Frag}:PySem.W.kitOne K (.type "str") (.type "dict")=some false:=by first | rfl | decide
theorem akw {K:PySem.W.Frag}:PySem.W.kitOne K (.type "list") (.type "int")=some false:=by first | rfl | decide
theorem aje {K:PySem.W.Frag}:PySem.W.kitOne K (.type "list") (.type "bool")=some false:=by first | rfl | decide
theorem ahy {K:PySem.W.Frag}:PySem.W.kitOne K (.type "list") (.type "tuple")=some false:=by first | rfl | decide
theorem ajf {K:PySem.W.Frag}:PySem.W.kitOne K (.type "list") (.type "list")=some true:=by first | rfl | decide
theorem akx {K:PySem.W.Frag}:PySem.W.kitOne K (.type "list") (.type "str")=some false:=by first | rfl | decide
theorem ajg {K:PySem.W.Frag}:PySem.W.kitOne K (.type "list") (.type "dict")=some false:=by first | rfl | decide
theorem ajh {K:PySem.W.Frag}:PySem.W.kitOne K (.type "tuple") (.type "int")=some false:=by first | rfl | decide
theorem ahz {K:PySem.W.Frag}:PySem.W.kitOne K (.type "tuple") (.type "bool")=some false:=by first | rfl | decide
theorem agw {K:PySem.W.Frag}:PySem.W.kitOne K (.type "tuple") (.type "tuple")=some true:=by first | rfl | decide
theorem ah0 {K:PySem.W.Frag}:PySem.W.kitOne K (.type "tuple") (.type "list")=some false:=by first | rfl | decide
theorem aji {K:PySem.W.Frag}:PySem.W.kitOne K (.type "tuple") (.type "str")=some false:=by first | rfl | decide
theorem ah1 {K:PySem.W.Frag}:PySem.W.kitOne K (.type "tuple") (.type "dict")=some false:=by first | rfl | decide
theorem aky {K:PySem.W.Frag}:PySem.W.kitOne K (.type "dict") (.type "int")=some false:=by first | rfl | decide
theorem ajj {K:PySem.W.Frag}:PySem.W.kitOne K (.type "dict") (.type "bool")=some false:=by first | rfl | decide
theorem ah2 {K:PySem.W.Frag}:PySem.W.kitOne K (.type "dict") (.type "tuple")=some false:=by first | rfl | decide
theorem ajk {K:PySem.W.Frag}:PySem.W.kitOne K (.type "dict") (.type "list")=some false:=by first | rfl | decide
theorem akz {K:PySem.W.Frag}:PySem.W.kitOne K (.type "dict") (.type "str")=some false:=by first | rfl | decide
theorem ajl {K:PySem.W.Frag}:PySem.W.kitOne K (.type "dict") (.type "dict")=some true:=by first | rfl | decide
end
end L2
namespace L2
open PySem
section
variable {σ:St} {H:Hp} {K:PySem.W.Frag}
theorem abf {p:Addr} {o:HO} (hp:H p=none):Same H (upd H p o):=fun b u e=>by rw [aaf (aap e hp)];exact e
theorem Same.new {H H':Hp} {q:Addr} {o:HO} (s:Same H H') (h:H' q=none):Same H (upd H' q o):=fun b u e=>by
 have:=s b u e
 rw [aaf (aap this h)];exact this
theorem Same.set {H H':Hp} {q:Addr} {o:HO} (s:Same H H') (h:H q=none):Same H (upd H' q o):=fun b u e=>by
 have:=s b u e
 rw [aaf (aap e h)];exact this
theorem Same.at {H H':Hp} {b:Addr} {o:HO} (s:Same H H') (h:H b=some o):H' b=some o:=s b o h
end
end L2
namespace L2
open PySem
section
variable {σ:St} {H:Hp} {K:PySem.W.Frag}
end
end L2
namespace Gr
inductive Walk (T:Int->Int->Prop) (u:Int):Nat->Int->Prop
 | refl:Walk T u 0 u
 | step {k:Nat} {v w:Int}:Walk T u k v->T v w->Walk T u (k+1) w
def Dist (T:Int->Int->Prop) (u v:Int) (d:Nat):Prop:=Walk T u d v/\∀ k,Walk T u k v->d<=k
theorem Dist.uniq {T:Int->Int->Prop} {u v:Int} {d e:Nat} (h:Dist T u v d) (g:Dist T u v e):d=e:=Nat.le_antisymm (h.2 _ g.1) (g.2 _ h.1)
theorem Dist.self (T:Int->Int->Prop) (u:Int):Dist T u u 0:=⟨.refl,fun _ _=>Nat.zero_le _⟩
theorem Dist.of_walk {T:Int->Int->Prop} {u v:Int} {k:Nat} (h:Walk T u k v):∃ d,d<=k/\Dist T u v d:=by
 induction k using Nat.strongRecOn with
 | ind k ih =>
  by_cases hx:∃ j,j < k/\Walk T u j v
  ·obtain ⟨j,hj,w⟩:=hx
   obtain ⟨d,hd,e⟩:=ih j hj w
   exact ⟨d,by row_cond lo,e⟩
  ·refine ⟨k,Nat.le_refl _,h,fun j w=>?_⟩
   by_cases hj:j < k
   ·exact absurd ⟨j,hj,w⟩ hx
   ·row_cond lo
theorem Dist.pred {T:Int->Int->Prop} {u w:Int} {d:Nat} (h:Dist T u w (d+1)):∃ v,T v w/\Dist T u v d:=by
 obtain ⟨hw,hm⟩:=h
 cases hw with
 | step hv ht =>
  rename_i v
  refine ⟨v,ht,hv,fun k hk=>?_⟩
  have:=hm (k+1) (.step hk ht)
  row_cond lo
theorem Dist.next {T:Int->Int->Prop} {u v w:Int} {d:Nat} (h:Dist T u v d) (t:T v w):∃ e,e<=d+1/\Dist T u w e:=Dist.of_walk (.step h.1 t)
structure Bfs (T:Int->Int->Prop) (a:Int) (line:List Int) (ds:List Nat) (at_:Nat):Prop where
 len:ds.length=line.length
 fst:line[0]?=some a
 nd:line.Nodup
 le:at_<=line.length
 dist:∀ (i:Nat) v d,line[i]?=some v->ds[i]?=some d->Dist T a v d
 mono:∀ (i j:Nat) d e,i<=j->ds[i]?=some d->ds[j]?=some e->d<=e
 near:∀ (i j:Nat) d e,at_<=i->ds[i]?=some d->ds[j]?=some e->e<=d+1
 done:∀ (i:Nat) v w,i < at_->line[i]?=some v->T v w->w∈line
theorem Bfs.start (T:Int->Int->Prop) (a:Int):Bfs T a [a] [0] 0:=by
 refine ⟨rfl,rfl,by simp,Nat.zero_le _,fun i v d h1 h2=>?_,fun i j d e h h1 h2=>?_,fun i j d e h h1 h2=>?_,fun i v w h=>absurd h (by row_cond lo)⟩
 ·match i,h1,h2 with
  | 0,h1,h2=>simp at h1 h2;subst h1 h2;exact Dist.self T a
  | i+1,h1,_=>simp at h1
 ·match j,h2 with
  | 0,h2 =>
   have:i=0:=by row_cond lo
   subst this
   rw [h1] at h2;cases h2;exact Nat.le_refl _
  | j+1,h2=>simp at h2
 ·match i,j,h1,h2 with
  | 0, 0, h1, h2 => rw [h1] at h2; cases h2; row_cond lo
  | i+1,_,h1,_=>simp at h1
  | 0,j+1,_,h2=>simp at h2
theorem Bfs.all {T:Int->Int->Prop} {a:Int} {line:List Int} {ds:List Nat} {at_:Nat} {d:Nat} (b:Bfs T a line ds at_) (hd:ds[at_]?=some d) :
  ∀ k w,k<=d->Dist T a w k->w∈line:=by
 intro k
 induction k with
 | zero =>
  intro w _ h
  have:w=a:=by
   cases h.1;rfl
  subst this
  exact List.mem_of_getElem? b.fst
 | succ k ih =>
  intro w hk h
  obtain ⟨v,tv,dv⟩:=h.pred
  have hv:=ih v (by row_cond lo) dv
  obtain ⟨i,hi,e⟩:=List.mem_iff_getElem.mp hv
  have e1:line[i]?=some v:=by rw [List.getElem?_eq_getElem hi,e]
  have hi2:i < ds.length:=by rw [b.len];exact hi
  have e2:ds[i]?=some ds[i]:=List.getElem?_eq_getElem hi2
  have e3:=(b.dist i v _ e1 e2).uniq dv
  by_cases hlt:i < at_
  ·exact b.done i v w hlt e1 tv
  ·have:=b.mono at_ i d _ (by row_cond lo) hd e2
   row_cond lo
theorem Bfs.add {T:Int->Int->Prop} {a:Int} {line:List Int} {ds:List Nat} {at_:Nat} {p w:Int} {d:Nat} (b:Bfs T a line ds at_) (hp:line[at_]?=some p) (hd:ds[at_]?=some d) (t:T p w) (hw:w ∉ line) :
  Bfs T a (line ++ [w]) (ds ++ [d+1]) at_:=by
 have hlt:at_ < line.length:=(List.getElem?_eq_some_iff.mp hp).1
 have dw:Dist T a w (d+1):=by
  obtain ⟨e,he,h⟩:=(b.dist _ _ _ hp hd).next t
  by_cases h2:e<=d
  ·exact absurd (b.all hd e w h2 h) hw
  ·have:e=d+1:=by row_cond lo
   rw [← this];exact h
 have hds:∀ (j:Nat) e,(ds ++ [d+1])[j]?=some e->(ds[j]?=some e)\/(j=ds.length/\e=d+1):=by
  intro j e h
  rw [List.getElem?_append] at h
  split at h
  ·exact .inl h
  ·rename_i hj
   right
   have:j - ds.length=0:=by
    match hz:j - ds.length,h with
    | 0,_=>rfl
    | k+1,h=>simp at h
   rw [this] at h
   simp at h
   exact ⟨by row_cond lo,h.symm⟩
 refine ⟨by simp [b.len],?_,?_,by simp;row_cond lo,fun i v e h1 h2=>?_,fun i j x y h h1 h2=>?_,fun i j x y h h1 h2=>?_,fun i v u h h1 tu=>?_⟩
 ·rw [List.getElem?_append_left (by row_cond lo)];exact b.fst
 ·rw [List.nodup_append]
  exact ⟨b.nd,by simp,fun x hx y hy=>by simp at hy;subst hy;intro e;subst e;exact hw hx⟩
 ·rcases hds _ _ h2 with h2 | ⟨ei,ed⟩
  ·have hi:i < ds.length:=(List.getElem?_eq_some_iff.mp h2).1
   rw [List.getElem?_append_left (by rw [← b.len];exact hi)] at h1
   exact b.dist i v e h1 h2
  ·subst ed
   rw [List.getElem?_append_right (by rw [← b.len];row_cond lo)] at h1
   have:i - line.length=0:=by rw [← b.len];row_cond lo
   rw [this] at h1
   simp at h1;subst h1
   exact dw
 ·rcases hds _ _ h1 with h1 | ⟨ei,ed⟩
  ·rcases hds _ _ h2 with h2 | ⟨ej,ed⟩
   ·exact b.mono i j x y h h1 h2
   ·subst ed
    by_cases hia:at_<=i
    ·exact b.near at_ i d x (Nat.le_refl _) hd h1
    ·have:=b.mono i at_ x d (by row_cond lo) h1 hd;row_cond lo
  ·rcases hds _ _ h2 with h2 | ⟨ej,ed2⟩
   ·have:=(List.getElem?_eq_some_iff.mp h2).1;row_cond lo
   ·row_cond lo
 ·rcases hds _ _ h1 with h1 | ⟨ei,ed⟩
  ·rcases hds _ _ h2 with h2 | ⟨ej,ed⟩
   ·exact b.near i j x y h h1 h2
   ·subst ed
    have:=b.mono at_ i d x h hd h1;row_cond lo
  ·subst ed
   rcases hds _ _ h2 with h2 | ⟨ej,ed⟩
   ·have:=b.near at_ j d y (Nat.le_refl _) hd h2;row_cond lo
   ·row_cond lo
 ·rw [List.getElem?_append_left (by row_cond lo)] at h1
  exact List.mem_append_left _ (b.done i v u h h1 tu)
theorem Bfs.next {T:Int->Int->Prop} {a:Int} {line:List Int} {ds:List Nat} {at_:Nat} {p:Int} (b:Bfs T a line ds at_) (hp:line[at_]?=some p) (h:∀ w,T p w->w∈line):Bfs T a line ds (at_+1):=by
 have hlt:at_ < line.length:=(List.getElem?_eq_some_iff.mp hp).1
 refine ⟨b.len,b.fst,b.nd,hlt,b.dist,b.mono,fun i j d e hi=>b.near i j d e (by row_cond lo),fun i v w hi h1 t=>?_⟩
 by_cases e:i=at_
 ·subst e
  rw [hp] at h1;cases h1
  exact h w t
 ·exact b.done i v w (by row_cond lo) h1 t
theorem Bfs.fin {T:Int->Int->Prop} {a:Int} {line:List Int} {ds:List Nat} (b:Bfs T a line ds line.length):∀ k w,Walk T a k w->w∈line:=by
 intro k w h
 induction h with
 | refl=>exact List.mem_of_getElem? b.fst
 | step _ t ih =>
  obtain ⟨i,hi,e⟩:=List.mem_iff_getElem.mp ih
  exact b.done i _ _ hi (by rw [List.getElem?_eq_getElem hi,e]) t
end Gr
namespace L2
open PySem PySem.Spec PyProof.Rows
section
variable {σ:St} {H:Hp} {D:Ends} {K:PySem.W.Frag}
end
theorem few_places:∀ (n:Nat) (l:List Int),l.Nodup->(∀ v∈l,0<=v/\v < (n:Int))->l.length<=n
 | 0,l,_,h=>by
  cases l with
  | nil=>simp
  | cons v r => have:=h v (by simp); row_cond lo
 | n+1,l,hn,h=>by
  have h1:=few_places n (l.erase (n:Int)) (hn.erase _) fun v hv=>by
   have hm:=List.mem_of_mem_erase hv
   have hb:=h v hm
   have hne:v ≠ (n:Int):=by
    rintro rfl
    exact absurd hv (List.Nodup.not_mem_erase hn)
   row_cond lo
  have h2:l.length<=(l.erase (n:Int)).length+1:=by
   rw [List.length_erase]
   split <;> row_cond lo
  row_cond lo
end L2
namespace L2
open PySem
end L2
namespace HT
open PySem PyProof.Rows
section
variable {prog:Program} {w:World} {A:Around} {E:Value->Shared->Prop} {s:Shared}
end
end HT
namespace L2
open PySem PySem.Spec PyProof.Rows
section
variable {X:Cx}
end
end L2
namespace L2
open PySem PySem.Spec PyProof.Rows
section
variable {X:Cx} {pins:List (Addr × Obj)} {σ:St} {H:Hp} {s:Shared} {A:Around} {E:Value->Shared->Prop} {Q:Value->Shared->Prop} {b:Bool}
end
section
variable {X:Cx}
end
mutual
noncomputable def ltv:PyData->PyData->Bool
 | .int a,.int b=>decide (a < b)
 | .tuple xs,.tuple ys=>ltvs xs ys
 | _,_=>false
noncomputable def ltvs:List PyData->List PyData->Bool
 | [],[]=>false
 | [],_ :: _=>true
 | _ :: _,[]=>false
 | x :: xs,y :: ys=>if PyData.eqv x y then ltvs xs ys else ltv x y
end
mutual
noncomputable def cmpD:PyData->PyData->Bool
 | .int _,.int _=>true
 | .tuple xs,.tuple ys=>cmpDs xs ys
 | _,_=>false
noncomputable def cmpDs:List PyData->List PyData->Bool
 | x :: xs,y :: ys=>cmpD x y && cmpDs xs ys
 | _,_=>true
end
end L2
namespace HT
open PySem PyProof.Rows L2
def LtAt (A:Around) (s:Shared) (y x:Value) (b:Bool):Prop :=
 ∀ (prog:Program) (w:World) (E:Value->Shared->Prop) (Q:Value->Shared->Prop),Q (.bool b) s->wpAny (model prog w) A (richCompare .Lt y x) Q E s
section
open PySem.SeqAt
open PySem.AutoSeq1 (wpAny_loadPart')
open PySem.MeetsSeq PySem.MeetsSeq2 PySem.MeetsSeq3
inductive Its (A:Around) (s:Shared):List Value->List Value->Bool->Prop
 | nn:Its A s [] [] false
 | nc {x:Value} {ys:List Value}:Its A s [] (x :: ys) true
 | cn {x:Value} {xs:List Value}:Its A s (x :: xs) [] false
 | eq {x y:Value} {xs ys:List Value} {b:Bool}:EqAt A s x y true->Its A s xs ys b->Its A s (x :: xs) (y :: ys) b
 | ne {x y:Value} {xs ys:List Value} {b:Bool}:EqAt A s x y false->LtAt A s x y b->Its A s (x :: xs) (y :: ys) b
theorem ak0 (l b:Addr) (items items2:Array Value) (n n2:Nat) (dd dd2:Option Addr) (sl sl2:Array (Option Value)) (r:Bool) :
  Meets (Builtin.«tuple.__lt__» ⟨[.ref l,.ref b],[]⟩)
   (fun A R s=>s.heap.get? l=some { cls:=.type "tuple",dict:=dd,data:=.seq items n,slots:=sl }/\s.heap.get? b=some { cls:=.type "tuple",dict:=dd2,data:=.seq items2 n2,slots:=sl2 } /\
    Its A.in1 s items.toList items2.toList r/\R (.ok (.ret (.bool r))) s) :=
 .of_wp fun prog w A R s h=>by
  obtain ⟨hp,g,d,tk,os⟩:=s;obtain ⟨hl,hb,hi,h⟩:=h
  have f2:=AutoSeq1.sub_tuple_tuple
  wp_walk using wpAny_loadPart' hl,wpAny_loadPart' hb,wpAny_forIn_list _ (fun rest b s'=>b.1=none/\s'=⟨hp,g,d,tk,os⟩/\∃ (vs ws:List Value),rest=vs.zip ws /\
   vs.length+items2.size=ws.length+items.size/\Its A.in1 ⟨hp,g,d,tk,os⟩ vs ws r) _
  case turn =>
   rintro ⟨y,x⟩ rest b s' ⟨hb',rfl,vs,ws,hz,hlen,hI⟩
   cases hI with
   | nn=>cases hz
   | nc=>cases hz
   | cn=>cases hz
   | eq he hI' =>
    rw [List.zip_cons_cons] at hz
    injection hz with hyx hrest
    injection hyx with hy hx
    subst hy hx
    simp only [List.length_cons] at hlen
    refine wpAny_bind (he prog w _ _ ?_)
    wp_walk
    exact ⟨rfl,rfl,_,_,hrest,by row_cond lo,hI'⟩
   | ne he hlt =>
    rw [List.zip_cons_cons] at hz
    injection hz with hyx hrest
    injection hyx with hy hx
    subst hy hx
    refine wpAny_bind (he prog w _ _ ?_)
    have hri:=hlt prog w
    wp_walk using hri
    exact ⟨_,rfl,by simpa using h⟩
  case fin =>
   rintro ⟨b1,b2⟩ s' ⟨hb',rfl,vs,ws,hz,hlen,hI⟩
   simp only at hb'
   subst hb'
   have hv:r=decide (items.size < items2.size):=by
    cases hI with
    | nn =>
     simp only [List.length_nil] at hlen
     exact (decide_eq_false (by row_cond lo)).symm
    | nc =>
     simp only [List.length_nil,List.length_cons] at hlen
     exact (decide_eq_true (by row_cond lo)).symm
    | cn =>
     simp only [List.length_nil,List.length_cons] at hlen
     exact (decide_eq_false (by row_cond lo)).symm
    | eq=>cases hz
    | ne=>cases hz
   rw [hv] at h
   wp_walk
   exact ⟨_,rfl,by simpa [Builtin.Tuple.tupleCompareSizes] using h⟩
  case h =>
   exact ⟨rfl,rfl,items.toList,items2.toList,rfl,by simp;row_cond lo,hi⟩
end
section
variable {A:Around} {s:Shared}
theorem LtAt.tup {l b:Addr} {o o2:Obj} {items items2:Array Value} {n n2:Nat} {r:Bool} (hl:s.heap.get? l=some o) (hc:o.cls=.type "tuple") (hd:o.data=.seq items n) (hb:s.heap.get? b=some o2) (hc2:o2.cls=.type "tuple") (hd2:o2.data=.seq items2 n2)
  (hu:A.units < cLine) (hi:Its A.in1 s items.toList items2.toList r):LtAt A s (.ref l) (.ref b) r:=by
 intro prog w E Q q
 obtain ⟨cls,dd,data,sl⟩:=o
 obtain ⟨cls2,dd2,data2,sl2⟩:=o2
 simp only at hc hd hc2 hd2
 subst hc hd hc2 hd2
 exact richCompare_meets_room (op:=.Lt) ⟨_,hl,rfl⟩ ⟨_,hb,rfl⟩ PySem.F.slot_tuple_lt PySem.F.entry_tuple_lt (PySem.F.args_tuple_lt_2 _ _) (ak0 l b items items2 n n2 dd dd2 sl sl2 r)
  ⟨hl,hb,hi,show Value.bool r ≠ Value.notImplemented/\Q (.bool r) s from ⟨(fun x=>nomatch x),q⟩⟩ hu
mutual
theorem agx:∀ (da db:PyData) (A:Around) (s:Shared) (a b:Value) (as bs:List Addr),Reads s.heap a da as->Reads s.heap b db bs->cmpD da db=true->aaj da=true->aaj db=true ->
  A.units+da.depth < cLine->LtAt A s a b (ltv da db)
 | .int i,.int j,A,s,_,_,_,_,.int _ t,.int _ u,_,_,_,_=>fun prog w E Q q=>aq6 A s i t j u prog w E Q (by simpa [ltv] using q)
 | .tuple xs,.tuple ys,A,s,_,_,_,_,.tuple h1 h2 h3 h4,.tuple k1 k2 k3 k4,hc,pa,pb,hu=>by
  have hu':A.units+(PyData.depthAll xs+1) < cLine:=hu
  have e:ltv (.tuple xs) (.tuple ys)=ltvs xs ys:=by simp [ltv]
  rw [e]
  exact LtAt.tup h1 h2 h3 k1 k2 k3 (by row_cond lo) (its_reads xs ys A.in1 s _ _ _ _ h4 k4 (by simpa [cmpD] using hc) (by simpa [aaj] using pa) (by simpa [aaj] using pb) (by show A.units+1+_ < _;row_cond lo))
 | .int _,.none,_,_,_,_,_,_,_,_,hc,_,_,_=>by simp [cmpD] at hc
 | .int _,.bool _,_,_,_,_,_,_,_,_,hc,_,_,_=>by simp [cmpD] at hc
 | .int _,.str _,_,_,_,_,_,_,_,_,hc,_,_,_=>by simp [cmpD] at hc
 | .int _,.list _,_,_,_,_,_,_,_,_,hc,_,_,_=>by simp [cmpD] at hc
 | .int _,.tuple _,_,_,_,_,_,_,_,_,hc,_,_,_=>by simp [cmpD] at hc
 | .int _,.dict _,_,_,_,_,_,_,_,_,hc,_,_,_=>by simp [cmpD] at hc
 | .tuple _,.none,_,_,_,_,_,_,_,_,hc,_,_,_=>by simp [cmpD] at hc
 | .tuple _,.bool _,_,_,_,_,_,_,_,_,hc,_,_,_=>by simp [cmpD] at hc
 | .tuple _,.str _,_,_,_,_,_,_,_,_,hc,_,_,_=>by simp [cmpD] at hc
 | .tuple _,.list _,_,_,_,_,_,_,_,_,hc,_,_,_=>by simp [cmpD] at hc
 | .tuple _,.int _,_,_,_,_,_,_,_,_,hc,_,_,_=>by simp [cmpD] at hc
 | .tuple _,.dict _,_,_,_,_,_,_,_,_,hc,_,_,_=>by simp [cmpD] at hc
 | .none,_,_,_,_,_,_,_,_,_,hc,_,_,_=>by simp [cmpD] at hc
 | .bool _,_,_,_,_,_,_,_,_,_,hc,_,_,_=>by simp [cmpD] at hc
 | .str _,_,_,_,_,_,_,_,_,_,hc,_,_,_=>by simp [cmpD] at hc
 | .list _,_,_,_,_,_,_,_,_,_,hc,_,_,_=>by simp [cmpD] at hc
 | .dict _,_,_,_,_,_,_,_,_,_,hc,_,_,_=>by simp [cmpD] at hc
theorem its_reads:∀ (xs ys:List PyData) (A:Around) (s:Shared) (vs ws:List Value) (as bs:List Addr),ReadsAll s.heap vs xs as->ReadsAll s.heap ws ys bs->cmpDs xs ys=true->plainDs xs=true->plainDs ys=true ->
  A.units+PyData.depthAll xs < cLine->Its A s vs ws (ltvs xs ys)
 | [],[],_,_,_,_,_,_,.nil,.nil,_,_,_,_=>by simp only [ltvs];exact .nn
 | [],_ :: _,_,_,_,_,_,_,.nil,.cons _ _,_,_,_,_=>by simp only [ltvs];exact .nc
 | _ :: _,[],_,_,_,_,_,_,.cons _ _,.nil,_,_,_,_=>by simp only [ltvs];exact .cn
 | x :: xs,y :: ys,A,s,_,_,_,_,.cons r1 r2,.cons q1 q2,hc,pa,pb,hu=>by
  have hc':cmpD x y=true/\cmpDs xs ys=true:=by simpa [cmpDs] using hc
  have pa':aaj x=true/\plainDs xs=true:=by simpa [plainDs] using pa
  have pb':aaj y=true/\plainDs ys=true:=by simpa [plainDs] using pb
  have hd:PyData.depthAll (x :: xs)=max x.depth (PyData.depthAll xs):=by simp [PyData.depthAll]
  have m1:=Nat.min_le_left x.depth y.depth
  have he:=SeqAt.eqAt_reads x y A s _ _ _ _ r1 q1 (ab1 _ pa'.1) (ab1 _ pb'.1) (by row_cond lo)
  cases hq:PyData.eqv x y with
  | true =>
   rw [hq] at he
   have e:ltvs (x :: xs) (y :: ys)=ltvs xs ys:=by simp [ltvs,hq]
   rw [e]
   exact .eq he (its_reads xs ys A s _ _ _ _ r2 q2 hc'.2 pa'.2 pb'.2 (by row_cond lo))
  | false =>
   rw [hq] at he
   have e:ltvs (x :: xs) (y :: ys)=ltv x y:=by simp [ltvs,hq]
   rw [e]
   exact .ne he (agx x y A s _ _ _ _ r1 q1 hc'.1 pa'.1 pb'.1 (by row_cond lo))
end
end
end HT
namespace L2
open PySem PySem.Spec PyProof.Rows
section
variable {X:Cx}
end
end L2
namespace L2
open PySem
end L2
namespace TS
open PySem PyProof.Rows HT
theorem am5:∀ x y:List Int,HT.lexLt x y=true->HT.lexLt y x=false
 | [],[],h=>by simp [HT.lexLt] at h
 | [],_ :: _,_=>rfl
 | _ :: _,[],h=>by simp [HT.lexLt] at h
 | a :: x,b :: y,h=>by
  rw [aea] at h ⊢
  by_cases e:a=b
  ·subst e
   rw [if_pos rfl] at h ⊢
   exact am5 x y h
  ·rw [if_neg e] at h
   rw [if_neg (fun z=>e z.symm)]
   have:=of_decide_eq_true h
   exact decide_eq_false (by row_cond lo)
theorem apy:∀ x y z:List Int,HT.lexLt y x=false->HT.lexLt z y=false->HT.lexLt z x=false
 | _,[],[],h,_=>h
 | [],[],_ :: _,_,_=>rfl
 | _ :: _,[],_ :: _,h,_=>by simp [HT.lexLt] at h
 | _,_ :: _,[],_,h=>by simp [HT.lexLt] at h
 | [],_ :: _,_ :: _,_,_=>rfl
 | a :: x,b :: y,c :: z,h,g=>by
  rw [aea] at h g ⊢
  by_cases e:b=a
  ·subst e
   rw [if_pos rfl] at h
   by_cases e2:c=b
   ·subst e2
    rw [if_pos rfl] at g ⊢
    exact apy x y z h g
   ·rw [if_neg e2] at g ⊢
    exact g
  ·rw [if_neg e] at h
   have h':=of_decide_eq_false h
   by_cases e2:c=b
   ·subst e2
    rw [if_neg e]
    exact h
   ·rw [if_neg e2] at g
    have g':=of_decide_eq_false g
    rw [if_neg (by row_cond lo)]
    exact decide_eq_false (by row_cond lo)
def TI (h:Heap) (a:Addr) (ns:List Int):Prop:=∃ o xs n,h.get? a=some o/\o.cls=.type "tuple"/\o.data=.seq xs n/\IntsAre xs.toList ns
noncomputable def kfV (kf:Addr->List Int):Value->List Int
 | .ref a=>kf a
 | _=>[]
section
variable {prog:Program} {w:World} {A:Around} {E:Value->Shared->Prop} {s:Shared}
theorem afx {fin:Bool} {Q:Bool->Shared->Prop}:∀ {xs ys:List Value} {ns ms:List Int} (i:Nat),IntsAre xs ns->IntsAre ys ms->(ns.length < ms.length->fin=true)->(ms.length<=ns.length->fin=false)->Q (HT.lexLt ns ms) s ->
  PySem.W.KatLex prog w A true fin Q (xs.zip ys) i s
 | _,_,_,_,i,.nil,.nil,_,h2,q=>by
  rw [h2 (Nat.le_refl _)];exact q
 | _,_,_,_,i,.nil,.cons b u r,h1,_,q=>by
  rw [h1 (by simp)];exact q
 | _,_,_,_,i,.cons a t r,.nil,_,h2,q=>by
  rw [List.zip_nil_right,h2 (by simp)];exact q
 | _,_,_,_,i,.cons a t r,.cons b u r2,h1,h2,q=>by
  rw [List.zip_cons_cons]
  refine PySem.W.kat_cons (SeqAt.EqAt.int_int a t b u prog w _ _ ?_)
  rw [aea] at q
  by_cases e:a=b
  ·subst e
   rw [if_pos rfl] at q
   rw [show (a == a)=true by simp]
   exact PySem.W.kat_yes (afx (i+1) r r2 (fun z=>h1 (by simpa using z)) (fun z=>h2 (by simpa using z)) q)
  ·rw [if_neg e] at q
   rw [show (a == b)=false by simpa using e]
   refine PySem.W.kat_no ?_
   by_cases hi:i=0
   ·subst hi
    exact oneLt_int q
   ·rw [show (true && i == 0)=false by simpa using hi]
    exact PySem.W.kat_one _ _ (PyProof.Rows.lt_int q)
def tS (h:Heap) (kf:Addr->List Int) (x:Keyed):Prop:=x.1=x.2/\∃ a,x.1=.ref a/\TI h a (kf a)
noncomputable def tR (kf:Addr->List Int) (x y:Keyed):Bool:=HT.lexLt (kfV kf x.1) (kfV kf y.1)
theorem cmp_tups (kf:Addr->List Int):Cmp (model prog w) A E s (tuples' true) (tS s.heap kf) (tR kf):=by
 refine ⟨fun x y hx hy Q st hk q=>?_,fun x y _ _=>am5 _ _,fun x y z _ _ _=>apy _ _ _⟩
 obtain ⟨x1,x2⟩:=x
 obtain ⟨y1,y2⟩:=y
 obtain ⟨_,a,ea,o,xs,n,e1,e2,e3,e4⟩:=hx
 obtain ⟨_,b,eb,o',ys,n',g1,g2,g3,g4⟩:=hy
 dsimp only at ea eb
 subst ea eb
 rw [lt'_eq]
 refine wpS_bind (wpS_get ?_)
 rw [hk]
 refine wpS_bind (wpS_lift (wpAny_attempt (PySem.W.kat_lt e1 e3 g1 g3 (afx 0 e4 g4 (fun z=>?_) (fun z=>?_) ⟨rfl,?_⟩))))
 ·have h1:=e4.length;have h2:=g4.length
  simp at h1 h2
  exact decide_eq_true (by row_cond lo)
 ·have h1:=e4.length;have h2:=g4.length
  simp at h1 h2
  exact decide_eq_false (by row_cond lo)
 ·exact wpS_pure q
theorem aom {vs:List Value} {ps:List Keyed} (h:ps.Perm (vs.zip vs)):(∀ p∈ps,p.1=p.2/\p.1∈vs)/\(ps.map (·.2)).Perm vs:=by
 refine ⟨fun p hp=>mem_zip_self (h.mem_iff.mp hp),?_⟩
 have h1:=h.map (fun p=>p.2)
 have e:(vs.zip vs).map (fun p=>p.2)=vs:=List.map_snd_zip (Nat.le_refl _)
 rwa [e] at h1
theorem list_sort_small {a:Addr} {vs:List Value} {n:Nat} {P:PySem.Fin->Shared->Prop} (ho:s.heap.get? a=some (seqObj "list" vs.toArray n)) (hlen:vs.length<=sizeLine) (h64:vs.length < 64)
  (hκ:2<=vs.length->∀ h',(∀ b o,b ≠ a->s.heap.get? b=some o->h'.get? b=some o)->∃ κ S R,(∀ (Q:SortKind->Shared->Prop),Q κ { s with heap:=h' }->wpAny (model prog w) A (keyKind' vs.toArray) Q E { s with heap:=h' })/\Cmp (model prog w) A E { s with heap:=h' } κ S R/\(∀ v∈vs,S (v,v)) /\
   ∀ out:List Value,out.Perm vs->out.Pairwise (fun x y=>R (y,y) (x,x)=false)->P (.done (.ret .none)) { s with heap:=sortedHeap s.heap a vs out.toArray })
  (h1:vs.length < 2->P (.done (.ret .none)) { s with heap:=sortedHeap s.heap a vs vs.toArray }) :
  wpAny (model prog w) A (Builtin.«list.sort» ⟨[.ref a],[]⟩) P E s:=by
 rw [list_sort_plain]
 have ha:a < s.heap.objs.size:=Heap.lt_size ho
 refine wpAny_bind (listItems_at ho rfl ?_)
 refine wpAny_bind (listUpdate_at ho rfl ?_ (by rw [List.size_toArray];exact hlen) (Nat.zero_le _))
 obtain ⟨e1,ho1⟩:∃ e1,(s.heap.update a (Obj.mapSeq fun _ => #[])).get? a=some (seqObj "list" #[] e1):=⟨_,get?_update_seq ho (fun _ => #[])⟩
 refine wpAny_bind (seqEpoch_at ho1 rfl ?_)
 refine wpAny_bind (wpAny_newTuple ?_ (by show vs.length<=_;exact hlen))
 refine wpAny_bind (wpAny_newList ?_ (Nat.zero_le _))
 refine wpAny_holding ?_
 have ho6:(((s.heap.update a (Obj.mapSeq fun _ => #[])).push (seqObj "tuple" vs.toArray 0)).push (seqObj "list" #[] 0)).get? a=some (seqObj "list" #[] e1):=by
  rw [Heap.get?_push_ne _ _ _ (by rw [size_push',Heap.size_update];exact Nat.ne_of_lt (Nat.lt_succ_of_lt ha)),Heap.get?_push_ne _ _ _ (by rw [Heap.size_update];exact Nat.ne_of_lt ha)]
  exact ho1
 show wpAny (model prog w) A _ P E { s with heap:=((s.heap.update a (Obj.mapSeq fun _ => #[])).push (seqObj "tuple" vs.toArray 0)).push (seqObj "list" #[] 0) }
 dsimp only
 have hsz:vs.toArray.size=vs.length:=by simp
 have kp:∀ b o,b ≠ a->s.heap.get? b=some o->(((s.heap.update a (Obj.mapSeq fun _ => #[])).push (seqObj "tuple" vs.toArray 0)).push (seqObj "list" #[] 0)).get? b=some o:=fun b o hb e=>by
  refine Heap.get?_push_of_some _ (Heap.get?_push_of_some _ ?_)
  rw [Heap.get?_update_ne _ _ _ _ hb];exact e
 by_cases h2:vs.toArray.size < 2
 ·rw [if_pos h2,if_pos h2]
  refine wpAny_bind (wpAny_pure ?_)
  rw [StateT.run_pure]
  refine wpAny_bind (wpAny_pure ?_)
  dsimp only
  have eo:(arrOf (SortSt.mk' general' (vs.toArray.zip vs.toArray) #[] 7 none)).map (·.2)=vs.toArray:=by
   show (vs.toArray.zip vs.toArray).map (·.2)=vs.toArray
   apply Array.toList_inj.mp
   rw [Array.toList_map,Array.toList_zip]
   exact List.map_snd_zip (Nat.le_refl _)
  rw [eo]
  refine wpAny_bind (seqEpoch_at ho6 rfl ?_)
  refine wpAny_bind (listUpdate_at ho6 rfl ?_ (Nat.zero_le _) (by rw [List.size_toArray];exact Nat.le_succ_of_le hlen))
  simp only [bne_self_eq_false,Bool.false_eq_true,if_false]
  exact wpAny_pure (h1 (by row_cond lo))
 ·rw [if_neg h2,if_neg h2]
  obtain ⟨κ,S,R,hk,C,hS,hfin⟩:=hκ (by row_cond lo) _ kp
  refine wpAny_bind (hk _ ?_)
  refine wpAny_bind (wpAny_mono (aok C (a0:=vs.toArray.zip vs.toArray) (st:=SortSt.mk' κ (vs.toArray.zip vs.toArray) #[] 7 none) (Q:=fun _ st'=>failedOf st'=none/\(arrOf st').toList.Perm (vs.zip vs)/\Srt R (arrOf st').toList) (fun x hx=>?_) rfl rfl rfl rfl (by simp;row_cond lo) (by simp;row_cond lo) fun st' f' p' s'=>⟨f',by simpa using p',s'⟩) ?_ fun _ _ e=>e)
  ·have:x∈vs.zip vs:=by simpa using hx
   obtain ⟨q1,q2⟩:=mem_zip_self this
   obtain ⟨x1,x2⟩:=x
   dsimp only at q1 q2
   subst q1
   exact hS _ q2
  rintro ⟨⟨⟩,st'⟩ s' ⟨rfl,hf,hp,hs⟩
  dsimp only
  obtain ⟨q1,q2⟩:=aom hp
  have eo:(arrOf st').map (·.2)=(((arrOf st').toList.map (·.2)).toArray):=by
   apply Array.toList_inj.mp
   simp
  rw [eo]
  have hl2:((arrOf st').toList.map (·.2)).length=vs.length:=q2.length_eq
  refine wpAny_bind (seqEpoch_at ho6 rfl ?_)
  refine wpAny_bind (listUpdate_at ho6 rfl ?_ (Nat.zero_le _) (by rw [List.size_toArray,hl2];exact Nat.le_succ_of_le hlen))
  rw [hf]
  simp only [bne_self_eq_false,Bool.false_eq_true,if_false]
  refine wpAny_pure (hfin _ q2 ?_)
  rw [List.pairwise_map]
  refine List.Pairwise.imp_of_mem ?_ hs
  intro x y hx hy hr
  have ex:=(q1 x hx).1
  have ey:=(q1 y hy).1
  obtain ⟨x1,x2⟩:=x
  obtain ⟨y1,y2⟩:=y
  dsimp only at ex ey
  subst ex ey
  exact hr
theorem sorted_small {l:Addr} {vs:List Value} {Q:Value->Shared->Prop} (hl:s.heap.IsList l vs.toArray) (hlen:vs.length<=sizeLine) (h64:vs.length < 64)
  (hκ:2<=vs.length->∀ h',(∀ b o,s.heap.get? b=some o->h'.get? b=some o)->∃ κ S R,(∀ (Q:SortKind->Shared->Prop),Q κ { s with heap:=h' }->wpAny (model prog w) A.in1.in1 (keyKind' vs.toArray) Q E { s with heap:=h' })/\Cmp (model prog w) A.in1.in1 E { s with heap:=h' } κ S R/\(∀ v∈vs,S (v,v)) /\
   ∀ out:List Value,out.Perm vs->out.Pairwise (fun x y=>R (y,y) (x,x)=false)->Q (.ref (s.heap.objs.size+1)) { s with heap:=sortedAll s.heap vs out.toArray })
  (h1:vs.length < 2->Q (.ref (s.heap.objs.size+1)) { s with heap:=sortedAll s.heap vs vs.toArray }) :
  wpAny (model prog w) A (call (.builtin "sorted") [.ref l]) Q E s:=by
 refine Calls.call_function_entry kind_sorted plain_sorted entry_sorted (args_sorted1 _) ?_
 unfold Builtin.«sorted»
 refine wpAny_bind (m:=checkCount "sorted" 1 1 _) (wpAny_pure ?_)
 refine wpAny_bind (collect_list hl ?_ hlen)
 refine wpAny_bind (wpAny_newList ?_ hlen)
 have hsz:((s.heap.push (seqObj "list" #[] 0)).update s.heap.objs.size (Obj.mapSeq (· ++ vs.toArray))).objs.size=s.heap.objs.size+1:=by
  rw [Heap.size_update,size_push']
 have hoL:(((s.heap.push (seqObj "list" #[] 0)).update s.heap.objs.size (Obj.mapSeq (· ++ vs.toArray))).push (seqObj "list" vs.toArray 0)).get? (s.heap.objs.size+1)=some (seqObj "list" vs.toArray 0):=by
  rw [← hsz];exact Heap.get?_push_size _ rfl
 have keep:∀ b o,s.heap.get? b=some o->(((s.heap.push (seqObj "list" #[] 0)).update s.heap.objs.size (Obj.mapSeq (· ++ vs.toArray))).push (seqObj "list" vs.toArray 0)).get? b=some o:=fun b o q=>by
  have hlt:b < s.heap.objs.size:=Heap.lt_size q
  rw [Heap.get?_push_ne _ _ _ (by rw [hsz];exact Nat.ne_of_lt (Nat.lt_succ_of_lt hlt)),Heap.get?_update_ne _ _ _ _ (Nat.ne_of_lt hlt),Heap.get?_push_ne _ _ _ (Nat.ne_of_lt hlt)]
  exact q
 show wpAny _ _ _ _ _ { s with heap:=((s.heap.push (seqObj "list" #[] 0)).update s.heap.objs.size (Obj.mapSeq (· ++ vs.toArray))).push (seqObj "list" vs.toArray 0) }
 rw [hsz]
 refine wpAny_bind (wpAny_holding (wpAny_call_entry slot_list_sort ⟨_,hoL,rfl⟩ entry_list_sort ?body (args_list_sort _)))
 case body =>
  refine list_sort_small (s:={ s with heap:=((s.heap.push (seqObj "list" #[] 0)).update s.heap.objs.size (Obj.mapSeq (· ++ vs.toArray))).push (seqObj "list" vs.toArray 0) }) hoL hlen h64 (fun hge h' kp=>?_) fun hlt=>?_
  ·obtain ⟨κ,S,R,hk,C,hS,hfin⟩:=hκ hge h' fun b o e=>kp b o (Nat.ne_of_lt (Nat.lt_succ_of_lt (Heap.lt_size e))) (keep b o e)
   exact ⟨κ,S,R,hk,C,hS,fun out q1 q2=>⟨_,rfl,wpAny_pure ⟨_,rfl,hfin out q1 q2⟩⟩⟩
  ·exact ⟨_,rfl,wpAny_pure ⟨_,rfl,h1 hlt⟩⟩
end
end TS
namespace L2
open PySem PySem.Spec PyProof.Rows
noncomputable def toI:V->Int
 | .int i=>i
 | _=>0
noncomputable def kH (H:Hp):V->List Int
 | .ref t=>match H t with
  | some (.tup xs)=>xs.map toI
  | _=>[]
 | _=>[]
theorem aum (ns:List Int):(ns.map V.int).map toI=ns:=by
 rw [List.map_map]
 have:(toI ∘ V.int)=id:=by funext i;rfl
 rw [this,List.map_id]
theorem agy {H:Hp} {t:Addr} {ns:List Int} (h:H t=some (.tup (ns.map V.int))):kH H (.ref t)=ns:=by
 simp only [kH,h];exact aum ns
def TupI (H:Hp) (v:V):Prop:=∃ t ns,v=.ref t/\H t=some (.tup (ns.map V.int))/\ns ≠ []
noncomputable def ab9:Value->V
 | .ref a => .ref a
 | _ => .non
theorem aex:∀ {us:List Value},(∀ u∈us,∃ a,u=.ref a)->Vals (us.map ab9) us
 | [],_ => .nil
 | u :: us,h=>by
  obtain ⟨a,e⟩:=h u List.mem_cons_self
  subst e
  exact .cons rfl (aex fun v hv=>h v (List.mem_cons_of_mem _ hv))
theorem aiq {H:Hp}:∀ {vs:List V} {us:List Value},Vals vs us->(∀ v∈vs,TupI H v)->(∀ u∈us,∃ a,u=.ref a)/\us.map ab9=vs
 | _,_,.nil,_=>⟨fun u hu=>(by cases hu),rfl⟩
 | v :: vs,u :: us,.cons r t,h=>by
  obtain ⟨a,ns,rfl,_,_⟩:=h v List.mem_cons_self
  cases r
  obtain ⟨h1,h2⟩:=aiq t fun v hv=>h v (List.mem_cons_of_mem _ hv)
  refine ⟨fun x hx=>?_,by rw [List.map_cons,h2];rfl⟩
  rcases List.mem_cons.mp hx with rfl | hx
  ·exact ⟨_,rfl⟩
  ·exact h1 x hx
section
variable {X:Cx}
def agz (K:PySem.W.Frag):List V->Hp->VK->Prop:=fun xs H Q=>∃ (a:Addr) (vs:List V),xs=[.ref a]/\SqL K H a vs/\(∀ v∈vs,TupI H v)/\vs.length < 64 /\
 ∀ (vs':List V) (p:Addr),vs'.Perm vs->vs'.Pairwise (fun x y=>HT.lexLt (kH H y) (kH H x)=false)->H p=none->Q (.ref p) (upd H p (.lst vs'))
theorem af4 {H:Hp} {pins:List (Addr × Obj)} {σ:St} {s:Shared} (I:Inv X pins σ H s) {h':Heap} (kp:∀ b o,s.heap.get? b=some o->h'.get? b=some o):∀ {vs:List V} {us:List Value},Vals vs us->(∀ v∈vs,TupI H v) ->
  (∃ fs,PySem.W.KatTups h' us fs/\fs.length=us.length/\∀ f∈fs,∃ i t,f=.int i t)/\∀ u∈us,∃ a,u=.ref a/\TS.TI h' a (kH H (.ref a))
 | _,_,.nil,_=>⟨⟨[],trivial,rfl,fun f hf=>by cases hf⟩,fun u hu=>by cases hu⟩
 | v :: vs,u :: us,.cons r t,h=>by
  obtain ⟨a,ns,rfl,e,hne⟩:=h v List.mem_cons_self
  cases r
  obtain ⟨⟨fs,k1,k2,k3⟩,k4⟩:=af4 I kp t fun v hv=>h v (List.mem_cons_of_mem _ hv)
  obtain ⟨_,its,rv,o,e1,e2,n,e3⟩:=(show ObjOk X.prog X.w H s.heap a (.tup (ns.map V.int)) from I.hok a _ e)
  have hi:IntsAre its ns:=by simpa using (ab5 rv:IntsAre its.toArray.toList ns)
  have hT:TS.TI h' a (kH H (.ref a)):=⟨o,its.toArray,n,kp _ _ e1,e2,e3,by rw [agy e];simpa using hi⟩
  obtain ⟨f,hf,i,tk,ef⟩:∃ f,its.toArray[0]?=some f/\∃ i t,f=.int i t:=by
   cases hi with
   | nil=>exact absurd rfl hne
   | cons i tk _=>exact ⟨_,by simp,i,tk,rfl⟩
  refine ⟨⟨f :: fs,PySem.W.KatTups.cons (kp _ _ e1) e2 e3 hf k1,by simp [k2],fun g hg=>?_⟩,fun x hx=>?_⟩
  ·rcases List.mem_cons.mp hg with rfl | hg
   ·exact ⟨i,tk,ef⟩
   ·exact k3 g hg
  ·rcases List.mem_cons.mp hx with rfl | hx
   ·exact ⟨a,rfl,hT⟩
   ·exact k4 x hx
theorem ak1 {α:Type} {R : α->α->Prop}:∀ {l:List α},l.length < 2->l.Pairwise R
 | [],_=>List.Pairwise.nil
 | [_],_=>List.pairwise_singleton _ _
 | _ :: _ :: _,h=>absurd h (by simp)
theorem ag0:aa9 X (.builtin "sorted") (agz X.K):=by
 intro pins s σ H xs us Q I r h
 obtain ⟨a,vs,rfl,ha,hT,h64,q⟩:=h
 obtain ⟨u,rfl,ru⟩:=acn r
 cases ru
 obtain ⟨its,r1,p1,hz⟩:=I.list ha
 obtain ⟨b1,b2⟩:=aiq r1 hT
 have hlen:its.length<=sizeLine:=by rw [← r1.length];exact hz
 have hfree:H (s.heap.objs.size+1)=none:=I.hok.fresh (Nat.le_succ _)
 have fin:∀ out:List Value,out.Perm its->(out.map ab9).Pairwise (fun x y=>HT.lexLt (kH H y) (kH H x)=false)->EP X pins σ Q (.ref (s.heap.objs.size+1)) { s with heap:=sortedAll s.heap its out.toArray }:=by
  intro out hp hs
  obtain ⟨e,he⟩:=sortedAll_at s.heap its out.toArray
  have hv:Vals (out.map ab9) out:=aex fun u hu=>b1 u (hp.mem_iff.mp hu)
  refine ⟨.ref (s.heap.objs.size+1),_,I.laid (t':=s.toks) (o:=.lst (out.map ab9)) (fun b ob q=>sortedAll_old q) (Nat.le_succ _) ?_,rfl,q _ _ ?_ hs hfree⟩
  ·refine ⟨by rw [List.length_map,hp.length_eq];exact hlen,out,e,hv,by rw [he]⟩
  ·rw [← b2];exact hp.map ab9
 refine TS.sorted_small p1.isList hlen (by rw [← r1.length];exact h64) (fun hge h' kp=>?_) fun hlt=>?_
 ·obtain ⟨⟨fs,k1,k2,k3⟩,k4⟩:=af4 I kp r1 hT
  have hne:(Value.type "int" != Value.type "tuple")=true:=by rfl
  refine ⟨tuples' true,TS.tS h' (fun a=>kH H (.ref a)),TS.tR (fun a=>kH H (.ref a)),fun Q' hq=>?_,TS.cmp_tups (s:={ s with heap:=h' }) (fun a=>kH H (.ref a)),fun v hv=>?_,fun out hp hs=>fin out hp ?_⟩
  ·refine PySem.W.kat_kind (T:=.type "int") (s:={ s with heap:=h' }) k1 (by row_cond lo) (fun v hv=>?_) (by rfl) ?_
   ·obtain ⟨i,t,rfl⟩:=k3 v hv
    exact .now
   ·rw [hne];exact hq
  ·obtain ⟨a,e,ht⟩:=k4 v hv
   exact ⟨rfl,a,e,ht⟩
  ·rw [List.pairwise_map]
   refine List.Pairwise.imp_of_mem ?_ hs
   intro x y hx hy hr
   obtain ⟨ax,rfl⟩:=b1 x (hp.mem_iff.mp hx)
   obtain ⟨ay,rfl⟩:=b1 y (hp.mem_iff.mp hy)
   exact hr
 ·refine fin its (List.Perm.refl _) ?_
  exact ak1 (by rw [List.length_map];exact hlt)
end
end L2
namespace HT
open PySem PySem.Spec PyProof.Rows L2
section
variable {prog:Program} {w:World} {A:Around} {kw:List (Str × Value)} {R:Result->Shared->Prop} {I S:Addr} {fp wr:List Addr} {n:Nat} {P:Nat->Value->Prop} {St:Nat->Heap->Prop} {Hd:Heap->Prop}
theorem apz (W:Walks prog w A.in1 I fp wr n P St) (bt:Nat->Nat->Bool)
  (hcmp:∀ i j vi vj (s:Shared) (Q:Value->Shared->Prop) (E:Value->Shared->Prop),Hd s.heap->P i vi->P j vj->Q (.bool (bt i j)) s->wpAny (model prog w) A.in1 (richCompare .Lt vi vj) Q E s)
  (hd:∀ h h':Heap,Hd h->(∀ b o,b ∉ wr->b ≠ S->h.get? b=some o->h'.get? b=some o)->Hd h') (hSf:S ∉ fp) :
  ∀ (k j:Nat) (s:Shared) (vb:Value) (c:Nat),n - (j+1)=k->j+1<=n->St (j+1) s.heap->Hd s.heap->P (argBest bt j) vb ->
  s.heap.get? S=some { cls:=.type "list",dict:=none,data:=.seq #[vb,vb] c,slots:=#[] } ->
  (∀ v h' tk,P (argBest bt (n - 1)) v->(∀ b o,b ∉ wr->b ≠ S->s.heap.get? b=some o->h'.get? b=some o)->R (.ok (.ret v)) { s with heap:=h',toks:=tk }) ->
  codeAny (model prog w) A (.builtin "min.loop" ⟨[.ref I,.none,.ref S],kw⟩) R s:=by
 have hSw:S ∉ wr:=fun h=>hSf (W.sub _ h)
 have hname:(toString "min" ++ toString ".loop" : String) = "min.loop":=by decide
 intro k
 induction k with
 | zero =>
  intro j s vb c hk hj hst hh hPb hS hR
  have hin:j+1=n:=by row_cond lo
  apply codeAny_builtin F.entry_min_loop
  rw [Around.under_plainId F.plain_min_loop (⟨[.ref I,.none,.ref S],kw⟩:Args)]
  show wpAny (model prog w) A.in1 (seqItems? (.ref S) >>= _) _ _ s
  apply wpAny_bind;apply wpAny_seqItems hS rfl
  show wpAny (model prog w) A.in1 (tryCatch (pyNext (.ref I)) _ >>= _) _ _ s
  apply wpAny_bind;apply wpAny_tryCatch
  refine W.done s _ _ (hin ▸ hst) (fun h' tk hk'=>?_)
  have hS':=hk' S _ hSw hS
  show wpAny (model prog w) A.in1 (updateSeq S (fun _ => #[]) >>= _) _ _ _
  apply wpAny_bind
  refine (wpAny_updateSeq hS' rfl (wpAny_bind (wpAny_letGo (wpAny_pure ?_))))
  exact hR vb _ tk (by rw [← hin];exact hPb) (fun b o hbw hbS e=>(Heap.get?_update_other _ _ (Ne.symm hbS)).trans (hk' b o hbw e))
 | succ k ih =>
  intro j s vb c hk hj hst hh hPb hS hR
  have hlt:j+1 < n:=by row_cond lo
  apply codeAny_builtin F.entry_min_loop
  rw [Around.under_plainId F.plain_min_loop (⟨[.ref I,.none,.ref S],kw⟩:Args)]
  show wpAny (model prog w) A.in1 (seqItems? (.ref S) >>= _) _ _ s
  apply wpAny_bind;apply wpAny_seqItems hS rfl
  show wpAny (model prog w) A.in1 (tryCatch (pyNext (.ref I)) _ >>= _) _ _ s
  apply wpAny_bind;apply wpAny_tryCatch
  refine W.item (j+1) s _ _ hlt hst (fun v h' tk hP hst' hk'=>?_)
  have hS':=hk' S _ hSw hS
  have hh':Hd h':=hd _ _ hh fun b o hbw _ e=>hk' b o hbw e
  show wpAny (model prog w) A.in1 (tryCatch (holding [v,v] (richCompare .Lt v vb >>= _)) _ >>= _) _ _ _
  apply wpAny_bind;apply wpAny_tryCatch;apply wpAny_holding;apply wpAny_bind
  refine hcmp (j+1) (argBest bt j) v vb _ _ _ hh' hP hPb ?_
  apply wpAny_bind;apply wpAny_holding;apply wpAny_truthy_bool
  apply wpAny_bind;apply wpAny_letGo;apply wpAny_pure
  cases hb:bt (j+1) (argBest bt j) with
  | true =>
   simp only [if_true]
   apply wpAny_bind
   refine (wpAny_updateSeq hS' rfl (wpAny_bind (wpAny_letGo ?_)))
   rw [hname]
   refine wpAny_pure ⟨plainId_quiet F.plain_min_loop _,?_⟩
   refine ih (j+1) _ v _ (by row_cond lo) hlt (W.frame _ _ _ hst' fun b hbf o e=>?_) (hd _ _ hh' fun b o hbw hbS e=>(Heap.get?_update_other _ _ (Ne.symm hbS)).trans e) (by simp only [argBest,hb,if_true];exact hP) (Heap.get?_update_self _ hS' rfl) (fun v' h'' tk'' hP' hk''=>?_)
   ·exact (Heap.get?_update_other _ _ (fun h:S=b=>hSf (h ▸ hbf))).trans e
   ·exact (hR v' h'' tk'' hP' fun b o hbw hbS e=>hk'' b o hbw hbS ((Heap.get?_update_other _ _ (Ne.symm hbS)).trans (hk' b o hbw e)))
  | false =>
   simp only [Bool.false_eq_true,if_false]
   apply wpAny_bind;apply wpAny_letGo
   rw [hname]
   refine wpAny_pure ⟨plainId_quiet F.plain_min_loop _,?_⟩
   refine ih (j+1) _ vb c (by row_cond lo) hlt hst' hh' (by simp only [argBest,hb,Bool.false_eq_true,if_false];exact hPb) hS' (fun v' h'' tk'' hP' hk''=>?_)
   exact (hR v' h'' tk'' hP' fun b o hbw hbS e=>hk'' b o hbw hbS (hk' b o hbw e))
theorem aon (W:Walks prog w A.in1 I fp wr n P St) (bt:Nat->Nat->Bool)
  (hcmp:∀ i j vi vj (s:Shared) (Q:Value->Shared->Prop) (E:Value->Shared->Prop),Hd s.heap->P i vi->P j vj->Q (.bool (bt i j)) s->wpAny (model prog w) A.in1 (richCompare .Lt vi vj) Q E s)
  (hd:∀ h h':Heap,Hd h->(∀ b o,b ∉ wr->b ≠ S->h.get? b=some o->h'.get? b=some o)->Hd h') (hSf:S ∉ fp) {s:Shared} {c:Nat} (hst:St 0 s.heap) (hh:Hd s.heap)
  (hS:s.heap.get? S=some { cls:=.type "list",dict:=none,data:=.seq #[] c,slots:=#[] })
  (h0:n=0->kw=([("default",.none)]:List (Str × Value))/\∀ h' tk,(∀ b o,b ∉ wr->b ≠ S->s.heap.get? b=some o->h'.get? b=some o)->R (.ok (.ret .none)) { s with heap:=h',toks:=tk })
  (hR:0 < n->∀ v h' tk,P (argBest bt (n - 1)) v->(∀ b o,b ∉ wr->b ≠ S->s.heap.get? b=some o->h'.get? b=some o)->R (.ok (.ret v)) { s with heap:=h',toks:=tk }) :
  codeAny (model prog w) A (.builtin "min.loop" ⟨[.ref I,.none,.ref S],kw⟩) R s:=by
 have hSw:S ∉ wr:=fun h=>hSf (W.sub _ h)
 have hname:(toString "min" ++ toString ".loop" : String) = "min.loop":=by decide
 apply codeAny_builtin F.entry_min_loop
 rw [Around.under_plainId F.plain_min_loop (⟨[.ref I,.none,.ref S],kw⟩:Args)]
 show wpAny (model prog w) A.in1 (seqItems? (.ref S) >>= _) _ _ s
 apply wpAny_bind;apply wpAny_seqItems hS rfl
 show wpAny (model prog w) A.in1 (tryCatch (pyNext (.ref I)) _ >>= _) _ _ s
 apply wpAny_bind;apply wpAny_tryCatch
 by_cases hn:0 < n
 ·refine W.item 0 s _ _ hn hst (fun v h' tk hP hst' hk'=>?_)
  have hS':=hk' S _ hSw hS
  have hh':Hd h':=hd _ _ hh fun b o hbw _ e=>hk' b o hbw e
  show wpAny (model prog w) A.in1 (updateSeq S (fun _ => #[v,v]) >>= _) _ _ _
  apply wpAny_bind
  refine (wpAny_updateSeq hS' rfl ?_)
  rw [hname]
  refine wpAny_pure ⟨plainId_quiet F.plain_min_loop _,?_⟩
  refine apz (Hd:=Hd) W bt hcmp hd hSf _ 0 _ v _ rfl hn (W.frame _ _ _ hst' fun b hbf o e=>?_) (hd _ _ hh' fun b o hbw hbS e=>(Heap.get?_update_other _ _ (Ne.symm hbS)).trans e) hP (Heap.get?_update_self _ hS' rfl) (fun v' h'' tk'' hP' hk''=>?_)
  ·exact (Heap.get?_update_other _ _ (fun h:S=b=>hSf (h ▸ hbf))).trans e
  ·exact (hR hn v' h'' tk'' hP' fun b o hbw hbS e=>hk'' b o hbw hbS ((Heap.get?_update_other _ _ (Ne.symm hbS)).trans (hk' b o hbw e)))
 ·have e0:n=0:=by row_cond lo
  obtain ⟨rfl,h0'⟩:=h0 e0
  refine W.done s _ _ (by rw [e0];exact hst) (fun h' tk hk'=>?_)
  show wpAny (model prog w) A.in1 (rule _ >>= _) _ _ _
  refine wpAny_bind (wpAny_rule (wpAny_pure ?_))
  exact h0' h' tk fun b o hbw _ e=>hk' b o hbw e
end
section
variable {prog:Program} {w:World} {A:Around} {E:Value->Shared->Prop} {s:Shared}
theorem aun {id:String} {b:Builtin} {args:List Value} {kw:List (Str × Value)} {Q:Value->Shared->Prop} (hk:builtinKind id=none) (hp:plainId id=true) (hb:entryFor table id=some b) (ha:argsOk id ⟨args,kw⟩)
  (hc:wpAny (model prog w) A.in1 (b ⟨args,kw⟩) (fun fin s'=>match fin with
   | .done f=>(match (Except.ok f:Result) with | .ok (.ret v)=>Q v s' | .ok _=>False | .error e=>E e s') | .again c'=>c'.quiet=true/\codeAny (model prog w) A c' (fun r s'=>match r with | .ok (.ret v)=>Q v s' | .ok _=>False | .error e=>E e s') s') E s) :
  wpAny (model prog w) A (call (.builtin id) args kw) Q E s:=by
 apply wpAny_call;apply codeAny_call_builtin hp hb
 simp only [checkBuiltinCall,hk]
 cases hsig:Manifest.signature? id with
 | none=>exact wpAny_pure hc
 | some sig =>
  have h2:Bind.checkArgs id sig ⟨args,kw⟩=pure ():=by simp only [argsOk,hsig] at ha;exact ha
  simp only [h2]
  exact wpAny_pure hc
theorem ap0 (a:Value):argsOk "min" ⟨[a],[("default",.none)]⟩:=by unfold argsOk;kernel_rfl
theorem ap1 (a:Value):argsOk "min" ⟨[a],[]⟩:=by unfold argsOk;kernel_rfl
noncomputable def btD (ds:List PyData) (i j:Nat):Bool:=ltv (ds.getD i .none) (ds.getD j .none)
theorem min_dft {kw:List (Str × Value)} (hkw:kw=[]\/kw=([("default",.none)]:List (Str × Value))) {l:Addr} {us:List Value} {ds:List PyData} {Q:Value->Shared->Prop} (hh:A.handled=none) (hl:s.heap.IsList l us.toArray) (hr:∀ (i:Nat) v,us[i]?=some v->∃ d as,ds[i]?=some d/\Reads s.heap v d as)
  (hc:∀ d∈ds,∀ e∈ds,cmpD d e=true) (hp:∀ d∈ds,aaj d=true) (hu:∀ d∈ds,A.in1.units+d.depth < cLine)
  (h0:us=[]->kw=([("default",.none)]:List (Str × Value))/\∀ h' tk,(∀ b o,s.heap.get? b=some o->h'.get? b=some o)->Q .none { s with heap:=h',toks:=tk })
  (h1:∀ v h' tk,us[argBest (btD ds) (us.length - 1)]?=some v->(∀ b o,s.heap.get? b=some o->h'.get? b=some o)->Q v { s with heap:=h',toks:=tk }) :
  wpAny (model prog w) A (call (.builtin "min") [.ref l] kw) Q E s:=by
 have hlt:l < s.heap.objs.size:=by obtain ⟨_,e,_⟩:=hl;exact Heap.lt_size e
 have hname:(toString "min" ++ toString ".loop" : String) = "min.loop":=by decide
 refine aun F.kind_min F.plain_min F.entry_min (by rcases hkw with rfl | rfl;exact ap1 _;exact ap0 _) ?_
 have main:codeAny (model prog w) A (.builtin "min.loop" ⟨[.ref s.heap.objs.size,.none,.ref (s.heap.push { cls:=.type "list_iterator",data:=.fields #[.ref l,.int 0 0] }).objs.size],kw⟩) (fun r s'=>match r with | .ok (.ret v)=>Q v s' | .ok _=>False | .error e=>E e s') { s with heap:=(s.heap.push { cls:=.type "list_iterator",data:=.fields #[.ref l,.int 0 0] }).push { cls:=.type "list",dict:=none,data:=.seq #[] 0,slots:=#[] } }:=by
  have W:=Walks.list (prog:=prog) (w:=w) (A:=A.in1) hh s.heap.objs.size l (Nat.ne_of_lt hlt) us.toArray
  have lt1:s.heap.objs.size < (s.heap.push { cls:=.type "list_iterator",data:=.fields #[.ref l,.int 0 0] }).objs.size:=by rw [Heap.size_push];exact Nat.lt_succ_self _
  refine aon (Hd:=fun h=>∀ b o,s.heap.get? b=some o->h.get? b=some o) W (btD ds) (c:=0) ?_ ?_ ?_ ?_ ?_ ?_ ?_ ?_
  ·intro i j vi vj s' Q' E' hH hi hj hq
   obtain ⟨di,ai,ei,ri⟩:=hr i vi (by simpa using hi)
   obtain ⟨dj,aj,ej,rj⟩:=hr j vj (by simpa using hj)
   have mi:=List.mem_of_getElem? ei
   have mj:=List.mem_of_getElem? ej
   refine agx di dj A.in1 s' vi vj ai aj (PyProof.Rows.Reads.keeps hH ri) (PyProof.Rows.Reads.keeps hH rj) (hc _ mi _ mj) (hp _ mi) (hp _ mj) (hu _ mi) prog w E' Q' ?_
   have:btD ds i j=ltv di dj:=by simp [btD,List.getD,ei,ej]
   rw [← this];exact hq
  ·intro h h' hH hk b o e
   have hb:=Heap.lt_size e
   refine hk b o (fun hm=>?_) (fun hm=>?_) (hH b o e)
   ·have:b=s.heap.objs.size:=by simpa using hm
    rw [this] at hb;exact Nat.lt_irrefl _ hb
   ·rw [hm] at hb;exact Nat.lt_irrefl _ (Nat.lt_trans lt1 hb)
  ·intro hm
   rcases List.mem_cons.mp hm with e | hm
   ·exact Nat.lt_irrefl _ (e ▸ lt1)
   ·have e:=List.mem_singleton.mp hm
    exact Nat.lt_irrefl _ (Nat.lt_trans hlt (e ▸ lt1))
  ·exact ⟨⟨_,Heap.get?_push_of_some _ (Heap.get?_push_size _ rfl),rfl,rfl⟩,(hl.push _).push _⟩
  ·exact fun b o e=>Heap.get?_push_of_some _ (Heap.get?_push_of_some _ e)
  ·exact Heap.get?_push_size _ rfl
  ·intro hn
   have hu0:us=[]:=by
    have:us.length=0:=by simpa using hn
    exact List.length_eq_zero_iff.mp this
   refine ⟨(h0 hu0).1,fun h' tk hk=>(h0 hu0).2 h' tk fun b o e=>?_⟩
   have hb:=Heap.lt_size e
   refine hk b o (fun hm=>?_) (fun hm=>?_) (Heap.get?_push_of_some _ (Heap.get?_push_of_some _ e))
   ·have:b=s.heap.objs.size:=by simpa using hm
    rw [this] at hb;exact Nat.lt_irrefl _ hb
   ·rw [hm] at hb;exact Nat.lt_irrefl _ (Nat.lt_trans lt1 hb)
  ·intro hn v h' tk hv hk
   refine h1 v h' tk (by simpa using hv) fun b o e=>?_
   have hb:=Heap.lt_size e
   refine hk b o (fun hm=>?_) (fun hm=>?_) (Heap.get?_push_of_some _ (Heap.get?_push_of_some _ e))
   ·have:b=s.heap.objs.size:=by simpa using hm
    rw [this] at hb;exact Nat.lt_irrefl _ hb
   ·rw [hm] at hb;exact Nat.lt_irrefl _ (Nat.lt_trans lt1 hb)
 rcases hkw with rfl | rfl
 ·show wpAny _ A.in1 (Builtin.Builtins.bindParams "min" ["key","default"] 0 ⟨[],[]⟩ >>= _) _ _ s
  refine wpAny_bind (wpAny_of_eq (show Builtin.Builtins.bindParams "min" ["key","default"] 0 ⟨[],[]⟩=pure [none,none] from rfl) ?_)
  apply wpAny_bind;apply wpAny_pure
  apply wpAny_bind
  refine wpAny_pyIter_list hl ?_
  refine (wpAny_bind (wpAny_newObj_type ?_))
  rw [hname]
  exact wpAny_pure ⟨plainId_quiet F.plain_min_loop _,main⟩
 ·show wpAny _ A.in1 (Builtin.Builtins.bindParams "min" ["key","default"] 0 ⟨[],[("default",.none)]⟩ >>= _) _ _ s
  refine wpAny_bind (wpAny_of_eq (show Builtin.Builtins.bindParams "min" ["key","default"] 0 ⟨[],[("default",.none)]⟩=pure [none,some .none] from rfl) ?_)
  apply wpAny_bind;apply wpAny_pure
  apply wpAny_bind
  refine wpAny_pyIter_list hl ?_
  refine (wpAny_bind (wpAny_newObj_type ?_))
  rw [hname]
  exact wpAny_pure ⟨plainId_quiet F.plain_min_loop _,main⟩
end
end HT
namespace L2
open PySem PySem.Spec PyProof.Rows
def aoo (K:PySem.W.Frag):List V->Hp->VK->Prop:=fun xs H Q=>∃ (a:Addr) (vs:List V) (ds:List PyData),xs=[.ref a]/\SqL K H a vs/\vs.length=ds.length/\(∀ (i:Nat) v d,vs[i]?=some v->ds[i]?=some d->Rep H v d)/\(∀ d∈ds,∀ e∈ds,cmpD d e=true)/\(∀ d∈ds,aaj d=true/\d.depth<=60) /\
 (vs=[]->Q .non H)/\∀ v,vs[argBest (HT.btD ds) (vs.length - 1)]?=some v->Q v H
section
variable {X:Cx} {x:Str} {p pos kpos:Pos} {e en:Expr} {t:TA}
theorem auo (hu:X.A.units+64 < cLine) (hc:X.calm=true) (hg:Gl X "min") (hm:X.mg "min" = none) (ha:PA X [e] t) (hen:PE X en (tC .non))
  (hv:bootBuiltins "min" = some (.builtin "min"):=by decide +kernel)
  (he:backTo pos (starEach [e] X.env)=(false,eval e X.env) :: backTo pos (starEach [] X.env):=by rfl)
  (hpl:(backTo pos (starEach [e] X.env)).any (·.1)=false:=by rfl) :
  PE X (.Call (.Name "min" p) [e] [⟨some "default",en,kpos⟩] pos) (tCB (aoo X.K) t):=by
 intro pins s σ H Q I h
 refine wpAny_Call_Name_kw (acb I hg hm hv ?_ (by decide) (by decide))
 refine PyProof.Rows.callWith_kw (thn (ha pos pins s σ H _ I h) fun us s1 ⟨vs,H1,I1,r1,q1⟩=>?_) he hpl
 refine thn (aue (nm:=some "default") (kpos:=kpos) hen aw9 pos pins s1 σ H1 (fun zs H2=>zs=[.non]/\H2=H1) I1 ⟨rfl,rfl⟩) fun ws s2 ⟨zs,H2,I2,rz,ez,eH⟩=>?_
 subst ez eH
 obtain ⟨a,xs,ds,rfl,hS,hlen,hrep,hcmp,hpl2,hq0,hq1⟩:=q1
 obtain ⟨u,rfl,ru⟩:=acn r1
 cases ru
 obtain ⟨u2,rfl,ru2⟩:=acn rz
 cases ru2
 show wpAny _ X.A (call (.builtin "min") [.ref a] [("default",.none)]) _ _ s2
 obtain ⟨its,rr,p1,_⟩:=I2.list hS
 have hil:its.length=xs.length:=rr.length.symm
 refine HT.min_dft (.inr rfl) (us:=its) (ds:=ds) (I2.ok.hd hc) (by simpa using p1.isList) (fun i v hv=>?_) hcmp (fun d hd=>(hpl2 d hd).1) (fun d hd=>?_) (fun e0=>⟨rfl,fun h' tk kp=>?_⟩) fun v h' tk hv kp=>?_
 ·have hi:i < xs.length:=by rw [← hil];exact (List.getElem?_eq_some_iff.mp hv).1
  have ex:xs[i]?=some xs[i]:=List.getElem?_eq_getElem hi
  have ed:ds[i]?=some (ds[i]'(by row_cond lo)):=List.getElem?_eq_getElem (by row_cond lo)
  obtain ⟨u,eu,rel⟩:=rr.get ex
  rw [hv] at eu
  cases eu
  obtain ⟨as,ra⟩:=(hrep i _ _ ex ed).reads I2 rel
  exact ⟨_,as,ed,ra⟩
 ·have:=(hpl2 d hd).2
  show X.A.units+1+d.depth < cLine
  row_cond lo
 ·exact ⟨.non,H2,I2.kept kp,rfl,hq0 (by have:=congrArg List.length e0;exact List.length_eq_zero_iff.mp (by rw [← hil];simpa using this))⟩
 ·rw [hil] at hv
  have hi:argBest (HT.btD ds) (xs.length - 1) < xs.length:=by have:=(List.getElem?_eq_some_iff.mp hv).1;row_cond lo
  have ex:xs[argBest (HT.btD ds) (xs.length - 1)]?=some xs[argBest (HT.btD ds) (xs.length - 1)]:=List.getElem?_eq_getElem hi
  obtain ⟨u,eu,rel⟩:=rr.get ex
  rw [hv] at eu
  cases eu
  exact ⟨_,H2,I2.kept kp,rel,hq1 _ ex⟩
end
end L2
namespace HT
open PySem PySem.Spec PyProof.Rows
section
variable {prog:Program} {w:World} {A:Around} {E:Value->Shared->Prop} {s:Shared}
end
end HT
namespace L2
open PySem PySem.Spec PyProof.Rows
section
variable {X:Cx}
end
end L2
namespace VL
open PySem PySem.Spec L2
noncomputable def kD:Key->PyData
 | .inl i => .int i
 | .inr x => .str x
mutual
inductive Rp (G:Hp):V->PyData->Prop
 | non:Rp G .non .none
 | bl (b:Bool):Rp G (.bl b) (.bool b)
 | int (i:Int):Rp G (.int i) (.int i)
 | str (x:Str):Rp G (.str x) (.str x)
 | lst {a:Addr} {xs:List V} {ds:List PyData}:G a=some (.lst xs)->Rps G xs ds->Rp G (.ref a) (.list ds)
 | tup {a:Addr} {xs:List V} {ds:List PyData}:G a=some (.tup xs)->Rps G xs ds->Rp G (.ref a) (.tuple ds)
 | dk {a:Addr} {kvs:List (Key × V)} {es:List (Key × PyData)} {ds:List (PyData × PyData)}:G a=some (.dK kvs)->RpK G kvs es->ds=es.map (fun p=>(kD p.1,p.2))->Rp G (.ref a) (.dict ds)
 | dt {a:Addr} {kvs:List (List Key × V)} {es:List (List Key × PyData)} {ds:List (PyData × PyData)}:G a=some (.dT kvs)->RpT G kvs es->ds=es.map (fun p=>(.tuple (p.1.map kD),p.2))->Rp G (.ref a) (.dict ds)
inductive Rps (G:Hp):List V->List PyData->Prop
 | nil:Rps G [] []
 | cons {v:V} {vs:List V} {d:PyData} {ds:List PyData}:Rp G v d->Rps G vs ds->Rps G (v :: vs) (d :: ds)
inductive RpK (G:Hp):List (Key × V)->List (Key × PyData)->Prop
 | nil:RpK G [] []
 | cons {k:Key} {v:V} {d:PyData} {r:List (Key × V)} {s:List (Key × PyData)}:Rp G v d->RpK G r s->RpK G ((k,v) :: r) ((k,d) :: s)
inductive RpT (G:Hp):List (List Key × V)->List (List Key × PyData)->Prop
 | nil:RpT G [] []
 | cons {k:List Key} {v:V} {d:PyData} {r:List (List Key × V)} {s:List (List Key × PyData)}:Rp G v d->RpT G r s->RpT G ((k,v) :: r) ((k,d) :: s)
end
mutual
theorem Rp.same {G G':Hp} (s:Same G G'):∀ {v:V} {d:PyData},Rp G v d->Rp G' v d
 | _,_,.non => .non
 | _,_,.bl b => .bl b
 | _,_,.int i => .int i
 | _,_,.str x => .str x
 | _,_,.lst h r => .lst (s _ _ h) (Rps.same s r)
 | _,_,.tup h r => .tup (s _ _ h) (Rps.same s r)
 | _,_,.dk h r e => .dk (s _ _ h) (RpK.same s r) e
 | _,_,.dt h r e => .dt (s _ _ h) (RpT.same s r) e
theorem Rps.same {G G':Hp} (s:Same G G'):∀ {vs:List V} {ds:List PyData},Rps G vs ds->Rps G' vs ds
 | _,_,.nil => .nil
 | _,_,.cons r t => .cons (Rp.same s r) (Rps.same s t)
theorem RpK.same {G G':Hp} (s:Same G G'):∀ {vs:List (Key × V)} {ds:List (Key × PyData)},RpK G vs ds->RpK G' vs ds
 | _,_,.nil => .nil
 | _,_,.cons r t => .cons (Rp.same s r) (RpK.same s t)
theorem RpT.same {G G':Hp} (s:Same G G'):∀ {vs:List (List Key × V)} {ds:List (List Key × PyData)},RpT G vs ds->RpT G' vs ds
 | _,_,.nil => .nil
 | _,_,.cons r t => .cons (Rp.same s r) (RpT.same s t)
end
theorem Rps.length {G:Hp}:∀ {vs:List V} {ds:List PyData},Rps G vs ds->vs.length=ds.length
 | _,_,.nil=>rfl
 | _,_,.cons _ t=>by simp [Rps.length t]
theorem Rps.get {G:Hp}:∀ {vs:List V} {ds:List PyData} {i:Nat} {d:PyData},Rps G vs ds->ds[i]?=some d->∃ v,vs[i]?=some v/\Rp G v d
 | _,_,_,_,.nil,e=>by simp at e
 | _,_,0,_,.cons r _,e=>by simp at e;subst e;exact ⟨_,rfl,r⟩
 | _,_,i+1,d,.cons _ t,e=>by
  obtain ⟨u,h1,h2⟩:=Rps.get (i:=i) (d:=d) t (by simpa using e)
  exact ⟨u,by simpa using h1,h2⟩
theorem Rps.append {G:Hp}:∀ {vs ws:List V} {ds es:List PyData},Rps G vs ds->Rps G ws es->Rps G (vs ++ ws) (ds ++ es)
 | _,_,_,_,.nil,s=>s
 | _,_,_,_,.cons r t,s => .cons r (Rps.append t s)
theorem Rps.set {G:Hp} {v:V} {d:PyData} (h:Rp G v d):∀ {vs:List V} {ds:List PyData} (i:Nat),Rps G vs ds->Rps G (vs.set i v) (ds.set i d)
 | _,_,_,.nil => .nil
 | _,_,0,.cons _ t => .cons h t
 | _,_,i+1,.cons r t => .cons r (Rps.set h i t)
theorem Rps.erase {G:Hp}:∀ {vs:List V} {ds:List PyData} (i:Nat),Rps G vs ds->Rps G (vs.eraseIdx i) (ds.eraseIdx i)
 | _,_,_,.nil => .nil
 | _,_,0,.cons _ t=>t
 | _,_,i+1,.cons r t => .cons r (Rps.erase i t)
theorem Rps.take {G:Hp}:∀ {vs:List V} {ds:List PyData} (i:Nat),Rps G vs ds->Rps G (vs.take i) (ds.take i)
 | _,_,0,_ => .nil
 | _,_,_+1,.nil => .nil
 | _,_,i+1,.cons r t => .cons r (Rps.take i t)
theorem Rps.drop {G:Hp}:∀ {vs:List V} {ds:List PyData} (i:Nat),Rps G vs ds->Rps G (vs.drop i) (ds.drop i)
 | _,_,0,r=>r
 | _,_,_+1,.nil => .nil
 | _,_,i+1,.cons _ t=>Rps.drop i t
theorem Rps.rep {G:Hp} {vs:List V} {ds:List PyData} (h:Rps G vs ds):∀ (k:Nat),Rps G (List.replicate k vs).flatten (List.replicate k ds).flatten
 | 0 => .nil
 | k+1=>by
  rw [List.replicate_succ,List.replicate_succ,List.flatten_cons,List.flatten_cons]
  exact h.append (Rps.rep h k)
theorem Rps.ints {G:Hp}:∀ (ns:List Int),Rps G (ns.map V.int) (ns.map PyData.int)
 | [] => .nil
 | n :: ns => .cons (.int n) (Rps.ints ns)
theorem Rps.ints_inv {G:Hp}:∀ {ns:List Int} {vs:List V},Rps G vs (ns.map PyData.int)->vs=ns.map V.int
 | [],_,.nil=>rfl
 | n :: ns,_,.cons r t=>by
  cases r
  rw [Rps.ints_inv t];rfl
mutual
theorem Rp.rep {G:Hp}:∀ {v:V} {d:PyData},Rp G v d->aaj d=true->Rep G v d
 | _,_,.non,_ => .non
 | _,_,.bl b,_ => .bl b
 | _,_,.int i,_ => .int i
 | _,_,.str x,_ => .str x
 | _,_,.lst h r,p => .lst h (Rps.reps r (by simpa [aaj] using p))
 | _,_,.tup h r,p => .tup h (Rps.reps r (by simpa [aaj] using p))
 | _,_,.dk h r e,p=>by simp [aaj] at p
 | _,_,.dt h r e,p=>by simp [aaj] at p
theorem Rps.reps {G:Hp}:∀ {vs:List V} {ds:List PyData},Rps G vs ds->plainDs ds=true->Reps G vs ds
 | _,_,.nil,_ => .nil
 | _,_,.cons r t,p=>by
  simp only [plainDs,Bool.and_eq_true] at p
  exact .cons (Rp.rep r p.1) (Rps.reps t p.2)
end
structure Own where
 P:Hp->Hp->V->(Addr->Prop)->Prop
 mono:∀ {G H G' H':Hp} {v:V} {F:Addr->Prop},P G H v F->Same G G'->(∀ a o,F a->H a=some o->H' a=some o)->P G' H' v F
 dom:∀ {G H:Hp} {v:V} {F:Addr->Prop},P G H v F->∀ a,F a->∃ o,H a=some o
inductive Sl where
 | st (d:PyData) | own (A:Own) | io (A:Own) | scr (ns:List Int)
noncomputable abbrev En:=List (Option Sl)
structure Bs where
 K:PySem.W.Frag
 G:Hp
 H:Hp
 R:Hp
 S:St
 F:Nat->Addr->Prop
noncomputable def SlOk (B:Bs) (G H:Hp) (i:Nat) (v:V) (F:Addr->Prop):Sl->Prop
 | .st d=>Rp G v d/\∀ a,¬ F a
 | .own A=>A.P G H v F/\∀ a,F a->B.H a=none
 | .io A=>A.P G H v F/\(∀ a,F a->B.F i a\/B.H a=none)/\B.S[i]?=some (some v)
 | .scr ns=>(∃ a,v=.ref a/\SqL B.K G a (ns.map V.int))/\∀ a,¬ F a
def FT (G H:Hp):Prop:=∀ (a:Addr) (ks:List Key),H a=some (.tup (ks.map kV))->G a=some (.tup (ks.map kV))
structure VI (B:Bs) (G H:Hp) (σ:St) (env:En) (F:Nat->Addr->Prop):Prop where
 gh:Same G H
 g0:Same B.G G
 gn:∀ a o,G a=some o->B.G a=some o\/B.H a=none
 rs:Same B.R H
 rb:Same B.R B.H
 bh:∀ a o,B.H a=some o->∃ o',H a=some o'
 fg:∀ i a,F i a->G a=none
 fr:∀ i a,F i a->B.R a=none
 fd:∀ i j a,F i a->F j a->i=j
 fo:∀ i a,F i a->∃ o,H a=some o
 sl:∀ i s,env[i]?=some (some s)->∃ v,σ[i]?=some (some v)/\SlOk B G H i v (F i) s
 ln : σ.length=env.length
 ft:FT G H
noncomputable def RsOk (G H:Hp) (v:V) (F:Addr->Prop):Sl->Prop
 | .st d=>Rp G v d/\∀ a,¬ F a
 | .own A=>A.P G H v F
 | _=>False
structure RsX (B:Bs) (G H:Hp) (v:V) (Fv:Addr->Prop) (s:Sl) (F:Nat->Addr->Prop):Prop where
 ok:RsOk G H v Fv s
 fb:∀ a,Fv a->B.H a=none
 fg:∀ a,Fv a->G a=none
 fo:∀ a,Fv a->∃ o,H a=some o
 fd:∀ j a,Fv a->¬ F j a
structure Out (G H:Hp) (v:V) (G' H':Hp) (s:Sl) (Fv:Addr->Prop):Prop where
 gg:Same G G'
 gh:Same G' H'
 hh:Same H H'
 gn:∀ a o,G' a=some o->G a=some o\/H a=none
 fn:∀ a,Fv a->H a=none
 fg:∀ a,Fv a->G' a=none
 fo:∀ a,Fv a->∃ o,H' a=some o
 ok:RsOk G' H' v Fv s
 ft:FT G H->FT G' H'
theorem aop {α:Type} {o:Option α} (h:o ≠ none):∃ x,o=some x:=by
 cases o with
 | none=>exact absurd rfl h
 | some x=>exact ⟨x,rfl⟩
theorem SlOk.mono {B:Bs} {G H G' H':Hp} {i:Nat} {v:V} {F:Addr->Prop} {s:Sl} (h:SlOk B G H i v F s) (g:Same G G') (hh:∀ a o,F a->H a=some o->H' a=some o):SlOk B G' H' i v F s:=by
 cases s with
 | st d=>exact ⟨h.1.same g,h.2⟩
 | own A=>exact ⟨A.mono h.1 g hh,h.2⟩
 | io A=>exact ⟨A.mono h.1 g hh,h.2⟩
 | scr ns =>
  obtain ⟨⟨a,e,q⟩,n⟩:=h
  exact ⟨⟨a,e,g.seq q⟩,n⟩
section
variable {B:Bs} {G H G' H':Hp} {σ:St} {env:En} {F:Nat->Addr->Prop} {v:V} {s:Sl} {Fv:Addr->Prop}
theorem VI.no_r (I:VI B G H σ env F) {a:Addr} (h:H a=none):B.R a=none:=by
 cases e:B.R a with
 | none=>rfl
 | some o=>rw [I.rs a o e] at h;cases h
theorem VI.no_b (I:VI B G H σ env F) {a:Addr} (h:H a=none):B.H a=none:=by
 cases e:B.H a with
 | none=>rfl
 | some o=>obtain ⟨o',e'⟩:=I.bh a o e;rw [e'] at h;cases h
theorem VI.no_g (I:VI B G H σ env F) {a:Addr} (h:H a=none):G a=none:=by
 cases e:G a with
 | none=>rfl
 | some o=>rw [I.gh a o e] at h;cases h
theorem VI.no_f (I:VI B G H σ env F) {a:Addr} (h:H a=none) (i:Nat):¬ F i a:=fun z=>by
 obtain ⟨o,e⟩:=I.fo i a z;rw [e] at h;cases h
theorem VI.grow (I:VI B G H σ env F) (gg:Same G G') (gh:Same G' H') (hh:Same H H') (gn:∀ a o,G' a=some o->G a=some o\/H a=none) (ft:FT G' H'):VI B G' H' σ env F where
 gh:=gh
 g0:=I.g0.trans gg
 gn:=fun a o e=>by
  rcases gn a o e with e | e
  ·exact I.gn a o e
  ·exact .inr (I.no_b e)
 rs:=I.rs.trans hh
 rb:=I.rb
 bh:=fun a o e=>by obtain ⟨o',e'⟩:=I.bh a o e;exact ⟨o',hh _ _ e'⟩
 fg:=fun i a z=>by
  cases e:G' a with
  | none=>rfl
  | some o =>
   rcases gn a o e with e | e
   ·rw [I.fg i a z] at e;cases e
   ·exact absurd z (I.no_f e i)
 fr:=I.fr
 fd:=I.fd
 fo:=fun i a z=>by obtain ⟨o,e⟩:=I.fo i a z;exact ⟨o,hh _ _ e⟩
 sl:=fun i s e=>by
  obtain ⟨v,e1,e2⟩:=I.sl i s e
  exact ⟨v,e1,e2.mono gg fun a o _ q=>hh _ _ q⟩
 ln:=I.ln
 ft:=ft
theorem VI.out (I:VI B G H σ env F) (o:Out G H v G' H' s Fv):VI B G' H' σ env F/\RsX B G' H' v Fv s F :=
 ⟨I.grow o.gg o.gh o.hh o.gn (o.ft I.ft),o.ok,fun a z=>I.no_b (o.fn a z),o.fg,o.fo,fun j a z y=>I.no_f (o.fn a z) j y⟩
theorem VI.b_r (I:VI B G H σ env F) {a:Addr} (h:B.H a=none):B.R a=none:=by
 cases e:B.R a with
 | none=>rfl
 | some o=>rw [I.rb a o e] at h;cases h
def putF (F:Nat->Addr->Prop) (i:Nat) (Fv:Addr->Prop):Nat->Addr->Prop:=fun j a=>if j=i then Fv a else F j a
theorem putF_same {i:Nat} {a:Addr}:putF F i Fv i a ↔ Fv a:=by unfold putF;rw [if_pos rfl]
theorem ad6 {i:Nat}:putF F i Fv i=Fv:=by funext a;unfold putF;rw [if_pos rfl]
theorem aa6 {i j:Nat} (h:j ≠ i):putF F i Fv j=F j:=by funext a;unfold putF;rw [if_neg h]
theorem VI.slot (I:VI B G H σ env F) (i:Nat) (o:Option V) (os:Option Sl) (fg:∀ a,Fv a->G a=none) (fr:∀ a,Fv a->B.R a=none) (fo:∀ a,Fv a->∃ o,H a=some o) (fd:∀ j a,j ≠ i->Fv a->¬ F j a)
  (ok:∀ s,os=some s->∃ v,o=some v/\SlOk B G H i v Fv s):VI B G H (σ.set i o) (env.set i os) (putF F i Fv) where
 gh:=I.gh
 g0:=I.g0
 gn:=I.gn
 rs:=I.rs
 rb:=I.rb
 bh:=I.bh
 fg:=fun j a z=>by
  by_cases h:j=i
  ·subst h;exact fg a (putF_same.mp z)
  ·rw [aa6 h] at z;exact I.fg j a z
 fr:=fun j a z=>by
  by_cases h:j=i
  ·subst h;exact fr a (putF_same.mp z)
  ·rw [aa6 h] at z;exact I.fr j a z
 fd:=fun j k a y z=>by
  by_cases h:j=i
  ·by_cases g:k=i
   ·rw [h,g]
   ·subst h;rw [aa6 g] at z;exact absurd z (fd k a g (putF_same.mp y))
  ·by_cases g:k=i
   ·subst g;rw [aa6 h] at y;exact absurd y (fd j a h (putF_same.mp z))
   ·rw [aa6 h] at y;rw [aa6 g] at z;exact I.fd j k a y z
 fo:=fun j a z=>by
  by_cases h:j=i
  ·subst h;exact fo a (putF_same.mp z)
  ·rw [aa6 h] at z;exact I.fo j a z
 sl:=fun j t e=>by
  by_cases h:j=i
  ·subst h
   rw [List.getElem?_set,if_pos rfl] at e
   by_cases hl:j < env.length
   ·rw [if_pos hl] at e
    obtain ⟨v,hv,q⟩:=ok t (Option.some.inj e)
    refine ⟨v,by rw [List.getElem?_set,if_pos rfl,if_pos (by rw [I.ln];exact hl),hv],?_⟩
    rw [ad6];exact q
   ·rw [if_neg hl] at e;cases e
  ·rw [List.getElem?_set,if_neg (fun z=>h z.symm)] at e
   obtain ⟨v,hv,q⟩:=I.sl j t e
   refine ⟨v,by rw [List.getElem?_set,if_neg (fun z=>h z.symm)];exact hv,?_⟩
   rw [aa6 h];exact q
 ln:=by simp [I.ln]
 ft:=I.ft
theorem VI.store (I:VI B G H σ env F) (r:RsX B G H v Fv s F) (i:Nat):VI B G H (σ.set i (some v)) (env.set i (some s)) (putF F i Fv):=by
 refine I.slot i (some v) (some s) r.fg (fun a z=>I.b_r (r.fb a z)) r.fo (fun j a _ z=>r.fd j a z) fun t e=>?_
 cases e
 refine ⟨v,rfl,?_⟩
 have:=r.ok
 cases s with
 | st d=>exact this
 | own A=>exact ⟨this,r.fb⟩
 | io A=>exact this.elim
 | scr ns=>exact this.elim
theorem VI.drop (I:VI B G H σ env F) (i:Nat):VI B G H σ (env.set i none) (putF F i fun _=>False):=by
 have:=I.slot (Fv:=fun _=>False) i ((σ[i]?).getD none) none (fun a z=>z.elim) (fun a z=>z.elim) (fun a z=>z.elim) (fun j a _ z=>z.elim) (fun s e=>by cases e)
 rwa [show σ.set i ((σ[i]?).getD none) = σ from ?_] at this
 apply List.ext_getElem?
 intro j
 rw [List.getElem?_set]
 by_cases h:i=j
 ·subst h
  rw [if_pos rfl]
  by_cases hl:i < σ.length
  ·rw [if_pos hl,List.getElem?_eq_getElem hl];rfl
  ·rw [if_neg hl,List.getElem?_eq_none_iff.mpr (by row_cond lo)]
 ·rw [if_neg h]
theorem VI.change {A:Own} (I:VI B G H σ env F) (i:Nat) {H2:Hp} {F2:Addr->Prop} {os os':Sl} (e:env[i]?=some (some os)) (hv : σ[i]?=some (some v))
  (keep:∀ a o,¬ F i a->H a=some o->H2 a=some o) (dm:∀ a o,H a=some o->∃ o',H2 a=some o') (f2:∀ a,F2 a->(F i a\/H a=none)/\∃ o,H2 a=some o) (hp:A.P G H2 v F2) (ht:FT G H2)
  (hs:(os'=.own A/\∃ A0,os=.own A0)\/(os'=.io A/\∃ A0,os=.io A0)):VI B G H2 σ (env.set i (some os')) (putF F i F2):=by
 obtain ⟨v',hv',q⟩:=I.sl i os e
 rw [hv] at hv';cases hv'
 have nf:∀ j a,j ≠ i->F j a->¬ F i a:=fun j a hj y z=>hj (I.fd j i a y z)
 have g2:∀ a,F2 a->G a=none:=fun a z=>by
  rcases (f2 a z).1 with y | y
  ·exact I.fg i a y
  ·exact I.no_g y
 have J:VI B G H2 σ (env.set i none) (putF F i fun _=>False):=by
  have D:=I.drop i
  refine ⟨fun a o x=>keep a o (fun z=>by rw [I.fg i a z] at x;cases x) (I.gh a o x),D.g0,D.gn,fun a o x=>keep a o (fun z=>by rw [I.fr i a z] at x;cases x) (I.rs a o x),D.rb,fun a o x=>?_,D.fg,D.fr,D.fd,fun j a z=>?_,fun j s x=>?_,D.ln,ht⟩
  ·obtain ⟨o',x'⟩:=I.bh a o x
   exact dm a o' x'
  ·obtain ⟨o,x⟩:=D.fo j a z
   exact dm a o x
  ·obtain ⟨u,h1,h2⟩:=D.sl j s x
   refine ⟨u,h1,h2.mono (Same.refl G) fun a o z y=>?_⟩
   by_cases hj:j=i
   ·subst hj;exact (putF_same.mp z).elim
   ·rw [aa6 hj] at z
    exact keep a o (nf j a hj z) y
 have J2:=J.slot (Fv:=F2) i (some v) (some os') g2 (fun a z=>by
   rcases (f2 a z).1 with y | y
   ·exact I.fr i a y
   ·exact I.no_r y) (fun a z=>(f2 a z).2) (fun j a hj z y=>by
   rw [aa6 hj] at y
   rcases (f2 a z).1 with x | x
   ·exact nf j a hj y x
   ·exact I.no_f x j y) fun t et=>by
   cases et
   refine ⟨v,rfl,?_⟩
   rcases hs with ⟨rfl,A0,rfl⟩ | ⟨rfl,A0,rfl⟩
   ·refine ⟨hp,fun a z=>?_⟩
    rcases (f2 a z).1 with y | y
    ·exact q.2 a y
    ·exact I.no_b y
   ·refine ⟨hp,fun a z=>?_,q.2.2⟩
    rcases (f2 a z).1 with y | y
    ·exact q.2.1 a y
    ·exact .inr (I.no_b y)
 have e1 : σ.set i (some v) = σ:=by
  apply List.ext_getElem?
  intro j
  rw [List.getElem?_set]
  by_cases h:i=j
  ·subst h
   rw [if_pos rfl,hv,if_pos (List.getElem?_eq_some_iff.mp hv).1]
  ·rw [if_neg h]
 have e2:(env.set i none).set i (some os')=env.set i (some os'):=by simp
 have e3:putF (putF F i fun _=>False) i F2=putF F i F2:=by
  funext j a
  by_cases h:j=i
  ·subst h;rw [ad6,ad6]
  ·rw [aa6 h,aa6 h,aa6 h]
 rw [e1,e2,e3] at J2
 exact J2
end
end VL
namespace VL
open PySem PySem.Spec L2
open Classical in
noncomputable def jn (G H:Hp) (F:Addr->Prop):Hp:=fun a=>if F a then H a else G a
theorem ajw {G H:Hp} {F:Addr->Prop} {a:Addr} (h:F a):jn G H F a=H a:=if_pos h
theorem ajx {G H:Hp} {F:Addr->Prop} {a:Addr} (h:¬ F a):jn G H F a=G a:=if_neg h
theorem abx {G H:Hp} {F:Addr->Prop} (h:∀ a,F a->G a=none):Same G (jn G H F):=fun a o e=>by
 rw [ajx (fun z=>by rw [h a z] at e;cases e)];exact e
theorem atr {G H:Hp} {F:Addr->Prop} (h:Same G H):Same (jn G H F) H:=fun a o e=>by
 by_cases z:F a
 ·rw [ajw z] at e;exact e
 ·rw [ajx z] at e;exact h a o e
def Frz (A:Own) (d:PyData):Prop:=∀ (G H:Hp) (v:V) (F:Addr->Prop),A.P G H v F->(∀ a,F a->G a=none)->Same G H->Rp (jn G H F) v d
noncomputable def FQ:Sl->(PyData->Prop)->Prop
 | .st d,R=>R d
 | .own A,R=>∃ d,Frz A d/\R d
 | _,_=>False
noncomputable def OL (ds:List PyData):Own where
 P:=fun G H v F=>∃ a vs,v=.ref a/\H a=some (.lst vs)/\Rps G vs ds/\∀ b,F b ↔ b=a
 mono:=fun ⟨a,vs,e,h,r,f⟩ g hh=>⟨a,vs,e,hh a _ ((f a).mpr rfl) h,r.same g,f⟩
 dom:=fun ⟨a,vs,e,h,r,f⟩ b z=>by rw [(f b).mp z];exact ⟨_,h⟩
theorem abu {ds:List PyData}:Frz (OL ds) (.list ds):=fun G H v F ⟨a,vs,e,h,r,f⟩ n g=>by
 subst e
 exact .lst (by rw [ajw ((f a).mpr rfl)];exact h) (r.same (abx n))
theorem azj {d:PyData} {R:PyData->Prop} (h:R d):FQ (.st d) R:=h
theorem afd {ds:List PyData} {R:PyData->Prop} (h:R (.list ds)):FQ (.own (OL ds)) R:=⟨_,abu,h⟩
section
variable {B:Bs} {G H G' H':Hp} {σ:St} {env:En} {F:Nat->Addr->Prop} {v:V} {s:Sl} {Fv:Addr->Prop}
theorem VI.freeze (I:VI B G H σ env F) (fb:∀ a,Fv a->B.H a=none) (fd:∀ j a,Fv a->¬ F j a) (fg:∀ a,Fv a->G a=none):VI B (jn G H Fv) H σ env F where
 gh:=atr I.gh
 g0:=I.g0.trans (abx fg)
 gn:=fun a o e=>by
  by_cases z:Fv a
  ·exact .inr (fb a z)
  ·rw [ajx z] at e;exact I.gn a o e
 rs:=I.rs
 rb:=I.rb
 bh:=I.bh
 fg:=fun i a z=>by
  rw [ajx (fun y=>fd i a y z)];exact I.fg i a z
 fr:=I.fr
 fd:=I.fd
 fo:=I.fo
 sl:=fun i s e=>by
  obtain ⟨v,e1,e2⟩:=I.sl i s e
  exact ⟨v,e1,e2.mono (abx fg) fun a o _ q=>q⟩
 ln:=I.ln
 ft:=fun a ks e=>abx fg _ _ (I.ft a ks e)
theorem VI.frz {A:Own} {d:PyData} {i:Nat} (I:VI B G H σ env F) (e:env[i]?=some (some (.own A))) (f:Frz A d) :
  ∃ v,σ[i]?=some (some v)/\Rp (jn G H (F i)) v d/\Same G (jn G H (F i))/\VI B (jn G H (F i)) H σ (env.set i (some (.st d))) (putF F i fun _=>False):=by
 obtain ⟨v,hv,q⟩:=I.sl i _ e
 have hr:=f G H v (F i) q.1 (I.fg i) I.gh
 refine ⟨v,hv,hr,abx (I.fg i),?_⟩
 have D:=(I.drop i).freeze (Fv:=F i) q.2 (fun j a z y=>by
  by_cases h:j=i
  ·subst h;exact (putF_same.mp y).elim
  ·rw [aa6 h] at y;exact h (I.fd j i a y z)) (I.fg i)
 have J:=D.slot (Fv:=fun _=>False) i (some v) (some (.st d)) (fun a z=>z.elim) (fun a z=>z.elim) (fun a z=>z.elim) (fun j a _ z=>z.elim) (fun t et=>by cases et;exact ⟨v,rfl,hr,fun a z=>z⟩)
 have e1 : σ.set i (some v) = σ:=by
  apply List.ext_getElem?
  intro j
  rw [List.getElem?_set]
  by_cases h:i=j
  ·subst h
   rw [if_pos rfl,hv,if_pos (List.getElem?_eq_some_iff.mp hv).1]
  ·rw [if_neg h]
 have e3:putF (putF F i fun _=>False) i (fun _=>False)=putF F i fun _=>False:=by
  funext j a
  by_cases h:j=i
  ·subst h;rw [ad6,ad6]
  ·rw [aa6 h,aa6 h]
 rw [e1,e3,List.set_set] at J
 exact J
theorem Out.refl {d:PyData} (g:Same G H) (r:Rp G v d):Out G H v G H (.st d) (fun _=>False):=⟨Same.refl _,g,Same.refl _,fun a o e => .inl e,fun a z=>z.elim,fun a z=>z.elim,fun a z=>z.elim,⟨r,fun a z=>z⟩,fun t=>t⟩
theorem aup {p:Addr} {o:HO} (g:Same G H) (h:H p=none):Same (upd G p o) (upd H p o):=fun a u e=>by
 by_cases z:a=p
 ·subst z;rw [aai] at e ⊢;exact e
 ·rw [aaf z] at e ⊢;exact g a u e
theorem abr {p:Addr} (g:Same G H) (h:H p=none):G p=none:=by
 cases e:G p with
 | none=>rfl
 | some o=>rw [g p o e] at h;cases h
theorem Out.newT {p:Addr} {xs:List V} {ds:List PyData} (g:Same G H) (h:H p=none) (r:Rps G xs ds):Out G H (.ref p) (upd G p (.tup xs)) (upd H p (.tup xs)) (.st (.tuple ds)) (fun _=>False) where
 gg:=abf (abr g h)
 gh:=aup g h
 hh:=abf h
 gn:=fun a o e=>by
  by_cases z:a=p
  ·subst z;exact .inr h
  ·rw [aaf z] at e;exact .inl e
 fn:=fun a z=>z.elim
 fg:=fun a z=>z.elim
 fo:=fun a z=>z.elim
 ok:=⟨.tup aai (r.same (abf (abr g h))),fun a z=>z⟩
 ft:=fun t a ks e=>by
  by_cases z:a=p
  ·subst z;rw [aai] at e ⊢;exact e
  ·rw [aaf z] at e ⊢;exact t a ks e
theorem Out.newO {p:Addr} {o:HO} {A:Own} (g:Same G H) (h:H p=none) (nt:∀ xs,o ≠ .tup xs) (r:A.P G (upd H p o) (.ref p) (· = p)):Out G H (.ref p) G (upd H p o) (.own A) (· = p) where
 gg:=Same.refl _
 gh:=g.trans (abf h)
 hh:=abf h
 gn:=fun a o e => .inl e
 fn:=fun a z=>by rw [z];exact h
 fg:=fun a z=>by rw [z];exact abr g h
 fo:=fun a z=>by rw [z];exact ⟨_,aai⟩
 ok:=r
 ft:=fun t a ks e=>by
  by_cases z:a=p
  ·subst z;rw [aai] at e;exact absurd (Option.some.inj e) (nt _)
  ·rw [aaf z] at e;exact t a ks e
theorem Out.newL {p:Addr} {xs:List V} {ds:List PyData} (g:Same G H) (h:H p=none) (r:Rps G xs ds):Out G H (.ref p) G (upd H p (.lst xs)) (.own (OL ds)) (· = p) :=
 .newO g h (fun _ z=>nomatch z) ⟨p,xs,rfl,aai,r,fun b=>Iff.rfl⟩
end
def EvO (B:Bs) (te:TE) (env:En) (Q':Sl->En->Prop):Prop:=∀ (σ:St) (G H:Hp) (F:Nat->Addr->Prop) (Q:VK),VI B G H σ env F ->
 (∀ v G' H' F' Fv s env',VI B G' H' σ env' F'->Same G G'->RsX B G' H' v Fv s F'->Q' s env'->Q v H')->te σ H Q
def Ev (B:Bs) (te:TE) (env:En) (Q':PyData->En->Prop):Prop:=∀ (σ:St) (G H:Hp) (F:Nat->Addr->Prop) (Q:VK),VI B G H σ env F ->
 (∀ v G' H' F' d env',VI B G' H' σ env' F'->Same G G'->Rp G' v d->Q' d env'->Q v H')->te σ H Q
def EvT (B:Bs) (tt:TT) (env:En) (Q':Bool->En->Prop):Prop:=∀ (σ:St) (G H:Hp) (F:Nat->Addr->Prop) (Q:Bool->Hp->Prop),VI B G H σ env F ->
 (∀ b G' H' F' env',VI B G' H' σ env' F'->Same G G'->Q' b env'->Q b H')->tt σ H Q
def EvA (B:Bs) (ta:TA) (env:En) (Q':List PyData->En->Prop):Prop:=∀ (σ:St) (G H:Hp) (F:Nat->Addr->Prop) (Q:List V->Hp->Prop),VI B G H σ env F ->
 (∀ vs G' H' F' ds env',VI B G' H' σ env' F'->Same G G'->Rps G' vs ds->Q' ds env'->Q vs H')->ta σ H Q
structure ItOk (G:Hp) (J:It) (ds:List PyData):Prop where
 go:∀ i G' H',Same G G'->Same G' H'->i < ds.length->J.go i H'
 stop:∀ i G' H',Same G G'->Same G' H'->i=ds.length->J.stop i H'
 yld:∀ i G' H' x H'' d,Same G G'->Same G' H'->FT G' H'->ds[i]?=some d->J.yld i H' x H''->∃ G'',Out G' H' x G'' H'' (.st d) (fun _=>False)
def EvI (B:Bs) (ti:TI) (env:En) (Q':List PyData->En->Prop):Prop:=∀ (σ:St) (G H:Hp) (F:Nat->Addr->Prop) (R:It->Hp->Prop),VI B G H σ env F ->
 (∀ J G' H' F' ds env',VI B G' H' σ env' F'->Same G G'->ItOk G' J ds->Q' ds env'->R J H')->ti σ H R
def EvG (B:Bs) (g:TG) (s:Sl) (env:En) (Q':En->Prop):Prop:=∀ (σ:St) (G H:Hp) (F:Nat->Addr->Prop) (v:V) (Fv:Addr->Prop) (Q:St->Hp->Prop),VI B G H σ env F->RsX B G H v Fv s F ->
 (∀ σ' G' H' F' env',VI B G' H' σ' env' F'->Same G G'->Q' env'->Q σ' H')->g v σ H Q
def EvGs (B:Bs) (g:TGs) (ds:List PyData) (env:En) (Q':En->Prop):Prop:=∀ (σ:St) (G H:Hp) (F:Nat->Addr->Prop) (vs:List V) (Q:St->Hp->Prop),VI B G H σ env F->Rps G vs ds ->
 (∀ σ' G' H' F' env',VI B G' H' σ' env' F'->Same G G'->Q' env'->Q σ' H')->g vs σ H Q
structure VEnds where
 nx:En->Prop
 rt:Sl->En->Prop
 bk:En->Prop:=fun _=>False
 ct:En->Prop:=fun _=>False
structure RelE (B:Bs) (G:Hp) (D:Ends) (D':VEnds):Prop where
 nx:∀ σ G' H F env,VI B G' H σ env F->Same G G'->D'.nx env->D.nx σ H
 rt:∀ σ G' H F env v Fv s,VI B G' H σ env F->Same G G'->RsX B G' H v Fv s F->D'.rt s env->D.rt v H
 bk:∀ σ G' H F env,VI B G' H σ env F->Same G G'->D'.bk env->D.bk σ H
 ct:∀ σ G' H F env,VI B G' H σ env F->Same G G'->D'.ct env->D.ct σ H
def EvS (B:Bs) (ts:TS) (D':VEnds) (env:En):Prop:=∀ (σ:St) (G H:Hp) (F:Nat->Addr->Prop) (D:Ends),VI B G H σ env F->RelE B G D D'->ts D σ H
theorem RelE.later {B:Bs} {G G':Hp} {D:Ends} {D':VEnds} (r:RelE B G D D') (g:Same G G'):RelE B G' D D' :=
 ⟨fun σ G2 H F env I q=>r.nx σ G2 H F env I (g.trans q),fun σ G2 H F env v Fv s I q=>r.rt σ G2 H F env v Fv s I (g.trans q),fun σ G2 H F env I q=>r.bk σ G2 H F env I (g.trans q),fun σ G2 H F env I q=>r.ct σ G2 H F env I (g.trans q)⟩
section
variable {B:Bs} {env:En} {Q':PyData->En->Prop} {QO:Sl->En->Prop} {QT:Bool->En->Prop} {QA:List PyData->En->Prop} {te ta tb:TE}
theorem acf {G H:Hp} {v:V} {d:PyData} {F:Nat->Addr->Prop} (r:Rp G v d):RsX B G H v (fun _=>False) (.st d) F:=⟨⟨r,fun a z=>z⟩,fun a z=>z.elim,fun a z=>z.elim,fun a z=>z.elim,fun j a z=>z.elim⟩
theorem abj (h:Ev B te env fun d e=>QO (.st d) e):EvO B te env QO:=fun σ G H F Q I k =>
 h σ G H F Q I fun v G' H' F' d env' I' g r q=>k v G' H' F' _ (.st d) env' I' g (acf r) q
theorem abv (h:EvO B te env fun s e=>FQ s fun d=>Q' d e):Ev B te env Q':=fun σ G H F Q I k =>
 h σ G H F Q I fun v G' H' F' Fv s env' I' g r q=>by
  cases s with
  | st d=>exact k v G' H' F' d env' I' g r.ok.1 q
  | own A =>
   obtain ⟨d,f,q⟩:=q
   exact k v _ H' F' d env' (I'.freeze r.fb r.fd r.fg) (g.trans (abx r.fg)) (f G' H' v Fv r.ok r.fg I'.gh) q
  | io A=>exact q.elim
  | scr ns=>exact q.elim
theorem axo {i:Nat} {d:PyData} (e:env[i]?=some (some (.st d))) (q:Q' d env):Ev B (tVar i) env Q':=fun σ G H F Q I k=>by
 obtain ⟨v,hv,r⟩:=I.sl i _ e
 exact ⟨v,hv,k v G H F d env I (Same.refl _) r.1 q⟩
theorem auq {i:Nat} {A:Own} {d:PyData} (e:env[i]?=some (some (.own A))) (f:Frz A d) (q:Q' d (env.set i (some (.st d)))):Ev B (tVar i) env Q':=fun σ G H F Q I k=>by
 obtain ⟨v,hv,r,g,J⟩:=I.frz e f
 exact ⟨v,hv,k v _ H _ d _ J g r q⟩
theorem aee {i:Nat} {A:Own} (e:env[i]?=some (some (.own A))) (q:QO (.own A) (env.set i none)):EvO B (tVar i) env QO:=fun σ G H F Q I k=>by
 obtain ⟨v,hv,r⟩:=I.sl i _ e
 refine ⟨v,hv,k v G H _ (F i) (.own A) _ (I.drop i) (Same.refl _) ⟨r.1,r.2,I.fg i,I.fo i,fun j a z y=>?_⟩ q⟩
 by_cases h:j=i
 ·subst h;exact putF_same.mp y
 ·rw [aa6 h] at y;exact h (I.fd j i a y z)
theorem axp {i:Int} (q:Q' (.int i) env):Ev B (tC (.int i)) env Q':=fun σ G H F Q I k=>k _ G H F _ env I (Same.refl _) (.int i) q
theorem azk {b:Bool} (q:Q' (.bool b) env):Ev B (tC (.bl b)) env Q':=fun σ G H F Q I k=>k _ G H F _ env I (Same.refl _) (.bl b) q
theorem axq (q:Q' .none env):Ev B (tC .non) env Q':=fun σ G H F Q I k=>k _ G H F _ env I (Same.refl _) .non q
theorem axr {x:Str} (q:Q' (.str x) env):Ev B (tC (.str x)) env Q':=fun σ G H F Q I k=>k _ G H F _ env I (Same.refl _) (.str x) q
def Op2 (r:R2) (x y:PyData) (R:Sl->Prop):Prop:=∀ (G H:Hp) (vx vy:V) (Q:VK),Same G H->Rp G vx x->Rp G vy y->(∀ v G' H' s Fv,Out G H v G' H' s Fv->R s->Q v H')->r vx vy H Q
def Op1 (r:V->Hp->VK->Prop) (x:PyData) (R:Sl->Prop):Prop:=∀ (G H:Hp) (vx:V) (Q:VK),Same G H->Rp G vx x->(∀ v G' H' s Fv,Out G H v G' H' s Fv->R s->Q v H')->r vx H Q
def OpA (r:List V->Hp->VK->Prop) (ds:List PyData) (R:Sl->Prop):Prop:=∀ (G H:Hp) (vs:List V) (Q:VK),Same G H->Rps G vs ds->(∀ v G' H' s Fv,Out G H v G' H' s Fv->R s->Q v H')->r vs H Q
theorem ak2 {r:R2} (h:Ev B ta env fun x e1=>Ev B tb e1 fun y e2=>Op2 r x y fun s=>QO s e2):EvO B (tOp r ta tb) env QO:=fun σ G H F Q I k =>
 h σ G H F _ I fun v1 G1 H1 F1 x e1 I1 g1 r1 q1=>q1 σ G1 H1 F1 _ I1 fun v2 G2 H2 F2 y e2 I2 g2 r2 q2 =>
  q2 G2 H2 v1 v2 Q I2.gh (r1.same g2) r2 fun v G3 H3 s Fv o q3=>k v G3 H3 F2 Fv s e2 (I2.out o).1 (g1.trans (g2.trans o.gg)) (I2.out o).2 q3
theorem azl {r:R2} (h:Ev B ta env fun x e1=>Ev B tb e1 fun y e2=>Op2 r x y fun s=>FQ s fun d=>Q' d e2):Ev B (tOp r ta tb) env Q':=abv (ak2 h)
theorem axs {r:V->Hp->VK->Prop} (h:Ev B ta env fun x e1=>Op1 r x fun s=>QO s e1):EvO B (tUn r ta) env QO:=fun σ G H F Q I k =>
 h σ G H F _ I fun v1 G1 H1 F1 x e1 I1 g1 r1 q1=>q1 G1 H1 v1 Q I1.gh r1 fun v G3 H3 s Fv o q3=>k v G3 H3 F1 Fv s e1 (I1.out o).1 (g1.trans o.gg) (I1.out o).2 q3
theorem azm {r:V->Hp->VK->Prop} (h:Ev B ta env fun x e1=>Op1 r x fun s=>FQ s fun d=>Q' d e1):Ev B (tUn r ta) env Q':=abv (axs h)
theorem aur (q:QA [] env):EvA B tNil env QA:=fun σ G H F Q I k=>k [] G H F [] env I (Same.refl _) .nil q
theorem arm {tr:TA} (h:Ev B ta env fun x e1=>EvA B tr e1 fun xs e2=>QA (x :: xs) e2):EvA B (aa4 ta tr) env QA:=fun σ G H F Q I k =>
 h σ G H F _ I fun v1 G1 H1 F1 x e1 I1 g1 r1 q1=>q1 σ G1 H1 F1 _ I1 fun vs G2 H2 F2 ds e2 I2 g2 r2 q2=>k _ G2 H2 F2 _ e2 I2 (g1.trans g2) (.cons (r1.same g2) r2) q2
theorem ak3 {r:List V->Hp->VK->Prop} {t:TA} (h:EvA B t env fun ds e1=>OpA r ds fun s=>QO s e1):EvO B (tCB r t) env QO:=fun σ G H F Q I k =>
 h σ G H F _ I fun vs G1 H1 F1 ds e1 I1 g1 r1 q1=>q1 G1 H1 vs Q I1.gh r1 fun v G3 H3 s Fv o q3=>k v G3 H3 F1 Fv s e1 (I1.out o).1 (g1.trans o.gg) (I1.out o).2 q3
theorem azn {r:List V->Hp->VK->Prop} {t:TA} (h:EvA B t env fun ds e1=>OpA r ds fun s=>FQ s fun d=>Q' d e1):Ev B (tCB r t) env Q':=abv (ak3 h)
theorem am6 {t:TA} (h:EvA B t env fun ds e1=>ds.length<=1000/\QO (.st (.tuple ds)) e1):EvO B (tTup t) env QO:=fun σ G H F Q I k =>
 h σ G H F _ I fun vs G1 H1 F1 ds e1 I1 g1 r1 q1=>⟨by rw [r1.length];exact Nat.le_of_lt (adt q1.1),fun p hp=>by
  have o:=Out.newT I1.gh hp r1
  exact k _ _ _ F1 _ _ e1 (I1.out o).1 (g1.trans o.gg) (I1.out o).2 q1.2⟩
theorem axt {t:TA} (h:EvA B t env fun ds e1=>ds.length<=1000/\Q' (.tuple ds) e1):Ev B (tTup t) env Q':=abv (am6 h)
theorem am7 {t:TA} (h:EvA B t env fun ds e1=>ds.length<=1000/\QO (.own (OL ds)) e1):EvO B (tLst t) env QO:=fun σ G H F Q I k =>
 h σ G H F _ I fun vs G1 H1 F1 ds e1 I1 g1 r1 q1=>⟨by rw [r1.length];exact Nat.le_of_lt (adt q1.1),fun p hp=>by
  have o:=Out.newL I1.gh hp r1
  exact k _ _ _ F1 _ _ e1 (I1.out o).1 (g1.trans o.gg) (I1.out o).2 q1.2⟩
theorem axu {t:TA} (h:EvA B t env fun ds e1=>ds.length<=1000/\Q' (.list ds) e1):Ev B (tLst t) env Q':=abv (am7 fun σ G H F Q I k=>h σ G H F Q I fun vs G' H' F' ds e1 I' g r q=>k vs G' H' F' ds e1 I' g r ⟨q.1,afd q.2⟩)
theorem ak4 (h:Ev B te env fun x e1=>∃ b,x=.bool b/\QT b e1):EvT B (atm te) env QT:=fun σ G H F Q I k =>
 h σ G H F _ I fun v G1 H1 F1 x e1 I1 g1 r1 z_=>by
  obtain ⟨b,e,q⟩:=z_
  subst e
  cases r1
  exact ⟨b,rfl,k b G1 H1 F1 e1 I1 g1 q⟩
theorem azo (h:Ev B te env fun x e1=>∃ b,x=.bool b/\QT b e1):EvT B (tB te) env QT:=ak4 h
theorem x_bl {b:Bool} {R:Bool->Prop} (h:R b):∃ c,PyData.bool b=.bool c/\R c:=⟨b,rfl,h⟩
theorem aus {t u:TT} (h:EvT B t env fun c e1=>if c=true then EvT B u e1 QT else QT false e1):EvT B (tAnd t u) env QT:=fun σ G H F Q I k =>
 h σ G H F _ I fun b G1 H1 F1 e1 I1 g1 q=>by
  cases b with
  | true=>rw [if_pos rfl] at q ⊢;exact q σ G1 H1 F1 Q I1 fun c G2 H2 F2 e2 I2 g2 q2=>k c G2 H2 F2 e2 I2 (g1.trans g2) q2
  | false=>rw [if_neg Bool.false_ne_true] at q ⊢;exact k false G1 H1 F1 e1 I1 g1 q
theorem axv {t u:TT} (h:EvT B t env fun c e1=>if c=true then QT true e1 else EvT B u e1 QT):EvT B (tOr t u) env QT:=fun σ G H F Q I k =>
 h σ G H F _ I fun b G1 H1 F1 e1 I1 g1 q=>by
  cases b with
  | false=>rw [if_neg Bool.false_ne_true] at q ⊢;exact q σ G1 H1 F1 Q I1 fun c G2 H2 F2 e2 I2 g2 q2=>k c G2 H2 F2 e2 I2 (g1.trans g2) q2
  | true=>rw [if_pos rfl] at q ⊢;exact k true G1 H1 F1 e1 I1 g1 q
theorem aut {t:TT} (h:EvT B t env fun c e1=>QT (!c) e1):EvT B (tNot t) env QT:=fun σ G H F Q I k =>
 h σ G H F _ I fun b G1 H1 F1 e1 I1 g1 q=>k (!b) G1 H1 F1 e1 I1 g1 q
theorem afe (q:QT true env):EvT B tYes env QT:=fun σ G H F Q I k=>k true G H F env I (Same.refl _) q
noncomputable def TruD:PyData->Bool->Prop
 | .bool b,k=>k=b
 | .list ds,k=>k = !ds.isEmpty
 | _,_=>False
theorem auu {K:PySem.W.Frag} (h:Ev B te env fun x e1=>∃ b,TruD x b/\QT b e1):EvT B (tTru K te) env QT:=fun σ G H F Q I k =>
 h σ G H F _ I fun v G1 H1 F1 x e1 I1 g1 r1 z_=>by
  obtain ⟨b,e,q⟩:=z_
  cases r1 with
  | bl c=>cases e;exact ⟨_,rfl,k _ G1 H1 F1 e1 I1 g1 q⟩
  | lst ha rs =>
   refine ⟨b,.inl ⟨_,SqL.of (I1.gh _ _ ha),?_⟩,k _ G1 H1 F1 e1 I1 g1 q⟩
   have e':b = !_:=e
   rw [e']
   cases rs <;> rfl
  | _=>exact e.elim
theorem auv (h:Ev B ta env fun x e1=>∃ b,x=.bool b/\if b=true then Ev B tb e1 Q' else Q' (.bool false) e1):Ev B (anz ta tb) env Q':=fun σ G H F Q I k =>
 h σ G H F _ I fun v G1 H1 F1 x e1 I1 g1 r1 z_=>by
  obtain ⟨b,e,q⟩:=z_
  subst e
  cases r1
  refine ⟨b,rfl,?_⟩
  cases b with
  | true=>rw [if_pos rfl] at q ⊢;exact q σ G1 H1 F1 Q I1 fun v G2 H2 F2 d e2 I2 g2 r2 q2=>k v G2 H2 F2 d e2 I2 (g1.trans g2) r2 q2
  | false=>rw [if_neg Bool.false_ne_true] at q ⊢;exact k _ G1 H1 F1 _ e1 I1 g1 (.bl false) q
theorem auw (h:Ev B ta env fun x e1=>∃ b,x=.bool b/\Q' (.bool (!b)) e1):Ev B (aoa ta) env Q':=fun σ G H F Q I k =>
 h σ G H F _ I fun v G1 H1 F1 x e1 I1 g1 r1 z_=>by
  obtain ⟨b,e,q⟩:=z_
  subst e
  cases r1
  exact ⟨b,rfl,k _ G1 H1 F1 _ e1 I1 g1 (.bl _) q⟩
theorem arn {r r':R2} {tc:TE} (h:Ev B ta env fun x e1=>Ev B tb e1 fun y e2=>Op2 r x y fun s=>∃ b,s=.st (.bool b)/\if b=true then Ev B tc e2 fun z e3=>Op2 r' y z fun s'=>FQ s' fun d=>Q' d e3 else Q' (.bool false) e2):Ev B (aj7 r r' ta tb tc) env Q':=fun σ G H F Q I k =>
 h σ G H F _ I fun v1 G1 H1 F1 x e1 I1 g1 r1 q1=>q1 σ G1 H1 F1 _ I1 fun v2 G2 H2 F2 y e2 I2 g2 r2 q2 =>
  q2 G2 H2 v1 v2 _ I2.gh (r1.same g2) r2 fun v G3 H3 s Fv o z_=>by
   obtain ⟨b,es,q3⟩:=z_
   have I3:=(I2.out o).1
   have rv:=o.ok
   subst es
   obtain ⟨rv,_⟩:=rv
   cases rv
   refine ⟨b,rfl,?_⟩
   cases b with
   | false=>rw [if_neg Bool.false_ne_true] at q3 ⊢;exact k _ G3 H3 F2 _ e2 I3 (g1.trans (g2.trans o.gg)) (.bl _) q3
   | true =>
    rw [if_pos rfl] at q3 ⊢
    refine q3 σ G3 H3 F2 _ I3 fun v3 G4 H4 F4 z e4 I4 g4 r4 q4=>q4 G4 H4 v2 v3 Q I4.gh (r2.same (o.gg.trans g4)) r4 fun v5 G5 H5 s5 Fv5 o5 q5=>?_
    have J:=I4.out o5
    have gg:=g1.trans (g2.trans (o.gg.trans (g4.trans o5.gg)))
    cases s5 with
    | st d=>exact k v5 G5 H5 F4 d e4 J.1 gg o5.ok.1 q5
    | own A =>
     obtain ⟨d,f,q⟩:=q5
     exact k v5 _ H5 F4 d e4 (J.1.freeze J.2.fb J.2.fd J.2.fg) (gg.trans (abx J.2.fg)) (f G5 H5 v5 Fv5 J.2.ok J.2.fg J.1.gh) q
    | io A=>exact q5.elim
    | scr ns=>exact q5.elim
end
end VL
namespace VL
open PySem PySem.Spec L2
section
variable {B:Bs} {env:En} {D':VEnds} {t u tb:TS} {te:TE} {g:TG} {c:TT} {QE:En->Prop}
theorem aux (h:EvS B t { D' with nx:=fun e=>EvS B u D' e } env):EvS B (tSeq t u) D' env:=fun σ G H F D I r =>
 h σ G H F { D with nx:=u D } I ⟨fun σ G' H F env I' g q=>q σ G' H F D I' (r.later g),r.rt,r.bk,r.ct⟩
theorem af5 (h:D'.nx env):EvS B ate D' env:=fun σ G H F D I r=>r.nx σ G H F env I (Same.refl _) h
theorem aff (h:EvO B te env fun s e=>EvG B g s e D'.nx):EvS B (tAsg te g) D' env:=fun σ G H F D I r =>
 h σ G H F _ I fun v G1 H1 F1 Fv s e1 I1 g1 x1 q1=>q1 σ G1 H1 F1 v Fv D.nx I1 x1 fun σ2 G2 H2 F2 e2 I2 g2 q2=>r.nx σ2 G2 H2 F2 e2 I2 (g1.trans g2) q2
theorem aa1 {i:Nat} {s:Sl} (h:QE (env.set i (some s))):EvG B (aa2 i) s env QE:=fun σ G H F v Fv Q I x k=>k _ G H _ _ (I.store x i) (Same.refl _) h
theorem aef (h:QE env):EvGs B gNil [] env QE:=fun σ G H F vs Q I x k=>by cases x;exact ⟨rfl,k σ G H F env I (Same.refl _) h⟩
theorem ab3 {gs:TGs} {d:PyData} {ds:List PyData} (h:EvG B g (.st d) env fun e=>EvGs B gs ds e QE):EvGs B (aby g gs) (d :: ds) env QE:=fun σ G H F vs Q I x k=>by
 cases x with
 | cons r rs =>
  refine ⟨_,_,rfl,h σ G H F _ _ _ I (acf r) fun σ1 G1 H1 F1 e1 I1 g1 q1=>q1 σ1 G1 H1 F1 _ Q I1 (rs.same g1) fun σ2 G2 H2 F2 e2 I2 g2 q2=>k σ2 G2 H2 F2 e2 I2 (g1.trans g2) q2⟩
theorem afg {K:PySem.W.Frag} {n:Nat} {gs:TGs} {ds:List PyData} (hl:ds.length=n) (h:EvGs B gs ds env QE):EvG B (gTup K n gs) (.st (.tuple ds)) env QE:=fun σ G H F v Fv Q I x k=>by
 obtain ⟨r,_⟩:=x.ok
 cases r with
 | tup ha rs=>exact ⟨_,_,rfl,SqT.of (I.gh _ _ ha),by rw [rs.length,hl],h σ G H F _ Q I rs k⟩
theorem am8 (h:EvO B te env fun s e=>D'.rt s e):EvS B (tRet te) D' env:=fun σ G H F D I r =>
 h σ G H F _ I fun v G1 H1 F1 Fv s e1 I1 g1 x1 q1=>r.rt σ G1 H1 F1 e1 v Fv s I1 g1 x1 q1
theorem aro (h:EvO B te env fun _ e=>D'.nx e):EvS B (atf te) D' env:=fun σ G H F D I r =>
 h σ G H F _ I fun v G1 H1 F1 Fv s e1 I1 g1 x1 q1=>r.nx σ G1 H1 F1 e1 I1 g1 q1
theorem axw (h:EvT B c env fun b e=>if b=true then EvS B t D' e else EvS B u D' e):EvS B (tIfS c t u) D' env:=fun σ G H F D I r =>
 h σ G H F _ I fun b G1 H1 F1 e1 I1 g1 q=>by
  cases b with
  | true=>rw [if_pos rfl] at q ⊢;exact q σ G1 H1 F1 D I1 (r.later g1)
  | false=>rw [if_neg Bool.false_ne_true] at q ⊢;exact q σ G1 H1 F1 D I1 (r.later g1)
def ForV (B:Bs) (g:TG) (tb:TS) (D':VEnds) (ds:List PyData) (e1:En):Prop:=∃ J:Nat->En->Prop,J 0 e1/\(∀ i d e,ds[i]?=some d->J i e->EvG B g (.st d) e fun e2=>EvS B tb { D' with nx:=J (i+1),ct:=J (i+1),bk:=D'.nx } e2)/\∀ e,J ds.length e->D'.nx e
theorem auy {wi:TI} (h:EvI B wi env fun ds e1=>ForV B g tb D' ds e1):EvS B (tFor wi g tb) D' env:=fun σ G H F D I r =>
 h σ G H F _ I fun J G1 H1 F1 ds e1 I1 g1 it z_=>by
  obtain ⟨Jv,j0,js,jd⟩:=z_
  refine ⟨fun i m σ H=>m=ds.length - i/\i<=ds.length/\∃ G2 F2 e2,VI B G2 H σ e2 F2/\Same G1 G2/\Jv i e2,⟨ds.length,by simp,Nat.zero_le _,G1,F1,e1,I1,Same.refl _,j0⟩,?_⟩
  rintro i m σ H ⟨rfl,hi,G2,F2,e2,I2,g2,j2⟩
  by_cases hlt:i < ds.length
  ·refine .inr ⟨it.go i G2 H g2 I2.gh hlt,fun σ H=>∃ G3 F3 e3,VI B G3 H σ e3 F3/\Same G1 G3/\Jv (i+1) e3,fun σ' H' h'=>⟨ds.length - (i+1),by row_cond lo,rfl,hlt,h'⟩,fun x H' y=>?_⟩
   obtain ⟨G3,o⟩:=it.yld i G2 H x H' _ g2 I2.gh I2.ft (List.getElem?_eq_getElem hlt) y
   have I3:=I2.out o
   refine js i _ e2 (List.getElem?_eq_getElem hlt) j2 σ G3 H' F2 x _ _ I3.1 I3.2 fun σ4 G4 H4 F4 e4 I4 g4 q4=>?_
   have gg:=g2.trans (o.gg.trans g4)
   refine q4 σ4 G4 H4 F4 _ I4 ⟨fun σ5 G5 H5 F5 e5 I5 g5 q5=>⟨G5,F5,e5,I5,gg.trans g5,q5⟩,fun σ5 G5 H5 F5 e5 v5 Fv5 s5 I5 g5=>r.rt σ5 G5 H5 F5 e5 v5 Fv5 s5 I5 (g1.trans (gg.trans g5)),fun σ5 G5 H5 F5 e5 I5 g5=>r.nx σ5 G5 H5 F5 e5 I5 (g1.trans (gg.trans g5)),fun σ5 G5 H5 F5 e5 I5 g5 q5=>⟨G5,F5,e5,I5,gg.trans g5,q5⟩⟩
  ·have e:i=ds.length:=by row_cond lo
   subst e
   exact .inl ⟨it.stop _ G2 H g2 I2.gh rfl,r.nx σ G2 H F2 e2 I2 (g1.trans g2) (jd e2 j2)⟩
theorem air (J:Nat->En->Prop) (h0:∃ m,J m env) (h:∀ m e,J m e->EvT B c e fun b e1=>if b=true then EvS B tb { D' with nx:=fun e2=>∃ m',m' < m/\J m' e2,ct:=fun e2=>∃ m',m' < m/\J m' e2,bk:=D'.nx } e1 else D'.nx e1):EvS B (apb c tb) D' env:=fun σ G H F D I r=>by
 obtain ⟨m0,h0⟩:=h0
 refine ⟨fun m σ H=>∃ G2 F2 e2,VI B G2 H σ e2 F2/\Same G G2/\J m e2,⟨m0,G,F,env,I,Same.refl _,h0⟩,?_⟩
 rintro m σ H ⟨G2,F2,e2,I2,g2,j2⟩
 refine h m e2 j2 σ G2 H F2 _ I2 fun b G3 H3 F3 e3 I3 g3 q3=>?_
 have gg:=g2.trans g3
 cases b with
 | false=>rw [if_neg Bool.false_ne_true] at q3 ⊢;exact r.nx σ G3 H3 F3 e3 I3 gg q3
 | true =>
  rw [if_pos rfl] at q3 ⊢
  refine ⟨fun σ H=>∃ G4 F4 e4,VI B G4 H σ e4 F4/\Same G G4/\∃ m',m' < m/\J m' e4,fun σ' H' ⟨G4,F4,e4,I4,g4,m',hm,j4⟩=>⟨m',hm,G4,F4,e4,I4,g4,j4⟩,?_⟩
  exact q3 σ G3 H3 F3 _ I3 ⟨fun σ5 G5 H5 F5 e5 I5 g5 q5=>⟨G5,F5,e5,I5,gg.trans g5,q5⟩,fun σ5 G5 H5 F5 e5 v5 Fv5 s5 I5 g5=>r.rt σ5 G5 H5 F5 e5 v5 Fv5 s5 I5 (gg.trans g5),fun σ5 G5 H5 F5 e5 I5 g5=>r.nx σ5 G5 H5 F5 e5 I5 (gg.trans g5),fun σ5 G5 H5 F5 e5 I5 g5 q5=>⟨G5,F5,e5,I5,gg.trans g5,q5⟩⟩
variable {QI:List PyData->En->Prop}
theorem arp {K:PySem.W.Frag} (h:Ev B te env fun d e=>∃ ds,d=.list ds/\QI ds e):EvI B (ath K te) env QI:=fun σ G H F R I k =>
 h σ G H F _ I fun v G1 H1 F1 d e1 I1 g1 r1 z_=>by
  obtain ⟨ds,ed,q1⟩:=z_
  subst ed
  cases r1 with
  | @lst a vs ds ha rs =>
   refine ⟨a,rfl,⟨vs,SqL.of (I1.gh _ _ ha)⟩,k _ G1 H1 F1 ds e1 I1 g1 ⟨fun i G' H' g h hi=>?_,fun i G' H' g h hi=>?_,fun i G' H' x H'' d g h ft hd y=>?_⟩ q1⟩
   ·have:i < vs.length:=by rw [rs.length];exact hi
    exact ⟨vs,vs[i],SqL.of (h _ _ (g _ _ ha)),List.getElem?_eq_getElem this⟩
   ·exact ⟨vs,SqL.of (h _ _ (g _ _ ha)),by rw [rs.length];exact Nat.le_of_eq hi.symm⟩
   ·obtain ⟨e,y⟩:=y
    subst e
    obtain ⟨v,hv,rv⟩:=rs.get hd
    have:=y vs (SqL.of (h _ _ (g _ _ ha)))
    rw [hv] at this
    cases this
    exact ⟨G',Out.refl h (rv.same g)⟩
theorem axx {ds:List PyData} {R:List PyData->Prop} (h:R ds):∃ xs,PyData.list ds=.list xs/\R xs:=⟨ds,rfl,h⟩
noncomputable def rngD (lo:Int) (n:Nat):List PyData:=(List.range n).map fun (i:Nat) => .int (lo+(i:Int))
theorem acg {lo:Int} {n:Nat}:(rngD lo n).length=n:=by simp [rngD]
theorem af6 {lo:Int} {n i:Nat} {d:PyData} (h:(rngD lo n)[i]?=some d):i < n/\d=.int (lo+(i:Int)):=by
 unfold rngD at h
 rw [List.getElem?_map] at h
 have hi:i < n:=by
  have:=(List.getElem?_eq_some_iff (l:=(List.range n).map fun (i:Nat)=>PyData.int (lo+(i:Int)))).mp (by rw [List.getElem?_map];exact h)
  obtain ⟨q,_⟩:=this
  simpa using q
 rw [List.getElem?_eq_getElem (by simpa using hi)] at h
 simp at h
 exact ⟨hi,h.symm⟩
theorem ap2 {G:Hp} {lo:Int} {n:Nat}:ItOk G (Itr lo n) (rngD lo n):=by
 refine ⟨fun i G' H' g h hi=>?_,fun i G' H' g h hi=>?_,fun i G' H' x H'' d g h ft hd y=>?_⟩
 ·rw [acg] at hi;exact hi
 ·rw [acg] at hi;exact Nat.le_of_eq hi.symm
 ·obtain ⟨e,y⟩:=y
  subst e y
  rw [(af6 hd).2]
  exact ⟨G',Out.refl h (.int _)⟩
def ajy (ds:List PyData) (R:List PyData->Prop):Prop:=∃ j:Int,ds=[.int j]/\-(2 ^ 62)<=j/\j < 2 ^ 62/\R (rngD 0 j.toNat)
def ajz (ds:List PyData) (R:List PyData->Prop):Prop:=∃ i j:Int,ds=[.int i,.int j]/\(-(2 ^ 62)<=i/\i < 2 ^ 62/\-(2 ^ 62)<=j/\j < 2 ^ 62)/\R (rngD i (j - i).toNat)
theorem arq {ta:TA} (h:EvA B ta env fun ds e=>ajy ds fun xs=>QI xs e):EvI B (ati ta) env QI:=fun σ G H F R I k =>
 h σ G H F _ I fun vs G1 H1 F1 ds e1 I1 g1 r1 z_=>by
  obtain ⟨j,ed,b1,b2,q1⟩:=z_
  subst ed
  obtain rfl:vs=[V.int j]:=Rps.ints_inv (ns:=[j]) r1
  exact ⟨j,rfl,b1,b2,k _ G1 H1 F1 _ e1 I1 g1 ap2 q1⟩
theorem ars {ta:TA} (h:EvA B ta env fun ds e=>ajz ds fun xs=>QI xs e):EvI B (atj ta) env QI:=fun σ G H F R I k =>
 h σ G H F _ I fun vs G1 H1 F1 ds e1 I1 g1 r1 z_=>by
  obtain ⟨i,j,ed,b1,q1⟩:=z_
  subst ed
  obtain rfl:vs=[V.int i,V.int j]:=Rps.ints_inv (ns:=[i,j]) r1
  exact ⟨i,j,rfl,b1,k _ G1 H1 F1 _ e1 I1 g1 ap2 q1⟩
theorem axy {j:Int} {R:List PyData->Prop} (h1 : -4611686018427387904<=j) (h2:j < 4611686018427387904) (h:R (rngD 0 j.toNat)):ajy [.int j] R:=⟨j,rfl,by row_cond lo,by row_cond lo,h⟩
theorem axz {a b:Int} {R:List PyData->Prop} (h1 : -4611686018427387904<=a/\a < 4611686018427387904/\-4611686018427387904<=b/\b < 4611686018427387904) (h:R (rngD a (b - a).toNat)):ajz [.int a,.int b] R:=⟨a,b,rfl,by row_cond lo,h⟩
theorem aeg {lo:Int} {n:Nat} (J:Nat->En->Prop) (h0:J 0 env) (hs:∀ i e,i < n->J i e->EvG B g (.st (.int (lo+(i:Int)))) e fun e2=>EvS B tb { D' with nx:=J (i+1),ct:=J (i+1),bk:=D'.nx } e2) (hd:∀ e,J n e->D'.nx e):ForV B g tb D' (rngD lo n) env :=
 ⟨J,h0,fun i d e h j=>by obtain ⟨hi,rfl⟩:=af6 h;exact hs i e hi j,fun e j=>hd e (by rw [acg] at j;exact j)⟩
theorem aeh {α:Type} {f : α->PyData} {xs:List α} (J:Nat->En->Prop) (h0:J 0 env) (hs:∀ i x e,xs[i]?=some x->J i e->EvG B g (.st (f x)) e fun e2=>EvS B tb { D' with nx:=J (i+1),ct:=J (i+1),bk:=D'.nx } e2) (hd:∀ e,J xs.length e->D'.nx e):ForV B g tb D' (xs.map f) env :=
 ⟨J,h0,fun i d e h j=>by
  rw [List.getElem?_map] at h
  cases hx:xs[i]? with
  | none=>rw [hx] at h;cases h
  | some x=>rw [hx] at h;cases h;exact hs i x e hx j,fun e j=>hd e (by rw [List.length_map] at j;exact j)⟩
end
end VL
namespace VL
open PySem PySem.Spec L2
theorem art {B:Bs} {a b:TS} {D':VEnds} {env:En} (h:∀ c:TS,c=b->EvS B a { D' with nx:=fun e=>EvS B c D' e } env):EvS B (tSeq a b) D' env:=aux (h b rfl)
theorem auz {B:Bs} {c b:TS} {D':VEnds} {env:En} (e:c=b) (h:EvS B b D' env):EvS B c D' env:=by rw [e];exact h
@[elab_as_elim] theorem exS1 {α0:Type} {σ:Type} {f : α0->σ} {p : α0->Prop} {motive : σ->Prop} (s : σ) (h:∃ x0,s=f x0/\p x0) (k:∀ x0,p x0->motive (f x0)):motive s:=by
 obtain ⟨x0,e,h⟩:=h
 rw [e];exact k _ h
@[elab_as_elim] theorem exE1 {α0:Type} {σ:Type} {f : α0->σ} {motive : σ->Prop} (s : σ) (h:∃ x0,s=f x0) (k:∀ x0,motive (f x0)):motive s:=by
 obtain ⟨x0,e⟩:=h
 rw [e];exact k _
@[elab_as_elim] theorem exS2 {α0:Type} {α1:Type} {σ:Type} {f : α0->α1->σ} {p : α0->α1->Prop} {motive : σ->Prop} (s : σ) (h:∃ x0 x1,s=f x0 x1/\p x0 x1) (k:∀ x0 x1,p x0 x1->motive (f x0 x1)):motive s:=by
 obtain ⟨x0,x1,e,h⟩:=h
 rw [e];exact k _ _ h
@[elab_as_elim] theorem exE2 {α0:Type} {α1:Type} {σ:Type} {f : α0->α1->σ} {motive : σ->Prop} (s : σ) (h:∃ x0 x1,s=f x0 x1) (k:∀ x0 x1,motive (f x0 x1)):motive s:=by
 obtain ⟨x0,x1,e⟩:=h
 rw [e];exact k _ _
@[elab_as_elim] theorem exS3 {α0:Type} {α1:Type} {α2:Type} {σ:Type} {f : α0->α1->α2->σ} {p : α0->α1->α2->Prop} {motive : σ->Prop} (s : σ) (h:∃ x0 x1 x2,s=f x0 x1 x2/\p x0 x1 x2) (k:∀ x0 x1 x2,p x0 x1 x2->motive (f x0 x1 x2)):motive s:=by
 obtain ⟨x0,x1,x2,e,h⟩:=h
 rw [e];exact k _ _ _ h
@[elab_as_elim] theorem exS4 {α0:Type} {α1:Type} {α2:Type} {α3:Type} {σ:Type} {f : α0->α1->α2->α3->σ} {p : α0->α1->α2->α3->Prop} {motive : σ->Prop} (s : σ) (h:∃ x0 x1 x2 x3,s=f x0 x1 x2 x3/\p x0 x1 x2 x3) (k:∀ x0 x1 x2 x3,p x0 x1 x2 x3->motive (f x0 x1 x2 x3)):motive s:=by
 obtain ⟨x0,x1,x2,x3,e,h⟩:=h
 rw [e];exact k _ _ _ _ h
@[elab_as_elim] theorem exS5 {α0:Type} {α1:Type} {α2:Type} {α3:Type} {α4:Type} {σ:Type} {f : α0->α1->α2->α3->α4->σ} {p : α0->α1->α2->α3->α4->Prop} {motive : σ->Prop} (s : σ) (h:∃ x0 x1 x2 x3 x4,s=f x0 x1 x2 x3 x4/\p x0 x1 x2 x3 x4) (k:∀ x0 x1 x2 x3 x4,p x0 x1 x2 x3 x4->motive (f x0 x1 x2 x3 x4)):motive s:=by
 obtain ⟨x0,x1,x2,x3,x4,e,h⟩:=h
 rw [e];exact k _ _ _ _ _ h
@[elab_as_elim] theorem exS6 {α0:Type} {α1:Type} {α2:Type} {α3:Type} {α4:Type} {α5:Type} {σ:Type} {f : α0->α1->α2->α3->α4->α5->σ} {p : α0->α1->α2->α3->α4->α5->Prop} {motive : σ->Prop} (s : σ) (h:∃ x0 x1 x2 x3 x4 x5,s=f x0 x1 x2 x3 x4 x5/\p x0 x1 x2 x3 x4 x5) (k:∀ x0 x1 x2 x3 x4 x5,p x0 x1 x2 x3 x4 x5->motive (f x0 x1 x2 x3 x4 x5)):motive s:=by
 obtain ⟨x0,x1,x2,x3,x4,x5,e,h⟩:=h
 rw [e];exact k _ _ _ _ _ _ h
@[elab_as_elim] theorem exE6 {α0:Type} {α1:Type} {α2:Type} {α3:Type} {α4:Type} {α5:Type} {σ:Type} {f : α0->α1->α2->α3->α4->α5->σ} {motive : σ->Prop} (s : σ) (h:∃ x0 x1 x2 x3 x4 x5,s=f x0 x1 x2 x3 x4 x5) (k:∀ x0 x1 x2 x3 x4 x5,motive (f x0 x1 x2 x3 x4 x5)):motive s:=by
 obtain ⟨x0,x1,x2,x3,x4,x5,e⟩:=h
 rw [e];exact k _ _ _ _ _ _
end VL
namespace VL
open PySem PySem.Spec L2
theorem big {n:Nat} (h:n<=1000000):n < sizeLine:=Nat.lt_of_le_of_lt h (by decide)
section
variable {B B1:Bs} {G H G' H':Hp} {σ σI:St} {env envI:En} {F F':Nat->Addr->Prop} {v:V} {s:Sl} {Fv:Addr->Prop} {inv:Nat->Option Nat}
open Classical in
noncomputable def abz (H:Hp) (F:Nat->Addr->Prop) (inv:Nat->Option Nat):Hp:=fun a=>if ∃ i j,inv i=some j/\F i a then none else H a
theorem aei {i j:Nat} {a:Addr} (h:inv i=some j) (f:F i a):abz H F inv a=none:=if_pos ⟨i,j,h,f⟩
theorem af7 {a:Addr} (h:∀ i j,inv i=some j->¬ F i a):abz H F inv a=H a:=if_neg fun ⟨i,j,x,y⟩=>h i j x y
theorem acp:Same (abz H F inv) H:=fun a o e=>by
 unfold abz at e
 split at e
 ·cases e
 ·exact e
theorem VI.enter (I:VI B G H σ env F) (inj:∀ i i' j,inv i=some j->inv i'=some j->i=i') (ln : σI.length=envI.length)
  (sl:∀ j s,envI[j]?=some (some s)->∃ v,σI[j]?=some (some v)/\((∃ d,s=.st d/\Rp G v d/\∀ i,inv i ≠ some j)\/(∃ ns a,s=.scr ns/\v=.ref a/\SqL B.K G a (ns.map V.int)/\∀ i,inv i ≠ some j) ∨
   ∃ i A,inv i=some j/\s=.io A/\σ[i]?=some (some v)/\(env[i]?=some (some (.own A))\/env[i]?=some (some (.io A))))) :
  VI ⟨B.K,G,H,abz H F inv,σI,fun j a=>∃ i,inv i=some j/\F i a⟩ G H σI envI (fun j a=>∃ i,inv i=some j/\F i a) where
 gh:=I.gh
 g0:=Same.refl _
 gn:=fun a o e => .inl e
 rs:=acp
 rb:=acp
 bh:=fun a o e=>⟨o,e⟩
 fg:=fun j a ⟨i,_,z⟩=>I.fg i a z
 fr:=fun j a ⟨i,h,z⟩=>aei h z
 fd:=fun j k a ⟨i,h,z⟩ ⟨i',h',z'⟩=>by
  have:=I.fd i i' a z z'
  subst this
  rw [h] at h';cases h';rfl
 fo:=fun j a ⟨i,h,z⟩=>I.fo i a z
 sl:=fun j s e=>by
  obtain ⟨v,hv,q⟩:=sl j s e
  refine ⟨v,hv,?_⟩
  rcases q with ⟨d,rfl,r,n⟩ | ⟨ns,a,rfl,rfl,q,n⟩ | ⟨i,A,hi,rfl,hs,he⟩
  ·exact ⟨r,fun a ⟨i,h,_⟩=>n i h⟩
  ·exact ⟨⟨a,rfl,q⟩,fun a ⟨i,h,_⟩=>n i h⟩
  ·refine ⟨?_,fun a z => .inl z,hv⟩
   have eF:(fun a=>∃ i',inv i'=some j/\F i' a)=F i:=by
    funext a
    exact propext ⟨fun ⟨i',h,z⟩=>by rw [inj i i' j hi h];exact z,fun z=>⟨i,hi,z⟩⟩
   show A.P G H v (fun a=>∃ i',inv i'=some j/\F i' a)
   rw [eF]
   rcases he with he | he
   ·obtain ⟨v',e1,e2⟩:=I.sl i _ he
    rw [hs] at e1;cases e1;exact e2.1
   ·obtain ⟨v',e1,e2⟩:=I.sl i _ he
    rw [hs] at e1;cases e1;exact e2.1
 ln:=ln
 ft:=I.ft
theorem VI.leave (I:VI B G H σ env F) (inj:∀ i i' j,inv i=some j->inv i'=some j->i=i') (bG:B1.G=G) (bH:B1.H=H) (bR:∀ a o,H a=some o->(∀ i j,inv i=some j->¬ F i a)->B1.R a=some o)
  (bF:∀ i j,inv i=some j->∀ a,B1.F j a->F i a) (bS:∀ i j,inv i=some j->B1.S[j]? = σ[i]?) (J:VI B1 G' H' σI envI F') (io:∀ i j,inv i=some j->∃ A',envI[j]?=some (some (.io A'))) {env2:En} (he:env2.length=env.length)
  (h2:∀ i s,env2[i]?=some (some s)->(inv i=none/\env[i]?=some (some s))\/∃ j A A',inv i=some j/\envI[j]?=some (some (.io A'))/\((env[i]?=some (some (.own A))/\s=.own A')\/(env[i]?=some (some (.io A))/\s=.io A'))) :
  VI B G' H' σ env2 (fun i a=>match inv i with | some j=>F' j a | none=>F i a):=by
 have gn1:∀ a o,G' a=some o->G a=some o\/H a=none:=fun a o e=>by
  have:=J.gn a o e
  rw [bG,bH] at this;exact this
 have fi:∀ i j a,inv i=some j->F' j a->F i a\/H a=none:=fun i j a hi z=>by
  obtain ⟨A',e⟩:=io i j hi
  obtain ⟨v,_,q⟩:=J.sl j _ e
  rcases q.2.1 a z with y | y
  ·exact .inl (bF i j hi a y)
  ·rw [bH] at y;exact .inr y
 have kp:∀ a o,H a=some o->(∀ i j,inv i=some j->¬ F i a)->H' a=some o:=fun a o e n=>J.rs a o (bR a o e n)
 refine ⟨J.gh,I.g0.trans (bG ▸ J.g0),fun a o e=>?_,fun a o e=>?_,I.rb,fun a o e=>?_,fun i a z=>?_,fun i a z=>?_,fun i k a y z=>?_,fun i a z=>?_,fun i t e=>?_,by rw [he];exact I.ln,J.ft⟩
 ·rcases gn1 a o e with e | e
  ·exact I.gn a o e
  ·exact .inr (I.no_b e)
 ·refine kp a o (I.rs a o e) fun i j _ z=>?_
  rw [I.fr i a z] at e;cases e
 ·obtain ⟨o1,e1⟩:=I.bh a o e
  exact J.bh a o1 (by rw [bH];exact e1)
 ·cases hi:inv i with
  | some j=>rw [hi] at z;exact J.fg j a z
  | none =>
   rw [hi] at z
   cases e:G' a with
   | none=>rfl
   | some o =>
    rcases gn1 a o e with e | e
    ·rw [I.fg i a z] at e;cases e
    ·exact absurd z (I.no_f e i)
 ·cases hi:inv i with
  | some j =>
   rw [hi] at z
   rcases fi i j a hi z with y | y
   ·exact I.fr i a y
   ·exact I.no_r y
  | none=>rw [hi] at z;exact I.fr i a z
 ·cases hi:inv i with
  | some j =>
   rw [hi] at y
   cases hk:inv k with
   | some l =>
    rw [hk] at z
    have:=J.fd j l a y z
    subst this
    exact inj i k j hi hk
   | none =>
    rw [hk] at z
    rcases fi i j a hi y with x | x
    ·exact I.fd i k a x z
    ·exact absurd z (I.no_f x k)
  | none =>
   rw [hi] at y
   cases hk:inv k with
   | some l =>
    rw [hk] at z
    rcases fi k l a hk z with x | x
    ·exact I.fd i k a y x
    ·exact absurd y (I.no_f x i)
   | none=>rw [hk] at z;exact I.fd i k a y z
 ·cases hi:inv i with
  | some j=>rw [hi] at z;exact J.fo j a z
  | none =>
   rw [hi] at z
   obtain ⟨o,e⟩:=I.fo i a z
   exact J.bh a o (by rw [bH];exact e)
 ·rcases h2 i t e with ⟨hi,e1⟩ | ⟨j,A,A',hi,e1,e2⟩
  ·obtain ⟨v,hv,q⟩:=I.sl i t e1
   refine ⟨v,hv,?_⟩
   simp only [hi]
   refine q.mono (bG ▸ J.g0) fun a o z y=>kp a o y fun i' j' hi' z'=>?_
   have:=I.fd i i' a z z'
   subst this
   rw [hi] at hi';cases hi'
  ·obtain ⟨v,hv,q⟩:=J.sl j _ e1
   have hS : σ[i]?=some (some v):=by rw [← bS i j hi];exact q.2.2
   refine ⟨v,hS,?_⟩
   simp only [hi]
   rcases e2 with ⟨e2,rfl⟩ | ⟨e2,rfl⟩
   ·obtain ⟨v',_,q'⟩:=I.sl i _ e2
    refine ⟨q.1,fun a z=>?_⟩
    rcases fi i j a hi z with y | y
    ·exact q'.2 a y
    ·exact I.no_b y
   ·obtain ⟨v',hv',q'⟩:=I.sl i _ e2
    rw [hS] at hv';cases hv'
    refine ⟨q.1,fun a z=>?_,q'.2.2⟩
    rcases fi i j a hi z with y | y
    ·exact q'.2.1 a y
    ·exact .inr (I.no_b y)
theorem RsX.leave (I:VI B G H σ env F) (bH:B1.H=H) (r:RsX B1 G' H' v Fv s F'):RsX B G' H' v Fv s (fun i a=>match inv i with | some j=>F' j a | none=>F i a):=by
 have hn:∀ a,Fv a->H a=none:=fun a z=>bH ▸ r.fb a z
 refine ⟨r.ok,fun a z=>I.no_b (hn a z),r.fg,r.fo,fun i a z y=>?_⟩
 cases hi:inv i with
 | some j=>rw [hi] at y;exact r.fd j a z y
 | none=>rw [hi] at y;exact I.no_f (hn a z) i y
end
noncomputable abbrev VP:=List Sl->(Sl->Prop)->Prop
noncomputable abbrev VIo:=Own->List Sl->(Own->Sl->Prop)->Prop
def noF:Nat->Addr->Prop:=fun _ _=>False
noncomputable def bsP (K:PySem.W.Frag) (G H:Hp) (vs:List V):Bs:=⟨K,G,H,H,vs.map some,noF⟩
noncomputable def ats (K:PySem.W.Frag) (G:Hp):V->Sl->Prop
 | v,.st d=>Rp G v d
 | v,.scr ns=>∃ a,v=.ref a/\SqL K G a (ns.map V.int)
 | _,_=>False
inductive ArgsOk (K:PySem.W.Frag) (G:Hp):List V->List Sl->Prop
 | nil:ArgsOk K G [] []
 | cons {v:V} {s:Sl} {vs:List V} {ss:List Sl}:ats K G v s->ArgsOk K G vs ss->ArgsOk K G (v :: vs) (s :: ss)
theorem ArgsOk.length {K:PySem.W.Frag} {G:Hp}:∀ {vs:List V} {ss:List Sl},ArgsOk K G vs ss->vs.length=ss.length
 | _,_,.nil=>rfl
 | _,_,.cons _ t=>by simp [ArgsOk.length t]
theorem ArgsOk.get {K:PySem.W.Frag} {G:Hp}:∀ {vs:List V} {ss:List Sl} {i:Nat} {s:Sl},ArgsOk K G vs ss->ss[i]?=some s->∃ v,vs[i]?=some v/\ats K G v s
 | _,_,_,_,.nil,e=>by simp at e
 | _,_,0,_,.cons r _,e=>by simp at e;subst e;exact ⟨_,rfl,r⟩
 | _,_,i+1,s,.cons _ t,e=>by
  obtain ⟨u,h1,h2⟩:=ArgsOk.get (i:=i) (s:=s) t (by simpa using e)
  exact ⟨u,by simpa using h1,h2⟩
theorem ArgsOk.of {K:PySem.W.Frag} {G:Hp}:∀ {vs:List V} {ds:List PyData},Rps G vs ds->ArgsOk K G vs (ds.map Sl.st)
 | _,_,.nil => .nil
 | _,_,.cons r t => .cons r (ArgsOk.of t)
theorem ah3 {α:Type} {xs:List α} {n i:Nat} {s : α} (e:(xs.map some ++ List.replicate n none)[i]?=some (some s)):xs[i]?=some s:=by
 by_cases h:i < xs.length
 ·rw [List.getElem?_append_left (by simpa using h),List.getElem?_map] at e
  rw [List.getElem?_eq_getElem h] at e ⊢
  simpa using e
 ·rw [List.getElem?_append_right (by simpa using h),List.getElem?_replicate] at e
  split at e <;> cases e
theorem ah4 {α:Type} {xs:List α} {n i:Nat} {s : α} (e:xs[i]?=some s):(xs.map some ++ List.replicate n none)[i]?=some (some s):=by
 have h:i < xs.length:=(List.getElem?_eq_some_iff.mp e).1
 rw [List.getElem?_append_left (by simpa using h),List.getElem?_map,e];rfl
def spP (K:PySem.W.Frag) (f:VP):Sp:=fun vs H Q _=>∃ G ss Q',Same G H/\FT G H/\ArgsOk K G vs ss/\f ss Q'/\∀ s,Q' s->∀ v G' H' Fv,Out G H v G' H' s Fv->Q v H'
structure OutI (G H R:Hp) (F0:Addr->Prop) (v0:V) (A':Own) (s:Sl) (v:V) (G' H':Hp) (F' Fv:Addr->Prop):Prop where
 gg:Same G G'
 gh:Same G' H'
 ft:FT G' H'
 gn:∀ a o,G' a=some o->G a=some o\/H a=none
 rs:Same R H'
 bh:∀ a o,H a=some o->∃ o',H' a=some o'
 ap:A'.P G' H' v0 F'
 fi:∀ a,F' a->F0 a\/H a=none
 fg:∀ a,F' a->G' a=none
 ok:RsOk G' H' v Fv s
 fv:∀ a,Fv a->H a=none/\G' a=none/\(∃ o,H' a=some o)/\¬ F' a
def spI (K:PySem.W.Frag) (f:VIo):Sp:=fun vs H Q _=>∃ v0 vr G R A ss F0 Q',vs=v0 :: vr/\Same G H/\FT G H/\Same R H/\A.P G H v0 F0/\(∀ a,F0 a->G a=none)/\(∀ a,F0 a->R a=none)/\ArgsOk K G vr ss /\
 f A ss Q'/\∀ A' s,Q' A' s->∀ v G' H' F' Fv,OutI G H R F0 v0 A' s v G' H' F' Fv->Q v H'
theorem abc {K:PySem.W.Frag} {f:VP} {ts:TS} {N:List Str} {vs:List V} {H:Hp} {Q:VK} {E:XK} (h:spP K f vs H Q E)
  (hb:∀ ss Q',f ss Q'->∀ B,B.K=K->EvS B ts { nx:=fun _=>Q' (.st .none),rt:=fun s _=>Q' s } (ss.map some ++ List.replicate (N.length - ss.length) none)):ts { nx:=fun _ H'=>Q .non H',rt:=Q } (L2.start N vs) H:=by
 obtain ⟨G,ss,Q',gh,ft,ao,hf,hQ⟩:=h
 have fin:∀ {σ G' H' F env v Fv s},VI (bsP K G H vs) G' H' σ env F->RsX (bsP K G H vs) G' H' v Fv s F->Out G H v G' H' s Fv:=fun I r =>
  ⟨I.g0,I.gh,I.rs,I.gn,r.fb,r.fg,r.fo,r.ok,fun _=>I.ft⟩
 refine hb ss _ hf (bsP K G H vs) rfl (L2.start N vs) G H noF _ ?_ ⟨fun σ G' H' F env I g q=>hQ _ q _ _ _ _ (fin I (acf .non)),fun σ G' H' F env v Fv s I g r q=>hQ _ q v G' H' Fv (fin I r),fun _ _ _ _ _ _ _ q=>q,fun _ _ _ _ _ _ _ q=>q⟩
 refine ⟨gh,Same.refl _,fun a o e => .inl e,Same.refl _,Same.refl _,fun a o e=>⟨o,e⟩,fun i a z=>z.elim,fun i a z=>z.elim,fun i j a z=>z.elim,fun i a z=>z.elim,fun i s e=>?_,?_,ft⟩
 ·obtain ⟨v,hv,q⟩:=ao.get (ah3 e)
  refine ⟨v,by unfold L2.start;exact ah4 hv,?_⟩
  cases s with
  | st d=>exact ⟨q,fun a z=>z⟩
  | scr ns=>exact ⟨q,fun a z=>z⟩
  | own A=>exact q.elim
  | io A=>exact q.elim
 ·unfold L2.start;simp [ao.length]
theorem afh {K:PySem.W.Frag} {f:VIo} {ts:TS} {N:List Str} {vs:List V} {H:Hp} {Q:VK} {E:XK} (h:spI K f vs H Q E)
  (hb:∀ A ss Q',f A ss Q'->∀ B,B.K=K->EvS B ts { nx:=fun e=>∃ A',e[0]?=some (some (.io A'))/\Q' A' (.st .none),rt:=fun s e=>∃ A',e[0]?=some (some (.io A'))/\Q' A' s } (some (.io A) :: (ss.map some ++ List.replicate (N.length - (ss.length+1)) none))):ts { nx:=fun _ H'=>Q .non H',rt:=Q } (L2.start N vs) H:=by
 obtain ⟨v0,vr,G,R,A,ss,F0,Q',rfl,gh,ft,rh,ap,fg,fr,ao,hf,hQ⟩:=h
 have el:(v0 :: vr).length=ss.length+1:=by simp [ao.length]
 refine hb A ss _ hf ⟨K,G,H,R,(v0 :: vr).map some,fun i a=>i=0/\F0 a⟩ rfl (L2.start N (v0 :: vr)) G H (fun i a=>i=0/\F0 a) _ ?_ ?_
 ·refine ⟨gh,Same.refl _,fun a o e => .inl e,rh,rh,fun a o e=>⟨o,e⟩,fun i a z=>fg a z.2,fun i a z=>fr a z.2,fun i j a z y=>by rw [z.1,y.1],fun i a z=>A.dom ap a z.2,fun i s e=>?_,?_,ft⟩
  ·cases i with
   | zero =>
    simp at e
    subst e
    refine ⟨v0,rfl,?_,fun a z => .inl z,rfl⟩
    have:(fun a=>0=0/\F0 a)=F0:=by funext a;simp
    rw [this];exact ap
   | succ i =>
    have e':(ss.map some ++ List.replicate (N.length - (ss.length+1)) none)[i]?=some (some s):=by simpa using e
    obtain ⟨v,hv,q⟩:=ao.get (ah3 e')
    refine ⟨v,?_,?_⟩
    ·unfold L2.start;exact ah4 (by simpa using hv)
    ·cases s with
     | st d=>exact ⟨q,fun a z=>by cases z.1⟩
     | scr ns=>exact ⟨q,fun a z=>by cases z.1⟩
     | own A=>exact q.elim
     | io A=>exact q.elim
  ·unfold L2.start;simp [ao.length]
 ·have fin:∀ σ G' H' F env v Fv s,VI ⟨K,G,H,R,(v0 :: vr).map some,fun i a=>i=0/\F0 a⟩ G' H' σ env F->RsX ⟨K,G,H,R,(v0 :: vr).map some,fun i a=>i=0/\F0 a⟩ G' H' v Fv s F->(∃ A',env[0]?=some (some (.io A'))/\Q' A' s)->Q v H':=by
   intro σ G' H' F env v Fv s I r ⟨A',e,q⟩
   obtain ⟨v',hv',q1,q2,q3⟩:=I.sl 0 _ e
   have:v'=v0:=by
    have q3':((v0 :: vr).map some)[0]?=some (some v'):=q3
    simpa using q3'.symm
   subst this
   exact hQ A' s q v G' H' (F 0) Fv ⟨I.g0,I.gh,I.ft,I.gn,I.rs,I.bh,q1,fun a z=>by
    rcases q2 a z with y | y
    ·exact .inl y.2
    ·exact .inr y,I.fg 0,r.ok,fun a z=>⟨r.fb a z,r.fg a z,r.fo a z,r.fd 0 a z⟩⟩
  refine ⟨fun σ G' H' F env I g q=>fin σ G' H' F env .non _ (.st .none) I (acf .non) q,fun σ G' H' F env v Fv s I g r q=>fin σ G' H' F env v Fv s I r q,fun _ _ _ _ _ _ _ q=>q,fun _ _ _ _ _ _ _ q=>q⟩
section
variable {B:Bs} {env:En} {Q':PyData->En->Prop} {QO:Sl->En->Prop} {K:PySem.W.Frag} {E:XK}
theorem ais {f:VP} {t:TA} (h:EvA B t env fun ds e1=>f (ds.map Sl.st) fun s=>QO s e1):EvO B (abk (spP K f) [] E t) env QO:=fun σ G H F Q I k=>by
 unfold abk
 simp only [List.append_nil]
 exact h σ G H F _ I fun vs G1 H1 F1 ds e1 I1 g1 r1 q1=>⟨G1,_,_,I1.gh,I1.ft,ArgsOk.of r1,q1,fun s q v G' H' Fv o=>k v G' H' F1 Fv s e1 (I1.out o).1 (g1.trans o.gg) (I1.out o).2 q⟩
theorem aru {f:VP} {t:TA} (h:EvA B t env fun ds e1=>f (ds.map Sl.st) fun s=>FQ s fun d=>Q' d e1):Ev B (abk (spP K f) [] E t) env Q':=abv (ais h)
theorem ait {f:VP} {t:TA} {i:Nat} {ns:List Int} (e:env[i]?=some (some (.scr ns))) (hK:B.K=K) (h:EvA B t env fun ds e1=>f (.scr ns :: ds.map Sl.st) fun s=>QO s e1):EvO B (abk (spP K f) [] E (aa4 (tVar i) t)) env QO:=fun σ G H F Q I k=>by
 subst hK
 unfold abk
 simp only [List.append_nil]
 obtain ⟨v0,hv,⟨a,ea,sq⟩,_⟩:=I.sl i _ e
 refine ⟨v0,hv,h σ G H F _ I fun vs G1 H1 F1 ds e1 I1 g1 r1 q1=>⟨G1,_,_,I1.gh,I1.ft,.cons (s:=.scr ns) ⟨a,ea,g1.seq sq⟩ (ArgsOk.of r1),q1,fun s q v G' H' Fv o=>k v G' H' F1 Fv s e1 (I1.out o).1 (g1.trans o.gg) (I1.out o).2 q⟩⟩
theorem arv {f:VP} {t:TA} {i:Nat} {ns:List Int} (e:env[i]?=some (some (.scr ns))) (hK:B.K=K) (h:EvA B t env fun ds e1=>f (.scr ns :: ds.map Sl.st) fun s=>FQ s fun d=>Q' d e1):Ev B (abk (spP K f) [] E (aa4 (tVar i) t)) env Q':=abv (ait e hK h)
noncomputable def reS:Sl->Own->Sl
 | .io _,A => .io A
 | _,A => .own A
theorem aiu {f:VIo} {t:TA} {i:Nat} (h0:∃ s,env[i]?=some (some s)) (h:EvA B t env fun ds e1=>∃ s0 A,e1[i]?=some (some s0)/\(s0=.own A\/s0=.io A)/\f A (ds.map Sl.st) fun A' s=>QO s (e1.set i (some (reS s0 A')))):EvO B (abk (spI K f) [] E (aa4 (tVar i) t)) env QO:=fun σ G H F Q I k=>by
 unfold abk
 simp only [List.append_nil]
 obtain ⟨s,e⟩:=h0
 obtain ⟨v0,hv,_⟩:=I.sl i _ e
 refine ⟨v0,hv,h σ G H F _ I fun vs G1 H1 F1 ds e1 I1 g1 r1 ⟨s0,A,ei,hs,q1⟩=>?_⟩
 obtain ⟨v',hv',q⟩:=I1.sl i _ ei
 rw [hv] at hv';cases hv'
 have ap:A.P G1 H1 v0 (F1 i):=by
  rcases hs with rfl | rfl
  ·exact q.1
  ·exact q.1
 let inv:Nat->Option Nat:=fun j=>if j=i then some 0 else none
 have inv_i:inv i=some 0:=if_pos rfl
 have inv_ne:∀ j,j ≠ i->inv j=none:=fun j h=>if_neg h
 have inv_inv:∀ j l,inv j=some l->j=i/\l=0:=fun j l h=>by
  by_cases hj:j=i
  ·subst hj;rw [inv_i] at h;cases h;exact ⟨rfl,rfl⟩
  ·rw [inv_ne j hj] at h;cases h
 refine ⟨v0,vs,G1,abz H1 F1 inv,A,_,F1 i,_,rfl,I1.gh,I1.ft,acp,ap,I1.fg i,fun a z=>aei inv_i z,ArgsOk.of r1,q1,fun A' s q v G' H' F' Fv o=>?_⟩
 have hi:i < e1.length:=(List.getElem?_eq_some_iff.mp ei).1
 have J:VI ⟨K,G1,H1,abz H1 F1 inv,[some v0],fun j a=>j=0/\F1 i a⟩ G' H' [some v0] [some (.io A')] (fun j a=>j=0/\F' a):=by
  refine ⟨o.gh,o.gg,o.gn,o.rs,acp,o.bh,fun j a z=>o.fg a z.2,fun j a z=>?_,fun j l a y z=>by rw [y.1,z.1],fun j a z=>A'.dom o.ap a z.2,fun j s e=>?_,rfl,o.ft⟩
  ·rcases o.fi a z.2 with y | y
   ·exact aei inv_i y
   ·cases e:abz H1 F1 inv a with
    | none=>exact e
    | some u=>rw [acp a u e] at y;cases y
  ·cases j with
   | zero =>
    simp at e
    subst e
    refine ⟨v0,rfl,?_,fun a z=>?_,rfl⟩
    ·have:(fun a=>0=0/\F' a)=F':=by funext a;simp
     rw [this];exact o.ap
    ·rcases o.fi a z.2 with y | y
     ·exact .inl ⟨rfl,y⟩
     ·exact .inr y
   | succ j=>simp at e
 have L:=I1.leave (inv:=inv) (env2:=e1.set i (some (reS s0 A'))) (fun a b j ha hb=>by rw [(inv_inv a j ha).1,(inv_inv b j hb).1]) rfl rfl (fun a u e n=>by show abz H1 F1 inv a=_;rw [af7 n];exact e)
  (fun a j ha x z=>by rw [(inv_inv a j ha).1];exact z.2) (fun a j ha=>by rw [(inv_inv a j ha).1,(inv_inv a j ha).2,hv];rfl) J (fun a j ha=>⟨A',by rw [(inv_inv a j ha).2];rfl⟩) (by simp) fun j s' e=>by
   by_cases hj:j=i
   ·subst hj
    rw [List.getElem?_set,if_pos rfl,if_pos hi] at e
    cases e
    refine .inr ⟨0,A,A',inv_i,rfl,?_⟩
    rcases hs with rfl | rfl
    ·exact .inl ⟨ei,rfl⟩
    ·exact .inr ⟨ei,rfl⟩
   ·rw [List.getElem?_set,if_neg (fun z=>hj z.symm)] at e
    exact .inl ⟨inv_ne j hj,e⟩
 have X:RsX ⟨K,G1,H1,abz H1 F1 inv,[some v0],fun j a=>j=0/\F1 i a⟩ G' H' v Fv s (fun j a=>j=0/\F' a):=⟨o.ok,fun a z=>(o.fv a z).1,fun a z=>(o.fv a z).2.1,fun a z=>(o.fv a z).2.2.1,fun j a z y=>(o.fv a z).2.2.2 y.2⟩
 exact k v G' H' _ Fv s _ L (g1.trans o.gg) (X.leave (inv:=inv) I1 rfl) q
end
end VL
namespace VL
open PySem PySem.Spec L2
noncomputable def ag1:Option Sl->Option Sl
 | some (.own A)=>some (.io A)
 | s=>s
noncomputable def aal (src:List (Option Nat)) (env:En):En:=src.map fun o=>match o with | some j=>ag1 ((env[j]?).getD none) | none=>none
noncomputable def isIo:Option Sl->Bool
 | some (.io _)=>true
 | _=>false
noncomputable def idxE (i:Nat):List (Option Nat)->Nat->Option Nat
 | [],_=>none
 | o :: r,k=>if o=some i then some k else idxE i r (k+1)
noncomputable def afi (src:List (Option Nat)) (e:En) (i:Nat) (s:Option Sl):Option Sl :=
 match s with
 | some (.own A)=>(match idxE i src 0 with | some j=>(match e[j]? with | some (some (.io A'))=>some (.own A') | _=>none) | none=>some (.own A))
 | some (.io A)=>(match idxE i src 0 with | some j=>(match e[j]? with | some (some (.io A'))=>some (.io A') | _=>none) | none=>some (.io A))
 | s=>s
noncomputable def ad7 (src:List (Option Nat)) (e:En):Nat->En->En
 | _,[]=>[]
 | k,s :: r=>afi src e k s :: ad7 src e (k+1) r
noncomputable def ag2 (src:List (Option Nat)) (e1 e:En):En:=ad7 src e 0 e1
theorem aej (src:List (Option Nat)) (e:En):∀ (k:Nat) (l:En) (i:Nat),(ad7 src e k l)[i]?=(l[i]?).map (afi src e (k+i))
 | _,[],i=>by simp [ad7]
 | k,s :: r,0=>by simp [ad7]
 | k,s :: r,i+1=>by
  have:=aej src e (k+1) r i
  simp only [ad7,List.getElem?_cons_succ,this]
  rw [show k+1+i=k+(i+1) by row_cond lo]
theorem ad0 {i:Nat}:∀ {src:List (Option Nat)} {k j:Nat},idxE i src k=some j->k<=j/\src[j - k]?=some (some i)
 | [],_,_,h=>by cases h
 | o :: r,k,j,h=>by
  unfold idxE at h
  by_cases e:o=some i
  ·rw [if_pos e] at h;cases h
   exact ⟨Nat.le_refl _,by simp [e]⟩
  ·rw [if_neg e] at h
   obtain ⟨h1,h2⟩:=ad0 h
   refine ⟨by row_cond lo,?_⟩
   rw [show j - k=(j - (k+1))+1 by row_cond lo]
   simpa using h2
theorem aiv {i:Nat}:∀ {src:List (Option Nat)} {k:Nat},idxE i src k=none->∀ j:Nat,src[j]? ≠ some (some i)
 | [],_,_,j=>by simp
 | o :: r,k,h,j=>by
  unfold idxE at h
  by_cases e:o=some i
  ·rw [if_pos e] at h;cases h
  ·rw [if_neg e] at h
   cases j with
   | zero=>simpa using e
   | succ j=>simpa using aiv h j
theorem ak5:∀ (src:List (Option Nat)),(src.filterMap id).Nodup->∀ j j' i:Nat,src[j]?=some (some i)->src[j']?=some (some i)->j=j'
 | [],_,j,_,_,h,_=>by simp at h
 | none :: r,h,j,j',i,h1,h2=>by
  cases j with
  | zero=>simp at h1
  | succ j =>
   cases j' with
   | zero=>simp at h2
   | succ j'=>rw [ak5 r (by simpa using h) j j' i (by simpa using h1) (by simpa using h2)]
 | some x :: r,h,j,j',i,h1,h2=>by
  have h':=List.nodup_cons.mp (show (x :: r.filterMap id).Nodup by simpa using h)
  have nm:∀ k,r[k]?=some (some x)->False:=fun k hk=>h'.1 (List.mem_filterMap.mpr ⟨some x,List.mem_of_getElem? hk,rfl⟩)
  cases j with
  | zero =>
   have hx:x=i:=by simpa using h1
   subst hx
   cases j' with
   | zero=>rfl
   | succ j'=>exact (nm j' (by simpa using h2)).elim
  | succ j =>
   cases j' with
   | zero =>
    have hx:x=i:=by simpa using h2
    subst hx
    exact (nm j (by simpa using h1)).elim
   | succ j'=>rw [ak5 r h'.2 j j' i (by simpa using h1) (by simpa using h2)]
noncomputable def afj:Option Sl->Bool
 | some (.own _)=>true
 | _=>false
noncomputable def ioLe:En->En->Prop
 | a :: r,b :: s=>(isIo a=isIo b/\afj b=false)/\ioLe r s
 | [],[]=>True
 | _,_=>False
theorem ak6 {x:Option Sl} (h:isIo x=true):∃ A,x=some (.io A):=by
 cases x with
 | none=>simp [isIo] at h
 | some y =>
  cases y with
  | io A=>exact ⟨A,rfl⟩
  | _=>simp [isIo] at h
theorem ioLe.get:∀ {a b:En} {j:Nat} {x:Option Sl},ioLe a b->a[j]?=some x->isIo x=true->∃ A,b[j]?=some (some (.io A))
 | [],_,_,_,_,e,_=>by simp at e
 | x :: r,[],_,_,h,_,_=>h.elim
 | x :: r,y :: s,0,z,h,e,p=>by
  simp at e;subst e
  have:=h.1.1
  rw [p] at this
  obtain ⟨A,q⟩:=ak6 this.symm
  exact ⟨A,by simp [q]⟩
 | x :: r,y :: s,j+1,z,h,e,p=>by
  obtain ⟨A,q⟩:=ioLe.get (j:=j) h.2 (by simpa using e) p
  exact ⟨A,by simpa using q⟩
theorem ioLe.got:∀ {a b:En} {j:Nat} {x:Option Sl},ioLe a b->b[j]?=some x->(isIo x=true->∃ A,a[j]?=some (some (.io A)))/\afj x=false
 | [],[],_,_,_,e=>by simp at e
 | [],_ :: _,_,_,h,e=>h.elim
 | x :: r,[],_,_,h,_=>h.elim
 | x :: r,y :: s,0,z,h,e=>by
  simp at e;subst e
  refine ⟨fun p=>?_,h.1.2⟩
  have:=h.1.1
  rw [p] at this
  obtain ⟨A,q⟩:=ak6 this
  exact ⟨A,by simp [q]⟩
 | x :: r,y :: s,j+1,z,h,e=>by
  obtain ⟨p,q⟩:=ioLe.got (j:=j) (x:=z) h.2 (by simpa using e)
  exact ⟨fun t=>by obtain ⟨A,u⟩:=p t;exact ⟨A,by simpa using u⟩,q⟩
section
variable {B:Bs} {G H:Hp} {σ:St} {env:En} {F:Nat->Addr->Prop}
theorem VI.aside (I:VI B G H σ env F) {p:Addr} {o:HO} (nt:∀ xs,o ≠ .tup xs) (hg:G p=none) (hf:∀ j,¬ F j p) (hb:B.H p=none):VI B G (upd H p o) σ env F where
 gh:=fun a u e=>by rw [aaf (aap e hg)];exact I.gh a u e
 g0:=I.g0
 gn:=I.gn
 rs:=fun a u e=>by rw [aaf (aap e (I.b_r hb))];exact I.rs a u e
 rb:=I.rb
 bh:=fun a u e=>by rw [aaf (aap e hb)];exact I.bh a u e
 fg:=I.fg
 fr:=I.fr
 fd:=I.fd
 fo:=fun j a z=>by rw [aaf (fun e:a=p=>hf j (e ▸ z))];exact I.fo j a z
 sl:=fun i s e=>by
  obtain ⟨v,hv,q⟩:=I.sl i s e
  exact ⟨v,hv,q.mono (Same.refl _) fun a u z y=>by rw [aaf (fun e:a=p=>hf i (e ▸ z))];exact y⟩
 ln:=I.ln
 ft:=fun a ks e=>by
  by_cases z:a=p
  ·subst z;rw [aai] at e;exact absurd (Option.some.inj e) (nt _)
  ·rw [aaf z] at e;exact I.ft a ks e
def LcV (K:PySem.W.Frag) (src:List (Option Nat)) (g:TG) (tif:TT) (te:TE) (ds:List PyData) (e1:En) (R:List PyData->En->Prop):Prop:=∃ J:Nat->List PyData->En->Prop,J 0 [] (aal src e1)/\(∀ i ys e,J i ys e->ioLe (aal src e1) e) /\
 (∀ i d ys e,ds[i]?=some d->J i ys e->∀ B':Bs,B'.K=K->EvG B' g (.st d) e fun e2=>EvT B' tif e2 fun b e3=>if b=true then Ev B' te e3 fun y e4=>ys.length<=999999/\J (i+1) (ys ++ [y]) e4 else J (i+1) ys e3)/\∀ ys e,J ds.length ys e->R ys (ag2 src e1 e)
theorem aey {src:List (Option Nat)} {j:Nat} {s:Sl} (h:(aal src env)[j]?=some (some s)):∃ i t,src[j]?=some (some i)/\env[i]?=some (some t)/\ag1 (some t)=some s:=by
 unfold aal at h
 rw [List.getElem?_map] at h
 cases e:src[j]? with
 | none=>rw [e] at h;cases h
 | some o =>
  rw [e] at h
  cases o with
  | none=>cases h
  | some i =>
   simp only [Option.map_some,Option.some.injEq] at h
   cases e2:env[i]? with
   | none=>rw [e2] at h;cases h
   | some o2 =>
    rw [e2] at h
    cases o2 with
    | none=>cases h
    | some t=>exact ⟨i,t,rfl,e2,h⟩
theorem ak7 {src:List (Option Nat)} {i j:Nat} {v:V} (h:src[j]?=some (some i)) (hv : σ[i]?=some (some v)):(pick src σ)[j]?=some (some v):=by
 unfold pick
 rw [List.getElem?_map,h]
 simp [hv]
theorem ap3 {src:List (Option Nat)} {wi:TI} {g:TG} {tif:TT} {te:TE} {QO:Sl->En->Prop} (nd:(src.filterMap id).Nodup) (h:EvI B wi env fun ds e1=>LcV B.K src g tif te ds e1 fun ys e2=>QO (.own (OL ys)) e2):EvO B (tLC src wi g tif te) env QO:=fun σ G H F Q I k=>by
 refine h σ G H F _ I fun J G1 H1 F1 ds e1 I1 g1 it ⟨Jv,j0,jio,js,jd⟩ acc hacc=>?_
 let mt:Nat->Bool:=fun i=>match e1[i]? with | some (some (.own _))=>true | some (some (.io _))=>true | _=>false
 let inv:Nat->Option Nat:=fun i=>if mt i=true then idxE i src 0 else none
 have inv1:∀ i j,inv i=some j->src[j]?=some (some i)/\mt i=true:=fun i j hi=>by
  by_cases hm:mt i=true
  ·have hi':idxE i src 0=some j:=by simpa [inv,hm] using hi
   have:=(ad0 hi').2
   exact ⟨by simpa using this,hm⟩
  ·simp [inv,hm] at hi
 have inv2:∀ i j,src[j]?=some (some i)->mt i=true->inv i=some j:=fun i j hs hm=>by
  have e0:inv i=idxE i src 0:=by simp [inv,hm]
  cases e:idxE i src 0 with
  | none=>exact absurd hs (aiv e j)
  | some j' =>
   have:=(ad0 e).2
   rw [e0,e,ak5 src nd j j' i hs (by simpa using this)]
 have inj:∀ i i' j,inv i=some j->inv i'=some j->i=i':=fun i i' j h1 h2=>by
  have a:=(inv1 i j h1).1
  rw [(inv1 i' j h2).1] at a
  simpa using a.symm
 have mtS:∀ i,mt i=true->∃ A,e1[i]?=some (some (.own A))\/e1[i]?=some (some (.io A)):=fun i hm=>by
  cases e:e1[i]? with
  | none=>simp [mt,e] at hm
  | some o =>
   cases o with
   | none=>simp [mt,e] at hm
   | some s =>
    cases s with
    | own A=>exact ⟨A,.inl rfl⟩
    | io A=>exact ⟨A,.inr rfl⟩
    | st d=>simp [mt,e] at hm
    | scr ns=>simp [mt,e] at hm
 have ioAt:∀ i ys e,Jv i ys e->∀ i' j,inv i'=some j->∃ A,e[j]?=some (some (.io A)):=fun i ys e hj i' j hi=>by
  obtain ⟨hs,hm⟩:=inv1 i' j hi
  obtain ⟨A,hA⟩:=mtS i' hm
  refine (jio i ys e hj).get (x:=some (.io A)) ?_ rfl
  unfold aal
  rw [List.getElem?_map,hs]
  rcases hA with hA | hA <;> simp [hA,ag1]
 -- between two turns
 let Wv:Nat->List V->St->Hp->Prop:=fun i ys σI H=>∃ G2 F2 e env2 yd,VI B G2 H σ env2 F2/\Same G1 G2/\H acc=some (.lst ys)/\Rps G2 ys yd/\G2 acc=none/\(∀ j,¬ F2 j acc)/\Jv i yd e/\σI.length=e.length/\env2.length=e1.length /\
  (∀ j s,e[j]?=some (some s)->∃ v,σI[j]?=some (some v)/\((∃ d,s=.st d/\Rp G2 v d/\∀ i,inv i ≠ some j)\/(∃ ns a,s=.scr ns/\v=.ref a/\SqL B.K G2 a (ns.map V.int)/\∀ i,inv i ≠ some j) ∨
   ∃ i A,inv i=some j/\s=.io A/\σ[i]?=some (some v)/\(env2[i]?=some (some (.own A))\/env2[i]?=some (some (.io A))))) /\
  (∀ i,inv i=none->env2[i]?=e1[i]?)/\(∀ i j,inv i=some j->∃ A0 A,e[j]?=some (some (.io A))/\((e1[i]?=some (some (.own A0))/\env2[i]?=some (some (.own A)))\/(e1[i]?=some (some (.io A0))/\env2[i]?=some (some (.io A)))))
 have hb:B.H acc=none:=I1.no_b hacc
 refine ⟨fun i m ys σI H=>m=ds.length - i/\i<=ds.length/\Wv i ys σI H,⟨ds.length,by simp,Nat.zero_le _,?_⟩,?_⟩
 ·refine ⟨G1,F1,aal src e1,e1,[],I1.aside (fun _ z=>nomatch z) (I1.no_g hacc) (I1.no_f hacc) hb,Same.refl _,aai,.nil,I1.no_g hacc,I1.no_f hacc,j0,by simp [pick,aal],rfl,fun j s e=>?_,fun _ _=>rfl,fun i j hi=>?_⟩
  ·obtain ⟨i,t,hs,ht,hp⟩:=aey e
   obtain ⟨v,hv,q⟩:=I1.sl i t ht
   refine ⟨v,ak7 hs hv,?_⟩
   cases t with
   | st d =>
    cases hp
    refine .inl ⟨d,rfl,q.1,fun i' hi'=>?_⟩
    have a:=(inv1 i' j hi').1
    rw [hs] at a
    have:i=i':=by simpa using a
    subst this
    have:=(inv1 i j hi').2
    simp [mt,ht] at this
   | scr ns =>
    cases hp
    obtain ⟨⟨a,ea,sq⟩,_⟩:=q
    refine .inr (.inl ⟨ns,a,rfl,ea,sq,fun i' hi'=>?_⟩)
    have a:=(inv1 i' j hi').1
    rw [hs] at a
    have:i=i':=by simpa using a
    subst this
    have:=(inv1 i j hi').2
    simp [mt,ht] at this
   | own A=>cases hp;exact .inr (.inr ⟨i,A,inv2 i j hs (by simp [mt,ht]),rfl,hv,.inl ht⟩)
   | io A=>cases hp;exact .inr (.inr ⟨i,A,inv2 i j hs (by simp [mt,ht]),rfl,hv,.inr ht⟩)
  ·obtain ⟨hs,hm⟩:=inv1 i j hi
   obtain ⟨A,hA⟩:=mtS i hm
   refine ⟨A,A,?_,?_⟩
   ·unfold aal
    rw [List.getElem?_map,hs]
    rcases hA with hA | hA <;> simp [hA,ag1]
   ·rcases hA with hA | hA
    ·exact .inl ⟨hA,hA⟩
    ·exact .inr ⟨hA,hA⟩
 ·rintro i m ys σI H2 ⟨rfl,hi,G2,F2,e,env2,yd,I2,g2,hac,ry,ga,fa,jv,ln,ln2,sl,un,mv⟩
  refine ⟨hac,?_⟩
  by_cases hlt:i < ds.length
  ·refine .inr ⟨it.go i G2 H2 g2 I2.gh hlt,Wv (i+1),fun ys' σ' H' hw=>⟨ds.length - (i+1),by row_cond lo,rfl,hlt,hw⟩,fun x H3 y=>?_⟩
   obtain ⟨G3,o⟩:=it.yld i G2 H2 x H3 _ g2 I2.gh I2.ft (List.getElem?_eq_getElem hlt) y
   obtain ⟨I3,X3⟩:=I2.out o
   have ac3:=o.hh _ _ hac
   have fa3:=fa
   have ga3:G3 acc=none:=by
    cases e':G3 acc with
    | none=>rfl
    | some u =>
     rcases o.gn acc u e' with q | q
     ·rw [ga] at q;cases q
     ·rw [hac] at q;cases q
   have sl3:∀ j s,e[j]?=some (some s)->∃ v,σI[j]?=some (some v)/\((∃ d,s=.st d/\Rp G3 v d/\∀ i,inv i ≠ some j)\/(∃ ns a,s=.scr ns/\v=.ref a/\SqL B.K G3 a (ns.map V.int)/\∀ i,inv i ≠ some j) ∨
     ∃ i A,inv i=some j/\s=.io A/\σ[i]?=some (some v)/\(env2[i]?=some (some (.own A))\/env2[i]?=some (some (.io A)))):=fun j s es=>by
    obtain ⟨v,hv,q⟩:=sl j s es
    refine ⟨v,hv,?_⟩
    rcases q with ⟨d,e1',r,n⟩ | ⟨ns,a,e1',e2',r,n⟩ | q
    ·exact .inl ⟨d,e1',r.same o.gg,n⟩
    ·exact .inr (.inl ⟨ns,a,e1',e2',o.gg.seq r,n⟩)
    ·exact .inr (.inr q)
   have E3:=I3.enter (inv:=inv) (σI:=σI) (envI:=e) inj ln sl3
   -- back from the turn
   have fin:∀ (σ4:St) (G4 H4:Hp) (F4:Nat->Addr->Prop) (e4:En) (yd':List PyData) (ys':List V) (o4:HO),VI ⟨B.K,G3,H3,abz H3 F2 inv,σI,fun j a=>∃ i,inv i=some j/\F2 i a⟩ G4 H4 σ4 e4 F4->Jv (i+1) yd' e4->Rps G4 ys' yd' ->
     Wv (i+1) ys' σ4 (upd H4 acc (.lst ys'))/\H4 acc=some (.lst ys):=by
    intro σ4 G4 H4 F4 e4 yd' ys' o4 I4 j4 r4
    have ioA:=ioAt (i+1) yd' e4 j4
    have ac4:H4 acc=some (.lst ys):=I4.rs acc _ (by show abz H3 F2 inv acc=_;rw [af7 (fun i' _ _=>fa3 i')];exact ac3)
    have ga4:G4 acc=none:=by
     cases e':G4 acc with
     | none=>rfl
     | some u =>
      rcases I4.gn acc u e' with q | q
      ·change G3 acc=_ at q;rw [ga3] at q;cases q
      ·change H3 acc=_ at q;rw [ac3] at q;cases q
    -- the slots of the outer frame
    let env3:En:=(List.range env2.length).map fun i'=>match inv i' with
     | some j=>(match env2[i']?,e4[j]? with | some (some (.own _)),some (some (.io A))=>some (.own A) | some (some (.io _)),some (some (.io A))=>some (.io A) | _,_=>none)
     | none=>(env2[i']?).getD none
    have e3get:∀ i',i' < env2.length->env3[i']?=some (match inv i' with
     | some j=>(match env2[i']?,e4[j]? with | some (some (.own _)),some (some (.io A))=>some (.own A) | some (some (.io _)),some (some (.io A))=>some (.io A) | _,_=>none)
     | none=>(env2[i']?).getD none):=fun i' hl=>by
     simp only [env3,List.getElem?_map]
     rw [List.getElem?_eq_getElem (by simpa using hl)]
     simp
    have L:=I3.leave (inv:=inv) (env2:=env3) inj rfl rfl (fun a u q n=>by show abz H3 F2 inv a=_;rw [af7 n];exact q) (fun i' j hi' a z=>by obtain ⟨i'',h1,h2⟩:=z;rw [inj i' i'' j hi' h1];exact h2)
     (fun i' j hi'=>by
      obtain ⟨A0,A,h1,h2⟩:=mv i' j hi'
      obtain ⟨v,hv,q⟩:=sl j _ h1
      rcases q with ⟨d,q,_⟩ | ⟨ns,a,q,_⟩ | ⟨i'',A'',q1,q2,q3,_⟩
      ·cases q
      ·cases q
      ·rw [inj i' i'' j hi' q1]
       show σI[j]?=_
       rw [hv,q3]) I4 ioA (by simp [env3]) (fun i' s es=>by
      have hl:i' < env2.length:=by
       have:=(List.getElem?_eq_some_iff.mp es).1
       simpa [env3] using this
      rw [e3get i' hl] at es
      cases hi':inv i' with
      | none =>
       refine .inl ⟨rfl,?_⟩
       rw [hi'] at es
       simp only [Option.some.injEq] at es
       cases q:env2[i']? with
       | none=>rw [q] at es;cases es
       | some u=>rw [q] at es;simp at es;rw [es]
      | some j =>
       rw [hi'] at es
       obtain ⟨A',hA'⟩:=ioA i' j hi'
       obtain ⟨A0,A,h1,h2⟩:=mv i' j hi'
       simp only [hA'] at es
       rcases h2 with ⟨_,h2⟩ | ⟨_,h2⟩
       ·rw [h2] at es
        simp only [Option.some.injEq] at es
        exact .inr ⟨j,A,A',rfl,hA',.inl ⟨h2,es.symm⟩⟩
       ·rw [h2] at es
        simp only [Option.some.injEq] at es
        exact .inr ⟨j,A,A',rfl,hA',.inr ⟨h2,es.symm⟩⟩)
    have fa4:∀ j,¬ (match inv j with | some j=>F4 j acc | none=>F2 j acc):=fun j z=>by
     cases hj:inv j with
     | none=>rw [hj] at z;exact fa3 j z
     | some l =>
      rw [hj] at z
      obtain ⟨A',hA'⟩:=ioA j l hj
      obtain ⟨v,_,q⟩:=I4.sl l _ hA'
      rcases q.2.1 acc z with ⟨i'',_,q⟩ | q
      ·exact fa3 i'' q
      ·change H3 acc=_ at q;rw [ac3] at q;cases q
    refine ⟨⟨G4,_,e4,env3,yd',L.aside (fun _ z=>nomatch z) ga4 fa4 hb,g2.trans (o.gg.trans I4.g0),aai,r4,ga4,fa4,j4,I4.ln,by simp [env3,ln2],fun j s es=>?_,fun i' hi'=>?_,fun i' j hi'=>?_⟩,ac4⟩
    ·obtain ⟨v,hv,q⟩:=I4.sl j s es
     refine ⟨v,hv,?_⟩
     have noinv:(∀ A,s ≠ .io A)->∀ i',inv i' ≠ some j:=fun hn i' hi'=>by
      obtain ⟨A,hA⟩:=ioA i' j hi'
      rw [es] at hA
      exact hn A (by simpa using hA)
     cases s with
     | st d=>exact .inl ⟨d,rfl,q.1,noinv (by intro A z;cases z)⟩
     | scr ns =>
      obtain ⟨⟨a,ea,sq⟩,_⟩:=q
      exact .inr (.inl ⟨ns,a,rfl,ea,sq,noinv (by intro A z;cases z)⟩)
     | own A =>
      have:=((jio _ _ _ j4).got es).2
      simp [afj] at this
     | io A =>
      obtain ⟨A0,h0⟩:=((jio _ _ _ j4).got es).1 rfl
      obtain ⟨i',t,hs,ht,hp⟩:=aey h0
      have hm:mt i'=true:=by
       cases t with
       | own A=>simp [mt,ht]
       | io A=>simp [mt,ht]
       | st d=>cases hp
       | scr ns=>cases hp
      have hi':=inv2 i' j hs hm
      obtain ⟨B0,A1,h1,h2⟩:=mv i' j hi'
      have hl:i' < env2.length:=by
       rcases h2 with ⟨_,h2⟩ | ⟨_,h2⟩ <;> exact (List.getElem?_eq_some_iff.mp h2).1
      refine .inr (.inr ⟨i',A,hi',rfl,?_,?_⟩)
      ·have hS : σI[j]?=some (some v):=q.2.2
       obtain ⟨v',hv',q'⟩:=sl j _ h1
       rcases q' with ⟨d,q',_⟩ | ⟨ns,a,q',_⟩ | ⟨i'',A'',q1,q2,q3,_⟩
       ·cases q'
       ·cases q'
       ·rw [inj i' i'' j hi' q1,q3,← hv',hS]
      ·rw [e3get i' hl,hi']
       simp only [es]
       rcases h2 with ⟨_,h2⟩ | ⟨_,h2⟩
       ·rw [h2];exact .inl rfl
       ·rw [h2];exact .inr rfl
    ·by_cases hl:i' < env2.length
     ·rw [e3get i' hl,hi']
      simp only
      rw [← un i' hi']
      rw [List.getElem?_eq_getElem hl];rfl
     ·rw [List.getElem?_eq_none_iff.mpr (by simp [env3];row_cond lo),← un i' hi',List.getElem?_eq_none_iff.mpr (by row_cond lo)]
    ·obtain ⟨A',hA'⟩:=ioA i' j hi'
     obtain ⟨A0,A,h1,h2⟩:=mv i' j hi'
     have hl:i' < env2.length:=by
      rcases h2 with ⟨_,h2⟩ | ⟨_,h2⟩ <;> exact (List.getElem?_eq_some_iff.mp h2).1
     refine ⟨A0,A',hA',?_⟩
     rw [e3get i' hl,hi']
     simp only [hA']
     rcases h2 with ⟨h3,h2⟩ | ⟨h3,h2⟩
     ·rw [h2];exact .inl ⟨h3,rfl⟩
     ·rw [h2];exact .inr ⟨h3,rfl⟩
   have hd:ds[i]?=some ds[i]:=List.getElem?_eq_getElem hlt
   refine js i _ yd e hd jv ⟨B.K,G3,H3,abz H3 F2 inv,σI,fun j a=>∃ i,inv i=some j/\F2 i a⟩ rfl σI G3 H3 _ x _ _ E3 (acf o.ok.1) fun σ4 G4 H4 F4 e4 I4 g4 q4=>?_
   refine q4 σ4 G4 H4 F4 _ I4 fun b G5 H5 F5 e5 I5 g5 q5=>?_
   cases b with
   | false =>
    rw [if_neg Bool.false_ne_true] at q5 ⊢
    obtain ⟨w,ac⟩:=fin σ4 G5 H5 F5 e5 yd ys (.lst ys) I5 q5 (ry.same (o.gg.trans (g4.trans g5)))
    have:upd H5 acc (.lst ys)=H5:=by
     funext b
     unfold upd
     split
     ·rename_i hb';rw [hb'];exact ac.symm
     ·rfl
    rw [this] at w
    exact w
   | true =>
    rw [if_pos rfl] at q5 ⊢
    refine q5 σ4 G5 H5 F5 _ I5 fun y G6 H6 F6 d6 e6 I6 g6 r6 q6=>?_
    obtain ⟨w,ac⟩:=fin σ4 G6 H6 F6 e6 (yd ++ [d6]) (ys ++ [y]) (.lst ys) I6 q6.2 ((ry.same (o.gg.trans (g4.trans (g5.trans g6)))).append (.cons r6 .nil))
    exact ⟨ac,by rw [ry.length];exact big (by have:=q6.1;row_cond lo),w⟩
  ·have ei:i=ds.length:=by row_cond lo
   subst ei
   refine .inl ⟨it.stop _ G2 H2 g2 I2.gh rfl,?_⟩
   have q:=jd yd e jv
   have eb:ag2 src e1 e=env2:=by
    apply List.ext_getElem?
    intro i'
    unfold ag2
    rw [aej,Nat.zero_add]
    have nomut:mt i'=false->env2[i']?=e1[i']?:=fun hm=>un i' (by simp [inv,hm])
    cases e2:e1[i']? with
    | none =>
     rw [nomut (by simp [mt,e2]),e2];rfl
    | some o =>
     cases o with
     | none=>rw [nomut (by simp [mt,e2]),e2];rfl
     | some t =>
      have main:∀ A,(t=.own A\/t=.io A)->mt i'=true:=fun A h=>by rcases h with rfl | rfl <;> simp [mt,e2]
      cases t with
      | st d=>rw [nomut (by simp [mt,e2]),e2];rfl
      | scr ns=>rw [nomut (by simp [mt,e2]),e2];rfl
      | own A =>
       have hm:=main A (.inl rfl)
       simp only [Option.map_some,afi]
       cases e3:idxE i' src 0 with
       | none =>
        have:inv i'=none:=by simp [inv,e3]
        rw [un i' this,e2]
       | some j =>
        have hi':inv i'=some j:=by simp [inv,hm,e3]
        obtain ⟨A0,A1,h1,h2⟩:=mv i' j hi'
        simp only [h1]
        rcases h2 with ⟨h3,h2⟩ | ⟨h3,h2⟩
        ·rw [h2]
        ·rw [e2] at h3;cases h3
      | io A =>
       have hm:=main A (.inr rfl)
       simp only [Option.map_some,afi]
       cases e3:idxE i' src 0 with
       | none =>
        have:inv i'=none:=by simp [inv,e3]
        rw [un i' this,e2]
       | some j =>
        have hi':inv i'=some j:=by simp [inv,hm,e3]
        obtain ⟨A0,A1,h1,h2⟩:=mv i' j hi'
        simp only [h1]
        rcases h2 with ⟨h3,h2⟩ | ⟨h3,h2⟩
        ·rw [e2] at h3;cases h3
        ·rw [h2]
   rw [eb] at q
   refine k (.ref acc) G2 H2 F2 (· = acc) (.own (OL yd)) env2 I2 (g1.trans g2) ⟨⟨acc,ys,rfl,hac,ry,fun b=>Iff.rfl⟩,fun a z=>by rw [z];exact hb,fun a z=>by rw [z];exact ga,fun a z=>by rw [z];exact ⟨_,hac⟩,fun j a z=>by rw [z];exact fa j⟩ q
end
end VL
namespace VL
open PySem PySem.Spec L2
noncomputable def noIo (e:En):Bool:=e.all fun s => !isIo s
theorem arw {e:En} {j:Nat} {x:Option Sl} (h:noIo e=true) (hx:e[j]?=some x):isIo x=false:=by
 have:=List.all_eq_true.mp h x (List.mem_of_getElem? hx)
 simpa using this
theorem ah5 {src:List (Option Nat)} {e1 e:En} (h:noIo (aal src e1)=true):ag2 src e1 e=e1:=by
 apply List.ext_getElem?
 intro i
 unfold ag2
 rw [aej,Nat.zero_add]
 cases e2:e1[i]? with
 | none=>rfl
 | some o =>
  have main:∀ A,(o=some (.own A)\/o=some (.io A))->idxE i src 0=none:=fun A ho=>by
   cases e3:idxE i src 0 with
   | none=>rfl
   | some j =>
    have hs:=(ad0 e3).2
    have:(aal src e1)[j]?=some (some (.io A)):=by
     unfold aal
     rw [List.getElem?_map,show src[j]?=some (some i) by simpa using hs]
     rcases ho with rfl | rfl <;> simp [e2,ag1]
    have:=arw h this
    simp [isIo] at this
  cases o with
  | none=>rfl
  | some t =>
   cases t with
   | st d=>rfl
   | scr ns=>rfl
   | own A=>simp only [Option.map_some,afi,main A (.inl rfl)]
   | io A=>simp only [Option.map_some,afi,main A (.inr rfl)]
noncomputable def stO:Option PyData->Option Sl:=Option.map Sl.st
theorem isIo_stO {o:Option PyData}:isIo (stO o)=false:=by cases o <;> rfl
theorem ada {o:Option PyData}:afj (stO o)=false:=by cases o <;> rfl
theorem ad2 {src:List (Option Nat)} {e1:En}:∀ x∈aal src e1,afj x=false:=by
 intro x hx
 unfold aal at hx
 obtain ⟨o,_,rfl⟩:=List.mem_map.mp hx
 cases o with
 | none=>rfl
 | some j =>
  dsimp only
  cases (e1[j]?).getD none with
  | none=>rfl
  | some t=>cases t <;> rfl
theorem ad1:∀ {e:En},(∀ x∈e,afj x=false)->ioLe e e
 | [],_=>True.intro
 | x :: r,h=>⟨⟨rfl,h x List.mem_cons_self⟩,ad1 fun y hy=>h y (List.mem_cons_of_mem _ hy)⟩
section
variable {B:Bs} {env:En} {g:TG} {tif:TT} {te:TE} {K:PySem.W.Frag} {src:List (Option Nat)} {ds:List PyData} {e1:En} {R:List PyData->En->Prop}
theorem arx {K':PySem.W.Frag} {α:Type} {xs:List α} {fa fb : α->PyData} (f : α->PyData) (p : α->Bool) (hno:noIo (aal src e1)=true) (hl:xs.length<=999999)
  (h:∀ x∈xs,∀ B':Bs,B'.K=K->EvT B' tif (some (.st (fa x)) :: some (.st (fb x)) :: aal src e1) fun b e3=>b=p x/\e3=some (.st (fa x)) :: some (.st (fb x)) :: aal src e1/\(b=true->Ev B' te (some (.st (fa x)) :: some (.st (fb x)) :: aal src e1) fun y e4=>y=f x/\e4=some (.st (fa x)) :: some (.st (fb x)) :: aal src e1))
  (hR:R ((xs.filter p).map f) e1):LcV K (none :: none :: src) (gTup K' 2 (aby (aa2 0) (aby (aa2 1) gNil))) tif te (xs.map fun x => .tuple [fa x,fb x]) e1 R:=by
 have hno':noIo (aal (none :: none :: src) e1)=true:=by
  show ((none :: none :: aal src e1).all fun s => !isIo s)=true
  rw [List.all_cons,List.all_cons]
  exact (Bool.and_eq_true _ _).mpr ⟨rfl,(Bool.and_eq_true _ _).mpr ⟨rfl,hno⟩⟩
 refine ⟨fun i ys e=>ys=((xs.take i).filter p).map f/\∃ o o',e=stO o :: stO o' :: aal src e1,⟨by simp,none,none,rfl⟩,?_,?_,?_⟩
 ·rintro i ys e ⟨_,o,o',rfl⟩
  exact ⟨⟨isIo_stO.symm,ada⟩,⟨isIo_stO.symm,ada⟩,ad1 ad2⟩
 ·rintro i d ys e hd ⟨rfl,o,o',rfl⟩ B' hB
  rw [List.getElem?_map] at hd
  cases hx:xs[i]? with
  | none=>rw [hx] at hd;cases hd
  | some x =>
   rw [hx] at hd
   cases hd
   have hi:i < xs.length:=(List.getElem?_eq_some_iff.mp hx).1
   have et:xs.take (i+1)=xs.take i ++ [x]:=by rw [List.take_add_one,hx];rfl
   refine afg rfl (ab3 (aa1 (ab3 (aa1 (aef ?_)))))
   show EvT B' tif (some (.st (fa x)) :: some (.st (fb x)) :: aal src e1) _
   intro σ G H F Q I k
   refine h x (List.mem_of_getElem? hx) B' hB σ G H F Q I fun b G' H' F' e3 I' g' ⟨hb,he,hq⟩=>k b G' H' F' e3 I' g' ?_
   subst he
   by_cases hp:b=true
   ·rw [if_pos hp]
    intro σ G H F Q I k
    refine hq hp σ G H F Q I fun v G' H' F' d' e4 I' g' r' ⟨hy,he4⟩=>k v G' H' F' d' e4 I' g' r' ?_
    subst hy he4
    refine ⟨?_,?_,some _,some _,rfl⟩
    ·have:=List.length_filter_le p (xs.take i)
     simp only [List.length_map]
     have h2:(xs.take i).length<=i:=by simp;row_cond lo
     row_cond lo
    ·rw [et,List.filter_append,List.map_append]
     have:p x=true:=by rw [← hb];exact hp
     simp [this]
   ·rw [if_neg hp]
    refine ⟨?_,some _,some _,rfl⟩
    rw [et,List.filter_append,List.map_append]
    have:p x=false:=by rw [← hb];simpa using hp
    simp [this]
 ·rintro ys e ⟨rfl,o,o',rfl⟩
  rw [ah5 hno']
  simpa using hR
end
section
variable {R:Sl->Prop}
theorem au0 {g:Int->Int->Int} {i j:Int} (h:R (.st (.int (g i j)))):Op2 (rI0 fun i j => .int (g i j)) (.int i) (.int j) R:=fun G H vx vy Q gh rx ry k=>by
 cases rx;cases ry
 exact ⟨i,j,rfl,rfl,k _ _ _ _ _ (Out.refl gh (.int _)) h⟩
theorem au1 {g:Int->Int->Bool} {i j:Int} (h:R (.st (.bool (g i j)))):Op2 (rI0 fun i j => .bl (g i j)) (.int i) (.int j) R:=fun G H vx vy Q gh rx ry k=>by
 cases rx;cases ry
 exact ⟨i,j,rfl,rfl,k _ _ _ _ _ (Out.refl gh (.bl _)) h⟩
theorem ax0 {C:Int->Int->Prop} {g:Int->Int->Int} {i j:Int} (hc:C i j) (h:R (.st (.int (g i j)))):Op2 (rI C fun i j => .int (g i j)) (.int i) (.int j) R:=fun G H vx vy Q gh rx ry k=>by
 cases rx;cases ry
 exact ⟨i,j,rfl,rfl,hc,k _ _ _ _ _ (Out.refl gh (.int _)) h⟩
theorem ax1 {g:Int->Int} {i:Int} (h:R (.st (.int (g i)))):Op1 (rU fun i => .int (g i)) (.int i) R:=fun G H vx Q gh rx k=>by
 cases rx
 exact ⟨i,rfl,k _ _ _ _ _ (Out.refl gh (.int _)) h⟩
theorem au2 {i j:Int} (h:R (.st (.bool (decide (i=j))))):Op2 rEq (.int i) (.int j) R:=fun G H vx vy Q gh rx ry k=>by
 cases rx;cases ry
 exact apq (k _ _ _ _ _ (Out.refl gh (.bl _)) h)
theorem au3 {i j:Int} (h:R (.st (.bool (!decide (i=j))))):Op2 rNe (.int i) (.int j) R:=fun G H vx vy Q gh rx ry k=>by
 cases rx;cases ry
 exact axf (k _ _ _ _ _ (Out.refl gh (.bl _)) h)
theorem au4 {i j:Bool} (h:R (.st (.bool (decide (i=j))))):Op2 rEq (.bool i) (.bool j) R:=fun G H vx vy Q gh rx ry k=>by
 cases rx;cases ry
 exact axg (k _ _ _ _ _ (Out.refl gh (.bl _)) h)
theorem ary (i j:Str):decide (V.str i=V.str j)=decide (i=j):=by
 by_cases h:i=j
 ·subst h;simp
 ·simp [h]
theorem au5 {i j:Str} (h:R (.st (.bool (!decide (i=j))))):Op2 rNe (.str i) (.str j) R:=fun G H vx vy Q gh rx ry k=>by
 cases rx;cases ry
 refine ⟨rfl,?_⟩
 rw [ary]
 exact k _ _ _ _ _ (Out.refl gh (.bl _)) h
theorem am9 {x y:PyData} (px:aaj x=true) (py:aaj y=true) (hd:x.depth<=60) (h:R (.st (.bool (!PyData.eqv x y)))):Op2 rNeD x y R:=fun G H vx vy Q gh rx ry k =>
 ⟨x,y,(rx.rep px).same gh,(ry.rep py).same gh,px,py,hd,k _ _ _ _ _ (Out.refl gh (.bl _)) h⟩
theorem au6 {neg:Bool} {x:PyData} {es:List PyData} (px:aaj x=true) (py:plainDs es=true) (hd:x.depth<=60) (h:R (.st (.bool (if neg then !es.any (fun z=>PyData.eqv z x) else es.any (fun z=>PyData.eqv z x))))):Op2 (rInD neg) x (.list es) R:=fun G H vx vy Q gh rx ry k =>
 ⟨x,es,(rx.rep px).same gh,.inl ((ry.rep (by simpa [aaj] using py)).same gh),px,py,hd,k _ _ _ _ _ (Out.refl gh (.bl _)) h⟩
theorem Rps.at {G:Hp} {vs:List V} {ds:List PyData} {i:Int} {d:PyData} (r:Rps G vs ds) (h:atI ds i=some d):∃ v,atI vs i=some v/\Rp G v d:=by
 unfold atI at h ⊢
 rw [r.length]
 cases e:ixN ds.length i with
 | none=>rw [e] at h;cases h
 | some j =>
  rw [e] at h
  exact r.get h
theorem au7 {K:PySem.W.Frag} {ds:List PyData} {i:Int} {d:PyData} (hd:atI ds i=some d) (h:R (.st d)):Op2 (ab8 K) (.list ds) (.int i) R:=fun G H vx vy Q gh rx ry k=>by
 cases ry
 cases rx with
 | lst ha rs =>
  obtain ⟨v,hv,rv⟩:=rs.at hd
  exact aed (gh _ _ ha) hv (k _ _ _ _ _ (Out.refl gh rv) h)
theorem au8 {K:PySem.W.Frag} {ds:List PyData} {i:Int} {d:PyData} (hd:atI ds i=some d) (h:R (.st d)):Op2 (ab8 K) (.tuple ds) (.int i) R:=fun G H vx vy Q gh rx ry k=>by
 cases ry
 cases rx with
 | tup ha rs =>
  obtain ⟨v,hv,rv⟩:=rs.at hd
  exact arj (gh _ _ ha) hv (k _ _ _ _ _ (Out.refl gh rv) h)
noncomputable def isNone:PyData->Bool
 | .none=>true
 | _=>false
theorem au9 {G:Hp} {v:V} {x:PyData} (r:Rp G v x):decide (v=.non)=isNone x:=by cases r <;> rfl
theorem ava {x:PyData} (h:R (.st (.bool (isNone x)))):Op2 rIsN x .none R:=fun G H vx vy Q gh rx ry k=>by
 cases ry
 refine ⟨rfl,?_⟩
 rw [au9 rx]
 exact k _ _ _ _ _ (Out.refl gh (.bl _)) h
theorem afk {xs ys:List PyData} (hl:xs.length+ys.length<=1000000) (h:R (.own (OL (xs ++ ys)))):Op2 rCat (.list xs) (.list ys) R:=fun G H vx vy Q gh rx ry k=>by
 cases rx with
 | lst ha ra =>
  cases ry with
  | lst hb rb =>
   refine axj (gh _ _ ha) (gh _ _ hb) ?_ fun p hp=>k _ _ _ _ _ (Out.newL gh hp (ra.append rb)) h
   rw [ra.length,rb.length];exact Nat.le_of_lt (big hl)
theorem avb {xs:List PyData} {n:Int} (h1 : -(2 ^ 63)<=n) (h2:n < 2 ^ 63) (hl:xs.length * n.toNat<=1000000) (h:R (.own (OL (List.replicate n.toNat xs).flatten))):Op2 rRep (.list xs) (.int n) R:=fun G H vx vy Q gh rx ry k=>by
 cases ry
 cases rx with
 | lst ha ra =>
  refine ⟨_,n,_,rfl,rfl,gh _ _ ha,h1,h2,?_,fun p hp=>k _ _ _ _ _ (Out.newL gh hp (ra.rep _)) h⟩
  rw [ra.length];exact Nat.le_of_lt (big hl)
theorem arz {K:PySem.W.Frag} {xs:List PyData} (h:R (.st (.int xs.length))):OpA (rLen K) [.list xs] R:=fun G H vs Q gh rs k=>by
 cases rs with
 | cons r t =>
  cases t
  cases r with
  | lst ha ra =>
   refine amz (gh _ _ ha) ?_
   rw [ra.length]
   exact k _ _ _ _ _ (Out.refl gh (.int _)) h
theorem ar0 {i j:Int} (h:R (.st (.int (if j > i then j else i)))):OpA aju [.int i,.int j] R:=fun G H vs Q gh rs k=>by
 obtain rfl:vs=[V.int i,V.int j]:=Rps.ints_inv (ns:=[i,j]) rs
 exact am0 (k _ _ _ _ _ (Out.refl gh (.int _)) h)
theorem ar1 {i j:Int} (h:R (.st (.int (if j < i then j else i)))):OpA ajv [.int i,.int j] R:=fun G H vs Q gh rs k=>by
 obtain rfl:vs=[V.int i,V.int j]:=Rps.ints_inv (ns:=[i,j]) rs
 exact am1 (k _ _ _ _ _ (Out.refl gh (.int _)) h)
theorem adp {K:PySem.W.Frag} {ns:List Int} (hne:ns ≠ []) (h:∀ m,acy ns m->R (.st (.int m))):OpA (afc K) [.list (ns.map .int)] R:=fun G H vs Q gh rs k=>by
 cases rs with
 | cons r t =>
  cases t
  cases r with
  | lst ha ra =>
   have:=Rps.ints_inv ra
   subst this
   exact ⟨_,ns,rfl,.inl (SqL.of (gh _ _ ha)),hne,fun m hm=>k _ _ _ _ _ (Out.refl gh (.int _)) (h m hm)⟩
theorem ar2 {K:PySem.W.Frag} {ns:List Int} (hne:ns ≠ []) (h:∀ m,atq ns m->R (.st (.int m))):OpA (aol K) [.list (ns.map .int)] R:=fun G H vs Q gh rs k=>by
 cases rs with
 | cons r t =>
  cases t
  cases r with
  | lst ha ra =>
   have:=Rps.ints_inv ra
   subst this
   exact ⟨_,ns,rfl,.inl (SqL.of (gh _ _ ha)),hne,fun m hm=>k _ _ _ _ _ (Out.refl gh (.int _)) (h m hm)⟩
end
section
variable {B:Bs} {env:En} {QO:Sl->En->Prop} {Q':PyData->En->Prop} {te tl th:TE} {K:PySem.W.Frag}
noncomputable def cutD (xs:List PyData) (lo hi:Option Int):List PyData:=(xs.drop (HT.sIx xs.length 0 lo)).take (HT.sIx xs.length xs.length hi - HT.sIx xs.length 0 lo)
def EvOp (B:Bs) (t:TO) (env:En) (Q':Option Int->En->Prop):Prop:=∀ (σ:St) (G H:Hp) (F:Nat->Addr->Prop) (Q:Option Int->Hp->Prop),VI B G H σ env F->(∀ o G' H' F' env',VI B G' H' σ env' F'->Same G G'->Q' o env'->Q o H')->t σ H Q
theorem ar3 {QP:Option Int->En->Prop} (q:QP none env):EvOp B amp env QP:=fun σ G H F Q I k=>k none G H F env I (Same.refl _) q
theorem ar4 {QP:Option Int->En->Prop} (h:Ev B te env fun d e=>∃ i,d=.int i/\QP (some i) e):EvOp B (ato te) env QP:=fun σ G H F Q I k =>
 h σ G H F _ I fun v G1 H1 F1 d e1 I1 g1 r1 z_=>by
  obtain ⟨i,ed,q⟩:=z_
  subst ed;cases r1
  exact ⟨i,rfl,k _ G1 H1 F1 e1 I1 g1 q⟩
theorem azp {i:Int} {R:Int->Prop} (h:R i):∃ j,PyData.int i=.int j/\R j:=⟨i,rfl,h⟩
theorem aiw {tl th:TO} (h:Ev B te env fun d e1=>∃ ds,d=.list ds/\EvOp B tl e1 fun lo e2=>EvOp B th e2 fun hi e3=>QO (.own (OL (cutD ds lo hi))) e3):EvO B (tSl (rSlL K) te tl th) env QO:=fun σ G H F Q I k =>
 h σ G H F _ I fun v G1 H1 F1 d e1 I1 g1 r1 z_=>by
  obtain ⟨ds,ed,q1⟩:=z_
  subst ed
  cases r1 with
  | @lst a vs _ ha rs =>
   refine q1 σ G1 H1 F1 _ I1 fun lo G2 H2 F2 e2 I2 g2 q2=>q2 σ G2 H2 F2 _ I2 fun hi G3 H3 F3 e3 I3 g3 q3=>?_
   have rs3:=rs.same (g2.trans g3)
   refine ⟨a,vs,rfl,SqL.of (I3.gh _ _ (g3 _ _ (g2 _ _ ha))),fun p hp=>?_⟩
   have e:cutV vs lo hi=(vs.drop (HT.sIx ds.length 0 lo)).take (HT.sIx ds.length ds.length hi - HT.sIx ds.length 0 lo):=by unfold cutV;rw [rs.length]
   have o:=Out.newL (xs:=cutV vs lo hi) (ds:=cutD ds lo hi) I3.gh hp (by rw [e];exact (rs3.drop _).take _)
   exact k _ _ _ F3 _ _ e3 (I3.out o).1 (g1.trans (g2.trans (g3.trans o.gg))) (I3.out o).2 q3
theorem ar5 {tl th:TO} (h:Ev B te env fun d e1=>∃ ds,d=.list ds/\EvOp B tl e1 fun lo e2=>EvOp B th e2 fun hi e3=>Q' (.list (cutD ds lo hi)) e3):Ev B (tSl (rSlL K) te tl th) env Q':=abv (aiw (by
 intro σ G H F Q I k
 refine h σ G H F Q I fun v G' H' F' d e1 I1 g1 r1 ⟨ds,ed,q⟩=>k v G' H' F' d e1 I1 g1 r1 ⟨ds,ed,?_⟩
 intro σ G H F Q I k
 refine q σ G H F Q I fun lo G' H' F' e I' g' q=>k lo G' H' F' e I' g' ?_
 intro σ G H F Q I k
 exact q σ G H F Q I fun hi G' H' F' e I' g' q=>k hi G' H' F' e I' g' (afd q)))
end
end VL
namespace VL
open PySem PySem.Spec L2
noncomputable def ag3:PyData->Bool
 | .none | .bool _ | .int _ | .str _=>true
 | _=>false
theorem avc {G G':Hp} {v:V} {d:PyData} (r:Rp G v d) (h:ag3 d=true):Rp G' v d:=by
 cases r with
 | non=>exact .non
 | bl b=>exact .bl b
 | int i=>exact .int i
 | str x=>exact .str x
 | _=>simp [ag3] at h
def Has (env:En) (i:Nat) (A:Own):Prop:=env[i]?=some (some (.own A))\/env[i]?=some (some (.io A))
section
variable {B:Bs} {env:En} {QO:Sl->En->Prop} {Q':PyData->En->Prop} {QT:Bool->En->Prop} {QE:En->Prop} {te ta tb tk:TE} {K:PySem.W.Frag} {i:Nat}
theorem VI.has {G H:Hp} {σ:St} {F:Nat->Addr->Prop} {A:Own} (I:VI B G H σ env F) (h:Has env i A):∃ v,σ[i]?=some (some v)/\A.P G H v (F i):=by
 rcases h with h | h
 ·obtain ⟨v,hv,q⟩:=I.sl i _ h;exact ⟨v,hv,q.1⟩
 ·obtain ⟨v,hv,q⟩:=I.sl i _ h;exact ⟨v,hv,q.1⟩
theorem VI.moment {G G1 G3 H H3:Hp} {σ:St} {F:Nat->Addr->Prop} {v:V} {s:Sl} {Fv:Addr->Prop} (I:VI B G H σ env F) (g1:Same G G1) (o:Out G1 H v G3 H3 s Fv):∃ G2,Same G G2/\VI B G2 H3 σ env F:=by
 refine ⟨fun a=>if H a=none then G3 a else G a,fun a u e=>?_,I.grow (fun a u e=>?_) (fun a u e=>?_) o.hh (fun a u e=>?_) fun a ks e=>?_⟩
 ·show (if H a=none then G3 a else G a)=some u;rw [if_neg (by rw [I.gh a u e];simp)];exact e
 ·rw [if_neg (by rw [I.gh a u e];simp)];exact e
 ·by_cases h:H a=none
  ·rw [if_pos h] at e;exact o.gh a u e
  ·rw [if_neg h] at e;exact o.hh _ _ (I.gh a u e)
 ·by_cases h:H a=none
  ·exact .inr h
  ·rw [if_neg h] at e;exact .inl e
 ·have f1:FT G1 H:=fun a ks e=>g1 _ _ (I.ft a ks e)
  by_cases h:H a=none
  ·rw [if_pos h];exact o.ft f1 a ks e
  ·rw [if_neg h]
   obtain ⟨u,hu⟩:=aop h
   have:=o.hh _ _ hu
   rw [e] at this
   exact I.ft a ks (by rw [hu,← this])
theorem ax2 {r:List V->Hp->VK->Prop} {A:Own} {dx:PyData} (hA:Has env i A) (fz:Frz A dx) (h:OpA r [dx] fun s=>∃ d,s=.st d/\ag3 d=true/\Q' d env):Ev B (tCB r (aa4 (tVar i) tNil)) env Q':=fun σ G H F Q I k=>by
 obtain ⟨v,hv,ap⟩:=I.has hA
 refine ⟨v,hv,h (jn G H (F i)) H [v] Q (atr I.gh) (.cons (fz _ _ _ _ ap (I.fg i) I.gh) .nil) fun w G3 H3 s Fv o ⟨d,es,hs,q3⟩=>?_⟩
 subst es
 obtain ⟨G4,g4,I4⟩:=I.moment (abx (I.fg i)) o
 exact k w G4 H3 F d env I4 g4 (avc o.ok.1 hs) q3
theorem x_sc {d:PyData} {R:PyData->Prop} (h1:ag3 d=true) (h:R d):∃ d',Sl.st d=.st d'/\ag3 d'=true/\R d':=⟨d,rfl,h1,h⟩
theorem ax3 {ds0:List PyData} (h0:Has env i (OL ds0)) (h:Ev B tb env fun y e2=>∃ ds k d,Has e2 i (OL ds)/\y=.int k/\atI ds k=some d/\Q' d e2):Ev B (tOp (ab8 K) (tVar i) tb) env Q':=fun σ G H F Q I k=>by
 obtain ⟨v,hv,_⟩:=I.has h0
 refine ⟨v,hv,h σ G H F _ I fun u G2 H2 F2 y e2 I2 g2 r2 ⟨ds,j,d,hA,ey,hat,q⟩=>?_⟩
 subst ey
 cases r2
 obtain ⟨v',hv',a,vs,ea,ha,rs,_⟩:=I2.has hA
 rw [hv] at hv';cases hv'
 subst ea
 obtain ⟨w,hw,rw'⟩:=rs.at hat
 exact aed ha hw (k w G2 H2 F2 d e2 I2 g2 rw' q)
theorem avd {ns:List Int} (e:env[i]?=some (some (.scr ns))) (hK:B.K=K) (q:Q' (.int ns.length) env):Ev B (tCB (rLen K) (aa4 (tVar i) tNil)) env Q':=fun σ G H F Q I k=>by
 subst hK
 obtain ⟨v0,hv,⟨a,ea,sq⟩,_⟩:=I.sl i _ e
 subst ea
 refine ⟨_,hv,auh (I.gh.seq sq) ?_⟩
 rw [List.length_map]
 exact k _ G H F _ env I (Same.refl _) (.int _) q
theorem ax4 {ns:List Int} (e:env[i]?=some (some (.scr ns))) (hK:B.K=K) (h:Ev B tb env fun y e2=>∃ j n,y=.int j/\atI ns j=some n/\Q' (.int n) e2):Ev B (tOp (ab8 K) (tVar i) tb) env Q':=fun σ G H F Q I k=>by
 subst hK
 obtain ⟨v0,hv,⟨a,ea,sq⟩,_⟩:=I.sl i _ e
 subst ea
 refine ⟨_,hv,h σ G H F _ I fun u G2 H2 F2 y e2 I2 g2 r2 ⟨j,n,ey,hat,q⟩=>?_⟩
 subst ey
 cases r2
 refine ark (I2.gh.seq (g2.seq sq)) (v:=.int n) ?_ (k _ G2 H2 F2 _ e2 I2 g2 (.int _) q)
 unfold atI at hat ⊢
 rw [List.length_map]
 cases e:ixN ns.length j with
 | none=>rw [e] at hat;cases hat
 | some l=>rw [e] at hat;simp at hat ⊢;exact hat
theorem VI.upd1 {G H:Hp} {σ:St} {F:Nat->Addr->Prop} {s:Sl} {A A':Own} {a:Addr} {o:HO} (I:VI B G H σ env F) (e:env[i]?=some (some s)) (hs:s=.own A\/s=.io A) (hv : σ[i]?=some (some (.ref a))) (hf:∀ b,F i b ↔ b=a) (hp:A'.P G (upd H a o) (.ref a) (· = a)) (nt:∀ xs,o ≠ .tup xs:=by intro _ z;cases z) :
  VI B G (upd H a o) σ (env.set i (some (reS s A'))) (putF F i (· = a)):=by
 refine I.change (A:=A') i e hv (fun b u hb eb=>by rw [aaf (fun z=>hb ((hf b).mpr z))];exact eb) (fun b u eb=>?_) (fun b z=>⟨.inl ((hf b).mpr z),by rw [z];exact ⟨_,aai⟩⟩) hp (fun b ks e=>?_) ?_
 ·by_cases z:b=a
  ·rw [z];exact ⟨_,aai⟩
  ·rw [aaf z];exact ⟨u,eb⟩
 ·by_cases z:b=a
  ·subst z;rw [aai] at e;exact absurd (Option.some.inj e) (nt _)
  ·rw [aaf z] at e;exact I.ft b ks e
 ·rcases hs with rfl | rfl
  ·exact .inl ⟨rfl,A,rfl⟩
  ·exact .inr ⟨rfl,A,rfl⟩
theorem ap4 {ds0:List PyData} (h0:Has env i (OL ds0)) (h:Ev B te env fun y e2=>∃ s ds,e2[i]?=some (some s)/\(s=.own (OL ds)\/s=.io (OL ds))/\ds.length<=999999/\Q' .none (e2.set i (some (reS s (OL (ds ++ [y])))))):Ev B (tBM K "list" ad5 (tVar i) (aa4 te tNil)) env Q':=fun σ G H F Q I k=>by
 obtain ⟨v,hv,a,vs,ea,ha,rs,_⟩:=I.has h0
 subst ea
 refine ⟨_,hv,.inl ⟨rfl,_,SqL.of ha⟩,h σ G H F _ I fun u G2 H2 F2 y e2 I2 g2 r2 ⟨s,ds,es,hs,hl,q⟩=>?_⟩
 have hA:Has e2 i (OL ds):=by rcases hs with rfl | rfl;exact .inl es;exact .inr es
 obtain ⟨v',hv',a',vs',ea',ha',rs',hf⟩:=I2.has hA
 rw [hv] at hv';cases hv';cases ea'
 refine aes ha' (by rw [rs'.length];exact big (by row_cond lo)) ?_
 exact k _ G2 _ _ _ _ (I2.upd1 (A':=OL (ds ++ [y])) es hs hv hf ⟨a,_,rfl,aai,rs'.append (.cons r2 .nil),fun b=>Iff.rfl⟩) g2 .non q
theorem aoq {ds0:List PyData} (h0:Has env i (OL ds0)) (h:Ev B te env fun y e2=>∃ ds,e2[i]?=some (some (.own (OL ds)))/\ds.length<=999999/\Q' .none (e2.set i (some (.own (OL (ds ++ [y])))))):Ev B (tBM K "list" ad5 (tVar i) (aa4 te tNil)) env Q' :=
 ap4 h0 fun σ G H F Q I k=>h σ G H F Q I fun v G' H' F' d e I' g r ⟨ds,h1,h2,q⟩=>k v G' H' F' d e I' g r ⟨_,ds,h1,.inl rfl,h2,q⟩
theorem ar6 {ds0:List PyData} (h0:Has env i (OL ds0)) (h:Ev B te env fun y e2=>∃ s ds j n d,y=.int j/\e2[i]?=some (some s)/\(s=.own (OL ds)\/s=.io (OL ds))/\-(2 ^ 63)<=j/\j < 2 ^ 63/\seqIndex? j ds.length=some n/\ds[n]?=some d/\Q' d (e2.set i (some (reS s (OL (ds.eraseIdx n)))))):Ev B (tBM K "list" agq (tVar i) (aa4 te tNil)) env Q':=fun σ G H F Q I k=>by
 obtain ⟨v,hv,a,vs,ea,ha,rs,_⟩:=I.has h0
 subst ea
 refine ⟨_,hv,.inl ⟨rfl,_,SqL.of ha⟩,h σ G H F _ I fun u G2 H2 F2 y e2 I2 g2 r2 ⟨s,ds,j,n,d,ey,es,hs,b1,b2,hn,hd,q⟩=>?_⟩
 subst ey
 cases r2
 have hA:Has e2 i (OL ds):=by rcases hs with rfl | rfl;exact .inl es;exact .inr es
 obtain ⟨v',hv',a',vs',ea',ha',rs',hf⟩:=I2.has hA
 rw [hv] at hv';cases hv';cases ea'
 obtain ⟨w,hw,rw'⟩:=rs'.get hd
 refine arb ha' b1 b2 (by rw [rs'.length];exact hn) hw ?_
 exact k _ G2 _ _ _ _ (I2.upd1 (A':=OL (ds.eraseIdx n)) es hs hv hf ⟨a,_,rfl,aai,rs'.erase n,fun b=>Iff.rfl⟩) g2 rw' q
theorem ar7 {d:PyData} {ds0:List PyData} (h0:Has env i (OL ds0)) (h:Ev B tk env fun y e2=>∃ s ds k j,y=.int k/\e2[i]?=some (some s)/\(s=.own (OL ds)\/s=.io (OL ds))/\ixN ds.length k=some j/\QE (e2.set i (some (reS s (OL (ds.set j d)))))):EvG B (gSub (tVar i) tk aog) (.st d) env QE:=fun σ G H F v Fv Q I x k=>by
 obtain ⟨rv,_⟩:=x.ok
 obtain ⟨v1,hv,a,vs,ea,ha,rs,_⟩:=I.has h0
 subst ea
 refine ⟨_,hv,h σ G H F _ I fun u G2 H2 F2 y e2 I2 g2 r2 ⟨s,ds,n,j,ey,es,hs,hj,q⟩=>?_⟩
 subst ey
 cases r2
 have hA:Has e2 i (OL ds):=by rcases hs with rfl | rfl;exact .inl es;exact .inr es
 obtain ⟨v',hv',a',vs',ea',ha',rs',hf⟩:=I2.has hA
 rw [hv] at hv';cases hv';cases ea'
 refine amy ha' (by rw [rs'.length];exact hj) ?_
 exact k _ G2 _ _ _ (I2.upd1 (A':=OL (ds.set j d)) es hs hv hf ⟨a,_,rfl,aai,rs'.set (rv.same g2) j,fun b=>Iff.rfl⟩) g2 q
theorem ave {t:TS} {D':VEnds} {A:Own} {d:PyData} (i:Nat) (e:env[i]?=some (some (.own A))) (f:Frz A d) (h:EvS B t D' (env.set i (some (.st d)))):EvS B t D' env:=fun σ G H F D I r=>by
 obtain ⟨v,hv,rv,g,J⟩:=I.frz e f
 exact h σ _ H _ D J (r.later g)
end
end VL
namespace VL
open PySem PySem.Spec L2
noncomputable def tyD:PyData->String
 | .none => "NoneType" | .bool _ => "bool" | .int _ => "int" | .str _ => "str" | .list _ => "list" | .tuple _ => "tuple" | .dict _ => "dict"
def afl (T:String):Prop:=T = "int"\/T = "bool"\/T = "tuple"\/T = "list"\/T = "str"\/T = "dict"
noncomputable def isiD (T:String) (d:PyData):Bool:=tyD d == T || (T == "int" && tyD d == "bool")
theorem azq {K:PySem.W.Frag} {H:Hp} {v:V} {d:PyData} (r:Rp H v d):TyOf K H v (.type (tyD d)):=by
 cases r with
 | non=>exact .non
 | bl b=>exact .bl b
 | int i=>exact .int i
 | str x=>exact .str x
 | lst h _=>exact .lst h
 | tup h _=>exact .tup h
 | dk h _ _=>exact .dK h
 | dt h _ _=>exact .dT h
theorem azr {K:PySem.W.Frag} {T:String} (h:afl T) (d:PyData):PySem.W.kitOne K (.type (tyD d)) (.type T)=some (isiD T d):=by
 rcases h with rfl | rfl | rfl | rfl | rfl | rfl
 ·cases d with
  | none=>exact af2
  | bool _=>exact ako
  | int _=>exact al6
  | str _=>exact al8
  | list _=>exact akw
  | tuple _=>exact ajh
  | dict _=>exact aky
 ·cases d with
  | none=>exact afr
  | bool _=>exact ai9
  | int _=>exact akq
  | str _=>exact akt
  | list _=>exact aje
  | tuple _=>exact ahz
  | dict _=>exact ajj
 ·cases d with
  | none=>exact aew
  | bool _=>exact ahx
  | int _=>exact ajc
  | str _=>exact ajd
  | list _=>exact ahy
  | tuple _=>exact agw
  | dict _=>exact ah2
 ·cases d with
  | none=>exact afs
  | bool _=>exact aja
  | int _=>exact akr
  | str _=>exact aku
  | list _=>exact ajf
  | tuple _=>exact ah0
  | dict _=>exact ajk
 ·cases d with
  | none=>exact af3
  | bool _=>exact akp
  | int _=>exact al7
  | str _=>exact al9
  | list _=>exact akx
  | tuple _=>exact aji
  | dict _=>exact akz
 ·cases d with
  | none=>exact aft
  | bool _=>exact ajb
  | int _=>exact aks
  | str _=>exact akv
  | list _=>exact ajg
  | tuple _=>exact ah1
  | dict _=>exact ajl
section
variable {B:Bs} {env:En} {QO:Sl->En->Prop} {Q':PyData->En->Prop} {QT:Bool->En->Prop} {QE:En->Prop} {te ta tb tk:TE} {K:PySem.W.Frag} {i:Nat}
theorem ax5 {T:String} (hT:afl T) (h:Ev B te env fun d e=>Q' (.bool (isiD T d)) e):Ev B (tCB (rIsi K) (aa4 te (aa4 (tC (.ty T)) tNil))) env Q':=fun σ G H F Q I k =>
 h σ G H F _ I fun v G1 H1 F1 d e1 I1 g1 r1 q1=>⟨v,T,_,_,rfl,azq (r1.same I1.gh),azr hT d,k _ G1 H1 F1 _ e1 I1 g1 (.bl _) q1⟩
theorem ax6:afl "int":=.inl rfl
theorem avf:afl "bool":=.inr (.inl rfl)
theorem ar8 {A:Own} {D':VEnds} (e:env[i]?=some (some (.own A))) (q:D'.rt (.own A) (env.set i none)):EvS B (tRet (tVar i)) D' env:=am8 (aee e q)
theorem azs {n m:Nat} {P:Prop} (h:n<=m) (q:P):n<=m/\P:=⟨h,q⟩
theorem ax7 {ds:List PyData} {e2:En} {R:List PyData->Prop} (e:e2[i]?=some (some (.own (OL ds)))) (hl:ds.length<=999999) (q:R ds):∃ ds,e2[i]?=some (some (.own (OL ds)))/\ds.length<=999999/\R ds:=⟨ds,e,hl,q⟩
theorem azt {ds:List PyData} {d:PyData} {k:Int} {e2:En} {R:PyData->Prop} (hA:Has e2 i (OL ds)) (h:atI ds k=some d) (q:R d):∃ ds k' d,Has e2 i (OL ds)/\PyData.int k=.int k'/\atI ds k'=some d/\R d:=⟨ds,k,d,hA,rfl,h,q⟩
theorem azu {ns:List Int} {n k:Int} {R:Int->Prop} (h:atI ns k=some n) (q:R n):∃ j n,PyData.int k=.int j/\atI ns j=some n/\R n:=⟨k,n,rfl,h,q⟩
theorem aor {ds:List PyData} {k:Int} {j:Nat} {e2:En} {R:Sl->List PyData->Nat->Prop} (e:e2[i]?=some (some (.own (OL ds)))) (hj:ixN ds.length k=some j) (q:R (.own (OL ds)) ds j):∃ s ds k' j,PyData.int k=.int k'/\e2[i]?=some (some s)/\(s=.own (OL ds)\/s=.io (OL ds))/\ixN ds.length k'=some j/\R s ds j:=⟨_,ds,k,j,rfl,e,.inl rfl,hj,q⟩
theorem ax8 {ds:List PyData} {k:Int} {j:Nat} {e2:En} {R:Sl->List PyData->Nat->Prop} (e:e2[i]?=some (some (.io (OL ds)))) (hj:ixN ds.length k=some j) (q:R (.io (OL ds)) ds j):∃ s ds k' j,PyData.int k=.int k'/\e2[i]?=some (some s)/\(s=.own (OL ds)\/s=.io (OL ds))/\ixN ds.length k'=some j/\R s ds j:=⟨_,ds,k,j,rfl,e,.inr rfl,hj,q⟩
theorem x_rt {A:Own} {e2:En} {R:Own->Prop} (e:e2[0]?=some (some (.io A))) (q:R A):∃ A',e2[0]?=some (some (.io A'))/\R A':=⟨A,e,q⟩
theorem x_st {b:Bool} {R:Bool->Prop} (h:R b):∃ c,Sl.st (.bool b)=.st (.bool c)/\R c:=⟨b,rfl,h⟩
theorem ar9 {ds:List PyData} {R:Bool->Prop} (h:R (!ds.isEmpty)):∃ k,TruD (.list ds) k/\R k:=⟨_,rfl,h⟩
theorem lenP {f:VP} {n:Nat} {vs:List V} {H:Hp} {Q:VK} {E:XK} (h:spP K f vs H Q E) (hf:∀ ss Q',f ss Q'->ss.length=n):vs.length=n:=by
 obtain ⟨G,ss,Q',_,_,ao,q,_⟩:=h
 rw [ao.length];exact hf ss Q' q
theorem lenI {f:VIo} {n:Nat} {vs:List V} {H:Hp} {Q:VK} {E:XK} (h:spI K f vs H Q E) (hf:∀ A ss Q',f A ss Q'->ss.length+1=n):vs.length=n:=by
 obtain ⟨v0,vr,G,R,A,ss,F0,Q',rfl,_,_,_,_,_,_,ao,q,_⟩:=h
 rw [List.length_cons,ao.length];exact hf A ss Q' q
theorem ag4 {f:VIo} {t:TA} {E:XK} {A:Own} (h0:env[i]?=some (some (.io A))) (h:EvA B t env fun ds e1=>e1[i]?=some (some (.io A))/\f A (ds.map Sl.st) fun A' s=>QO s (e1.set i (some (.io A')))):EvO B (abk (spI K f) [] E (aa4 (tVar i) t)) env QO :=
 aiu ⟨_,h0⟩ fun σ G H F Q I k=>h σ G H F Q I fun vs G' H' F' ds e1 I' g r ⟨h1,q⟩=>k vs G' H' F' ds e1 I' g r ⟨_,A,h1,.inr rfl,q⟩
theorem aos {f:VIo} {t:TA} {E:XK} {A:Own} (h0:env[i]?=some (some (.own A))) (h:EvA B t env fun ds e1=>e1[i]?=some (some (.own A))/\f A (ds.map Sl.st) fun A' s=>QO s (e1.set i (some (.own A')))):EvO B (abk (spI K f) [] E (aa4 (tVar i) t)) env QO :=
 aiu ⟨_,h0⟩ fun σ G H F Q I k=>h σ G H F Q I fun vs G' H' F' ds e1 I' g r ⟨h1,q⟩=>k vs G' H' F' ds e1 I' g r ⟨_,A,h1,.inl rfl,q⟩
theorem ap5 {f:VIo} {t:TA} {E:XK} {A:Own} (h0:env[i]?=some (some (.io A))) (h:EvA B t env fun ds e1=>e1[i]?=some (some (.io A))/\f A (ds.map Sl.st) fun A' s=>FQ s fun d=>Q' d (e1.set i (some (.io A')))):Ev B (abk (spI K f) [] E (aa4 (tVar i) t)) env Q':=abv (ag4 h0 h)
theorem azv {P Q:Prop} (h:P) (q:Q):P/\Q:=⟨h,q⟩
theorem azw {src:List (Option Nat)} {wi:TI} {g:TG} {tif:TT} (nd:(src.filterMap id).Nodup) (h:EvI B wi env fun ds e1=>LcV B.K src g tif te ds e1 fun ys e2=>Q' (.list ys) e2):Ev B (tLC src wi g tif te) env Q':=abv (ap3 nd fun σ G H F R I k=>h σ G H F R I fun J G' H' F' ds e1 I' g' it ⟨Jv,a,b,c,d⟩=>k J G' H' F' ds e1 I' g' it ⟨Jv,a,b,c,fun ys e q=>afd (d ys e q)⟩)
end
end VL
namespace VL
open PySem L2
section
variable {B:Bs} {QE:En->Prop} {Q':PyData->En->Prop} {s:Sl} {r:En} {A:Own} {d:PyData} {x0 x1 x2 x3 x4 x5 x6 x7 x8 x9 x10 x11 x12 x13 x14 x15 x16 x17 x18 x19 x20 x21 x22 x23 x24 x25:Option Sl}
theorem ax9 (h:QE (x0 :: some s :: r)):EvG B (aa2 1) s (x0 :: x1 :: r) QE:=aa1 h
theorem aya (h:QE (x0 :: x1 :: some s :: r)):EvG B (aa2 2) s (x0 :: x1 :: x2 :: r) QE:=aa1 h
theorem ayb (h:QE (x0 :: x1 :: x2 :: some s :: r)):EvG B (aa2 3) s (x0 :: x1 :: x2 :: x3 :: r) QE:=aa1 h
theorem ayc (h:QE (x0 :: x1 :: x2 :: x3 :: some s :: r)):EvG B (aa2 4) s (x0 :: x1 :: x2 :: x3 :: x4 :: r) QE:=aa1 h
theorem ayd (h:QE (x0 :: x1 :: x2 :: x3 :: x4 :: some s :: r)):EvG B (aa2 5) s (x0 :: x1 :: x2 :: x3 :: x4 :: x5 :: r) QE:=aa1 h
theorem aye (h:QE (x0 :: x1 :: x2 :: x3 :: x4 :: x5 :: some s :: r)):EvG B (aa2 6) s (x0 :: x1 :: x2 :: x3 :: x4 :: x5 :: x6 :: r) QE:=aa1 h
theorem ayf (h:QE (x0 :: x1 :: x2 :: x3 :: x4 :: x5 :: x6 :: some s :: r)):EvG B (aa2 7) s (x0 :: x1 :: x2 :: x3 :: x4 :: x5 :: x6 :: x7 :: r) QE:=aa1 h
theorem ayg (h:QE (x0 :: x1 :: x2 :: x3 :: x4 :: x5 :: x6 :: x7 :: some s :: r)):EvG B (aa2 8) s (x0 :: x1 :: x2 :: x3 :: x4 :: x5 :: x6 :: x7 :: x8 :: r) QE:=aa1 h
theorem ayh (h:QE (x0 :: x1 :: x2 :: x3 :: x4 :: x5 :: x6 :: x7 :: x8 :: some s :: r)):EvG B (aa2 9) s (x0 :: x1 :: x2 :: x3 :: x4 :: x5 :: x6 :: x7 :: x8 :: x9 :: r) QE:=aa1 h
end
end VL
namespace Gr
structure Ring (T:Int->Int->Prop) (a:Int) (k:Nat) (far:Int->Option Nat) (edge:List Int):Prop where
 lab:∀ v d,far v=some d ↔ (Dist T a v d/\d<=k)
 edg:∀ v,v∈edge ↔ Dist T a v k
structure Mid (T:Int->Int->Prop) (k:Nat) (far0:Int->Option Nat) (edge:List Int) (done:Int->Prop) (far:Int->Option Nat) (beyond:List Int):Prop where
 old:∀ v d,far0 v=some d->far v=some d
 new:∀ v,v∈beyond ↔ (far0 v=none/\far v ≠ none)
 val:∀ v d,far0 v=none->far v=some d->d=k+1/\∃ u,u∈edge/\T u v
 dn:∀ u w,done u->T u w->far w ≠ none
noncomputable def label (far:Int->Option Nat) (w:Int) (d:Nat):Int->Option Nat:=fun v=>if v=w then some d else far v
theorem label_same {far:Int->Option Nat} {w:Int} {d:Nat}:label far w d w=some d:=if_pos rfl
theorem label_ne {far:Int->Option Nat} {w v:Int} {d:Nat} (h:v ≠ w):label far w d v=far v:=if_neg h
variable {T:Int->Int->Prop} {a:Int} {k:Nat} {far0 far:Int->Option Nat} {edge beyond:List Int} {done:Int->Prop}
theorem Ring.start:Ring T a 0 (label (fun _=>none) a 0) [a]:=by
 refine ⟨fun v d=>?_,fun v=>?_⟩
 ·by_cases h:v=a
  ·subst h
   rw [label_same]
   constructor
   ·intro e;cases e;exact ⟨Dist.self T v,Nat.le_refl _⟩
   ·rintro ⟨h,_⟩;rw [h.uniq (Dist.self T v)]
  ·rw [label_ne h]
   constructor
   ·intro e;cases e
   ·rintro ⟨h1,h2⟩
    have:d=0:=by row_cond lo
    subst this
    cases h1.1
    exact absurd rfl h
 ·simp only [List.mem_singleton]
  constructor
  ·rintro rfl;exact Dist.self T v
  ·intro h;cases h.1;rfl
theorem Mid.start:Mid T k far0 edge (fun _=>False) far0 [] :=
 ⟨fun v d h=>h,fun v=>⟨fun h=>by simp at h,fun h=>absurd h.1 h.2⟩,fun v d h g=>(by rw [h] at g;cases g),fun u w h=>h.elim⟩
theorem Mid.add (m:Mid T k far0 edge done far beyond) {u w:Int} (hu:u∈edge) (t:T u w) (hw:far w=none):Mid T k far0 edge done (label far w (k+1)) (beyond ++ [w]):=by
 have h0:far0 w=none:=by
  cases e:far0 w with
  | none=>rfl
  | some d=>rw [m.old w d e] at hw;cases hw
 refine ⟨fun v d h=>?_,fun v=>?_,fun v d h g=>?_,fun x y hx hy=>?_⟩
 ·rw [label_ne (by rintro rfl;rw [h0] at h;cases h)];exact m.old v d h
 ·by_cases hv:v=w
  ·subst hv
   simp [label_same,h0]
  ·rw [label_ne hv]
   simp only [List.mem_append,List.mem_singleton,hv,or_false]
   exact m.new v
 ·by_cases hv:v=w
  ·subst hv
   rw [label_same] at g
   cases g
   exact ⟨rfl,u,hu,t⟩
  ·rw [label_ne hv] at g
   exact m.val v d h g
 ·by_cases hv:y=w
  ·subst hv;rw [label_same];simp
  ·rw [label_ne hv];exact m.dn x y hx hy
theorem Mid.did (m:Mid T k far0 edge done far beyond) {u:Int} (h:∀ w,T u w->far w ≠ none):Mid T k far0 edge (fun x=>done x\/x=u) far beyond :=
 ⟨m.old,m.new,m.val,fun x w hx t=>by rcases hx with hx | rfl;exact m.dn x w hx t;exact h w t⟩
theorem Mid.imp {done':Int->Prop} (m:Mid T k far0 edge done far beyond) (h:∀ u,done' u->done u):Mid T k far0 edge done' far beyond :=
 ⟨m.old,m.new,m.val,fun x w hx t=>m.dn x w (h x hx) t⟩
theorem Ring.next (r:Ring T a k far0 edge) (m:Mid T k far0 edge done far beyond) (hd:∀ u∈edge,done u):Ring T a (k+1) far beyond:=by
 have key:∀ v,far0 v=none->far v ≠ none->Dist T a v (k+1):=fun v h0 h1=>by
  cases e:far v with
  | none=>exact absurd e h1
  | some d =>
   obtain ⟨rfl,u,hu,t⟩:=m.val v d h0 e
   obtain ⟨e',he,h⟩:=((r.edg u).mp hu).next t
   by_cases hk:e'<=k
   ·rw [(r.lab v e').mpr ⟨h,hk⟩] at h0;cases h0
   ·have:e'=k+1:=by row_cond lo
    rw [← this];exact h
 have back:∀ v,Dist T a v (k+1)->far0 v=none/\far v ≠ none:=fun v h=>by
  refine ⟨?_,?_⟩
  ·cases e:far0 v with
   | none=>rfl
   | some d =>
    obtain ⟨h1,h2⟩:=(r.lab v d).mp e
    have:=h1.uniq h
    row_cond lo
  ·obtain ⟨u,t,hu⟩:=h.pred
   exact m.dn u v (hd u ((r.edg u).mpr hu)) t
 refine ⟨fun v d=>?_,fun v=>⟨fun h=>?_,fun h=>(m.new v).mpr (back v h)⟩⟩
 ·constructor
  ·intro e
   cases e0:far0 v with
   | some d0 =>
    rw [m.old v d0 e0] at e
    cases e
    obtain ⟨h1,h2⟩:=(r.lab v d).mp e0
    exact ⟨h1,by row_cond lo⟩
   | none =>
    have hk:=(m.val v d e0 e).1
    subst hk
    exact ⟨key v e0 (by rw [e];simp),Nat.le_refl _⟩
  ·rintro ⟨h,hk⟩
   by_cases hd':d<=k
   ·exact m.old v d ((r.lab v d).mpr ⟨h,hd'⟩)
   ·have e1:d=k+1:=by row_cond lo
    subst e1
    obtain ⟨h0,h1⟩:=back v h
    cases e:far v with
    | none=>exact absurd e h1
    | some d=>rw [(m.val v d h0 e).1]
 ·obtain ⟨h0,h1⟩:=(m.new v).mp h
  exact key v h0 h1
theorem Dist.down {v:Int}:∀ {d:Nat},Dist T a v d->∀ j,j<=d->∃ u,Dist T a u j
 | 0, h, j, hj => ⟨v, by rw [show j = 0 by row_cond lo]; exact h⟩
 | d+1,h,j,hj=>by
  by_cases e:j=d+1
  ·rw [e];exact ⟨v,h⟩
  ·obtain ⟨u,_,hu⟩:=h.pred
   exact Dist.down hu j (by row_cond lo)
noncomputable def farO (T:Int->Int->Prop) (a v:Int):Option Nat:=open Classical in if h:∃ d,Dist T a v d then some (Classical.choose h) else none
theorem farO_some {v:Int} {d:Nat}:farO T a v=some d ↔ Dist T a v d:=by
 unfold farO
 constructor
 ·intro h
  split at h
  ·rename_i hx
   cases h
   exact Classical.choose_spec hx
  ·cases h
 ·intro h
  have hx:∃ d,Dist T a v d:=⟨d,h⟩
  rw [dif_pos hx,(Classical.choose_spec hx).uniq h]
theorem farO_none {v:Int}:farO T a v=none ↔ ∀ d,¬ Dist T a v d:=by
 constructor
 ·intro h d hd
  rw [farO_some.mpr hd] at h;cases h
 ·intro h
  cases e:farO T a v with
  | none=>rfl
  | some d=>exact absurd (farO_some.mp e) (h d)
theorem avg {v:Int} {o:Option Nat} (h:∀ d,o=some d ↔ Dist T a v d):o=farO T a v:=by
 cases o with
 | some d=>exact (farO_some.mpr ((h d).mp rfl)).symm
 | none=>exact (farO_none.mpr fun d hd=>by cases (h d).mpr hd).symm
theorem Ring.fin (r:Ring T a k far0 []) (v:Int):far0 v=farO T a v:=by
 refine avg fun d=>?_
 rw [r.lab]
 refine ⟨fun h=>h.1,fun h=>⟨h,?_⟩⟩
 apply Classical.byContradiction
 intro hk
 obtain ⟨u,hu⟩:=h.down k (by row_cond lo)
 have:=(r.edg u).mpr hu
 simp at this
theorem Walk.app {u v w:Int} {i j:Nat} (h:Walk T u i v) (g:Walk T v j w):Walk T u (i+j) w:=by
 induction g with
 | refl=>exact h
 | step _ t ih=>exact .step ih t
theorem Walk.rev (hs:∀ u v,T u v->T v u) {u v:Int} {i:Nat} (h:Walk T u i v):Walk T v i u:=by
 induction h with
 | refl=>exact .refl
 | @step j x y _ t ih =>
  have:=(Walk.step (T:=T) (u:=y) .refl (hs _ _ t)).app ih
  rw [Nat.add_comm] at this
  exact this
theorem Dist.rev (hs:∀ u v,T u v->T v u) {u v:Int} {d:Nat} (h:Dist T u v d):Dist T v u d:=⟨h.1.rev hs,fun k w=>h.2 k (w.rev hs)⟩
theorem Dist.lt {n:Nat} (hT:∀ u v,T u v->0<=v/\v < (n:Int)) (ha:0<=a/\a < (n:Int)) {v:Int} {d:Nat} (h:Dist T a v d):d < n:=by
 -- the places of a shortest way are unlike
 have key:∀ d v,Dist T a v d->∃ l:List Int,l.length=d+1/\l.Nodup/\∀ x∈l,(0<=x/\x < (n:Int))/\∃ j,j<=d/\Dist T a x j:=by
  intro d
  induction d with
  | zero =>
   intro v h
   have:v=a:=by cases h.1;rfl
   subst this
   exact ⟨[v],rfl,by simp,fun x hx=>by simp at hx;subst hx;exact ⟨ha,0,Nat.le_refl _,h⟩⟩
  | succ d ih =>
   intro v h
   obtain ⟨u,t,hu⟩:=h.pred
   obtain ⟨l,h1,h2,h3⟩:=ih u hu
   refine ⟨v :: l,by simp [h1],List.nodup_cons.mpr ⟨fun hm=>?_,h2⟩,fun x hx=>?_⟩
   ·obtain ⟨_,j,hj,hd⟩:=h3 v hm
    have:=hd.uniq h
    row_cond lo
   ·rcases List.mem_cons.mp hx with rfl | hx
    ·exact ⟨hT _ _ t,d+1,Nat.le_refl _,h⟩
    ·obtain ⟨q,j,hj,hd⟩:=h3 x hx
     exact ⟨q,j,by row_cond lo,hd⟩
 obtain ⟨l,h1,h2,h3⟩:=key d v h
 have few:∀ (n:Nat) (l:List Int),l.Nodup->(∀ v∈l,0<=v/\v < (n:Int))->l.length<=n:=by
  intro n
  induction n with
  | zero =>
   intro l _ h
   cases l with
   | nil=>simp
   | cons v r => have:=h v (by simp); row_cond lo
  | succ n ih =>
   intro l hn h
   have h1:=ih (l.erase (n:Int)) (hn.erase _) fun v hv=>by
    have hm:=List.mem_of_mem_erase hv
    have hb:=h v hm
    have hne:v ≠ (n:Int):=by
     rintro rfl
     exact absurd hv (List.Nodup.not_mem_erase hn)
    row_cond lo
   have h2:l.length<=(l.erase (n:Int)).length+1:=by
    rw [List.length_erase]
    split <;> row_cond lo
   row_cond lo
 have:=few n l h2 fun x hx=>(h3 x hx).1
 row_cond lo
end Gr
namespace VL
open PySem PySem.Spec L2
theorem nodup_ix {α:Type} {xs:List α} (h:xs.Nodup) {i j:Nat} (hi:i < xs.length) (hj:j < xs.length) (e:xs[i]=xs[j]):i=j:=by
 have p:=List.pairwise_iff_getElem.mp h
 rcases Nat.lt_trichotomy i j with q | q | q
 ·exact absurd e (p i j hi hj q)
 ·exact q
 ·exact absurd e.symm (p j i hj hi q)
noncomputable def OLL (dss:List (List PyData)):Own where
 P:=fun G H v F=>∃ (a:Addr) (as:List Addr),v=.ref a/\H a=some (.lst (as.map V.ref))/\as.Nodup/\a ∉ as/\as.length=dss.length/\(∀ (i:Nat) b ds,as[i]?=some b->dss[i]?=some ds->∃ vs,H b=some (.lst vs)/\Rps G vs ds)/\∀ b,F b ↔ b=a\/b∈as
 mono:=fun ⟨a,as,e,h,n1,n2,l,r,f⟩ g hh=>⟨a,as,e,hh a _ ((f a).mpr (.inl rfl)) h,n1,n2,l,fun i b ds hb hd=>by
  obtain ⟨vs,h1,h2⟩:=r i b ds hb hd
  exact ⟨vs,hh b _ ((f b).mpr (.inr (List.mem_of_getElem? hb))) h1,h2.same g⟩,f⟩
 dom:=fun ⟨a,as,e,h,n1,n2,l,r,f⟩ b z=>by
  rcases (f b).mp z with rfl | z
  ·exact ⟨_,h⟩
  ·obtain ⟨i,hi,e⟩:=List.mem_iff_getElem.mp z
   have hb:as[i]?=some b:=by rw [List.getElem?_eq_getElem hi,e]
   obtain ⟨vs,h1,_⟩:=r i b _ hb (List.getElem?_eq_getElem (by rw [← l];exact hi))
   exact ⟨_,h1⟩
theorem ak8 {G:Hp}:∀ {vs:List V} {ds:List PyData},vs.length=ds.length->(∀ (i:Nat) v d,vs[i]?=some v->ds[i]?=some d->Rp G v d)->Rps G vs ds
 | [],[],_,_ => .nil
 | [],_ :: _,h,_=>by simp at h
 | _ :: _,[],h,_=>by simp at h
 | v :: vs,d :: ds,h,k => .cons (k 0 v d rfl rfl) (ak8 (by simpa using h) fun i v d h1 h2=>k (i+1) v d (by simpa using h1) (by simpa using h2))
theorem afm {dss:List (List PyData)}:Frz (OLL dss) (.list (dss.map .list)):=fun G H v F ⟨a,as,e,h,n1,n2,l,r,f⟩ n g=>by
 subst e
 refine .lst (by rw [ajw ((f a).mpr (.inl rfl))];exact h) (ak8 (by simp [l]) fun i u d hu hd=>?_)
 rw [List.getElem?_map] at hu hd
 cases hb:as[i]? with
 | none=>rw [hb] at hu;cases hu
 | some b =>
  cases hds:dss[i]? with
  | none=>rw [hds] at hd;cases hd
  | some ds =>
   rw [hb] at hu;rw [hds] at hd
   cases hu;cases hd
   obtain ⟨vs,h1,h2⟩:=r i b ds hb hds
   exact .lst (by rw [ajw ((f b).mpr (.inr (List.mem_of_getElem? hb)))];exact h1) (h2.same (abx n))
section
variable {B:Bs} {env:En} {QO:Sl->En->Prop} {Q':PyData->En->Prop} {D':VEnds} {K:PySem.W.Frag} {i:Nat}
theorem ayi {dss:List (List PyData)} {R:PyData->Prop} (h:R (.list (dss.map .list))):FQ (.own (OLL dss)) R:=⟨_,afm,h⟩
theorem avh {src:List (Option Nat)} {wi:TI} {j:Nat} (h:EvI B wi env fun ds e1=>ds.length<=1000000/\QO (.own (OLL (List.replicate ds.length []))) e1):EvO B (tLC src wi (aa2 j) tYes (tLst tNil)) env QO:=fun σ G H F Q I k=>by
 refine h σ G H F _ I fun J G1 H1 F1 ds e1 I1 g1 it ⟨hle,q⟩ acc hacc=>?_
 let W:Nat->List V->Hp->Prop:=fun n ys H=>∃ (as:List Addr) (G2:Hp),ys=as.map V.ref/\as.length=n/\as.Nodup/\acc ∉ as/\(∀ b∈as,H1 b=none/\G2 b=none/\H b=some (.lst []))/\H acc=some (.lst ys)/\G2 acc=none/\Same G1 G2/\Same G2 H/\Same H1 H/\(∀ a o,G2 a=some o->G1 a=some o\/H1 a=none)/\FT G2 H
 refine ⟨fun n m ys σI H=>m=ds.length - n/\n<=ds.length/\W n ys H,⟨ds.length,by simp,Nat.zero_le _,[],G1,rfl,rfl,List.nodup_nil,by simp,fun b hb=>by simp at hb,aai,I1.no_g hacc,Same.refl _,I1.gh.trans (abf hacc),abf hacc,fun a o e => .inl e,fun a ks e=>?_⟩,?_⟩
 ·by_cases z:a=acc
  ·subst z;rw [aai] at e;cases e
  ·rw [aaf z] at e;exact I1.ft a ks e
 rintro n m ys σI H2 ⟨rfl,hn,as,G2,rfl,hl,nd,na,all,hac,ga,g2,gh2,hh2,gn2,ft2⟩
 refine ⟨hac,?_⟩
 by_cases hlt:n < ds.length
 ·refine .inr ⟨it.go n G2 H2 g2 gh2 hlt,fun ys' σ' H'=>W (n+1) ys' H',fun ys' σ' H' hw=>⟨ds.length - (n+1),by row_cond lo,rfl,hlt,hw⟩,fun x H3 y=>?_⟩
  obtain ⟨G3,o⟩:=it.yld n G2 H2 x H3 _ g2 gh2 ft2 (List.getElem?_eq_getElem hlt) y
  refine amx (apr (abo (axe (apo ⟨by decide,fun p hp=>?_⟩))))
  have n2:H2 p=none:=abr o.hh hp
  have n1:H1 p=none:=abr hh2 n2
  have pa:p ≠ acc:=(aap (o.hh _ _ hac) hp).symm
  have pas:p ∉ as:=fun z=>by
   have:=o.hh _ _ (all p z).2.2
   rw [this] at hp;cases hp
  refine ⟨by rw [aaf pa.symm];exact o.hh _ _ hac,by rw [List.length_map,hl];exact big (by row_cond lo),as ++ [p],G3,by simp,by simp [hl],?_,?_,fun b hb=>?_,aai,?_,g2.trans o.gg,fun a u e=>?_,fun a u e=>?_,fun a u e=>?_,fun a ks e=>?_⟩
  ·rw [List.nodup_append]
   exact ⟨nd,by simp,fun x hx y hy=>by simp at hy;subst hy;intro e;subst e;exact pas hx⟩
  ·intro z
   rcases List.mem_append.mp z with z | z
   ·exact na z
   ·exact pa (List.mem_singleton.mp z).symm
  ·have gb:∀ b,G2 b=none->(∃ u,H2 b=some u)->G3 b=none:=fun b h1 z_=>by
    obtain ⟨u,h2⟩:=z_
    cases e:G3 b with
    | none=>rfl
    | some w =>
     rcases o.gn b w e with e | e
     ·rw [h1] at e;cases e
     ·rw [h2] at e;cases e
   rcases List.mem_append.mp hb with hb | hb
   ·obtain ⟨h1,h2,h3⟩:=all b hb
    refine ⟨h1,gb b h2 ⟨_,h3⟩,?_⟩
    rw [aaf (fun z:b=acc=>na (by rw [← z];exact hb)),aaf (fun z:b=p=>pas (by rw [← z];exact hb))]
    exact o.hh _ _ h3
   ·have e:b=p:=by simpa using hb
    subst e
    exact ⟨n1,abr o.gh hp,by rw [aaf pa,aai]⟩
  ·cases e:G3 acc with
   | none=>rfl
   | some w =>
    rcases o.gn acc w e with e | e
    ·rw [ga] at e;cases e
    ·rw [hac] at e;cases e
  ·have ap:a ≠ p:=aap (o.gh a u e) hp
   have aa:a ≠ acc:=by
    rintro rfl
    rcases o.gn _ u e with e | e
    ·rw [ga] at e;cases e
    ·rw [hac] at e;cases e
   rw [aaf aa,aaf ap];exact o.gh a u e
  ·have ap:a ≠ p:=aap e n1
   have aa:a ≠ acc:=aap e hacc
   rw [aaf aa,aaf ap];exact o.hh _ _ (hh2 a u e)
  ·rcases o.gn a u e with e | e
   ·exact gn2 a u e
   ·exact .inr (abr hh2 e)
  ·by_cases z:a=acc
   ·subst z;rw [aai] at e;cases e
   ·rw [aaf z] at e
    by_cases y:a=p
    ·subst y;rw [aai] at e;cases e
    ·rw [aaf y] at e;exact o.ft ft2 a ks e
 ·have e:n=ds.length:=by row_cond lo
  subst e
  refine .inl ⟨it.stop _ G2 H2 g2 gh2 rfl,?_⟩
  have I2:=I1.grow g2 gh2 hh2 gn2 ft2
  refine k (.ref acc) G2 H2 F1 (fun b=>b=acc\/b∈as) (.own (OLL (List.replicate ds.length []))) e1 I2 (g1.trans g2) ⟨⟨acc,as,rfl,hac,nd,na,by simp [hl],fun i b ds' hb hd=>?_,fun b=>Iff.rfl⟩,fun b z=>?_,fun b z=>?_,fun b z=>?_,fun j b z y=>?_⟩ q
  ·rw [List.getElem?_replicate] at hd
   split at hd
   ·cases hd;exact ⟨[],(all b (List.mem_of_getElem? hb)).2.2,.nil⟩
   ·cases hd
  ·rcases z with rfl | z
   ·exact I1.no_b hacc
   ·exact I1.no_b (all b z).1
  ·rcases z with rfl | z
   ·exact ga
   ·exact (all b z).2.1
  ·rcases z with rfl | z
   ·exact ⟨_,hac⟩
   ·exact ⟨_,(all b z).2.2⟩
  ·rcases z with rfl | z
   ·exact I1.no_f hacc j y
   ·exact I1.no_f (all b z).1 j y
theorem ag5 {dss:List (List PyData)} {l j n:Nat} {k:Int} {y:PyData} {ds:List PyData} (e:env[i]?=some (some (.own (OLL dss)))) (ek:env[l]?=some (some (.st (.int k)))) (ey:env[j]?=some (some (.st y)))
  (hk:ixN dss.length k=some n) (hd:dss[n]?=some ds) (hl:ds.length<=999999) (q:Q' .none (env.set i (some (.own (OLL (dss.set n (ds ++ [y]))))))):Ev B (tBM K "list" ad5 (tOp (ab8 K) (tVar i) (tVar l)) (aa4 (tVar j) tNil)) env Q':=fun σ G H F Q I kk=>by
 obtain ⟨v,hv,⟨a,as,rfl,h,n1,n2,ln,r,f⟩,_⟩:=I.sl i _ e
 obtain ⟨vk,hvk,rk,_⟩:=I.sl l _ ek
 obtain ⟨vy,hvy,ry,_⟩:=I.sl j _ ey
 cases rk
 have hn:n < dss.length:=(List.getElem?_eq_some_iff.mp hd).1
 have hb:as[n]?=some (as[n]'(by row_cond lo)):=List.getElem?_eq_getElem _
 generalize as[n]'(by row_cond lo)=b at hb
 have hbm:b∈as:=List.mem_of_getElem? hb
 obtain ⟨vs,h1,h2⟩:=r n b ds hb hd
 have hat:atI (as.map V.ref) k=some (.ref b):=by
  unfold atI
  rw [List.length_map,ln,hk]
  simp [hb]
 refine ⟨_,hv,_,hvk,aed h hat ⟨.inl ⟨rfl,_,SqL.of h1⟩,_,hvy,aes h1 (by rw [h2.length];exact big (by row_cond lo)) ?_⟩⟩
 have hne:a ≠ b:=fun z=>n2 (z ▸ hbm)
 have J:=I.change (A:=OLL (dss.set n (ds ++ [y]))) (H2:=upd H b (.lst (vs ++ [vy]))) (F2:=F i) (os':=.own (OLL (dss.set n (ds ++ [y])))) i e hv (fun c o hc ec=>by rw [aaf (fun z:c=b=>hc ((f c).mpr (.inr (by rw [z];exact hbm))))];exact ec)
  (fun c o ec=>by
   by_cases z:c=b
   ·rw [z];exact ⟨_,aai⟩
   ·rw [aaf z];exact ⟨o,ec⟩)
  (fun c z=>⟨.inl z,by
   by_cases y:c=b
   ·rw [y];exact ⟨_,aai⟩
   ·rw [aaf y];exact I.fo i c z⟩) ?_ (fun c ks e=>by
   by_cases z:c=b
   ·subst z;rw [aai] at e;cases e
   ·rw [aaf z] at e;exact I.ft c ks e) (.inl ⟨rfl,_,rfl⟩)
 ·exact kk _ G _ _ _ _ J (Same.refl _) .non q
 ·refine ⟨a,as,rfl,by rw [aaf hne];exact h,n1,n2,by simp [ln],fun m c es hc hes=>?_,f⟩
  by_cases hm:m=n
  ·subst hm
   rw [hb] at hc;cases hc
   rw [List.getElem?_set,if_pos rfl,if_pos hn] at hes
   cases hes
   exact ⟨_,aai,h2.append (.cons ry .nil)⟩
  ·rw [List.getElem?_set,if_neg (fun z=>hm z.symm)] at hes
   obtain ⟨us,h3,h4⟩:=r m c es hc hes
   refine ⟨us,?_,h4⟩
   rw [aaf]
   ·exact h3
   ·rintro rfl
    have i1:=(List.getElem?_eq_some_iff.mp hb)
    have i2:=(List.getElem?_eq_some_iff.mp hc)
    obtain ⟨l1,e1⟩:=i1
    obtain ⟨l2,e2⟩:=i2
    exact hm (nodup_ix n1 l2 l1 (e2.trans e1.symm))
noncomputable def exO {α:Type} (f : α->Own):Own where
 P:=fun G H v F=>∃ x,(f x).P G H v F
 mono:=fun ⟨x,h⟩ g hh=>⟨x,(f x).mono h g hh⟩
 dom:=fun ⟨x,h⟩=>(f x).dom h
theorem VI.weakO {G H:Hp} {σ:St} {F:Nat->Addr->Prop} {A A':Own} (I:VI B G H σ env F) (e:env[i]?=some (some (.own A))) (h:∀ G H v F,A.P G H v F->A'.P G H v F):VI B G H σ (env.set i (some (.own A'))) F:=by
 refine ⟨I.gh,I.g0,I.gn,I.rs,I.rb,I.bh,I.fg,I.fr,I.fd,I.fo,fun j s es=>?_,by simp [I.ln],I.ft⟩
 by_cases hj:j=i
 ·subst hj
  rw [List.getElem?_set,if_pos rfl,if_pos (List.getElem?_eq_some_iff.mp e).1] at es
  cases es
  obtain ⟨v,hv,q⟩:=I.sl j _ e
  exact ⟨v,hv,h _ _ _ _ q.1,q.2⟩
 ·rw [List.getElem?_set,if_neg (fun z=>hj z.symm)] at es
  exact I.sl j s es
end
@[reducible] noncomputable def prD (p:Int × Int):PyData:=.tuple [.int p.1,.int p.2]
@[reducible] noncomputable def webD (n:Int) (es:List (Int × Int)):PyData:=.tuple [.int n,.list (es.map prD)]
def Tied (es:List (Int × Int)) (u v:Int):Prop:=(u,v)∈es\/(v,u)∈es
theorem Tied.symm {es:List (Int × Int)} {u v:Int} (h:Tied es u v):Tied es v u:=h.elim .inr .inl
def InN (n:Int) (es:List (Int × Int)):Prop:=∀ p∈es,0<=p.1/\p.1 < n/\0<=p.2/\p.2 < n
theorem Tied.in {n:Int} {es:List (Int × Int)} {u v:Int} (hi:InN n es) (h:Tied es u v):(0<=u/\u < n)/\0<=v/\v < n:=by
 rcases h with h | h
 ·have:=hi _ h;exact ⟨⟨this.1,this.2.1⟩,this.2.2⟩
 ·have:=hi _ h;exact ⟨⟨this.2.2.1,this.2.2.2⟩,this.1,this.2.1⟩
theorem Tied.snoc {es:List (Int × Int)} {i:Nat} {a b:Int} (h:es[i]?=some (a,b)) (u v:Int):Tied (es.take (i+1)) u v ↔ (Tied (es.take i) u v\/(u=a/\v=b))\/(u=b/\v=a):=by
 have e:es.take (i+1)=es.take i ++ [(a,b)]:=by rw [List.take_add_one,h];rfl
 unfold Tied
 rw [e]
 simp only [List.mem_append,List.mem_singleton,Prod.mk.injEq]
 constructor
 ·rintro ((h | ⟨rfl,rfl⟩) | (h | ⟨rfl,rfl⟩))
  ·exact .inl (.inl (.inl h))
  ·exact .inl (.inr ⟨rfl,rfl⟩)
  ·exact .inl (.inl (.inr h))
  ·exact .inr ⟨rfl,rfl⟩
 ·rintro (((h | h) | ⟨rfl,rfl⟩) | ⟨rfl,rfl⟩)
  ·exact .inl (.inl h)
  ·exact .inr (.inl h)
  ·exact .inl (.inr ⟨rfl,rfl⟩)
  ·exact .inr (.inr ⟨rfl,rfl⟩)
def TiedL (n:Int) (T:Int->Int->Prop) (tl:List (List Int)):Prop:=(tl.length:Int)=n/\∀ (i:Nat) ws,tl[i]?=some ws->∀ w,w∈ws ↔ T i w
noncomputable def oD:Option Nat->PyData
 | none => .none
 | some d => .int d
noncomputable def lab (n:Nat) (far:Int->Option Nat):List PyData:=(List.range n).map fun (i:Nat)=>oD (far (i:Int))
theorem aca {n:Nat} {far:Int->Option Nat}:(lab n far).length=n:=by simp [lab]
theorem adk {n:Nat} {far:Int->Option Nat} {i:Nat} (h:i < n):(lab n far)[i]?=some (oD (far i)):=by
 unfold lab
 rw [List.getElem?_map,List.getElem?_eq_getElem (by simpa using h)]
 simp
theorem aez {n:Nat} {far:Int->Option Nat} {v:Int} (h0:0<=v) (h:v < n):atI (lab n far) v=some (oD (far v)):=by
 have:=afa (xs:=lab n far) (j:=v.toNat) (adk (by row_cond lo))
 rwa [show ((v.toNat:Nat):Int)=v by row_cond lo] at this
theorem ag6 {n:Nat} {v:Int} (h0:0<=v) (h:v < n):ixN n v=some v.toNat:=by
 unfold ixN;rw [if_pos h0,if_pos h]
theorem ana {n:Nat} {far:Int->Option Nat} {v:Int} {d:Nat} (h0:0<=v) (h:v < n):(lab n far).set v.toNat (.int d)=lab n (Gr.label far v d):=by
 apply List.ext_getElem?
 intro i
 rw [List.getElem?_set]
 by_cases e:v.toNat=i
 ·rw [if_pos e,if_pos (by rw [aca];row_cond lo),adk (by row_cond lo)]
  have:(i:Int)=v:=by row_cond lo
  rw [this,Gr.label_same];rfl
 ·rw [if_neg e]
  by_cases hi:i < n
  ·rw [adk hi,adk hi,Gr.label_ne (by row_cond lo)]
  ·rw [List.getElem?_eq_none_iff.mpr (by rw [aca];row_cond lo),List.getElem?_eq_none_iff.mpr (by rw [aca];row_cond lo)]
theorem ap6 {n:Nat} {f g:Int->Option Nat} (h:∀ v,0<=v->v < (n:Int)->f v=g v):lab n f=lab n g:=by
 unfold lab
 apply List.map_congr_left
 intro i hi
 rw [h i (by row_cond lo) (by have:=List.mem_range.mp hi;row_cond lo)]
theorem avi {o:Option Nat}:isNone (oD o)=o.isNone:=by cases o <;> rfl
theorem ag7 {α:Type} {f : α->PyData} {xs:List α} {i:Int} {x : α} (h:atI xs i=some x):atI (xs.map f) i=some (f x):=by
 unfold atI at h ⊢
 rw [List.length_map]
 cases e:ixN xs.length i with
 | none=>rw [e] at h;cases h
 | some j=>rw [e] at h;simp at h ⊢;exact ⟨_,h,rfl⟩
theorem ag8 {α:Type} {xs:List α} {i:Int} {x : α} (h0:0<=i) (h:xs[i.toNat]?=some x):atI xs i=some x:=by
 have:=afa (xs:=xs) (j:=i.toNat) h
 rwa [show ((i.toNat:Nat):Int)=i by row_cond lo] at this
@[reducible] noncomputable def tlD (tl:List (List Int)):List (List PyData):=tl.map fun ws=>ws.map .int
theorem TiedL.get {n:Int} {T:Int->Int->Prop} {tl:List (List Int)} (h:TiedL n T tl) {v:Int} (h0:0<=v) (h1:v < n):∃ ws,tl[v.toNat]?=some ws/\∀ w,w∈ws ↔ T v w:=by
 have hl:v.toNat < tl.length:=by have:=h.1;row_cond lo
 refine ⟨tl[v.toNat],List.getElem?_eq_getElem hl,fun w=>?_⟩
 rw [h.2 _ _ (List.getElem?_eq_getElem hl) w,show ((v.toNat:Nat):Int)=v by row_cond lo]
theorem afn {tl:List (List Int)} {i:Nat} {ws:List Int} (h:tl[i]?=some ws):(tlD tl)[i]?=some (ws.map .int):=by
 rw [List.getElem?_map,h];rfl
theorem TiedL.put {n:Int} {T:Int->Int->Prop} {tl:List (List Int)} (h:TiedL n T tl) {v q:Int} {ws:List Int} (h0:0<=v) (h1:v < n) (hw:tl[v.toNat]?=some ws):TiedL n (fun a b=>T a b\/(a=v/\b=q)) (tl.set v.toNat (ws ++ [q])):=by
 refine ⟨by rw [List.length_set];exact h.1,fun i us hi w=>?_⟩
 rw [List.getElem?_set] at hi
 by_cases e:v.toNat=i
 ·rw [if_pos e] at hi
  have hl:v.toNat < tl.length:=(List.getElem?_eq_some_iff.mp hw).1
  rw [if_pos (by row_cond lo)] at hi
  cases hi
  have hv:(i:Int)=v:=by row_cond lo
  rw [List.mem_append,List.mem_singleton,h.2 i ws (by rw [← e];exact hw) w,hv]
  simp
 ·rw [if_neg e] at hi
  rw [h.2 i us hi w]
  exact ⟨.inl,fun z=>z.elim id fun z=>by row_cond lo⟩
theorem anb {tl:List (List Int)} {i:Nat} {ws:List Int}:(tlD tl).set i (ws.map .int)=tlD (tl.set i ws):=by
 unfold tlD;rw [List.map_set]
theorem TiedL.iff {n:Int} {T T':Int->Int->Prop} {tl:List (List Int)} (h:TiedL n T tl) (e:∀ u v,T u v ↔ T' u v):TiedL n T' tl:=⟨h.1,fun i ws hi w=>(h.2 i ws hi w).trans (e _ _)⟩
end VL
namespace VL
open PySem L2
noncomputable def cnt (far:Int->Option Nat):Nat->Nat
 | 0=>0
 | n+1=>cnt far n+(if far (n:Int)=none then 1 else 0)
theorem aem {far:Int->Option Nat} {w:Int} {d:Nat}:∀ {n:Nat},(w:Int) ≥ n->cnt (Gr.label far w d) n=cnt far n
 | 0,_=>rfl
 | n+1,h=>by
  unfold cnt
  rw [aem (by row_cond lo),Gr.label_ne (by row_cond lo)]
theorem aix {far:Int->Option Nat} {w:Int} {d:Nat} (h0:0<=w) (hw:far w=none):∀ {n:Nat},w < (n:Int)->cnt (Gr.label far w d) n+1=cnt far n
 | 0, h => by row_cond lo
 | n+1,h=>by
  unfold cnt
  by_cases e:w=n
  ·subst e
   rw [aem (by row_cond lo),Gr.label_same,hw];simp
  ·rw [Gr.label_ne (by row_cond lo)]
   have:=aix h0 hw (n:=n) (d:=d) (by row_cond lo)
   row_cond lo
theorem avj (n:Nat):(List.replicate n [PyData.none]).flatten=lab n (fun _=>none):=by
 apply List.ext_getElem?
 intro i
 by_cases hi:i < n
 ·rw [adk hi]
  have:(List.replicate n [PyData.none]).flatten=List.replicate n PyData.none:=by
   clear hi
   induction n with
   | zero=>rfl
   | succ n ih=>rw [List.replicate_succ,List.flatten_cons,ih,List.replicate_succ];rfl
  rw [this,List.getElem?_replicate,if_pos hi];rfl
 ·rw [List.getElem?_eq_none_iff.mpr (by rw [amv];simp;row_cond lo),List.getElem?_eq_none_iff.mpr (by rw [aca];row_cond lo)]
theorem ama {α:Type} {f : α->PyData} {xs:List α}:(xs.map f).isEmpty=xs.isEmpty:=by cases xs <;> rfl
theorem adf {xs:List Int} {j:Nat} {u w:Int} (hu:xs[j]?=some u) (hm:w∈xs.take (j+1)):w∈xs.take j\/w=u:=by
 rw [List.take_add_one,hu] at hm
 rcases List.mem_append.mp hm with q | q
 ·exact .inl q
 ·exact .inr (by simpa using q)
theorem ap7 {n:Nat} {far:Int->Option Nat}:plainDs (lab n far)=true:=by
 rw [afw]
 intro d hd
 obtain ⟨i,_,rfl⟩:=List.mem_map.mp hd
 cases far (i:Int) <;> rfl
theorem avk {n:Nat} {far:Int->Option Nat}:((lab n far).any fun z=>PyData.eqv z .none)=true ↔ ∃ v:Int,0<=v/\v < n/\far v=none:=by
 rw [List.any_eq_true]
 constructor
 ·rintro ⟨d,hd,e⟩
  obtain ⟨i,hi,rfl⟩:=List.mem_map.mp hd
  refine ⟨i,by row_cond lo,by have:=List.mem_range.mp hi;row_cond lo,?_⟩
  cases h:far (i:Int) with
  | none=>rfl
  | some d=>rw [h] at e;simp [oD,PyData.eqv] at e
 ·rintro ⟨v,h0,h1,h⟩
  refine ⟨oD (far v),?_,by rw [h];rfl⟩
  have:=adk (far:=far) (show v.toNat < n by row_cond lo)
  rw [show ((v.toNat:Nat):Int)=v by row_cond lo] at this
  exact List.mem_of_getElem? this
def Joined (n:Int) (es:List (Int × Int)):Prop:=∀ v,0<=v->v < n->∃ d,Gr.Dist (Tied es) 0 v d
end VL
namespace DI
open PySem PySem.W
def Raw (h:Heap) (d:Addr) (es:Array DictEntry) (ep:Nat):Prop:=∃ o,h.get? d=some o/\o.ExactDict/\o.data=.dict es ep
theorem Raw.keep {h h':Heap} {d:Addr} {es:Array DictEntry} {ep:Nat} (r:Raw h d es ep) (k:∀ o,h.get? d=some o->h'.get? d=some o):Raw h' d es ep:=let ⟨o,e,x⟩:=r;⟨o,k o e,x⟩
theorem Raw.ty {s:Shared} {d:Addr} {es:Array DictEntry} {ep:Nat} (r:Raw s.heap d es ep):s.TypeIs (.ref d) "dict":=let ⟨o,e,x,_⟩:=r;⟨o,e,x.1⟩
section
variable {prog:Program} {w:World} {A:Around} {E:Value->Shared->Prop} {s:Shared} {d it:Addr} {es:Array DictEntry} {ep i:Nat}
theorem asa {Q:Value->Shared->Prop} (hd:(d == sysModules)=false) (r:Raw s.heap d es ep)
  (hQ:Q (.ref s.heap.objs.size) { s with heap:=s.heap.push { cls:=.type "dict_keyiterator",data:=.fields #[.ref d,.int 0 0,.int es.size 0,.int ep 0] } }):wpAny (model prog w) A (pyIter (.ref d)) Q E s:=by
 obtain ⟨o,ho,hx,hdat⟩:=id r
 refine wpAny_pyIter_slot r.ty PySem.F.slot_dict_iter (wpAny_call_entry PySem.F.slot_dict_iter r.ty PySem.F.entry_dict_iter ?body (PySem.F.args_dict_iter_1 _))
 case body =>
  unfold Builtin.«dict.__iter__»
  refine wpAny_bind ?slot
  case slot =>
   unfold Builtin.Dict.dictSlotNone
   refine wpAny_bind (wpAny_notOrdered_dict r.ty ?pl)
   case pl =>
    show wpAny _ _ (pure (Value.ref d)) _ _ s
    refine wpAny_pure ?rest
    case rest =>
     show wpAny _ _ (Builtin.Dict.showsAll d >>= _) _ _ s
     unfold Builtin.Dict.showsAll
     rw [if_neg (by rw [hd];exact Bool.false_ne_true)]
     refine wpAny_bind (wpAny_pure (wpAny_bind (wpAny_dictEntries ho hdat (wpAny_bind (wpAny_dictEpoch ho hdat (wpAny_bind (wpAny_newObj_type (wpAny_pure ⟨_,rfl,"dict_keyiterator",_,⟨_,Heap.get?_push_size _ rfl,rfl⟩,PySem.F.slot_dict_keyiterator_next.lookup,?fin⟩))))))))
     case fin=>simpa [rawInt] using hQ
theorem asb {Q:Option Value->Shared->Prop} (hit:s.heap.IsKeyIter it d i es.size ep) (r:Raw s.heap d es ep) (hi:i < es.size)
  (hQ:∀ h',h'.IsKeyIter it d (i+1) es.size ep->Heap.SameBut it s.heap h'->Q (some es[i].key) { s with heap:=h' }):wpAny (model prog w) A (pyNext (.ref it)) Q E s:=by
 obtain ⟨o,ho,hc,hd⟩:=id hit
 obtain ⟨od,hod,hcd,hdd⟩:=r
 unfold pyNext
 refine wpAny_bind (wpAny_attempt (wpAny_callSpecial?_slot (name:=Str.ofString "__next__") hit.typeIs PySem.F.slot_dict_keyiterator_next (wpAny_call_entry PySem.F.slot_dict_keyiterator_next hit.typeIs PySem.F.entry_dict_keyiterator_next ?b (PySem.F.args_dict_keyiterator_next_1 _))))
 case b =>
  refine wpAny_bind (wpAny_pure (wpAny_bind (wpAny_bind ?c)))
  case c =>
   first | refine wpAny_bind (wpAny_typeNameOfWhole_keyiter hit.typeIs (wpAny_pure (wpAny_bind (wpAny_fieldsOf ho hd ?e)))) | refine wpAny_bind (wpAny_typeNameOf_keyiter hit.typeIs (wpAny_pure (wpAny_bind (wpAny_fieldsOf ho hd ?e))))
   case e =>
    simp only [show Builtin.Dict_items.ownsTuple "dict_keyiterator" = false by decide,Bool.false_eq_true,if_false]
    show wpAny _ _ (if (Value.ref d == Value.none)=true then _ else _) _ _ s;rw [if_neg (show ¬ ((Value.ref d == Value.none)=true) from Bool.false_ne_true)]
    refine wpAny_bind (wpAny_pure (wpAny_bind (wpAny_dictEntries hod hdd ?f)))
    case f =>
     rw [if_neg (by simp)];refine wpAny_bind (wpAny_pure (wpAny_bind (wpAny_dictEpoch hod hdd ?g)))
     case g =>
      rw [if_neg (by simp)];refine wpAny_pure ?h
      case h =>
       simp only [show ¬ ((i:Int) < 0) by row_cond lo,if_false,Int.toNat_natCast,Array.getElem?_eq_getElem hi];refine wpAny_bind ?j
       case j =>
        first | refine wpAny_bind (wpAny_typeNameOfWhole_keyiter hit.typeIs (wpAny_pure (wpAny_bind (wpAny_isOneOf_keyiter hit.typeIs ?k)))) | refine wpAny_bind (wpAny_typeNameOf_keyiter hit.typeIs (wpAny_pure (wpAny_bind (wpAny_isOneOf_keyiter hit.typeIs ?k))))
        case k =>
         show wpAny _ _ (setField (.ref it) 1 (rawInt ((i:Int)+1)) >>= _) _ _ s;refine wpAny_bind (wpAny_setField ho hd (by simp) ?l)
         case l =>
          have nx:(s.heap.update it (Obj.mapFields (·.setIfInBounds 1 (rawInt ((i:Int)+1))))).IsKeyIter it d (i+1) es.size ep:=⟨_,Heap.get?_update_self _ ho (Obj.isFreed_of_fields (Obj.data_mapFields hd _)),(Obj.cls_mapFields ..).trans hc,by rw [Obj.data_mapFields hd];simp [rawInt]⟩
          refine wpAny_bind (wpAny_holding (wpAny_bind (wpAny_isOneOf_keyiter (s:={ s with heap:=s.heap.update it (Obj.mapFields (·.setIfInBounds 1 (rawInt ((i:Int)+1)))) }) nx.typeIs ?m)))
          case m=>show wpAny _ _ (pure es[i].key) _ _ _;exact wpAny_pure (wpAny_pure ⟨_,rfl,wpAny_pure (hQ _ nx (Heap.SameBut.update ..))⟩)
theorem avl {Q:Option Value->Shared->Prop} (hh:A.handled=none) (hit:s.heap.IsKeyIter it d es.size es.size ep) (r:Raw s.heap d es ep) (hQ:∀ h',Heap.ExtBut it s.heap h'->Q none { s with heap:=h' }):wpAny (model prog w) A (pyNext (.ref it)) Q E s:=by
 obtain ⟨o,ho,hc,hd⟩:=id hit
 obtain ⟨od,hod,hcd,hdd⟩:=r
 unfold pyNext
 refine wpAny_bind (wpAny_attempt (wpAny_callSpecial?_slot (name:=Str.ofString "__next__") hit.typeIs PySem.F.slot_dict_keyiterator_next (wpAny_call_entry PySem.F.slot_dict_keyiterator_next hit.typeIs PySem.F.entry_dict_keyiterator_next ?b (PySem.F.args_dict_keyiterator_next_1 _))))
 case b =>
  refine wpAny_bind (wpAny_pure (wpAny_bind (wpAny_bind ?c)))
  case c =>
   first | refine wpAny_bind (wpAny_typeNameOfWhole_keyiter hit.typeIs (wpAny_pure (wpAny_bind (wpAny_fieldsOf ho hd ?e)))) | refine wpAny_bind (wpAny_typeNameOf_keyiter hit.typeIs (wpAny_pure (wpAny_bind (wpAny_fieldsOf ho hd ?e))))
   case e =>
    simp only [show Builtin.Dict_items.ownsTuple "dict_keyiterator" = false by decide,Bool.false_eq_true,if_false]
    show wpAny _ _ (if (Value.ref d == Value.none)=true then _ else _) _ _ s;rw [if_neg (show ¬ ((Value.ref d == Value.none)=true) from Bool.false_ne_true)]
    refine wpAny_bind (wpAny_pure (wpAny_bind (wpAny_dictEntries hod hdd ?f)))
    case f =>
     rw [if_neg (by simp)];refine wpAny_bind (wpAny_pure (wpAny_bind (wpAny_dictEpoch hod hdd ?g)))
     case g =>
      rw [if_neg (by simp)];refine wpAny_pure ?h
      case h =>
       simp only [show ¬ ((es.size:Int) < 0) by row_cond lo,if_false,Int.toNat_natCast,Array.getElem?_eq_none (Nat.le_refl es.size)];refine wpAny_bind ?j
       case j =>
        first | refine wpAny_bind (wpAny_typeNameOfWhole_keyiter hit.typeIs (wpAny_pure ?k)) | refine wpAny_bind (wpAny_typeNameOf_keyiter hit.typeIs (wpAny_pure ?k))
        case k =>
         show wpAny _ _ (setField (.ref it) 0 .none >>= _) _ _ s;refine wpAny_bind (wpAny_setField ho hd (by simp) ?l)
         case l =>
          show wpAny _ _ (newExc (.type "StopIteration") [] >>= _) _ _ _;refine wpAny_bind ?m
          case m =>
           simp only [newExc,newTuple];refine wpAny_bind (wpAny_newObj_type ?zz2 (by size_fits))
           case zz2 =>
            refine wpAny_bind (m:=firstArgMember _ _) (wpAny_of_eq (a:=Value.none) (by first | rfl | (simp only [firstArgMember];rfl)) (wpAny_newObj_type ?zz1 (by size_fits)))
            case zz1 =>
             simp only [raiseNew];refine wpAny_bind (wpAny_handled ?q)
             case q =>
              rw [show A.in1.handled=none from hh];refine wpAny_bind (wpAny_pure (wpAny_throw ?u1))
              case u1=>refine wpAny_bind (wpAny_isInstance (T:="StopIteration") (b:=true) ⟨_,Heap.get?_push_size _ rfl,rfl⟩ isSubtype_stop ?u2);exact wpAny_pure (hQ _ (((Heap.SameBut.update ..).extBut.push _).push _))
end
theorem walks {prog:Program} {w:World} {A:Around} (hh:A.handled=none) (I d:Addr) (hne:d ≠ I) (es:Array DictEntry) (ep:Nat) :
  Walks prog w A I [I,d] [I] es.size (fun i v=>(es[i]?).map (·.key)=some v) (fun i h=>h.IsKeyIter I d i es.size ep/\Raw h d es ep) where
 sub:=fun b hb=>by simp at hb;simp [hb]
 frame:=fun _ _ _ st hk=>⟨st.1.at fun o e=>hk I (by simp) o e,st.2.keep fun o e=>hk d (by simp) o e⟩
 item:=fun i s Q E hi st hQ=>asb st.1 st.2 hi fun h' nx sb=>hQ _ h' s.toks (by rw [Array.getElem?_eq_getElem hi];rfl) ⟨nx,st.2.keep fun o e=>sb.extBut d o hne e⟩ fun b o hb e=>sb.extBut b o (fun z=>hb (by simp [z])) e
 done:=fun s Q E st hQ=>avl hh st.1 st.2 fun h' eb=>hQ h' s.toks fun b o hb e=>eb b o (fun z=>hb (by simp [z])) e
 self:=fun _ _ _ _ st hQ=>wpAny_pyIter_keyiter st.1 hQ
end DI
namespace DI
open PySem PySem.W PyProof.Rows
section
variable {prog:Program} {w:World} {A:Around} {E:Value->Shared->Prop} {s:Shared}
theorem src (d:Addr) (es:Array DictEntry) (ep:Nat) (hd:(d == sysModules)=false):KdlSrc prog w "dict" d d es.size (fun i v=>(es[i]?).map (·.key)=some v) (fun h=>Raw h d es ep) where
 type:=fun s r=>r.ty
 there:=fun h r=>let ⟨o,e,_⟩:=r;⟨Heap.lt_size e,Heap.lt_size e⟩
 keep:=fun h h' r k=>r.keep fun o e=>k d (.inl rfl) o e
 notList:=by decide
 notTuple:=by decide
 hint:=fun A E s Q r q=>kdl_hint_dict r.ty q
 iter:=fun A s hh r=>⟨{ cls:=.type "dict_keyiterator",data:=.fields #[.ref d,.int 0 0,.int es.size 0,.int ep 0] },fun i h=>h.IsKeyIter s.heap.objs.size d i es.size ep/\Raw h d es ep,fun E Q q=>asa hd r q,
  walks hh s.heap.objs.size d (by obtain ⟨o,e,_⟩:=r;exact Nat.ne_of_lt (Heap.lt_size e)) es ep,⟨_,Heap.get?_push_size _ rfl,rfl,rfl⟩,r.keep fun o e=>Heap.get?_push_of_some _ e⟩
end
end DI
namespace TS
open PySem PySem.W PyProof.Rows
section
variable {prog:Program} {w:World} {A:Around} {E:Value->Shared->Prop} {s:Shared}
end
end TS
namespace L2
open PySem PySem.Spec PyProof.Rows
section
variable {X:Cx} {pins:List (Addr × Obj)} {σ:St} {H:Hp} {s:Shared} {h':Heap}
theorem Inv.turnNew {t':Nat} {ch:List Addr} {T:Addr} {o:HO} (I:Inv X pins σ H s) (f:∀ b∈ch,FpOk X pins H b) (k:∀ b u,b ∉ ch->s.heap.get? b=some u->h'.get? b=some u) (hT:s.heap.objs.size<=T) (new:ObjOk X.prog X.w (upd H T o) h' T o) :
  Inv X pins σ (upd H T o) { s with heap:=h',toks:=t' }:=by
 have hn:H T=none:=I.hok.fresh hT
 have nch:∀ b u,H b=some u->b ∉ ch:=fun b u e z=>by rw [(f b z).1] at e;cases e
 refine I.step (g':=s.gens) (d':=s.drawn) (ch:=ch) (fun b hb=>⟨(f b hb).2.2.2.1,(f b hb).2.1,(f b hb).2.2.2.2.1,(f b hb).2.2.2.2.2⟩) (fun b u _ _ hc e _=>k b u hc e) (fun b u _ _ hc e _=>⟨u.slots,k b u hc e⟩)
  (fun b u _ e n=>by rw [aaf (Nat.ne_of_lt (Nat.lt_of_lt_of_le (Heap.lt_size e) hT))];exact n) (fun b u hc e=>⟨u,k b u hc e⟩) (fun b xs e=>by rw [aaf (aap e hn)];exact e) (fun b u v e=>by rw [aaf (aap e hn)];exact e)
  (fun b ps e=>⟨#[],by rw [aaf (aap e hn),e];simp⟩) (fun m hm=>?_) (fun b u e=>?_) I.bare
 ·obtain ⟨u,es,ep,ho,r⟩:=hm
  exact ⟨u,es,ep,k _ u (fun z=>(f _ z).2.1 rfl) ho,r⟩
 ·by_cases hb:b=T
  ·subst hb;rw [aai] at e;cases e;exact new
  ·rw [aaf hb] at e
   refine (I.hok b u e).stay (fun c v hc q=>k c v ?_ q) (fun c q=>by rw [aaf (aap q hn)];exact q) fun c xs q=>by rw [aaf (aap q hn)];exact q
   rcases hc with z | z
   ·rw [z];exact nch b u e
   ·exact nch c _ z
theorem Inv.turnedL {t':Nat} {ch:List Addr} (I:Inv X pins σ H s) (f:∀ b∈ch,FpOk X pins H b) (k:∀ b u,b ∉ ch->s.heap.get? b=some u->h'.get? b=some u):Inv X pins σ H { s with heap:=h',toks:=t' }:=by
 have nch:∀ b u,H b=some u->b ∉ ch:=fun b u e z=>by rw [(f b z).1] at e;cases e
 refine I.step (g':=s.gens) (d':=s.drawn) (ch:=ch) (fun b hb=>⟨(f b hb).2.2.2.1,(f b hb).2.1,(f b hb).2.2.2.2.1,(f b hb).2.2.2.2.2⟩) (fun b u _ _ hc e _=>k b u hc e) (fun b u _ _ hc e _=>⟨u.slots,k b u hc e⟩) (fun _ _ _ _ n=>n)
  (fun b u hc e=>⟨u,k b u hc e⟩) (fun _ _ e=>e) (fun _ _ _ e=>e) (fun b ps e=>⟨#[],by rw [e];simp⟩) (fun m hm=>?_) (fun b u e=>?_) I.bare
 ·obtain ⟨u,es,ep,ho,r⟩:=hm
  exact ⟨u,es,ep,k _ u (fun z=>(f _ z).2.1 rfl) ho,r⟩
 ·refine (I.hok b u e).stay (fun c v hc q=>k c v ?_ q) (fun _ q=>q) fun _ _ q=>q
  rcases hc with z | z
  ·rw [z];exact nch b u e
  ·exact nch c _ z
end
noncomputable def Ite (K:PySem.W.Frag) (a:Addr):It :=
 ⟨fun i H=>∃ xs x,SqL K H a xs/\xs[i]?=some x,fun i H x H'=>∃ p y,x=.ref p/\H p=none/\H'=upd H p (.tup [.int i,y])/\∀ xs,SqL K H a xs->xs[i]?=some y,fun i H=>∃ xs,SqL K H a xs/\xs.length<=i⟩
noncomputable def Itz (K:PySem.W.Frag) (a b:Addr):It :=
 ⟨fun i H=>∃ xs ys x y,SqL K H a xs/\SqL K H b ys/\xs[i]?=some x/\ys[i]?=some y,fun i H v H'=>∃ p x y,v=.ref p/\H p=none/\H'=upd H p (.tup [x,y])/\(∀ xs,SqL K H a xs->xs[i]?=some x)/\∀ ys,SqL K H b ys->ys[i]?=some y,
  fun i H=>∃ xs ys,SqL K H a xs/\SqL K H b ys/\min xs.length ys.length=i⟩
theorem ap8 {P:Program} {w:World} {K:PySem.W.Frag} {elts:List Expr} {k:Nat} {pos:Pos} (a e it:Addr) (hei:e ≠ it) (hae:a ≠ e) (hai:a ≠ it) :
  Turn P w K (.Tuple elts k pos) (Ite K a) [e,it] e (fun i h=>(∃ old,IsEnum h e it i old)/\h.IsListIter it a i) where
 mem:=by simp
 obj:=fun i h st b hb=>by
  obtain ⟨⟨old,he⟩,o,e1,c,d⟩:=st
  rcases List.mem_cons.mp hb with rfl | hb
  ·exact ⟨_,he,fun v z=>by simp at z⟩
  ·have:b=it:=by simpa using hb
   subst this
   exact ⟨o,e1,fun v z=>by rw [d] at z;cases z⟩
 keep:=fun i h h' st q=>⟨let ⟨old,he⟩:=st.1;⟨old,q e (by simp) _ he⟩,st.2.at fun o x=>q it (by simp) o x⟩
 item:=by
  intro X hP hw hK hc i pins s σ H E I hf st hg
  subst hP hw hK
  obtain ⟨xs,x,hq,hx⟩:=hg
  obtain ⟨its,rv,p,hz⟩:=I.list hq
  obtain ⟨u,hu,ru⟩:=rv.get hx
  have hi:i < its.toArray.size:=by simpa using (List.getElem?_eq_some_iff.mp hu).1
  have W:=WalksT.enumerate (prog:=X.prog) (w:=X.w) (I.ok.hd hc) e it a hei hae hai its.toArray
  refine W.item i s _ _ hi ⟨st.1,st.2,p.isList⟩ fun T vals h1 tk hP hT isT mid kk=>⟨_,rfl,?_⟩
  obtain ⟨t,y,hy,rfl⟩:=hP
  have ey:y=u:=by
   have:its[i]?=some y:=by simpa using hy
   rw [hu] at this;cases this;rfl
  subst ey
  have aT:=W.apart i T _ mid
  refine W.go elts k pos i T { s with heap:=h1,toks:=tk } _ _ mid fun h2 st2 k2=>?_
  have isT2:IsTup h2 T #[.int i t,y]:=by
   obtain ⟨o,e1,e2,n,e3⟩:=isT
   exact ⟨o,k2 T o aT e1,e2,n,e3⟩
  refine ⟨.ref T,upd H T (.tup [.int i,x]),I.turnNew hf (fun b o hb q=>k2 b o hb (kk b o hb q)) hT ?_,rfl,⟨T,x,rfl,I.hok.fresh hT,rfl,fun ys hy=>by rw [I.list_inj hy hq];exact hx⟩,⟨?_,st2.2.1⟩,fun b hb=>?_⟩
  ·exact ⟨by show (2:Nat)<=sizeLine;decide,[.int i t,y],.cons ⟨t,rfl⟩ (.cons ru .nil),isT2⟩
  ·obtain ⟨old,q⟩:=st2.1
   exact ⟨old,by simpa using q⟩
  ·rw [aaf]
   ·exact (hf b hb).1
   ·rintro rfl;exact aT hb
 done:=by
  intro X hP hw hK hc i pins s σ H E I hf st hg
  subst hP hw hK
  obtain ⟨xs,hq,hx⟩:=hg
  obtain ⟨its,rv,p,hz⟩:=I.list hq
  obtain ⟨⟨old,he⟩,hit⟩:=st
  have hl:=rv.length
  exact wpAny_pyNext_enum_end (I.ok.hd hc) he hit p.isList (by simp;row_cond lo) fun h2 eb=>⟨rfl,I.turnedL (t':=s.toks) hf fun b o hb q=>eb b o (fun z=>hb (by simp [z])) q⟩
 self:=fun A i s Q E st h=>by
  obtain ⟨⟨old,he⟩,_⟩:=st
  exact wpAny_pyIter_enum he h
section
variable {X:Cx} {elts:List Expr} {k:Nat} {tpos:Pos}
def att (K:PySem.W.Frag) (ta:TA):TI:=fun σ H R=>ta σ H fun vs H1=>∃ a xs,vs=[.ref a]/\SqL K H1 a xs/\R (Ite K a) H1
theorem avm {a:Expr} {ta:TA} {p pos:Pos} (hg:Gl X "enumerate") (hm:X.mg "enumerate" = none) (ha:PA X [a] ta) (hs:starEach [a] X.env=[(false,eval a X.env)]:=by rfl):PI X (.Tuple elts k tpos) (.Call (.Name "enumerate" p) [a] [] pos) (att X.K ta):=by
 intro pins s σ H R I h
 refine Call_ (acb I hg hm akj (PyProof.Rows.callWith_type1 (thn (ha pos pins s σ H _ I h) fun us s1 ⟨vs,H1,I1,r1,a,xs,ev,hq,q⟩=>?_) hs rfl))
 subst ev
 obtain ⟨u,rfl,ru⟩:=acn r1
 cases ru
 obtain ⟨its,rv,pl,hz⟩:=I1.list hq
 refine call_enumerate_list pl.isList fun h2 he hit hsz kp=>?_
 have hlt:a < s1.heap.objs.size:=by obtain ⟨o,n,e,_⟩:=pl;exact Heap.lt_size e
 refine wpAny_pyIter_enum he ⟨s1.heap.objs.size+1,[s1.heap.objs.size+1,s1.heap.objs.size],_,_,H1,rfl,I1.kept (t':=s1.toks) kp,ap8 a _ _ (Nat.succ_ne_self _) (Nat.ne_of_lt (Nat.lt_succ_of_lt hlt)) (Nat.ne_of_lt hlt),⟨⟨_,he⟩,hit⟩,fun b hb=>?_,q⟩
 have hb':s1.heap.objs.size<=b:=by
  rcases List.mem_cons.mp hb with rfl | hb
  ·exact Nat.le_succ _
  ·have:b=s1.heap.objs.size:=by simpa using hb
   exact Nat.le_of_eq this.symm
 exact I1.fpOk hb' (I1.hok.fresh hb')
end
theorem asd {P:Program} {w:World} {K:PySem.W.Frag} {elts:List Expr} {k:Nat} {pos:Pos} (z TI TO i1 i2 l1 l2:Addr) (D:ZipApart z TI TO i1 i2 l1 l2) :
  Turn P w K (.Tuple elts k pos) (Itz K l1 l2) [z,TI,TO,i1,i2] z (fun i h=>IsZip h z TI TO .none/\IsPair h TI (.ref i1) (.ref i2)/\(∃ a b,IsPair h TO a b)/\h.IsListIter i1 l1 i/\h.IsListIter i2 l2 i) where
 mem:=by simp
 obj:=fun i h st b hb=>by
  obtain ⟨hz,hTI,⟨a,b',hTO⟩,⟨o1,e1,c1,d1⟩,⟨o2,e2,c2,d2⟩⟩:=st
  simp only [List.mem_cons,List.not_mem_nil,or_false] at hb
  rcases hb with rfl | rfl | rfl | rfl | rfl
  ·exact ⟨_,hz,fun v y=>by simp at y⟩
  ·exact ⟨_,hTI,fun v y=>by simp at y⟩
  ·exact ⟨_,hTO,fun v y=>by simp at y⟩
  ·exact ⟨o1,e1,fun v y=>by rw [d1] at y;cases y⟩
  ·exact ⟨o2,e2,fun v y=>by rw [d2] at y;cases y⟩
 keep:=fun i h h' st q=>by
  obtain ⟨hz,hTI,⟨a,b',hTO⟩,h1,h2⟩:=st
  exact ⟨q z (by simp) _ hz,q TI (by simp) _ hTI,⟨a,b',q TO (by simp) _ hTO⟩,h1.at fun o x=>q i1 (by simp) o x,h2.at fun o x=>q i2 (by simp) o x⟩
 item:=by
  intro X hP hw hK hc i pins s σ H E I hf st hg
  subst hP hw hK
  obtain ⟨xs,ys,x,y,hq1,hq2,hx,hy⟩:=hg
  obtain ⟨us,rv1,p1,_⟩:=I.list hq1
  obtain ⟨vs,rv2,p2,_⟩:=I.list hq2
  obtain ⟨u,hu,ru⟩:=rv1.get hx
  obtain ⟨v,hv,rv⟩:=rv2.get hy
  have hi:i < min us.toArray.size vs.toArray.size:=by
   have a1:=(List.getElem?_eq_some_iff.mp hu).1
   have a2:=(List.getElem?_eq_some_iff.mp hv).1
   simp;row_cond lo
  obtain ⟨hz,hTI,hTO,h1,h2⟩:=st
  have W:=WalksT.zip2 (prog:=X.prog) (w:=X.w) (I.ok.hd hc) z TI TO i1 i2 l1 l2 D us.toArray vs.toArray
  refine W.item i s _ _ hi ⟨hz,hTI,hTO,h1,h2,p1.isList,p2.isList⟩ fun T vals h3 tk hP hT isT mid kk=>⟨_,rfl,?_⟩
  obtain ⟨x',y',hx',hy',rfl⟩:=hP
  have ex:x'=u:=by
   have:us[i]?=some x':=by simpa using hx'
   rw [hu] at this;cases this;rfl
  have ey:y'=v:=by
   have:vs[i]?=some y':=by simpa using hy'
   rw [hv] at this;cases this;rfl
  subst ex ey
  have aT:=W.apart i T _ mid
  have sub:∀ b,b ∉ [z,TI,TO,i1,i2]->b ∉ [z,TO,i1,i2]:=fun b hb y=>hb (by simp at y ⊢;rcases y with y | y | y | y <;> simp [y])
  have Tt:T ∉ [z,TI,TO,i1,i2]:=fun y=>by
   have:=(hf T y).1
   obtain ⟨o,e,_⟩:=isT
   simp only [List.mem_cons,List.not_mem_nil,or_false] at y
   rcases y with rfl | rfl | rfl | rfl | rfl
   ·exact aT (by simp)
   ·exact absurd (Heap.lt_size hTI) (Nat.not_lt.mpr hT)
   ·exact aT (by simp)
   ·exact aT (by simp)
   ·exact aT (by simp)
  refine W.go elts k pos i T { s with heap:=h3,toks:=tk } _ _ mid fun h4 st4 k4=>?_
  have isT4:IsTup h4 T #[x',y']:=by
   obtain ⟨o,e1,e2,n,e3⟩:=isT
   exact ⟨o,k4 T o aT e1,e2,n,e3⟩
  refine ⟨.ref T,upd H T (.tup [x,y]),I.turnNew hf (fun b o hb q=>k4 b o (sub b hb) (kk b o (sub b hb) q)) hT ?_,rfl,⟨T,x,y,rfl,I.hok.fresh hT,rfl,fun zs hz'=>by rw [I.list_inj hz' hq1];exact hx,fun zs hz'=>by rw [I.list_inj hz' hq2];exact hy⟩,⟨st4.1,st4.2.1,st4.2.2.1,st4.2.2.2.1,st4.2.2.2.2.1⟩,fun b hb=>?_⟩
  ·exact ⟨by show (2:Nat)<=sizeLine;decide,[x',y'],.cons ru (.cons rv .nil),isT4⟩
  ·rw [aaf]
   ·exact (hf b hb).1
   ·rintro rfl;exact Tt hb
 done:=by
  intro X hP hw hK hc i pins s σ H E I hf st hg
  subst hP hw hK
  obtain ⟨xs,ys,hq1,hq2,hx⟩:=hg
  obtain ⟨us,rv1,p1,_⟩:=I.list hq1
  obtain ⟨vs,rv2,p2,_⟩:=I.list hq2
  obtain ⟨hz,hTI,hTO,h1,h2⟩:=st
  have W:=WalksT.zip2 (prog:=X.prog) (w:=X.w) (I.ok.hd hc) z TI TO i1 i2 l1 l2 D us.toArray vs.toArray
  have ei:min us.toArray.size vs.toArray.size=i:=by
   rw [← hx,rv1.length,rv2.length];simp
  have sub:∀ b,b ∉ [z,TI,TO,i1,i2]->b ∉ [z,TO,i1,i2]:=fun b hb y=>hb (by simp at y ⊢;rcases y with y | y | y | y <;> simp [y])
  rw [← ei] at h1 h2
  exact W.done s _ _ ⟨hz,hTI,hTO,h1,h2,p1.isList,p2.isList⟩ fun h3 tk kk=>⟨rfl,I.turnedL (t':=tk) hf fun b o hb q=>kk b o (sub b hb) q⟩
 self:=fun A i s Q E st h=>wpAny_pyIter_zip st.1 h
theorem ayj {n a b:Nat} (h1:a < n) (h2:b < n):ZipApart (n+4) (n+2) (n+3) n (n+1) a b:=by constructor <;> (show (_:Nat) ≠ _;row_cond lo)
section
variable {X:Cx} {elts:List Expr} {k:Nat} {tpos:Pos}
def iZip (K:PySem.W.Frag) (ta:TA):TI:=fun σ H R=>ta σ H fun vs H1=>∃ a b xs ys,vs=[.ref a,.ref b]/\SqL K H1 a xs/\SqL K H1 b ys/\R (Itz K a b) H1
theorem ap9 {a b:Expr} {ta:TA} {p pos:Pos} (hg:Gl X "zip") (hm:X.mg "zip" = none) (ha:PA X [a,b] ta) (hs:starEach [a,b] X.env=[(false,eval a X.env),(false,eval b X.env)]:=by rfl) (hs2:starEach [b] X.env=[(false,eval b X.env)]:=by rfl):PI X (.Tuple elts k tpos) (.Call (.Name "zip" p) [a,b] [] pos) (iZip X.K ta):=by
 intro pins s σ H R I h
 refine Call_ (acb I hg hm axm (PyProof.Rows.callWith_type1 (thn (ha pos pins s σ H _ I h) fun us s1 ⟨vs,H1,I1,r1,a,b,xs,ys,ev,hq1,hq2,q⟩=>?_) (by rw [hs,hs2]) (by rw [hs2];rfl)))
 subst ev
 obtain ⟨u,c,rfl,ru,rc⟩:=ae9 r1
 cases ru
 cases rc
 obtain ⟨_,_,p1,_⟩:=I1.list hq1
 obtain ⟨_,_,p2,_⟩:=I1.list hq2
 have l1:a < s1.heap.objs.size:=by obtain ⟨o,n,e,_⟩:=p1;exact Heap.lt_size e
 have l2:b < s1.heap.objs.size:=by obtain ⟨o,n,e,_⟩:=p2;exact Heap.lt_size e
 refine call_zip_2 p1.isList p2.isList fun h2 hz hTI hTO h1 h3 hsz kp=>?_
 refine wpAny_pyIter_zip hz ⟨s1.heap.objs.size+4,[s1.heap.objs.size+4,s1.heap.objs.size+2,s1.heap.objs.size+3,s1.heap.objs.size,s1.heap.objs.size+1],_,_,H1,rfl,I1.kept (t':=s1.toks) kp,asd _ _ _ _ _ a b (ayj l1 l2),⟨hz,hTI,⟨_,_,hTO⟩,h1,h3⟩,fun c hc=>?_,q⟩
 have hc':s1.heap.objs.size<=c:=by
  simp only [List.mem_cons,List.not_mem_nil,or_false] at hc
  rcases hc with rfl | rfl | rfl | rfl | rfl
  ·exact Nat.le_add_right _ 4
  ·exact Nat.le_add_right _ 2
  ·exact Nat.le_add_right _ 3
  ·exact Nat.le_refl _
  ·exact Nat.le_add_right _ 1
 exact I1.fpOk hc' (I1.hok.fresh hc')
end
end L2
namespace L2
open PySem PySem.Spec PyProof.Rows
theorem anc:∀ {xs:List V} {us:List Value},xs.length=us.length->(∀ (i:Nat) v u,xs[i]?=some v->us[i]?=some u->RelV v u)->Vals xs us
 | [],[],_,_ => .nil
 | [],_ :: _,h,_=>by simp at h
 | _ :: _,[],h,_=>by simp at h
 | x :: xs,u :: us,h,k => .cons (k 0 x u rfl rfl) (anc (by simpa using h) fun i v w h1 h2=>k (i+1) v w (by simpa using h1) (by simpa using h2))
section
variable {X:Cx}
def ak9 (K:PySem.W.Frag):List V->Hp->VK->Prop:=fun xs H Q=>∃ p ys,xs=[.ref p]/\(SqL K H p ys\/SqT K H p ys)/\∀ l,H l=none->Q (.ref l) (upd H l (.lst ys))
theorem aot:aa9 X (.type "list") (ak9 X.K):=akc
def aqa (ta:TA):TE:=fun σ H Q=>ta σ H fun vs H1=>∃ j:Int,vs=[.int j]/\0<=j/\j<=1000000/\∀ l,H1 l=none->Q (.ref l) (upd H1 l (.lst ((List.range j.toNat).map fun (i:Nat)=>V.int (i:Int))))
theorem ase {a:Expr} {ta:TA} {p1 p2 pos pos2:Pos} (hg:Gl X "list") (hm:X.mg "list" = none) (hg2:Gl X "range") (hm2:X.mg "range" = none) (hc:X.calm=true) (ha:PA X [a] ta) (hs:starEach [a] X.env=[(false,eval a X.env)]:=by rfl)
  (hs2:starEach [.Call (.Name "range" p2) [a] [] pos2] X.env=[(false,eval (.Call (.Name "range" p2) [a] [] pos2) X.env)]:=by rfl):PE X (.Call (.Name "list" p1) [.Call (.Name "range" p2) [a] [] pos2] [] pos) (aqa ta):=by
 intro pins s σ H Q I h
 refine Call_ (acb I hg hm am2 (PyProof.Rows.callWith_type1 ?_ hs2 rfl))
 rw [hs2]
 refine Calls.spliced_cons (Call_ (acb I hg2 hm2 boot_range (PyProof.Rows.callWith_type1 (thn (ha pos2 pins s σ H _ I h) fun us s1 ⟨vs,H1,I1,r1,j,ev,j0,j1,q⟩=>?_) hs rfl)))
 subst ev
 obtain ⟨u,rfl,t,rfl⟩:=acn r1
 refine call_range_1 (Calls.spliced_nil ?_)
 have hr:IsRange (s1.heap.push { cls:=.type "range",data:=.fields #[.int 0 s1.toks,.int j t,.int 1 (s1.toks+1)] }) s1.heap.objs.size 0 j 1 s1.toks t (s1.toks+1):=Heap.get?_push_size _ rfl
 have hn:Builtin.Range.rangeSize 0 j 1=((j.toNat:Nat):Int):=by rw [rangeSize_one];split <;> row_cond lo
 refine call_list_range (s:={ s1 with heap:=s1.heap.push { cls:=.type "range",data:=.fields #[.int 0 s1.toks,.int j t,.int 1 (s1.toks+1)] },toks:=s1.toks+1+1 }) (I1.ok.hd hc) hr (small_one (by row_cond lo) (by row_cond lo) (by row_cond lo) (by row_cond lo)) hn (by row_cond lo) fun h2 tk acc c kp hS items=>?_
 have k2:∀ b o,s1.heap.get? b=some o->h2.get? b=some o:=fun b o e=>kp b o (Heap.get?_push_of_some _ e)
 have hfree:s1.heap.objs.size<=(s1.heap.push { cls:=.type "range",data:=.fields #[.int 0 s1.toks,.int j t,.int 1 (s1.toks+1)] }).objs.size:=by rw [Heap.size_push];exact Nat.le_succ _
 refine ⟨.ref _,_,I1.laid (t':=tk) (o:=.lst ((List.range j.toNat).map fun (i:Nat)=>V.int (i:Int))) k2 hfree ?_,rfl,q _ (I1.hok.fresh hfree)⟩
 refine ⟨by rw [List.length_map,List.length_range];exact Nat.le_of_lt (VL.big (by row_cond lo)),acc.toList,c,?_,by simpa using hS⟩
 obtain ⟨h1,h2'⟩:=items
 refine anc (by simp [h1]) fun i v u hv hu=>?_
 have hu':acc[i]?=some u:=by simpa using hu
 obtain ⟨t',e'⟩:=h2' i u hu'
 rw [List.getElem?_map] at hv
 have hi:i < j.toNat:=by
  have:=(Array.getElem?_eq_some_iff.mp hu').1
  row_cond lo
 rw [List.getElem?_eq_getElem (by simpa using hi)] at hv
 simp at hv
 subst hv
 exact ⟨t',by rw [e'];simp⟩
end
end L2
namespace L2
open PySem PySem.Spec PyProof.Rows
section
variable {X:Cx} {pins:List (Addr × Obj)} {σ:St} {H:Hp} {s:Shared}
end
theorem KT.get {H:Hp}:∀ {kvs:List (List Key × V)} {xs:List (List Key × Addr × Value)} {i:Nat} {p:List Key × V},KT H kvs xs->kvs[i]?=some p->∃ q,xs[i]?=some q/\p.1=q.1/\H q.2.1=some (.tup (p.1.map kV))
 | _,_,_,_,.nil,e=>by simp at e
 | _,_,0,_,.cons r _,e=>by simp at e;subst e;exact ⟨_,rfl,r.1,r.2.1⟩
 | _,_,i+1,p,.cons _ t,e=>by
  obtain ⟨q,h1,h2⟩:=KT.get (i:=i) (p:=p) t (by simpa using e)
  exact ⟨q,by simpa using h1,h2⟩
section
variable {X:Cx} {tg:Expr}
end
end L2
namespace VL
open PySem PySem.Spec L2
noncomputable def enD (ds:List PyData):List PyData:=(List.range ds.length).map fun (i:Nat) => .tuple [.int (i:Int),ds.getD i .none]
noncomputable def zipD (xs ys:List PyData):List PyData:=(xs.zip ys).map fun p => .tuple [p.1,p.2]
theorem ag9 {ds:List PyData}:(enD ds).length=ds.length:=by simp [enD]
theorem avn {ds:List PyData} {i:Nat} {d:PyData} (h:(enD ds)[i]?=some d):∃ x,ds[i]?=some x/\d=.tuple [.int (i:Int),x]:=by
 unfold enD at h
 rw [List.getElem?_map] at h
 by_cases hi:i < ds.length
 ·rw [List.getElem?_eq_getElem (by simpa using hi)] at h
  simp at h
  refine ⟨ds[i],List.getElem?_eq_getElem hi,?_⟩
  rw [← h]
  simp [hi]
 ·rw [List.getElem?_eq_none_iff.mpr (by simp;row_cond lo)] at h;cases h
theorem asf {xs ys:List PyData} {i:Nat} {d:PyData} (h:(zipD xs ys)[i]?=some d):∃ x y,xs[i]?=some x/\ys[i]?=some y/\d=.tuple [x,y]:=by
 unfold zipD at h
 rw [List.getElem?_map] at h
 cases e:(xs.zip ys)[i]? with
 | none=>rw [e] at h;cases h
 | some p =>
  rw [e] at h
  cases h
  obtain ⟨h1,h2⟩:=List.getElem?_zip_eq_some.mp e
  exact ⟨p.1,p.2,h1,h2,rfl⟩
theorem Out.tup2 {G H:Hp} {p:Addr} {x y:V} {d e:PyData} (g:Same G H) (h:H p=none) (r1:Rp G x d) (r2:Rp G y e):Out G H (.ref p) (upd G p (.tup [x,y])) (upd H p (.tup [x,y])) (.st (.tuple [d,e])) (fun _=>False):=Out.newT g h (.cons r1 (.cons r2 .nil))
section
variable {B:Bs} {env:En} {QI:List PyData->En->Prop} {QO:Sl->En->Prop} {Q':PyData->En->Prop} {K:PySem.W.Frag} {i:Nat} {ta:TA}
theorem asg (h:EvA B ta env fun vs e=>∃ ds,vs=[.list ds]/\QI (enD ds) e):EvI B (att K ta) env QI:=fun σ G H F R I k =>
 h σ G H F _ I fun vs G1 H1 F1 ds e1 I1 g1 r1 z_=>by
  obtain ⟨xs,ed,q1⟩:=z_
  subst ed
  cases r1 with
  | cons r t =>
   cases t
   cases r with
   | @lst a us _ ha rs =>
    refine ⟨a,us,rfl,SqL.of (I1.gh _ _ ha),k _ G1 H1 F1 _ e1 I1 g1 ⟨fun i G' H' g h hi=>?_,fun i G' H' g h hi=>?_,fun i G' H' x H'' d g h ft hd y=>?_⟩ q1⟩
    ·have:i < us.length:=by rw [rs.length];rw [ag9] at hi;exact hi
     exact ⟨us,us[i],SqL.of (h _ _ (g _ _ ha)),List.getElem?_eq_getElem this⟩
    ·exact ⟨us,SqL.of (h _ _ (g _ _ ha)),by rw [rs.length];rw [ag9] at hi;exact Nat.le_of_eq hi.symm⟩
    ·obtain ⟨p,v,rfl,hp,rfl,hv⟩:=y
     obtain ⟨dx,hx,rfl⟩:=avn hd
     obtain ⟨u,hu,ru⟩:=rs.get hx
     have:=hv us (SqL.of (h _ _ (g _ _ ha)))
     rw [hu] at this;cases this
     exact ⟨_,Out.tup2 h hp (.int _) (ru.same g)⟩
theorem avo (h:EvA B ta env fun vs e=>∃ xs ys,vs=[.list xs,.list ys]/\QI (zipD xs ys) e):EvI B (iZip K ta) env QI:=fun σ G H F R I k =>
 h σ G H F _ I fun vs G1 H1 F1 ds e1 I1 g1 r1 z_=>by
  obtain ⟨xs,ys,ed,q1⟩:=z_
  subst ed
  cases r1 with
  | cons r t =>
   cases t with
   | cons r2 t =>
    cases t
    cases r with
    | @lst a us _ ha rs =>
     cases r2 with
     | @lst b ws _ hb rs2 =>
      have hl:(zipD xs ys).length=min us.length ws.length:=by simp [zipD,rs.length,rs2.length]
      refine ⟨a,b,us,ws,rfl,SqL.of (I1.gh _ _ ha),SqL.of (I1.gh _ _ hb),k _ G1 H1 F1 _ e1 I1 g1 ⟨fun i G' H' g h hi=>?_,fun i G' H' g h hi=>?_,fun i G' H' x H'' d g h ft hd y=>?_⟩ q1⟩
      ·have h1:i < us.length:=by row_cond lo
       have h2:i < ws.length:=by row_cond lo
       exact ⟨us,ws,us[i],ws[i],SqL.of (h _ _ (g _ _ ha)),SqL.of (h _ _ (g _ _ hb)),List.getElem?_eq_getElem h1,List.getElem?_eq_getElem h2⟩
      ·exact ⟨us,ws,SqL.of (h _ _ (g _ _ ha)),SqL.of (h _ _ (g _ _ hb)),by rw [← hl];exact hi.symm⟩
      ·obtain ⟨p,v,w,rfl,hp,rfl,hv,hw⟩:=y
       obtain ⟨dx,dy,hx,hy,rfl⟩:=asf hd
       obtain ⟨u,hu,ru⟩:=rs.get hx
       obtain ⟨u2,hu2,ru2⟩:=rs2.get hy
       have e1:=hv us (SqL.of (h _ _ (g _ _ ha)))
       have e2:=hw ws (SqL.of (h _ _ (g _ _ hb)))
       rw [hu] at e1;cases e1
       rw [hu2] at e2;cases e2
       exact ⟨_,Out.tup2 h hp (ru.same g) (ru2.same g)⟩
theorem RpT.len {G:Hp}:∀ {kvs:List (List Key × V)} {es:List (List Key × PyData)},RpT G kvs es->kvs.length=es.length/\kvs.map (·.1)=es.map (·.1)
 | _,_,.nil=>⟨rfl,rfl⟩
 | _,_,.cons _ t=>by
  obtain ⟨h1,h2⟩:=RpT.len t
  exact ⟨by simp [h1],by simp [h2]⟩
@[reducible] noncomputable def tiD (ns:List Int):PyData:=.tuple (ns.map .int)
def lexS (pss:List (List Int)):Prop:=pss.Pairwise fun x y=>HT.lexLt y x=false
theorem af8 {G H:Hp} (ft:FT G H):∀ {vs:List V},(∀ v∈vs,TupI H v)->Rps G vs ((vs.map (kH H)).map tiD)
 | [],_ => .nil
 | v :: vs,h=>by
  obtain ⟨t,ns,rfl,e,_⟩:=h v List.mem_cons_self
  rw [List.map_cons,List.map_cons,agy e]
  have:(ns.map V.int)=(ns.map (fun i=>(Sum.inl i:Key))).map kV:=by rw [List.map_map];rfl
  refine .cons (.tup ?_ (Rps.ints ns)) (af8 ft fun u hu=>h u (List.mem_cons_of_mem _ hu))
  rw [this];exact ft t _ (by rw [← this];exact e)
theorem ad3 {G H:Hp} (gh:Same G H):∀ {vs:List V} {pss:List (List Int)},Rps G vs (pss.map tiD)->(∀ ns∈pss,ns ≠ [])->(∀ v∈vs,TupI H v)/\vs.map (kH H)=pss
 | _,[],.nil,_=>⟨fun v hv=>by simp at hv,rfl⟩
 | v :: vs,ns :: pss,.cons r t,hn=>by
  obtain ⟨i1,i2⟩:=ad3 gh t fun ms hm=>hn ms (List.mem_cons_of_mem _ hm)
  cases r with
  | tup h rs =>
   have:=Rps.ints_inv rs
   subst this
   have e:=gh _ _ h
   refine ⟨fun u hu=>?_,by rw [List.map_cons,agy e,i2]⟩
   rcases List.mem_cons.mp hu with rfl | hu
   ·exact ⟨_,ns,rfl,e,hn ns List.mem_cons_self⟩
   ·exact i1 u hu
theorem aqb {pss:List (List Int)} (hn:∀ ns∈pss,ns ≠ []) (h64:pss.length < 64) (h:EvA B ta env fun ds e=>ds=[.list (pss.map tiD)]/\∀ qss:List (List Int),qss.Perm pss->lexS qss->QO (.own (OL (qss.map tiD))) e):EvO B (tCB (agz K) ta) env QO:=fun σ G H F Q I k =>
 h σ G H F _ I fun vs G1 H1 F1 ds e1 I1 g1 r1 z_=>by
  obtain ⟨ed,q1⟩:=z_
  subst ed
  cases r1 with
  | cons r t =>
   cases t
   cases r with
   | @lst a us _ ha rs =>
    obtain ⟨t1,t2⟩:=ad3 I1.gh rs hn
    refine ⟨a,us,rfl,SqL.of (I1.gh _ _ ha),t1,by have:=rs.length;rw [List.length_map] at this;row_cond lo,fun ws p hp hs hf=>?_⟩
    have tw:∀ v∈ws,TupI H1 v:=fun v hv=>t1 v (hp.mem_iff.mp hv)
    have o:=Out.newL I1.gh hf (af8 I1.ft tw)
    refine k _ _ _ F1 _ _ e1 (I1.out o).1 (g1.trans o.gg) (I1.out o).2 (q1 _ ?_ ?_)
    ·have:=hp.map (kH H1);rw [t2] at this;exact this
    ·unfold lexS;rw [List.pairwise_map];exact hs
end
section
variable {B:Bs} {env:En} {QO:Sl->En->Prop} {Q':PyData->En->Prop} {K:PySem.W.Frag} {i:Nat} {ta:TA} {R:Sl->Prop}
theorem ash {ds:List PyData} (h:R (.own (OL ds))):OpA (ak9 K) [.list ds] R:=fun G H vs Q gh rs k=>by
 cases rs with
 | cons r t =>
  cases t
  cases r with
  | lst ha ra=>exact ⟨_,_,rfl,.inl (SqL.of (gh _ _ ha)),fun p hp=>k _ _ _ _ _ (Out.newL gh hp ra) h⟩
theorem aqc {G:Hp} (n:Nat):Rps G ((List.range n).map fun (i:Nat)=>V.int (i:Int)) (rngD 0 n):=by
 unfold rngD
 refine ak8 (by simp) fun i v d hv hd=>?_
 rw [List.getElem?_map] at hv hd
 cases e:(List.range n)[i]? with
 | none=>rw [e] at hv;cases hv
 | some m=>rw [e] at hv hd;cases hv;cases hd;show Rp G (.int (m:Int)) (.int (0+(m:Int)));rw [Int.zero_add];exact .int _
theorem aqd (h:EvA B ta env fun ds e=>∃ j:Int,ds=[.int j]/\0<=j/\j<=1000000/\QO (.own (OL (rngD 0 j.toNat))) e):EvO B (aqa ta) env QO:=fun σ G H F Q I k =>
 h σ G H F _ I fun vs G1 H1 F1 ds e1 I1 g1 r1 z_=>by
  obtain ⟨j,ed,j0,j1,q1⟩:=z_
  subst ed
  obtain rfl:vs=[V.int j]:=Rps.ints_inv (ns:=[j]) r1
  refine ⟨j,rfl,j0,j1,fun p hp=>?_⟩
  have o:=Out.newL I1.gh hp (aqc j.toNat)
  exact k _ _ _ F1 _ _ e1 (I1.out o).1 (g1.trans o.gg) (I1.out o).2 q1
end
section
variable {κ:Type} [DecidableEq κ] {α:Type}
noncomputable def valD (es:List (κ × α)) (k : κ):Option α:=(es.find? fun e=>decide (e.1=k)).map (·.2)
noncomputable def putD (es:List (κ × α)) (k : κ) (d : α):List (κ × α):=if (es.any fun e=>decide (e.1=k))=true then es.map (fun e=>if e.1=k then (e.1,d) else e) else es ++ [(k,d)]
end
theorem RpK.val {G:Hp} {k:Key}:∀ {kvs:List (Key × V)} {es:List (Key × PyData)},RpK G kvs es->(valD es k=none->valV kvs k=none)/\∀ d,valD es k=some d->∃ v,valV kvs k=some v/\Rp G v d
 | _,_,.nil=>⟨fun _=>rfl,fun d h=>by cases h⟩
 | _,_,.cons (k:=k') r t=>by
  obtain ⟨i1,i2⟩:=RpK.val (k:=k) t
  by_cases e:k'=k
  ·refine ⟨fun h=>by simp [valD,e] at h,fun d h=>?_⟩
   simp [valD,e] at h
   subst h
   exact ⟨_,by simp [valV,e],r⟩
  ·refine ⟨fun h=>?_,fun d h=>?_⟩
   ·simp [valV,e];simp [valD,e] at h
    have:=i1 (by simp [valD];exact h)
    simpa [valV] using this
   ·obtain ⟨v,h1,h2⟩:=i2 d (by simpa [valD,e] using h)
    exact ⟨v,by simpa [valV,e] using h1,h2⟩
theorem RpK.any {G:Hp} {k:Key}:∀ {kvs:List (Key × V)} {es:List (Key × PyData)},RpK G kvs es->(kvs.any fun e=>decide (e.1=k))=es.any fun e=>decide (e.1=k)
 | _,_,.nil=>rfl
 | _,_,.cons r t=>by simp [RpK.any t]
theorem RpK.map {G:Hp} {k:Key} {v:V} {d:PyData} (h:Rp G v d):∀ {kvs:List (Key × V)} {es:List (Key × PyData)},RpK G kvs es->RpK G (kvs.map fun e=>if e.1=k then (e.1,v) else e) (es.map fun e=>if e.1=k then (e.1,d) else e)
 | _,_,.nil => .nil
 | _,_,.cons (k:=k') r t=>by
  by_cases e:k'=k
  ·simp only [List.map_cons,e,if_true];exact .cons h (RpK.map h t)
  ·simp only [List.map_cons,e,if_false];exact .cons r (RpK.map h t)
theorem RpK.append {G:Hp}:∀ {a b:List (Key × V)} {c d:List (Key × PyData)},RpK G a c->RpK G b d->RpK G (a ++ b) (c ++ d)
 | _,_,_,_,.nil,s=>s
 | _,_,_,_,.cons r t,s => .cons r (RpK.append t s)
theorem RpT.any {G:Hp} {k:List Key}:∀ {kvs:List (List Key × V)} {es:List (List Key × PyData)},RpT G kvs es->(kvs.any fun e=>decide (e.1=k))=es.any fun e=>decide (e.1=k)
 | _,_,.nil=>rfl
 | _,_,.cons r t=>by simp [RpT.any t]
theorem RpT.map {G:Hp} {k:List Key} {v:V} {d:PyData} (h:Rp G v d):∀ {kvs:List (List Key × V)} {es:List (List Key × PyData)},RpT G kvs es->RpT G (kvs.map fun e=>if e.1=k then (e.1,v) else e) (es.map fun e=>if e.1=k then (e.1,d) else e)
 | _,_,.nil => .nil
 | _,_,.cons (k:=k') r t=>by
  by_cases e:k'=k
  ·simp only [List.map_cons,e,if_true];exact .cons h (RpT.map h t)
  ·simp only [List.map_cons,e,if_false];exact .cons r (RpT.map h t)
theorem RpT.append {G:Hp}:∀ {a b:List (List Key × V)} {c d:List (List Key × PyData)},RpT G a c->RpT G b d->RpT G (a ++ b) (c ++ d)
 | _,_,_,_,.nil,s=>s
 | _,_,_,_,.cons r t,s => .cons r (RpT.append t s)
theorem RpK.length {G:Hp}:∀ {kvs:List (Key × V)} {es:List (Key × PyData)},RpK G kvs es->kvs.length=es.length
 | _,_,.nil=>rfl
 | _,_,.cons _ t=>by simp [RpK.length t]
section
variable {B:Bs} {env:En} {QO:Sl->En->Prop} {Q':PyData->En->Prop} {D':VEnds} {i:Nat} {te ty tv td:TE}
end
end VL
namespace VL
open PySem PySem.Spec L2
section
variable {B:Bs} {env:En} {QO:Sl->En->Prop} {Q':PyData->En->Prop} {QE:En->Prop} {D':VEnds} {K:PySem.W.Frag} {i:Nat} {ta:TA}
theorem x_en {ds:List PyData} {R:List PyData->Prop} (h:R ds):∃ xs,[PyData.list ds]=[.list xs]/\R xs:=⟨ds,rfl,h⟩
theorem azx {xs ys:List PyData} {R:List PyData->List PyData->Prop} (h:R xs ys):∃ us vs,[PyData.list xs,.list ys]=[.list us,.list vs]/\R us vs:=⟨xs,ys,rfl,h⟩
theorem avp {j:Int} {R:Int->Prop} (h0:0<=j) (h1:j<=1000000) (h:R j):∃ i:Int,[PyData.int j]=[.int i]/\0<=i/\i<=1000000/\R i:=⟨j,rfl,h0,h1,h⟩
end
def ltP (p q:Int × Int):Prop:=p.1 < q.1\/(p.1=q.1/\p.2 < q.2)
@[reducible] noncomputable def p2 (p:Int × Int):List Int:=[p.1,p.2]
theorem lex2 (p q:Int × Int):HT.lexLt (p2 p) (p2 q)=true ↔ ltP p q:=by
 obtain ⟨a,b⟩:=p
 obtain ⟨c,d⟩:=q
 simp [p2,HT.lexLt,ltP]
 split <;> row_cond lo
theorem aou {qss:List (List Int)} {ps:List (Int × Int)} (h:qss.Perm (ps.map p2)):∃ qs:List (Int × Int),qss=qs.map p2/\qs.Perm ps:=by
 refine ⟨qss.map fun l=>(l.getD 0 0,l.getD 1 0),?_,?_⟩
 ·rw [List.map_map]
  symm
  conv=>rhs;rw [← List.map_id qss]
  apply List.map_congr_left
  intro l hl
  obtain ⟨p,_,rfl⟩:=List.mem_map.mp (h.mem_iff.mp hl)
  rfl
 ·have:=h.map fun l=>(l.getD 0 0,l.getD 1 0)
  rw [List.map_map] at this
  have e:((fun l:List Int=>(l.getD 0 0,l.getD 1 0)) ∘ p2)=id:=by funext p;rfl
  rw [e,List.map_id] at this
  exact this
def Rise (es:List (Int × Int)):Prop:=es.Pairwise ltP
theorem ad8 (p:Int × Int):¬ ltP p p:=by unfold ltP;row_cond lo
theorem avq (p q:Int × Int):ltP p q\/p=q\/ltP q p:=by
 obtain ⟨a,b⟩:=p
 obtain ⟨c,d⟩:=q
 unfold ltP
 simp only [Prod.mk.injEq]
 row_cond lo
theorem aqe {p q r:Int × Int} (h:ltP p q) (g:ltP q r):ltP p r:=by unfold ltP at *;row_cond lo
theorem ane {qs ps:List (Int × Int)} (hp:qs.Perm ps) (hn:ps.Nodup) (hs:lexS (qs.map p2)):Rise qs:=by
 have hn':qs.Nodup:=hp.nodup_iff.mpr hn
 unfold lexS at hs
 rw [List.pairwise_map] at hs
 unfold Rise
 refine (List.Pairwise.and hs hn').imp fun {p q} h=>?_
 have h1:¬ ltP q p:=fun z=>by rw [(lex2 q p).mpr z] at h;exact absurd h.1 (by simp)
 rcases avq p q with z | z | z
 ·exact z
 ·exact absurd z h.2
 ·exact absurd z h1
theorem Rise.nodup {es:List (Int × Int)} (h:Rise es):es.Nodup:=h.imp fun {p q} z (e:p=q)=>ad8 q (by rw [e] at z;exact z)
theorem Rise.eq:∀ {as bs:List (Int × Int)},Rise as->Rise bs->(∀ p,p∈as ↔ p∈bs)->as=bs
 | [],[],_,_,_=>rfl
 | [],b :: _,_,_,h=>by have:=(h b).mpr List.mem_cons_self;simp at this
 | a :: _,[],_,_,h=>by have:=(h a).mp List.mem_cons_self;simp at this
 | a :: as,b :: bs,ha,hb,h=>by
  obtain ⟨ha1,ha2⟩:=List.pairwise_cons.mp ha
  obtain ⟨hb1,hb2⟩:=List.pairwise_cons.mp hb
  have e:a=b:=by
   rcases List.mem_cons.mp ((h a).mp List.mem_cons_self) with e | e
   ·exact e
   ·rcases List.mem_cons.mp ((h b).mpr List.mem_cons_self) with e2 | e2
    ·exact e2.symm
    ·exact absurd (aqe (ha1 b e2) (hb1 a e)) (ad8 a)
  subst e
  have:=Rise.eq ha2 hb2 fun p=>by
   have hp:=h p
   simp only [List.mem_cons] at hp
   constructor
   ·intro m
    rcases hp.mp (.inr m) with e | e
    ·subst e;exact absurd (ha1 p m) (ad8 p)
    ·exact e
   ·intro m
    rcases hp.mpr (.inr m) with e | e
    ·subst e;exact absurd (hb1 p m) (ad8 p)
    ·exact e
  rw [this]
structure WebOk (n:Int) (es:List (Int × Int)):Prop where
 lo:1<=n
 hi:n<=60
 inn:∀ p∈es,0<=p.1/\p.1 < p.2/\p.2 < n
 rise:Rise es
theorem aiy {n:Nat} {es:List (Int × Int)} (hn:es.Nodup) (hi:∀ p∈es,0<=p.1/\p.1 < (n:Int)/\0<=p.2/\p.2 < (n:Int)):es.length<=n * n:=by
 have h1:(es.map fun (p:Int × Int)=>p.1 * (n:Int)+p.2).Nodup:=by
  unfold List.Nodup
  rw [List.pairwise_map]
  refine List.Pairwise.imp_of_mem ?_ hn
  intro p q hp hq hne e
  have a:=hi p hp
  have b:=hi q hq
  apply hne
  have e1:p.1=q.1:=by
   rcases Int.lt_trichotomy p.1 q.1 with z | z | z
   ·have:(p.1+1) * n<=q.1 * n:=Int.mul_le_mul_of_nonneg_right (by row_cond lo) (by row_cond lo)
    rw [Int.add_mul] at this;row_cond lo
   ·exact z
   ·have:(q.1+1) * n<=p.1 * n:=Int.mul_le_mul_of_nonneg_right (by row_cond lo) (by row_cond lo)
    rw [Int.add_mul] at this;row_cond lo
  rw [e1] at e
  exact Prod.ext e1 (by row_cond lo)
 have:=L2.few_places (n * n) _ h1 fun v hv=>by
  obtain ⟨p,hp,rfl⟩:=List.mem_map.mp hv
  have a:=hi p hp
  have h2:0<=p.1 * (n:Int):=Int.mul_nonneg a.1 (by row_cond lo)
  have h3:(p.1+1) * (n:Int)<=n * n:=Int.mul_le_mul_of_nonneg_right (by row_cond lo) (by row_cond lo)
  rw [Int.add_mul] at h3
  push_cast
  row_cond lo
 simpa using this
theorem WebOk.len {n:Int} {es:List (Int × Int)} (h:WebOk n es):es.length<=3600:=by
 have:=aiy (n:=n.toNat) h.rise.nodup fun p hp=>by have:=h.inn p hp;have:=h.lo;row_cond lo
 have h2:n.toNat<=60:=by have:=h.hi;row_cond lo
 exact Nat.le_trans this (Nat.mul_le_mul h2 h2)
noncomputable def kE (ps:List (Int × Int)):List (List Key × PyData):=ps.map fun p=>([Sum.inl p.1,Sum.inl p.2],.bool true)
noncomputable def addP (ps:List (Int × Int)) (p:Int × Int):List (Int × Int):=if p∈ps then ps else ps ++ [p]
theorem addP_mem {ps:List (Int × Int)} {p q:Int × Int}:q∈addP ps p ↔ q∈ps\/q=p:=by
 unfold addP
 split
 ·rename_i h
  exact ⟨.inl,fun z=>z.elim id fun e=>e ▸ h⟩
 ·simp
theorem aov {ps:List (Int × Int)} {p:Int × Int} (h:ps.Nodup):(addP ps p).Nodup:=by
 unfold addP
 split
 ·exact h
 ·rename_i hn
  rw [List.nodup_append]
  exact ⟨h,by simp,fun x hx y hy=>by simp at hy;subst hy;rintro rfl;exact hn hx⟩
theorem aha (ps:List (Int × Int)):(ps.map p2).map tiD=ps.map prD:=by rw [List.map_map];rfl
theorem atu {ps:List (Int × Int)}:∀ ns∈ps.map p2,ns ≠ []:=fun ns h=>by
 obtain ⟨p,_,rfl⟩:=List.mem_map.mp h
 simp
section
variable {B:Bs} {env:En} {QO:Sl->En->Prop} {K:PySem.W.Frag} {i:Nat} {ta:TA}
theorem ae0 {ps:List (Int × Int)} (h64:ps.length < 64) (h:EvA B ta env fun ds e=>ds=[.list (ps.map prD)]/\∀ qs:List (Int × Int),qs.Perm ps->lexS (qs.map p2)->QO (.own (OL (qs.map prD))) e):EvO B (tCB (agz K) ta) env QO :=
 aqb (pss:=ps.map p2) atu (by rw [List.length_map];exact h64) fun σ G H F Q I k=>h σ G H F Q I fun vs G' H' F' ds e I' g r ⟨h1,q⟩=>k vs G' H' F' ds e I' g r ⟨by rw [aha];exact h1,fun qss hp hs=>by
  obtain ⟨qs,rfl,hq⟩:=aou hp
  rw [aha];exact q qs hq hs⟩
end
end VL
namespace VL
open PySem PySem.Spec L2
section
variable {B:Bs} {env:En} {QO:Sl->En->Prop} {Q':PyData->En->Prop} {K:PySem.W.Frag} {i j:Nat} {ta te:TE}
theorem x_ow {ds:List PyData} {e1:En} {R:List PyData->Prop} (e:e1[j]?=some (some (.own (OL ds)))) (q:R ds):∃ ds,e1[j]?=some (some (.own (OL ds)))/\R ds:=⟨ds,e,q⟩
end
section
variable {B:Bs} {env:En} {Q':PyData->En->Prop} {D':VEnds} {i:Nat} {ty tv:TE}
end
section
variable {R:Sl->Prop} {K:PySem.W.Frag}
end
theorem ahb (ps:List (Int × Int)):plainDs (ps.map prD)=true:=by
 rw [afw]
 intro d hd
 obtain ⟨p,_,rfl⟩:=List.mem_map.mp hd
 rfl
theorem afy {ds:List PyData} {m:Nat} (h:∀ d∈ds,d.depth<=m):PyData.depthAll ds<=m:=by
 induction ds with
 | nil=>simp [PyData.depthAll]
 | cons d ds ih =>
  simp only [PyData.depthAll]
  exact Nat.max_le.mpr ⟨h d List.mem_cons_self,ih fun e he=>h e (List.mem_cons_of_mem _ he)⟩
theorem aiz (p:Int × Int):(prD p).depth<=1:=by simp [prD,PyData.depth,PyData.depthAll]
theorem asi {d:PyData} (h:aaj d=true):PyData.eqv d d=true:=(aev d d h h).mpr rfl
end VL
namespace VL
end VL
namespace VL
open PySem PySem.Spec L2
section
variable {B:Bs} {env:En} {Q':PyData->En->Prop} {K:PySem.W.Frag} {E:XK} {i:Nat}
end
end VL
namespace VL
open PySem L2
theorem azy {B:Bs} {t:TS} {D':VEnds} {e:En} (h:EvS B t D' e):EvS B t D' e:=h
theorem azz {B:Bs} {g:TG} {s:Sl} {e:En} {Q:En->Prop} (h:EvG B g s e Q):EvG B g s e Q:=h
theorem ayk {B:Bs} {g:TGs} {s:List PyData} {e:En} {Q:En->Prop} (h:EvGs B g s e Q):EvGs B g s e Q:=h
theorem g_Ev {B:Bs} {t:TE} {e:En} {Q:PyData->En->Prop} (h:Ev B t e Q):Ev B t e Q:=h
theorem az0 {B:Bs} {t:TE} {e:En} {Q:Sl->En->Prop} (h:EvO B t e Q):EvO B t e Q:=h
theorem az1 {B:Bs} {t:TT} {e:En} {Q:Bool->En->Prop} (h:EvT B t e Q):EvT B t e Q:=h
theorem az2 {B:Bs} {t:TA} {e:En} {Q:List PyData->En->Prop} (h:EvA B t e Q):EvA B t e Q:=h
theorem az3 {B:Bs} {t:TI} {e:En} {Q:List PyData->En->Prop} (h:EvI B t e Q):EvI B t e Q:=h
theorem ayl {B:Bs} {t:TO} {e:En} {Q:Option Int->En->Prop} (h:EvOp B t e Q):EvOp B t e Q:=h
theorem az4 {r:R2} {x y:PyData} {R:Sl->Prop} (h:Op2 r x y R):Op2 r x y R:=h
theorem az5 {r:V->Hp->VK->Prop} {x:PyData} {R:Sl->Prop} (h:Op1 r x R):Op1 r x R:=h
theorem az6 {r:List V->Hp->VK->Prop} {x:List PyData} {R:Sl->Prop} (h:OpA r x R):OpA r x R:=h
theorem g_FQ {s:Sl} {R:PyData->Prop} (h:FQ s R):FQ s R:=h
theorem avr {ds:List PyData} {R:List PyData->Prop} (h:ajy ds R):ajy ds R:=h
theorem avs {ds:List PyData} {R:List PyData->Prop} (h:ajz ds R):ajz ds R:=h
end VL
namespace VL
open PySem L2
structure PsOk (n:Int) (ps:List (Int × Int)):Prop where
 nd:ps.Nodup
 inn:∀ p∈ps,0<=p.1/\p.1 < p.2/\p.2 < n
theorem PsOk.nil (n:Int):PsOk n []:=⟨List.nodup_nil,fun p hp=>by simp at hp⟩
theorem PsOk.add {n a b:Int} {ps:List (Int × Int)} (h:PsOk n ps) (h0:0<=a) (h1:a < b) (h2:b < n):PsOk n (addP ps (a,b)) :=
 ⟨aov h.nd,fun p hp=>by
  rcases addP_mem.mp hp with q | q
  ·exact h.inn p q
  ·subst q;exact ⟨h0,h1,h2⟩⟩
theorem PsOk.len {n:Int} {ps:List (Int × Int)} (h:PsOk n ps) (hn:n<=100):ps.length<=10000:=by
 by_cases h0:0<=n
 ·have:=aiy (n:=n.toNat) h.nd fun p hp=>by have:=h.inn p hp;row_cond lo
  have h2:n.toNat<=100:=by row_cond lo
  exact Nat.le_trans this (Nat.mul_le_mul h2 h2)
 ·cases ps with
  | nil=>simp
  | cons p r => have:=h.inn p List.mem_cons_self; row_cond lo
def Tr (n:Int) (ps:List (Int × Int)):Prop:=∀ k,1<=k->k < n->∃ h,0<=h/\h < k/\(h,k)∈ps
theorem Tr.add {n:Int} {ps:List (Int × Int)} {p:Int × Int} (h:Tr n ps):Tr n (addP ps p):=fun k k1 k2=>by
 obtain ⟨x,a,b,c⟩:=h k k1 k2
 exact ⟨x,a,b,addP_mem.mpr (.inl c)⟩
def Conn (n:Int) (T:Int->Int->Prop):Prop:=∀ u v,0<=u->u < n->0<=v->v < n->∃ k,Gr.Walk T u k v
theorem Tr.conn {n:Int} {ps:List (Int × Int)} (h:Tr n ps):Conn n (Tied ps):=by
 have key:∀ (m:Nat) (v:Int),v=m->v < n->∃ k,Gr.Walk (Tied ps) 0 k v:=by
  intro m
  induction m using Nat.strongRecOn with
  | ind m ih =>
   intro v hv hn
   by_cases h0:m=0
   ·subst h0;have:v=0:=by row_cond lo
    subst this;exact ⟨0,.refl⟩
   ·obtain ⟨x,a,b,c⟩:=h v (by row_cond lo) hn
    obtain ⟨k,w⟩:=ih x.toNat (by row_cond lo) x (by row_cond lo) (by row_cond lo)
    exact ⟨k+1,.step w (.inl c)⟩
 intro u v u0 u1 v0 v1
 obtain ⟨k,w⟩:=key u.toNat u (by row_cond lo) u1
 obtain ⟨j,x⟩:=key v.toNat v (by row_cond lo) v1
 exact ⟨k+j,(w.rev fun _ _ t=>t.symm).app x⟩
theorem Conn.joined {n:Int} {es:List (Int × Int)} (h:Conn n (Tied es)) (h0:0 < n):Joined n es:=fun v v0 v1=>by
 obtain ⟨k,w⟩:=h 0 v (by row_cond lo) (by row_cond lo) v0 v1
 obtain ⟨d,_,hd⟩:=Gr.Dist.of_walk w
 exact ⟨d,hd⟩
theorem Joined.conn {n:Int} {es:List (Int × Int)} (h:Joined n es):Conn n (Tied es):=fun u v u0 u1 v0 v1=>by
 obtain ⟨d,hd⟩:=h u u0 u1
 obtain ⟨e,he⟩:=h v v0 v1
 exact ⟨d+e,(hd.1.rev fun _ _ t=>t.symm).app he.1⟩
theorem Conn.mono {n:Int} {T T':Int->Int->Prop} (h:Conn n T) (g:∀ u v,T u v->T' u v):Conn n T':=fun u v u0 u1 v0 v1=>by
 obtain ⟨k,w⟩:=h u v u0 u1 v0 v1
 exact ⟨k,w.rec .refl fun _ t ih => .step ih (g _ _ t)⟩
def Order (n:Int) (row:List Int):Prop:=row.Perm ((List.range n.toNat).map fun (i:Nat)=>(i:Int))
theorem Order.len {n:Int} {row:List Int} (h:Order n row):row.length=n.toNat:=by have:=h.length_eq;simpa using this
theorem Order.nodup {n:Int} {row:List Int} (h:Order n row):row.Nodup:=by
 refine h.nodup_iff.mpr ?_
 unfold List.Nodup
 rw [List.pairwise_map]
 exact List.nodup_range.imp fun {a b} hab e=>hab (by row_cond lo)
theorem Order.mem {n:Int} {row:List Int} (h:Order n row) {v:Int}:v∈row ↔ 0<=v/\v < n:=by
 rw [h.mem_iff,List.mem_map]
 constructor
 ·rintro ⟨i,hi,rfl⟩
  have:=List.mem_range.mp hi
  row_cond lo
 ·rintro ⟨h0,h1⟩
  exact ⟨v.toNat,List.mem_range.mpr (by row_cond lo),by row_cond lo⟩
theorem Order.get {n:Int} {row:List Int} (h:Order n row) {a:Int} (h0:0<=a) (h1:a < n):∃ x,row[a.toNat]?=some x/\atI row a=some x/\0<=x/\x < n:=by
 have hl:a.toNat < row.length:=by rw [h.len];row_cond lo
 have e:row[a.toNat]?=some row[a.toNat]:=List.getElem?_eq_getElem hl
 have:=h.mem.mp (List.mem_of_getElem? e)
 exact ⟨_,e,ag8 h0 e,this.1,this.2⟩
theorem Order.inj {n:Int} {row:List Int} (h:Order n row) {a b x:Int} (a0:0<=a) (b0:0<=b) (ha:row[a.toNat]?=some x) (hb:row[b.toNat]?=some x):a=b:=by
 obtain ⟨l1,e1⟩:=List.getElem?_eq_some_iff.mp ha
 obtain ⟨l2,e2⟩:=List.getElem?_eq_some_iff.mp hb
 have:=nodup_ix h.nodup l1 l2 (e1.trans e2.symm)
 row_cond lo
theorem Order.id (n:Int):Order n ((List.range n.toNat).map fun (i:Nat)=>(i:Int)):=List.Perm.refl _
noncomputable def aa3 (row:List Int) (a:Int):Int:=row.getD a.toNat 0
noncomputable def reP (row:List Int) (p:Int × Int):Int × Int:=if aa3 row p.1 < aa3 row p.2 then (aa3 row p.1,aa3 row p.2) else (aa3 row p.2,aa3 row p.1)
theorem Order.at {n:Int} {row:List Int} (h:Order n row) {a:Int} (h0:0<=a) (h1:a < n):row[a.toNat]?=some (aa3 row a)/\0<=aa3 row a/\aa3 row a < n:=by
 obtain ⟨x,e,_,x0,x1⟩:=h.get h0 h1
 have:aa3 row a=x:=by unfold aa3;rw [List.getD_eq_getElem?_getD,e];rfl
 rw [this];exact ⟨e,x0,x1⟩
theorem Order.atI {n:Int} {row:List Int} (h:Order n row) {a:Int} (h0:0<=a) (h1:a < n):L2.atI row a=some (aa3 row a):=ag8 h0 (h.at h0 h1).1
theorem Order.ne {n:Int} {row:List Int} (h:Order n row) {a b:Int} (a0:0<=a) (a1:a < n) (b0:0<=b) (b1:b < n) (hab:a ≠ b):aa3 row a ≠ aa3 row b:=fun e=>by
 have h1:=(h.at a0 a1).1
 have h2:=(h.at b0 b1).1
 rw [e] at h1
 exact hab (h.inj a0 b0 h1 h2)
theorem PsOk.re {n:Int} {ps:List (Int × Int)} {row:List Int} (h:PsOk n ps) (o:Order n row):PsOk n (ps.map (reP row)):=by
 have inn:∀ p∈ps,0<=(reP row p).1/\(reP row p).1 < (reP row p).2/\(reP row p).2 < n:=fun p hp=>by
  obtain ⟨p0,p1,p2⟩:=h.inn p hp
  have a:=o.at p0 (by row_cond lo)
  have b:=o.at (a:=p.2) (by row_cond lo) p2
  have ne:=o.ne p0 (by row_cond lo) (by row_cond lo) p2 (by row_cond lo)
  unfold reP
  split <;> dsimp only <;> row_cond lo
 refine ⟨?_,fun q hq=>by obtain ⟨p,hp,rfl⟩:=List.mem_map.mp hq;exact inn p hp⟩
 unfold List.Nodup
 rw [List.pairwise_map]
 refine List.Pairwise.imp_of_mem ?_ h.nd
 intro p q hp hq hne e
 apply hne
 obtain ⟨p0,p1,p2⟩:=h.inn p hp
 obtain ⟨q0,q1,q2⟩:=h.inn q hq
 have inj:∀ a b,0<=a->a < n->0<=b->b < n->aa3 row a=aa3 row b->a=b:=fun a b a0 a1 b0 b1 e=>by
  apply Classical.byContradiction
  intro hab
  exact o.ne a0 a1 b0 b1 hab e
 have d1:=inj p.1 q.1 p0 (by row_cond lo) q0 (by row_cond lo)
 have d2:=inj p.2 q.2 (by row_cond lo) p2 (by row_cond lo) q2
 have d3:=inj p.1 q.2 p0 (by row_cond lo) (by row_cond lo) q2
 have d4:=inj p.2 q.1 (by row_cond lo) p2 q0 (by row_cond lo)
 unfold reP at e
 split at e <;> split at e <;> simp only [Prod.mk.injEq] at e
 ·exact Prod.ext (d1 e.1) (d2 e.2)
 ·have:=d3 e.1;have:=d4 e.2;row_cond lo
 ·have:=d4 e.1;have:=d3 e.2;row_cond lo
 ·exact Prod.ext (d1 e.2) (d2 e.1)
theorem Tied.re {ps:List (Int × Int)} {row:List Int} {u v:Int} (h:Tied ps u v):Tied (ps.map (reP row)) (aa3 row u) (aa3 row v):=by
 have key:∀ a b,(a,b)∈ps->Tied (ps.map (reP row)) (aa3 row a) (aa3 row b):=fun a b hm=>by
  have:=List.mem_map_of_mem (f:=reP row) hm
  unfold reP at this
  dsimp only at this
  split at this
  ·exact .inl this
  ·exact .inr this
 rcases h with h | h
 ·exact key u v h
 ·exact (key v u h).symm
theorem Conn.re {n:Int} {ps:List (Int × Int)} {row:List Int} (h:Conn n (Tied ps)) (o:Order n row):Conn n (Tied (ps.map (reP row))):=fun u v u0 u1 v0 v1=>by
 have back:∀ x,0<=x->x < n->∃ a,0<=a/\a < n/\aa3 row a=x:=fun x x0 x1=>by
  obtain ⟨i,hi,e⟩:=List.mem_iff_getElem.mp (o.mem.mpr ⟨x0,x1⟩)
  refine ⟨i,by row_cond lo,by rw [o.len] at hi;row_cond lo,?_⟩
  unfold aa3
  simp [hi,e]
 obtain ⟨a,a0,a1,rfl⟩:=back u u0 u1
 obtain ⟨b,b0,b1,rfl⟩:=back v v0 v1
 obtain ⟨k,w⟩:=h a b a0 a1 b0 b1
 exact ⟨k,w.rec .refl fun _ t ih => .step ih t.re⟩
theorem Tied.perm {qs ps:List (Int × Int)} (h:qs.Perm ps) {u v:Int}:Tied qs u v ↔ Tied ps u v:=by unfold Tied;rw [h.mem_iff,h.mem_iff]
theorem asj {n:Int} {ps qs:List (Int × Int)} (h0:1<=n) (h1:n<=60) (h:PsOk n ps) (hp:qs.Perm ps) (hs:lexS (qs.map p2)):WebOk n qs:=⟨h0,h1,fun p hm=>h.inn p (hp.mem_iff.mp hm),ane hp h.nd hs⟩
theorem WebOk.ps {n:Int} {es:List (Int × Int)} (h:WebOk n es):PsOk n es:=⟨h.rise.nodup,h.inn⟩
theorem ahc {α:Type}:∀ {l:List α} {k:Nat} {x : α},l[k]?=some x->(x :: l.eraseIdx k).Perm l
 | [],_,_,h=>by simp at h
 | a :: l,0,x,h=>by simp at h;subst h;exact List.Perm.refl _
 | a :: l,k+1,x,h=>by
  have ih:=ahc (l:=l) (k:=k) (x:=x) (by simpa using h)
  exact (List.Perm.swap a x _).trans (ih.cons a)
theorem aow {n:Int} {row left:List Int} {k:Nat} {x:Int} (h:Order n (row ++ left)) (hx:left[k]?=some x):Order n ((row ++ [x]) ++ left.eraseIdx k):=by
 refine List.Perm.trans ?_ h
 rw [List.append_assoc]
 refine List.Perm.append_left row ?_
 exact ahc hx
section
variable {B:Bs} {env:En} {g:TG} {tif:TT} {te:TE} {K:PySem.W.Frag} {src:List (Option Nat)} {ds:List PyData} {e1:En} {R:List PyData->En->Prop}
end
theorem avt (n:Nat):rngD 0 n=((List.range n).map fun (i:Nat)=>(i:Int)).map PyData.int:=by simp [rngD]
theorem abp {B:Bs} {g:TG} {A:Own} {d:PyData} {env:En} {QE:En->Prop} (f:Frz A d) (h:EvG B g (.st d) env QE):EvG B g (.own A) env QE:=fun σ G H F v Fv Q I x k =>
 h σ _ H F v _ Q (I.freeze x.fb x.fd x.fg) (acf (f G H v Fv x.ok x.fg I.gh)) fun σ' G' H' F' e' I' g' q=>k σ' G' H' F' e' I' ((abx x.fg).trans g') q
theorem cutR {R X:Prop} (h:R->X) (r:R):X:=h r
end VL
namespace VL
open PySem PySem.Spec L2
def adq (e:En):Prop:=∀ (j:Nat) (s:Sl),e[j]?=some (some s)->(∃ d,s=.st d)\/∃ ns:List Int,s=.scr ns
def Sls (K:PySem.W.Frag) (G:Hp) (σ:St) (e:En):Prop:=∀ (j:Nat) (s:Sl),e[j]?=some (some s)->∃ v,σ[j]?=some (some v)/\((∃ d,s=.st d/\Rp G v d)\/∃ (ns:List Int) (a:Addr),s=.scr ns/\v=.ref a/\SqL K G a (ns.map V.int))
theorem Sls.same {K:PySem.W.Frag} {G G':Hp} {σ:St} {e:En} (h:Sls K G σ e) (g:Same G G'):Sls K G' σ e:=fun j s es=>by
 obtain ⟨v,hv,q⟩:=h j s es
 refine ⟨v,hv,?_⟩
 rcases q with ⟨d,e1,r⟩ | ⟨ns,a,e1,e2,r⟩
 ·exact .inl ⟨d,e1,r.same g⟩
 ·exact .inr ⟨ns,a,e1,e2,g.seq r⟩
noncomputable def bsC (K:PySem.W.Frag) (G H:Hp) (σ:St):Bs:=⟨K,G,H,H,σ,noF⟩
theorem ai0 {K:PySem.W.Frag} {G H:Hp} {σ:St} {e:En} (gh:Same G H) (ft:FT G H) (ln : σ.length=e.length) (sl:Sls K G σ e):VI (bsC K G H σ) G H σ e noF:=by
 refine ⟨gh,Same.refl _,fun a o e => .inl e,Same.refl _,Same.refl _,fun a o e=>⟨o,e⟩,fun i a z=>z.elim,fun i a z=>z.elim,fun i j a z=>z.elim,fun i a z=>z.elim,fun i s es=>?_,ln,ft⟩
 obtain ⟨v,hv,q⟩:=sl i s es
 refine ⟨v,hv,?_⟩
 rcases q with ⟨d,e1,r⟩ | ⟨ns,a,e1,e2,r⟩
 ·subst e1;exact ⟨r,fun a z=>z⟩
 ·subst e1;exact ⟨⟨a,e2,r⟩,fun a z=>z⟩
theorem ahd {B:Bs} {K:PySem.W.Frag} {G H:Hp} {σ:St} {e:En} {F:Nat->Addr->Prop} (I:VI B G H σ e F) (c:adq e) (hK:B.K=K:=by rfl):Sls K G σ e:=fun j s es=>by
 subst hK
 obtain ⟨v,hv,q⟩:=I.sl j s es
 refine ⟨v,hv,?_⟩
 rcases c j s es with ⟨d,rfl⟩ | ⟨ns,rfl⟩
 ·exact .inl ⟨d,rfl,q.1⟩
 ·obtain ⟨⟨a,ea,sq⟩,_⟩:=q
  exact .inr ⟨ns,a,rfl,ea,sq⟩
def LcV2 (K:PySem.W.Frag) (src:List (Option Nat)) (g:TG) (tif:TT) (wi2:TI) (g2:TG) (tif2:TT) (te:TE) (ds:List PyData) (e1:En) (R:List PyData->Prop):Prop:=∃ J:Nat->List PyData->En->Prop,J 0 [] (aal src e1)/\(∀ i ys e,J i ys e->adq e) /\
 (∀ i d ys e,ds[i]?=some d->J i ys e->∀ B':Bs,B'.K=K->EvG B' g (.st d) e fun e2=>EvT B' tif e2 fun b e3=>if b=true then EvI B' wi2 e3 fun ds2 e4=>∃ J2:Nat->List PyData->En->Prop,J2 0 ys e4/\(∀ j ys e,J2 j ys e->adq e) /\
  (∀ j d2 ys2 e,ds2[j]?=some d2->J2 j ys2 e->∀ B2:Bs,B2.K=K->EvG B2 g2 (.st d2) e fun e5=>EvT B2 tif2 e5 fun b e6=>if b=true then Ev B2 te e6 fun y e7=>ys2.length<=999999/\J2 (j+1) (ys2 ++ [y]) e7 else J2 (j+1) ys2 e6)/\(∀ ys2 e,J2 ds2.length ys2 e->J (i+1) ys2 e) else J (i+1) ys e3)/\∀ ys e,J ds.length ys e->R ys
section
variable {B:Bs} {env:En}
theorem anf {src:List (Option Nat)} {wi:TI} {g:TG} {tif:TT} {wi2:TI} {g2:TG} {tif2:TT} {te:TE} {QO:Sl->En->Prop} (h:EvI B wi env fun ds e1=>LcV2 B.K src g tif wi2 g2 tif2 te ds e1 fun ys=>QO (.own (OL ys)) e1):EvO B (tLC2 src wi g tif wi2 g2 tif2 te) env QO:=fun σ G H F Q I k=>by
 refine h σ G H F _ I fun J G1 H1 F1 ds e1 I1 g1 it ⟨Jv,j0,jc,js,jd⟩ acc hacc=>?_
 have fa:∀ j,¬ F1 j acc:=I1.no_f hacc
 have hb:B.H acc=none:=I1.no_b hacc
 -- between two turns
 let Wv:(List PyData->En->Prop)->List V->St->Hp->Prop:=fun J ys σI H=>∃ G2 e yd,VI B G2 H σ e1 F1/\Same G1 G2/\H acc=some (.lst ys)/\Rps G2 ys yd/\G2 acc=none/\J yd e/\σI.length=e.length/\Sls B.K G2 σI e
 -- out of a frame within
 have leave:∀ {G3 H3:Hp} {σI:St} {ys:List V},VI B G3 H3 σ e1 F1->G3 acc=none->H3 acc=some (.lst ys)->∀ {G4 H4:Hp} {σ4:St} {F4:Nat->Addr->Prop} {e4:En},VI (bsC B.K G3 H3 σI) G4 H4 σ4 e4 F4->VI B G4 H4 σ e1 F1/\G4 acc=none/\H4 acc=some (.lst ys):=by
  intro G3 H3 σI ys I3 ga ac G4 H4 σ4 F4 e4 I4
  refine ⟨I3.grow I4.g0 I4.gh I4.rs I4.gn I4.ft,?_,I4.rs _ _ ac⟩
  cases e':G4 acc with
  | none=>rfl
  | some u =>
   rcases I4.gn acc u e' with q | q
   ·change G3 acc=_ at q;rw [ga] at q;cases q
   ·change H3 acc=_ at q;rw [ac] at q;cases q
 have step:∀ {G2 H2:Hp} {ys:List V} {x:V} {G3 H3:Hp} {d:PyData},VI B G2 H2 σ e1 F1->G2 acc=none->H2 acc=some (.lst ys)->Out G2 H2 x G3 H3 (.st d) (fun _=>False)->VI B G3 H3 σ e1 F1/\G3 acc=none/\H3 acc=some (.lst ys):=by
  intro G2 H2 ys x G3 H3 d I2 ga ac o
  refine ⟨(I2.out o).1,?_,o.hh _ _ ac⟩
  cases e':G3 acc with
  | none=>rfl
  | some u =>
   rcases o.gn acc u e' with q | q
   ·rw [ga] at q;cases q
   ·rw [ac] at q;cases q
 refine ⟨fun i m ys σI H=>m=ds.length - i/\i<=ds.length/\Wv (Jv i) ys σI H,⟨ds.length,by simp,Nat.zero_le _,?_⟩,?_⟩
 ·refine ⟨G1,aal src e1,[],I1.aside (fun _ z=>nomatch z) (I1.no_g hacc) fa hb,Same.refl _,aai,.nil,I1.no_g hacc,j0,by simp [pick,aal],fun j s e=>?_⟩
  obtain ⟨i,t,hs,ht,hp⟩:=aey e
  obtain ⟨v,hv,q⟩:=I1.sl i t ht
  refine ⟨v,ak7 hs hv,?_⟩
  cases t with
  | st d=>cases hp;exact .inl ⟨d,rfl,q.1⟩
  | scr ns =>
   cases hp
   obtain ⟨⟨a,ea,sq⟩,_⟩:=q
   exact .inr ⟨ns,a,rfl,ea,sq⟩
  | own A=>cases hp;rcases jc _ _ _ j0 j _ e with ⟨d,z⟩ | ⟨ns,z⟩ <;> cases z
  | io A=>cases hp;rcases jc _ _ _ j0 j _ e with ⟨d,z⟩ | ⟨ns,z⟩ <;> cases z
 ·rintro i m ys σI H2 ⟨rfl,hi,G2,e,yd,I2,g2',hac,ry,ga,jv,ln,sl⟩
  by_cases hlt:i < ds.length
  ·refine .inr ⟨it.go i G2 H2 g2' I2.gh hlt,Wv (Jv (i+1)),fun ys' σ' H' hw=>⟨ds.length - (i+1),by row_cond lo,rfl,hlt,hw⟩,fun x H3 y=>?_⟩
   obtain ⟨G3,o⟩:=it.yld i G2 H2 x H3 _ g2' I2.gh I2.ft (List.getElem?_eq_getElem hlt) y
   obtain ⟨I3,ga3,ac3⟩:=step I2 ga hac o
   have E3:=ai0 (K:=B.K) I3.gh I3.ft ln (sl.same o.gg)
   refine js i _ yd e (List.getElem?_eq_getElem hlt) jv (bsC B.K G3 H3 σI) rfl σI G3 H3 _ x _ _ E3 (acf o.ok.1) fun σ4 G4 H4 F4 e4 I4 g4 q4=>?_
   refine q4 σ4 G4 H4 F4 _ I4 fun b G5 H5 F5 e5 I5 g5 q5=>?_
   have ry5:=ry.same (o.gg.trans (g4.trans g5))
   have s5:=g2'.trans (o.gg.trans (g4.trans g5))
   cases b with
   | false =>
    rw [if_neg Bool.false_ne_true] at q5 ⊢
    obtain ⟨K5,ga5,ac5⟩:=leave I3 ga3 ac3 I5
    exact ⟨G5,e5,yd,K5,s5,ac5,ry5,ga5,q5,I5.ln,ahd I5 (jc _ _ _ q5)⟩
   | true =>
    rw [if_pos rfl] at q5 ⊢
    refine q5 σ4 G5 H5 F5 _ I5 fun J2 G6 H6 F6 ds2 e6 I6 g6 it2 ⟨Jw,w0,wc,ws,wd⟩=>?_
    obtain ⟨K6,ga6,ac6⟩:=leave I3 ga3 ac3 I6
    have s6:=s5.trans g6
    let Wi:Nat->List V->St->Hp->Prop:=fun j ys σI H=>∃ G2 e yd,VI B G2 H σ e1 F1/\Same G6 G2/\H acc=some (.lst ys)/\Rps G2 ys yd/\G2 acc=none/\Jw j yd e/\σI.length=e.length/\Sls B.K G2 σI e
    refine ⟨fun j m ys σI H=>m=ds2.length - j/\j<=ds2.length/\Wi j ys σI H,⟨ds2.length,by simp,Nat.zero_le _,G6,e6,yd,K6,Same.refl _,ac6,ry5.same g6,ga6,w0,I6.ln,ahd I6 (wc _ _ _ w0)⟩,?_⟩
    rintro j m zs σJ H7 ⟨rfl,hj,G7,e7,zd,I7,g7,ac7,rz,ga7,jw,ln7,sl7⟩
    refine ⟨ac7,?_⟩
    by_cases hlt2:j < ds2.length
    ·refine .inr ⟨it2.go j G7 H7 g7 I7.gh hlt2,Wi (j+1),fun ys' σ' H' hw=>⟨ds2.length - (j+1),by row_cond lo,rfl,hlt2,hw⟩,fun x2 H8 y2=>?_⟩
     obtain ⟨G8,o2⟩:=it2.yld j G7 H7 x2 H8 _ g7 I7.gh I7.ft (List.getElem?_eq_getElem hlt2) y2
     obtain ⟨I8,ga8,ac8⟩:=step I7 ga7 ac7 o2
     have E8:=ai0 (K:=B.K) I8.gh I8.ft ln7 (sl7.same o2.gg)
     refine ws j _ zd e7 (List.getElem?_eq_getElem hlt2) jw (bsC B.K G8 H8 σJ) rfl σJ G8 H8 _ x2 _ _ E8 (acf o2.ok.1) fun σ9 G9 H9 F9 e9 I9 g9 q9=>?_
     refine q9 σ9 G9 H9 F9 _ I9 fun b GA HA FA eA IA gA qA=>?_
     cases b with
     | false =>
      rw [if_neg Bool.false_ne_true] at qA ⊢
      obtain ⟨KA,gaA,acA⟩:=leave I8 ga8 ac8 IA
      have sA:=o2.gg.trans (g9.trans gA)
      exact ⟨GA,eA,zd,KA,g7.trans sA,acA,rz.same sA,gaA,qA,IA.ln,ahd IA (wc _ _ _ qA)⟩
     | true =>
      rw [if_pos rfl] at qA ⊢
      refine qA σ9 GA HA FA _ IA fun yv GB HB FB dB eB IB gB rB ⟨lB,qB⟩=>?_
      obtain ⟨KB,gaB,acB⟩:=leave I8 ga8 ac8 IB
      have sB:=o2.gg.trans (g9.trans (gA.trans gB))
      have rzB:=rz.same sB
      refine ⟨acB,by rw [rzB.length];exact Nat.lt_of_le_of_lt lB (by decide),GB,eB,zd ++ [dB],KB.aside (fun _ z=>nomatch z) gaB fa hb,g7.trans sB,aai,rzB.append (.cons rB .nil),gaB,qB,IB.ln,ahd IB (wc _ _ _ qB)⟩
    ·have ej:j=ds2.length:=by row_cond lo
     subst ej
     refine .inl ⟨it2.stop _ G7 H7 g7 I7.gh rfl,G7,e7,zd,I7,s6.trans g7,ac7,rz,ga7,wd _ _ jw,ln7,sl7⟩
  ·have ei:i=ds.length:=by row_cond lo
   subst ei
   refine .inl ⟨it.stop _ G2 H2 g2' I2.gh rfl,?_⟩
   refine k (.ref acc) G2 H2 F1 (· = acc) (.own (OL yd)) e1 I2 (g1.trans g2') ⟨⟨acc,ys,rfl,hac,ry,fun b=>Iff.rfl⟩,fun a z=>by rw [z];exact hb,fun a z=>by rw [z];exact ga,fun a z=>by rw [z];exact ⟨_,hac⟩,fun j a z=>by rw [z];exact fa j⟩ (jd _ _ jv)
end
theorem abd {o:Option PyData} {e:En} (h:adq e):adq (stO o :: e):=fun j s es=>by
 cases j with
 | zero =>
  cases o with
  | none=>simp [stO] at es
  | some d =>
   have:s=.st d:=by simpa [stO] using es.symm
   exact .inl ⟨d,this⟩
 | succ j=>exact h j s (by simpa using es)
section
variable {B:Bs} {env:En} {Q':PyData->En->Prop} {QO:Sl->En->Prop} {c:TT} {ta tb:TE}
theorem aym {src:List (Option Nat)} {wi:TI} {g:TG} {tif:TT} {wi2:TI} {g2:TG} {tif2:TT} {te:TE} (h:EvI B wi env fun ds e1=>LcV2 B.K src g tif wi2 g2 tif2 te ds e1 fun ys=>Q' (.list ys) e1):Ev B (tLC2 src wi g tif wi2 g2 tif2 te) env Q':=abv (anf fun σ G H F R I k=>h σ G H F R I fun J G1 H1 F1 ds e1 I1 g1 it ⟨Jv,a,b,c,d⟩=>k J G1 H1 F1 ds e1 I1 g1 it ⟨Jv,a,b,c,fun ys e q=>afd (d ys e q)⟩)
end
noncomputable def ayn (e:En):Bool:=e.all fun o=>match o with | some (.own _)=>false | some (.io _)=>false | _=>true
theorem aqf {e:En} (h:ayn e=true):adq e:=fun j s es=>by
 have:=List.all_eq_true.mp h (some s) (List.mem_of_getElem? es)
 cases s with
 | st d=>exact .inl ⟨d,rfl⟩
 | scr ns=>exact .inr ⟨ns,rfl⟩
 | own A=>simp at this
 | io A=>simp at this
end VL
namespace VL
open PySem PySem.Spec L2 PyProof.Rows
theorem ah6 {G:Hp}:∀ {vs:List V} {ds:List PyData} {i:Nat} {v:V} {d:PyData},Rps G vs ds->vs[i]?=some v->ds[i]?=some d->Rp G v d
 | _,_,0,_,_,.cons r _,e1,e2=>by simp at e1 e2;subst e1 e2;exact r
 | _,_,i+1,_,_,.cons _ t,e1,e2=>ah6 t (i:=i) (by simpa using e1) (by simpa using e2)
theorem asl {K:PySem.W.Frag} {ds:List PyData} {R:Sl->Prop} (hc:∀ d∈ds,∀ e∈ds,cmpD d e=true) (hp:∀ d∈ds,aaj d=true/\d.depth<=60) (h0:ds=[]->R (.st .none)) (h1:∀ d,ds[argBest (HT.btD ds) (ds.length - 1)]?=some d->R (.st d)):OpA (aoo K) [.list ds] R:=fun G H vs Q gh rs k=>by
 cases rs with
 | cons r t =>
  cases t
  cases r with
  | @lst a xs ds ha ra =>
   have hl:=ra.length
   refine ⟨a,xs,ds,rfl,SqL.of (gh _ _ ha),hl,fun i v d ev ed=>((ah6 ra ev ed).rep (hp d (List.mem_of_getElem? ed)).1).same gh,hc,hp,fun e=>?_,fun v ev=>?_⟩
   ·exact k _ _ _ _ _ (Out.refl gh .non) (h0 (List.length_eq_zero_iff.mp (by rw [← hl,e];rfl)))
   ·rw [hl] at ev
    have hi:=(List.getElem?_eq_some_iff.mp ev).1
    have ed:ds[argBest (HT.btD ds) (ds.length - 1)]?=some (ds[argBest (HT.btD ds) (ds.length - 1)]'(by row_cond lo)):=List.getElem?_eq_getElem (by row_cond lo)
    exact k _ _ _ _ _ (Out.refl gh (ah6 ra ev ed)) (h1 _ ed)
theorem ang {bt:Nat->Nat->Bool}:∀ (m:Nat),argBest bt m<=m
 | 0=>Nat.le_refl _
 | m+1=>by
  have:=ang (bt:=bt) m
  simp only [argBest]
  split <;> row_cond lo
theorem anh {bt:Nat->Nat->Bool} {n:Nat} (ir:∀ i,i < n->bt i i=false) (tr:∀ i j k,i < n->j < n->k < n->bt i j=true->bt j k=true->bt i k=true):∀ (m:Nat),m < n->∀ i,i<=m->bt i (argBest bt m)=false
 | 0,hm,i,hi=>by
  have:i=0:=by row_cond lo
  subst this;exact ir 0 hm
 | m+1,hm,i,hi=>by
  have ih:=anh ir tr m (by row_cond lo)
  have hb:=ang (bt:=bt) m
  simp only [argBest]
  by_cases h:bt (m+1) (argBest bt m)=true
  ·rw [if_pos h]
   by_cases hi':i=m+1
   ·subst hi';exact ir _ hm
   ·cases e:bt i (m+1) with
    | false=>rfl
    | true =>
     have:=tr i (m+1) (argBest bt m) (by row_cond lo) hm (by row_cond lo) e h
     rw [ih i (by row_cond lo)] at this;cases this
  ·rw [if_neg h]
   by_cases hi':i=m+1
   ·subst hi';simpa using h
   ·exact ih i (by row_cond lo)
noncomputable abbrev Z3:=Int × (Int × Int)
@[reducible] noncomputable def z3D (z:Z3):PyData:=.tuple [.int z.1,prD z.2]
def lt3 (y z:Z3):Prop:=y.1 < z.1\/(y.1=z.1/\ltP y.2 z.2)
theorem avu (z:Z3):¬ lt3 z z:=by
 rintro (h | ⟨_,h⟩)
 ·row_cond lo
 ·exact ad8 _ h
theorem ayo {x y z:Z3} (h:lt3 x y) (g:lt3 y z):lt3 x z:=by
 rcases h with h | ⟨h,h'⟩ <;> rcases g with g | ⟨g,g'⟩
 ·exact .inl (by row_cond lo)
 ·exact .inl (by row_cond lo)
 ·exact .inl (by row_cond lo)
 ·exact .inr ⟨by row_cond lo,aqe h' g'⟩
theorem ayp (y z:Z3):ltv (z3D y) (z3D z)=true ↔ lt3 y z:=by
 obtain ⟨a,b,c⟩:=y
 obtain ⟨d,e,f⟩:=z
 simp only [z3D,prD,ltv,ltvs,PyData.eqv,lt3,ltP]
 by_cases h1:a=d <;> by_cases h2:b=e <;> by_cases h3:c=f <;> simp [h1,h2,h3,ltv,ltvs,PyData.eqv,PyData.eqvAll] <;> row_cond lo
theorem z3_ok {zs:List Z3}:(∀ d∈zs.map z3D,∀ e∈zs.map z3D,cmpD d e=true)/\∀ d∈zs.map z3D,aaj d=true/\d.depth<=60:=by
 refine ⟨fun d hd e he=>?_,fun d hd=>?_⟩
 ·obtain ⟨y,_,rfl⟩:=List.mem_map.mp hd
  obtain ⟨z,_,rfl⟩:=List.mem_map.mp he
  simp [cmpD,cmpDs]
 ·obtain ⟨y,_,rfl⟩:=List.mem_map.mp hd
  exact ⟨rfl,by simp [PyData.depth,PyData.depthAll]⟩
theorem avv {zs:List Z3} {d:PyData} (ed:(zs.map z3D)[argBest (HT.btD (zs.map z3D)) ((zs.map z3D).length - 1)]?=some d):∃ z∈zs,d=z3D z/\∀ y∈zs,¬ lt3 y z:=by
 have hg:∀ i j,i < zs.length->j < zs.length->(HT.btD (zs.map z3D) i j=true ↔ lt3 (zs.getD i (0,0,0)) (zs.getD j (0,0,0))):=fun i j hi hj=>by
  rw [← ayp]
  unfold HT.btD
  rw [List.getD_eq_getElem?_getD,List.getD_eq_getElem?_getD,List.getD_eq_getElem?_getD,List.getD_eq_getElem?_getD,List.getElem?_map,List.getElem?_map,List.getElem?_eq_getElem hi,List.getElem?_eq_getElem hj]
  simp
 rw [List.length_map] at ed
 generalize hk:argBest (HT.btD (zs.map z3D)) (zs.length - 1)=b at ed
 rw [List.getElem?_map] at ed
 cases ez:zs[b]? with
 | none=>rw [ez] at ed;cases ed
 | some z =>
  rw [ez] at ed
  cases ed
  have hb:=(List.getElem?_eq_some_iff.mp ez).1
  refine ⟨z,List.mem_of_getElem? ez,rfl,fun y hy hlt=>?_⟩
  obtain ⟨i,hi,ey⟩:=List.mem_iff_getElem.mp hy
  have key:=anh (bt:=HT.btD (zs.map z3D)) (n:=zs.length) (fun i hi=>by
    cases e:HT.btD (zs.map z3D) i i with
    | false=>rfl
    | true => exact absurd ((hg i i hi hi).mp e) (avu _)) (fun i j k hi hj hk' a b => (hg i k hi hk').mpr (ayo ((hg i j hi hj).mp a) ((hg j k hj hk').mp b))) (zs.length - 1) (by row_cond lo) i (by row_cond lo)
  rw [hk] at key
  have:HT.btD (zs.map z3D) i b=true:=(hg i b hi hb).mpr (by
   rw [List.getD_eq_getElem?_getD,List.getD_eq_getElem?_getD,ez,List.getElem?_eq_getElem hi]
   simpa [ey] using hlt)
  rw [key] at this;cases this
theorem asm {K:PySem.W.Frag} {zs:List Z3} {R:Sl->Prop} (h0:zs=[]->R (.st .none)) (h1:∀ z∈zs,(∀ y∈zs,¬ lt3 y z)->R (.st (z3D z))):OpA (aoo K) [.list (zs.map z3D)] R :=
 asl z3_ok.1 z3_ok.2 (fun e=>h0 (by simpa using e)) fun d ed=>by
  obtain ⟨z,hz,rfl,hm⟩:=avv ed
  exact h1 z hz hm
end VL
namespace VL
open PySem PySem.Spec L2
section
variable {B:Bs} {env:En} {QO:Sl->En->Prop} {i:Nat}
end
end VL
namespace VL
open PySem PySem.Spec L2
end VL
namespace VL
open PySem PySem.Spec L2
section
variable {X:Cx}
end
section
variable {R:Sl->Prop}
end
end VL
namespace L2
open PySem PySem.Spec PyProof.Rows
noncomputable def isV (k:Int):Value->Bool
 | .int a _=>decide (a=k)
 | _=>false
theorem ala {ns:List Int} {us:List Value} (r:Vals (ns.map V.int) us) (k:Int):∀ i (h:i < us.length) (h':i < ns.length),isV k us[i]=decide (ns[i]=k):=by
 induction ns generalizing us with
 | nil=>intro i h h';simp at h'
 | cons n ns ih =>
  rw [List.map_cons] at r
  cases r with
  | cons r1 r2 =>
   obtain ⟨t,e⟩:=r1
   subst e
   intro i h h'
   cases i with
   | zero=>rfl
   | succ i=>exact ih r2 i (by simpa using h) (by simpa using h')
theorem aox {ns:List Int} {us:List Value} (r:Vals (ns.map V.int) us) (k:Int) (t:Tok):∀ y∈us,MeetsSeq.EqGives y (.int k t) (isV k y):=by
 induction ns generalizing us with
 | nil=>rw [List.map_nil] at r;cases r;intro y hy;simp at hy
 | cons n ns ih =>
  rw [List.map_cons] at r
  cases r with
  | cons r1 r2 =>
   obtain ⟨u,e⟩:=r1
   subst e
   intro y hy
   rcases List.mem_cons.mp hy with rfl | hy
   ·exact MeetsSeq.EqGives.int n k u t
   ·exact ih r2 y hy
section
variable {X:Cx}
def aqg:V->List V->Hp->VK->Prop:=fun x vs H Q=>∃ (l:Addr) (ns:List Int) (k:Int) (j:Nat),x=.ref l/\vs=[.int k]/\H l=some (.lst (ns.map V.int))/\ns[j]?=some k/\(∀ m,m < j->ns[m]? ≠ some k)/\Q (.int j) H
theorem alb:MtM X "list.index" aqg:=by
 intro pins s σ H x vs v us Q I rx rv h
 obtain ⟨l,ns,k,j,rfl,rfl,hH,hj,hno,q⟩:=h
 cases rx
 obtain ⟨u,rfl,ru⟩:=rv.one
 obtain ⟨t,rfl⟩:=ru
 obtain ⟨z,its,n,r,hl,e⟩:=I.lstM hH
 rw [List.length_map] at hl z
 obtain ⟨hj1,hj2⟩:=List.getElem?_eq_some_iff.mp hj
 have hz:sizeLine < 2 ^ 62:=by decide
 refine call_meets F.slot_list_index ⟨_,e,rfl⟩ F.entry_list_index (F.args_list_index_2 _ _)
  (MeetsSeq.list_index l its.toArray n (.int k t) (isV k) (fun y hy=>aox r k t y (by simpa using hy)) j (by rw [List.size_toArray];row_cond lo) (by row_cond lo) ?_ (fun m hm hlt=>?_)) ⟨e,?_⟩
 ·rw [List.getElem_toArray,ala r k j (by row_cond lo) hj1,decide_eq_true hj2]
 ·have hm':m < ns.length:=by row_cond lo
  rw [List.getElem_toArray,ala r k m (by row_cond lo) hm']
  exact decide_eq_false fun e=>hno m hlt (by rw [List.getElem?_eq_getElem hm',e])
 ·exact ⟨.int j,H,I.tok _,⟨_,rfl⟩,q⟩
variable {e est:Expr} {te:TE} {ts:TO} {pos p2:Pos}
end
end L2
namespace VL
open PySem PySem.Spec L2
section
variable {B:Bs} {env:En} {QO:Sl->En->Prop} {Q':PyData->En->Prop} {te tl:TE} {ts:TO} {K:PySem.W.Frag} {i:Nat}
theorem Rps.rev {G:Hp}:∀ {vs:List V} {ds:List PyData},Rps G vs ds->Rps G vs.reverse ds.reverse
 | _,_,.nil => .nil
 | _,_,.cons r t=>by
  rw [List.reverse_cons,List.reverse_cons]
  exact (Rps.rev t).append (.cons r .nil)
theorem asn (h:Ev B tl env fun x e1=>∃ ns:List Int,x=.list (ns.map .int)/\Ev B te e1 fun y e2=>∃ (k:Int) (j:Nat),y=.int k/\ns[j]?=some k/\(∀ m,m < j->ns[m]? ≠ some k)/\Q' (.int j) e2):Ev B (tBM K "list" aqg tl (aa4 te tNil)) env Q':=fun σ G H F Q I k =>
 h σ G H F _ I fun v G1 H1 F1 d e1 I1 g1 r1 z_=>by
  obtain ⟨ns,ed,q1⟩:=z_
  subst ed
  cases r1 with
  | @lst a vs _ ha rs =>
   have ev:vs=ns.map V.int:=rs.ints_inv
   subst ev
   refine ⟨.inl ⟨rfl,_,SqL.of (I1.gh _ _ ha)⟩,q1 σ G1 H1 F1 _ I1 fun u G2 H2 F2 y e2 I2 g2 r2 ⟨c,j,ey,h1,h2,q⟩=>?_⟩
   subst ey
   cases r2
   exact ⟨a,ns,c,j,rfl,rfl,I2.gh _ _ (g2 _ _ ha),h1,h2,k _ G2 H2 F2 _ e2 I2 (g1.trans g2) (.int _) q⟩
end
end VL
namespace VL
open PySem PySem.Spec L2
theorem atv {α:Type} [DecidableEq α]:∀ {as bs:List α},as.Nodup->(∀ a∈as,a∈bs)->as.length<=bs.length
 | [],_,_,_=>Nat.zero_le _
 | a :: as,bs,hn,hs=>by
  have ha:a∈bs:=hs a (List.mem_cons_self ..)
  have hn':=List.nodup_cons.mp hn
  have h:=atv (bs:=bs.erase a) hn'.2 fun x hx=>(List.mem_erase_of_ne (show x ≠ a from fun e=>hn'.1 (by rw [← e];exact hx))).mpr (hs x (List.mem_cons_of_mem _ hx))
  rw [List.length_erase_of_mem ha] at h
  have:0 < bs.length:=List.length_pos_of_mem ha
  simp only [List.length_cons]
  row_cond lo
structure But (n:Int) (es rem:List (Int × Int)):Prop where
 rise:Rise es
 inn:∀ p∈es,0<=p.1/\p.1 < p.2/\p.2 < n
 all:∀ p:Int × Int,0<=p.1->p.1 < p.2->p.2 < n->p∈es\/p∈rem
theorem But.len {n:Int} {es rem:List (Int × Int)} (h:But n es rem) (hn:8<=n) (hr:rem.length<=5):2<=es.length:=by
 have:=atv (as:=[((0:Int),(1:Int)),(0,2),(0,3),(0,4),(0,5),(0,6),(0,7)]) (bs:=es ++ rem) (by decide) (fun p hp=>by
  have:0<=p.1/\p.1 < p.2/\p.2 < 8:=by
   simp only [List.mem_cons,List.not_mem_nil,or_false] at hp
   rcases hp with rfl | rfl | rfl | rfl | rfl | rfl | rfl <;> decide
  exact List.mem_append.mpr (h.all p this.1 this.2.1 (by row_cond lo)))
 simp at this
 row_cond lo
end VL
namespace PopT
open PySem PyProof.Rows
section
variable {prog:Program} {w:World} {K:Type} [DecidableEq K] {knd:HeapKind prog w K} {A:Around} {E:Value->Shared->Prop} {s:Shared}
end
end PopT
namespace L2
open PySem PySem.Spec PySem.W PyProof.Rows
theorem KT.at {H:Hp} {kvs:List (List Key × V)} {xs:List (List Key × Addr × Value)} (r:KT H kvs xs):∀ {j:Nat} {k:List Key} {v:V},kvs[j]?=some (k,v)->∃ p:Addr × Value,xs[j]?=some (k,p)/\RelV v p.2:=by
 induction r with
 | nil=>intro j k v e;simp at e
 | @cons p q ps qs hq t ih =>
  intro j k v e
  cases j with
  | zero =>
   have e:p=(k,v):=by simpa using e
   subst e
   exact ⟨q.2,by rw [List.getElem?_cons_zero,show k=q.1 from hq.1],hq.2.2⟩
  | succ j=>exact ih (by simpa using e)
theorem KT.erase {H:Hp} {kvs:List (List Key × V)} {xs:List (List Key × Addr × Value)} (r:KT H kvs xs):∀ (j:Nat),KT H (kvs.eraseIdx j) (xs.eraseIdx j):=by
 induction r with
 | nil=>intro j;exact .nil
 | @cons p q ps qs hq t ih =>
  intro j
  cases j with
  | zero=>exact t
  | succ j=>exact .cons hq (ih j)
section
variable {X:Cx} {pins:List (Addr × Obj)} {σ:St} {H:Hp} {s:Shared} {a b:Addr} {A:Around} {E:Value->Shared->Prop}
end
section
variable {X:Cx} {o e f:Expr} {apos cpos:Pos} {td ty tx:TE}
end
end L2
namespace DNe
open PySem PyProof.Rows
end DNe
namespace L2
open PySem PySem.Spec PySem.W PyProof.Rows
end L2
namespace DNe
open PySem PyProof.Rows
section
variable {prog:Program} {w:World} {A:Around} {E:Value->Shared->Prop} {s:Shared}
end
end DNe
namespace L2
open PySem PySem.Spec PySem.W PyProof.Rows
end L2
namespace VL
open PySem PySem.Spec L2
section
variable {B:Bs} {env:En} {Q':PyData->En->Prop} {QO:Sl->En->Prop} {i:Nat} {ty:TE}
theorem RpT.at {G:Hp}:∀ {kvs:List (List Key × V)} {es:List (List Key × PyData)},RpT G kvs es->∀ {j:Nat} {ks:List Key} {d:PyData},es[j]?=some (ks,d)->∃ v,kvs[j]?=some (ks,v)/\Rp G v d
 | _,_,.nil,j,ks,d,e=>by simp at e
 | _,_,.cons (k:=k) (v:=v) (d:=d0) h t,0,ks,d,e=>by
  have e:(k,d0)=(ks,d):=by simpa using e
  cases e
  exact ⟨v,rfl,h⟩
 | _,_,.cons h t,j+1,ks,d,e=>by
  obtain ⟨v,e1,r⟩:=RpT.at t (j:=j) (by simpa using e)
  exact ⟨v,by simpa using e1,r⟩
theorem RpT.erase {G:Hp}:∀ {kvs:List (List Key × V)} {es:List (List Key × PyData)},RpT G kvs es->∀ (j:Nat),RpT G (kvs.eraseIdx j) (es.eraseIdx j)
 | _,_,.nil,_ => .nil
 | _,_,.cons _ t,0=>t
 | _,_,.cons h t,j+1 => .cons h (RpT.erase t j)
end
end VL
namespace DictL
open PySem PyProof.Rows
section
variable {prog:Program} {w:World} {A:Around} {R:Result->Shared->Prop} {I:Addr} {fp wr:List Addr} {n:Nat} {P:Nat->Value->Prop} {St:Nat->Heap->Prop} {K:Type} [DecidableEq K] {knd:KeyKind prog w K}
end
end DictL
namespace DictL
open PySem PyProof.Rows
section
variable {prog:Program} {w:World} {A:Around} {E:Value->Shared->Prop} {s:Shared}
end
end DictL
namespace DictL
open PySem PyProof.Rows
section
variable {prog:Program} {w:World} {A:Around} {E:Value->Shared->Prop} {s:Shared} {K:Type} [DecidableEq K] {knd:KeyKind prog w K}
end
end DictL
namespace L2
open PySem PySem.W PyProof.Rows
section
variable {K:Type} [DecidableEq K]
end
section
variable {X:Cx}
end
end L2
namespace VL
open PySem PySem.Spec L2
section
variable {B:Bs} {env:En} {QO:Sl->En->Prop} {Q':PyData->En->Prop} {D':VEnds} {K:PySem.W.Frag} {i:Nat}
end
end VL
namespace VL
open PySem PySem.Spec L2
section
variable {B:Bs} {env:En} {QO:Sl->En->Prop} {Q':PyData->En->Prop} {K:PySem.W.Frag} {i:Nat}
end
end VL
namespace VL
open PySem PySem.Spec L2
theorem aqh {α:Type} {K:PySem.W.Frag} {src:List (Option Nat)} {e1:En} {te:TE} {tif:TT} {R:List PyData->En->Prop} {xs:List α} {f : α->PyData} (g : α->PyData) (p : α->Bool) (hno:noIo (aal src e1)=true) (hl:xs.length<=999999)
  (h:∀ x∈xs,∀ B':Bs,B'.K=K->EvT B' tif (some (.st (f x)) :: aal src e1) fun b e3=>b=p x/\e3=some (.st (f x)) :: aal src e1/\(b=true->Ev B' te (some (.st (f x)) :: aal src e1) fun y e4=>y=g x/\e4=some (.st (f x)) :: aal src e1))
  (hR:R ((xs.filter p).map g) e1):LcV K (none :: src) (aa2 0) tif te (xs.map f) e1 R:=by
 have hno':noIo (aal (none :: src) e1)=true:=by
  show ((none :: aal src e1).all fun s => !isIo s)=true
  rw [List.all_cons]
  exact (Bool.and_eq_true _ _).mpr ⟨rfl,hno⟩
 refine ⟨fun i ys e=>ys=((xs.take i).filter p).map g/\∃ o,e=stO o :: aal src e1,⟨by simp,none,rfl⟩,?_,?_,?_⟩
 ·rintro i ys e ⟨_,o,rfl⟩
  exact ⟨⟨isIo_stO.symm,ada⟩,ad1 ad2⟩
 ·rintro i d ys e hd ⟨rfl,o,rfl⟩ B' hB
  rw [List.getElem?_map] at hd
  cases hx:xs[i]? with
  | none=>rw [hx] at hd;cases hd
  | some x =>
  rw [hx] at hd
  cases hd
  have hi:i < xs.length:=(List.getElem?_eq_some_iff.mp hx).1
  have et:xs.take (i+1)=xs.take i ++ [x]:=by rw [List.take_add_one,hx];rfl
  refine aa1 ?_
  show EvT B' tif (some (.st (f x)) :: aal src e1) _
  intro σ G H F Q I k
  refine h x (List.mem_of_getElem? hx) B' hB σ G H F Q I fun b G' H' F' e3 I' g' ⟨hb,he,hq⟩=>k b G' H' F' e3 I' g' ?_
  subst he
  by_cases hp:b=true
  ·rw [if_pos hp]
   intro σ G H F Q I k
   refine hq hp σ G H F Q I fun v G' H' F' d' e4 I' g' r' ⟨hy,he4⟩=>k v G' H' F' d' e4 I' g' r' ?_
   subst hy he4
   refine ⟨?_,?_,some _,rfl⟩
   ·have:=List.length_filter_le p (xs.take i)
    simp only [List.length_map]
    have h2:(xs.take i).length<=i:=by simp;row_cond lo
    row_cond lo
   ·rw [et,List.filter_append,List.map_append]
    have:p x=true:=by rw [← hb];exact hp
    simp [this]
  ·rw [if_neg hp]
   refine ⟨?_,some _,rfl⟩
   rw [et,List.filter_append,List.map_append]
   have:p x=false:=by rw [← hb];simpa using hp
   simp [this]
 ·rintro ys e ⟨rfl,o,rfl⟩
  rw [ah5 hno',List.length_map,List.take_length]
  exact hR
section
variable {B:Bs} {env:En} {QO:Sl->En->Prop} {Q':PyData->En->Prop} {K:PySem.W.Frag} {i:Nat}
end
end VL
namespace L2
open PySem PySem.W PyProof.Rows
section
variable {X:Cx}
end
end L2
namespace VL
open PySem PySem.Spec L2
section
variable {B:Bs} {env:En} {Q':PyData->En->Prop} {R:Sl->Prop} {td:TE}
end
end VL
namespace SS
open PySem
theorem ah7 {l:List Nat} (hr:l.Pairwise (· < ·)) {i j:Nat} (hij:i<=j) (hj:j < l.length):l[i]'(by row_cond lo)<=l[j]:=by
 by_cases e:i=j
 ·subst e;exact Nat.le_refl _
 ·exact Nat.le_of_lt (List.pairwise_iff_getElem.mp hr i j (by row_cond lo) hj (by row_cond lo))
theorem af9 (xs:Array Nat) (j:Nat) (hr:xs.toList.Pairwise (· < ·)):∀ (fuel lo hi:Nat),hi - lo<=fuel->lo<=hi->hi<=xs.size->(∀ i (h:i < xs.toList.length),i < lo->xs.toList[i] < j)->(∀ i (h:i < xs.toList.length),hi<=i->j<=xs.toList[i]) ->
  SetTable.below.go xs j fuel lo hi<=xs.size/\(∀ i (h:i < xs.toList.length),i < SetTable.below.go xs j fuel lo hi->xs.toList[i] < j)/\(∀ i (h:i < xs.toList.length),SetTable.below.go xs j fuel lo hi<=i->j<=xs.toList[i])
 | 0,lo,hi,h1,h2,h3,h4,h5=>by
  unfold SetTable.below.go
  have:lo=hi:=by row_cond lo
  subst this
  exact ⟨h3,h4,h5⟩
 | fuel+1,lo,hi,h1,h2,h3,h4,h5=>by
  unfold SetTable.below.go
  by_cases hl:lo < hi
  ·rw [if_pos hl]
   have hm:(lo+hi) / 2 < xs.size:=by row_cond lo
   have hm':(lo+hi) / 2 < xs.toList.length:=by simpa using hm
   have eg:xs.getD ((lo+hi) / 2) j=xs.toList[(lo+hi) / 2]:=by simp [Array.getD,hm]
   dsimp only
   rw [eg]
   split
   ·rename_i hlt
    refine af9 xs j hr fuel _ hi (by row_cond lo) (by row_cond lo) h3 (fun i h hi'=>?_) h5
    exact Nat.lt_of_le_of_lt (ah7 hr (by row_cond lo) hm') hlt
   ·rename_i hge
    refine af9 xs j hr fuel lo _ (by row_cond lo) (by row_cond lo) (by row_cond lo) h4 (fun i h hi'=>?_)
    exact Nat.le_trans (by row_cond lo) (ah7 hr hi' h)
  ·rw [if_neg hl]
   have:lo=hi:=by row_cond lo
   subst this
   exact ⟨h3,h4,h5⟩
theorem below_ok (xs:Array Nat) (j:Nat) (hr:xs.toList.Pairwise (· < ·)) :
  SetTable.below xs j<=xs.size/\(∀ i (h:i < xs.toList.length),i < SetTable.below xs j->xs.toList[i] < j)/\(∀ i (h:i < xs.toList.length),SetTable.below xs j<=i->j<=xs.toList[i]) :=
 af9 xs j hr _ 0 _ (by row_cond lo) (by row_cond lo) (Nat.le_refl _) (fun i h hi=>by row_cond lo) (fun i h hi=>by simp at h;row_cond lo)
theorem aoy (xs:Array Nat) (hr:xs.toList.Pairwise (· < ·)) (i:Nat) (hi:i < xs.toList.length):SetTable.below xs (xs.toList[i] + 1)=i+1:=by
 obtain ⟨h1,h2,h3⟩:=below_ok xs (xs.toList[i] + 1) hr
 rcases Nat.lt_trichotomy (SetTable.below xs (xs.toList[i] + 1)) (i+1) with h | h | h
 ·have:=h3 i hi (by row_cond lo);row_cond lo
 ·exact h
 ·have hs:i+1 < xs.toList.length:=by simp;row_cond lo
  have a:=h2 (i+1) hs (by row_cond lo)
  have b:=List.pairwise_iff_getElem.mp hr i (i+1) hi hs (by row_cond lo)
  row_cond lo
theorem aoz (xs:Array Nat) (hr:xs.toList.Pairwise (· < ·)):SetTable.below xs 0=0:=by
 obtain ⟨h1,h2,h3⟩:=below_ok xs 0 hr
 rcases Nat.eq_zero_or_pos (SetTable.below xs 0) with h | h
 ·exact h
 ·have:=h2 0 (by simp;row_cond lo) (by row_cond lo);row_cond lo
theorem put_rise {xs:Array Nat} {j:Nat} (hr:xs.toList.Pairwise (· < ·)) (hn:xs[SetTable.below xs j]? ≠ some j):(SetTable.insertAt xs (SetTable.below xs j) j).toList.Pairwise (· < ·):=by
 obtain ⟨h1,h2,h3⟩:=below_ok xs j hr
 rw [SetTable.toList_insertAt]
 generalize SetTable.below xs j=p at h1 h2 h3 hn ⊢
 rw [← Array.getElem?_toList] at hn
 generalize xs.toList=l at hr h2 h3 hn ⊢
 have lo:∀ x∈l.take p,x < j:=fun x hx=>by
  obtain ⟨i,hi,e⟩:=List.mem_take_iff_getElem.mp hx
  rw [← e];exact h2 i (by row_cond lo) (by row_cond lo)
 have up:∀ x∈l.drop p,j < x:=fun x hx=>by
  obtain ⟨i,hi,e⟩:=List.mem_drop_iff_getElem.mp hx
  have hp:p < l.length:=by row_cond lo
  have ne:l[p] ≠ j:=fun e=>hn (by rw [List.getElem?_eq_getElem hp,e])
  have a:=h3 p hp (Nat.le_refl _)
  have b:=ah7 hr (show p<=p+i by row_cond lo) (by row_cond lo:p+i < l.length)
  have e':l[p+i]=x:=by rw [← e]
  row_cond lo
 rw [List.pairwise_append]
 refine ⟨hr.sublist (List.take_sublist _ _),List.pairwise_cons.mpr ⟨up,hr.sublist (List.drop_sublist _ _)⟩,fun a ha b hb=>?_⟩
 rcases List.mem_cons.mp hb with rfl | hb
 ·exact lo a ha
 ·exact Nat.lt_trans (lo a ha) (up b hb)
structure TbI (bt:Bool) (t:SetTable):Prop where
 led:bt=false->t.led=true
 dum:t.dummies = #[]
 ris:t.plain=true->t.place.toList.Pairwise (· < ·)
theorem TbI.fresh (bt:Bool) (f m:Nat):TbI bt (.fresh f m (!bt)):=⟨fun h=>by subst h;rfl,rfl,fun _=>List.Pairwise.nil⟩
theorem has_nil (j:Nat):SetTable.has #[] j=false:=by unfold SetTable.has;simp
theorem TbI.put {bt:Bool} {t:SetTable} (x:TbI bt t) {j:Nat} (hs:t.slot j=.empty):TbI bt (t.put j).1:=by
 refine ⟨x.led,?_,fun h=>?_⟩
 ·show (if SetTable.has t.dummies j=true then _ else t.dummies) = #[]
  rw [x.dum,has_nil];rfl
 ·show (SetTable.insertAt t.place (SetTable.below t.place j) j).toList.Pairwise (· < ·)
  refine put_rise (x.ris h) fun e=>?_
  unfold SetTable.slot at hs
  dsimp only at hs
  rw [e] at hs
  simp at hs
theorem live_rise (owner:Array (Option Nat)) (m:Nat):(((List.range m).filterMap fun j=>(owner.getD j none).map (j,·)).map (·.1)).Pairwise (· < ·):=by
 rw [List.pairwise_map,List.pairwise_filterMap]
 refine List.pairwise_lt_range.imp ?_
 intro a b hab p hp q hq
 cases h1:owner.getD a none with
 | none=>rw [h1] at hp;cases hp
 | some i =>
  cases h2:owner.getD b none with
  | none=>rw [h2] at hq;cases hq
  | some k=>rw [h1] at hp;rw [h2] at hq;cases hp;cases hq;exact hab
theorem ai1 {α:Type} (next:Nat->Nat):∀ (n k:Nat) (left:List α) (out:Array α),left.length=n->(pickOrder.go next n k left out).toList.Perm (out.toList ++ left)
 | 0,k,left,out,h=>by
  unfold pickOrder.go
  rw [List.eq_nil_of_length_eq_zero h];simp
 | n+1,k,left,out,h=>by
  unfold pickOrder.go
  have hl:next k % left.length < left.length:=Nat.mod_lt _ (by row_cond lo)
  rw [List.getElem?_eq_getElem hl]
  dsimp only
  refine (ai1 next n (k+1) _ _ (by rw [List.length_eraseIdx];split <;> row_cond lo)).trans ?_
  rw [Array.toList_push,List.append_assoc]
  refine List.Perm.append_left _ ?_
  have e:left=left.take (next k % left.length) ++ left[next k % left.length] :: left.drop (next k % left.length+1):=by
   rw [← List.drop_eq_getElem_cons hl,List.take_append_drop]
  rw [List.eraseIdx_eq_take_drop_succ]
  refine List.Perm.trans ?_ (List.Perm.of_eq e.symm)
  rw [List.singleton_append]
  exact List.perm_middle.symm
theorem ah8 {α:Type} (next:Nat->Nat) (xs:Array α):(pickOrder next xs).toList.Perm xs.toList:=by
 unfold pickOrder
 simpa using ai1 next xs.size 0 xs.toList #[] (by simp)
end SS
namespace SS
open PySem PySem.W PyProof.Rows
section
variable {prog:Program} {w:World} {A:Around} {E:Value->Shared->Prop} {s:Shared}
noncomputable def bt (w:World):Bool:=w.params.followText "set-order"
noncomputable def kE (e:Int × Value):Int:=match e.2 with | .int k _=>k | _=>0
def az7 (prog:Program) (w:World) (e:Int × Value):Prop:=e.1=(intKind prog w).hash (kE e)/\∃ t,e.2=.int (kE e) t
def SetR (prog:Program) (w:World) (a:Addr) (es:Array (Int × Value)) (ep:Nat) (t:SetTable) (h:Heap):Prop :=
 ∃ o,h.get? a=some o/\o.ExactSet/\o.data=.set es ep t/\t.fits es.size=true/\TbI (bt w) t
def SetI (prog:Program) (w:World) (a:Addr) (L:List Int) (h:Heap):Prop:=∃ es ep t,SetR prog w a es ep t h/\(∀ e∈es.toList,az7 prog w e)/\(es.toList.map kE).Perm L
theorem SetR.at {a:Addr} {es:Array (Int × Value)} {ep:Nat} {t:SetTable} {h h':Heap} (x:SetR prog w a es ep t h) (k:∀ o,h.get? a=some o->h'.get? a=some o):SetR prog w a es ep t h':=let ⟨o,e,r⟩:=x;⟨o,k o e,r⟩
theorem SetI.at {a:Addr} {L:List Int} {h h':Heap} (x:SetI prog w a L h) (k:∀ o,h.get? a=some o->h'.get? a=some o):SetI prog w a L h':=let ⟨es,ep,t,r,p⟩:=x;⟨es,ep,t,r.at k,p⟩
theorem SetR.put {a:Addr} {es es':Array (Int × Value)} {ep:Nat} {t t':SetTable} {h:Heap} (x:SetR prog w a es ep t h) (hf:t'.fits es'.size=true) (hT:TbI (bt w) t'):SetR prog w a es' (ep+1) t' (h.update a (Obj.putSet es' t')):=by
 obtain ⟨o,ho,hx,hd,_⟩:=x
 have hg':(h.update a (Obj.putSet es' t')).get? a=some { o with data:=.set es' (ep+1) t' }:=by
  have:=Heap.get?_update_self (Obj.putSet es' t') ho (by rw [putSet_of es' t' hd];rfl)
  rw [putSet_of es' t' hd] at this;exact this
 exact ⟨_,hg',hx,rfl,hf,hT⟩
end
end SS
namespace SS
open PySem PySem.W PyProof.Rows
section
variable {prog:Program} {w:World} {A:Around} {E:Value->Shared->Prop} {s:Shared}
noncomputable def abg (w:World):Obj:={ cls:=.type "set",dict:=none,data:=.set #[] 0 (.fresh 0 0 (!bt w)) }
theorem aso (a:Value) {Q₁:Value->Shared->Prop} (h:Q₁ (.ref s.heap.objs.size) { s with heap:=s.heap.push (abg w) }) :
  codeAny (model prog w) A (.call (.builtin "set.__new__") ⟨[.type "set",a],[]⟩) (wants Q₁ E) s:=by
 refine codeAny_of_tree ?_
 show wpAny _ A.in1 (do checkBuiltinCall "set.__new__" ⟨[.type "set",a],[]⟩;again (.builtin "set.__new__" ⟨[.type "set",a],[]⟩)) _ _ s
 refine wpAny_bind (wpAny_of_eq (PySem.F.newCall_set_1 a) (wpAny_pure ⟨plainId_quiet PySem.F.plain_set_new _,codeAny_builtin PySem.F.entry_set_new ?_⟩))
 rw [Around.under_plainId PySem.F.plain_set_new _]
 unfold Builtin.«set.__new__» Builtin.Frozenset.newClass
 have hsub:=sub_set_self
 obtain ⟨hp,g,d,tk,os⟩:=s
 dsimp only
 wp_walk
 refine wpAny_askSetting (wpAny_pure ?_)
 dsimp only
 simp only [newObj]
 refine wpAny_bind (wpAny_alloc (wpAny_pure ?_))
 exact wpAny_pure h
section
variable {R:Result->Shared->Prop} {I:Addr} {fp wr:List Addr} {n:Nat} {P:Nat->Value->Prop} {St:Nat->Heap->Prop}
end
end
end SS
namespace SS
open PySem PySem.W PyProof.Rows
theorem slot_it_next:Slot "set_iterator" "__next__" "set_iterator.__next__" :=
 .of (owner:="set_iterator") (n:="__next__") (by rw [typeLookup_type,builtinLookup_eq_fast];kernel_rfl) (by decide +kernel) (by decide +kernel) (by decide +kernel)
  (by first | exact .inl (by decide +kernel) | exact .inr (by decide +kernel)) (by rw [isSubtype_type];kernel_rfl)
theorem ae1:Slot "set_iterator" "__iter__" "set_iterator.__iter__" :=
 .of (owner:="set_iterator") (n:="__iter__") (by rw [typeLookup_type,builtinLookup_eq_fast];kernel_rfl) (by decide +kernel) (by decide +kernel) (by decide +kernel)
  (by first | exact .inl (by decide +kernel) | exact .inr (by decide +kernel)) (by rw [isSubtype_type];kernel_rfl)
theorem alc:Manifest.owners.lookup (String.ofList ['r','o','t','a','r','e','t','i','_','t','e','s'].reverse)=some Manifest.sig_set_iterator:=by kernel_rfl
theorem ald (a:Value):argsOk "set_iterator.__next__" ⟨[a],[]⟩:=by
 unfold argsOk;rw [signature?_of (id:="set_iterator.__next__") (n:=['_','_','t','x','e','n','_','_']) (o:=['r','o','t','a','r','e','t','i','_','t','e','s']) (by kernel_rfl) alc];kernel_rfl
theorem ale (a:Value):argsOk "set_iterator.__iter__" ⟨[a],[]⟩:=by
 unfold argsOk;rw [signature?_of (id:="set_iterator.__iter__") (n:=['_','_','r','e','t','i','_','_']) (o:=['r','o','t','a','r','e','t','i','_','t','e','s']) (by kernel_rfl) alc];kernel_rfl
theorem ajm:entryFor table "set_iterator.__next__" = some Builtin.«set_iterator.__next__»:=entryFor_of_tree (by kernel_rfl)
theorem ajn:entryFor table "set_iterator.__iter__" = some Builtin.«dict_keyiterator.__iter__»:=entryFor_alias (id':="dict_keyiterator.__iter__") (by kernel_rfl) rfl (by decide +kernel) (by kernel_rfl)
theorem ah9:entryFor table "set.__iter__" = some Builtin.«frozenset.__iter__»:=entryFor_alias (id':="frozenset.__iter__") (by kernel_rfl) rfl (by decide +kernel) (by kernel_rfl)
section
variable {prog:Program} {w:World} {A:Around} {E:Value->Shared->Prop} {s:Shared} {a I:Addr} {es:Array (Int × Value)} {ep:Nat} {t:SetTable}
def IsIt (h:Heap) (I:Addr) (vs:Array Value):Prop:=∃ o,h.get? I=some o/\o.cls=.type "set_iterator"/\o.data=.fields vs
theorem IsIt.ty {vs:Array Value} (x:IsIt s.heap I vs):s.TypeIs (.ref I) "set_iterator":=let ⟨o,e,c,_⟩:=x;⟨o,e,c⟩
theorem IsIt.at {h h':Heap} {vs:Array Value} (x:IsIt h I vs) (k:∀ o,h.get? I=some o->h'.get? I=some o):IsIt h' I vs:=let ⟨o,e,r⟩:=x;⟨o,k o e,r⟩
theorem SetR.ty (x:SetR prog w a es ep t s.heap):s.TypeIs (.ref a) "set":=let ⟨o,e,c,_⟩:=x;⟨o,e,c.1⟩
theorem act {Q:(Array (Int × Value) × Nat × SetTable)->Shared->Prop} (x:SetR prog w a es ep t s.heap) (h:Q (es,ep,t) s):wpAny (model prog w) A (setState a) Q E s:=let ⟨_,ho,_,hd,hf,_⟩:=x;wpAny_setState_of ho hd hf h
theorem aek {Q:Array (Int × Value)->Shared->Prop} (x:SetR prog w a es ep t s.heap) (h:Q es s):wpAny (model prog w) A (setEntries a) Q E s:=by
 unfold setEntries;exact wpAny_bind (act x (wpAny_pure h))
theorem alf {Q:Nat->Shared->Prop} (x:SetR prog w a es ep t s.heap) (h:Q ep s):wpAny (model prog w) A (setEpoch a) Q E s:=by
 unfold setEpoch;exact wpAny_bind (act x (wpAny_pure h))
theorem aia {Q:Bool->Shared->Prop} (h:Q (bt w) s):wpAny (model prog w) A setsByText Q E s:=by
 unfold setsByText;exact wpAny_bind (wpAny_askSetting (wpAny_pure h))
theorem aqi {M:Model} {src:Source} {n:Nat} {Q:Nat->Shared->Prop} (hn:0 < n) (h:∀ i d,i < n->Q i { s with drawn:=d }):wpAny M A (choose src n) Q E s:=fun Γ p _=>by
 unfold choose
 rw [Sem.wp_choose]
 exact ⟨by row_cond lo,h _ _ (Nat.mod_lt _ hn)⟩
theorem ani {α:Type} {M:Model}:∀ (n:Nat) (xs:List α) (s:Shared) (Q:List α->Shared->Prop),xs.length=n->(∀ ys d,ys.Perm xs->Q ys { s with drawn:=d })->wpAny M A (drawOrder n xs) Q E s
 | 0,xs,s,Q,hn,h=>by
  unfold drawOrder
  rw [List.eq_nil_of_length_eq_zero hn] at h
  exact wpAny_pure (h [] s.drawn (List.Perm.refl _))
 | n+1,[],s,Q,hn,h=>by cases hn
 | n+1,x :: xs,s,Q,hn,h=>by
  unfold drawOrder
  refine wpAny_bind (aqi (by simp) fun i d hi=>?_)
  rw [List.getElem?_eq_getElem hi]
  dsimp only
  refine wpAny_bind (ani n _ _ _ (by rw [List.length_eraseIdx];split <;> row_cond lo) fun ys d' hp=>wpAny_pure ?_)
  refine h _ d' ?_
  have e:(x :: xs)=(x :: xs).take i ++ (x :: xs)[i] :: (x :: xs).drop (i+1):=by
   rw [← List.drop_eq_getElem_cons hi,List.take_append_drop]
  refine (hp.cons _).trans ?_
  rw [List.eraseIdx_eq_take_drop_succ]
  refine List.Perm.trans ?_ (List.Perm.of_eq e.symm)
  exact List.perm_middle.symm
noncomputable def dr (w:World) (es:Array (Int × Value)) (t:SetTable):Bool:=!bt w && (!t.plain && decide (es.size > 1))
noncomputable def itO (f:Value) (a:Addr) (n ep:Nat):Obj:={ cls:=.type "set_iterator",data:=.fields #[f,rawInt (0:Nat),.ref a,rawInt n,rawInt ep] }
noncomputable def tuO (pl:List Nat):Obj:={ cls:=.type "tuple",data:=.seq (pl.map fun (i:Nat)=>rawInt i).toArray }
theorem avw {Q:Value->Shared->Prop} (x:SetR prog w a es ep t s.heap) (hz:es.size<=sizeLine)
  (h1:dr w es t=false->Q (.ref s.heap.objs.size) { s with heap:=s.heap.push (itO (rawInt (0:Nat)) a es.size ep) })
  (h2:dr w es t=true->∀ pl d,pl.Perm (List.range es.size)->Q (.ref (s.heap.objs.size+1)) { s with heap:=(s.heap.push (tuO pl)).push (itO (.ref s.heap.objs.size) a es.size ep),drawn:=d }):wpAny (model prog w) A (pyIter (.ref a)) Q E s:=by
 refine wpAny_pyIter_slot x.ty PySem.F.slot_set_iter (wpAny_call_entry PySem.F.slot_set_iter x.ty ah9 ?body (PySem.F.args_set_iter_1 _))
 unfold Builtin.«frozenset.__iter__»
 show wpAny _ _ (Builtin.Frozenset.sizeOf a >>= _) _ _ s
 unfold Builtin.Frozenset.sizeOf
 refine wpAny_bind (wpAny_bind (aek x (wpAny_pure ?_)))
 unfold setDrawn
 refine wpAny_bind (wpAny_bind (act x (wpAny_bind (aia (wpAny_pure ?_)))))
 show wpAny _ _ (if dr w es t=true then _ else _) _ _ s
 cases hd:dr w es t
 ·rw [if_neg (by decide)]
  refine wpAny_bind (wpAny_pure (wpAny_bind (alf x ?_)))
  unfold newFields
  refine wpAny_bind (wpAny_newObj_type (wpAny_pure ⟨_,rfl,"set_iterator",_,⟨_,Heap.get?_push_size _ rfl,rfl⟩,slot_it_next.lookup,h1 hd⟩))
 ·rw [if_pos rfl]
  refine wpAny_bind (ani es.size (List.range es.size) s _ (by simp) fun pl d hp=>?_)
  refine wpAny_bind (wpAny_newTuple ?_ (by rw [List.length_map,hp.length_eq,List.length_range];exact hz))
  refine wpAny_bind (alf (x.at fun o e=>Heap.get?_push_of_some _ e) ?_)
  unfold newFields
  refine wpAny_bind (wpAny_newObj_type (wpAny_pure ⟨_,rfl,"set_iterator",_,⟨_,Heap.get?_push_size _ rfl,rfl⟩,slot_it_next.lookup,?_⟩))
  have:=h2 hd pl d hp
  simp only [Heap.size_push]
  exact this
end
end SS
namespace SS
open PySem PySem.W PyProof.Rows
section
variable {prog:Program} {w:World} {A:Around} {E:Value->Shared->Prop} {s:Shared} {a I:Addr} {es:Array (Int × Value)} {ep:Nat} {t:SetTable}
noncomputable def ord (w:World) (a:Addr) (es:Array (Int × Value)) (ep:Nat):List (Int × Value):=if bt w=true then (pickOrder (w.params.setOrder a ep) es).toList else es.toList
theorem ord_perm:(ord w a es ep).Perm es.toList:=by
 unfold ord;split
 ·exact ah8 _ _
 ·exact List.Perm.refl _
noncomputable def sl (t:SetTable):Nat->Nat
 | 0=>0
 | i+1=>t.place.getD i 0+1
theorem ao0 (x:SetR prog w a es ep t s.heap) (hb:bt w=false) (hd:dr w es t=false):t.place.toList.Pairwise (· < ·):=by
 obtain ⟨o,_,_,_,hf,hT⟩:=x
 unfold dr at hd
 rw [hb] at hd
 cases hp:t.plain with
 | true=>exact hT.ris hp
 | false =>
  rw [hp] at hd
  have h1:es.size<=1:=by simpa using hd
  have h2:t.place.toList.length<=1:=by
   simp only [SetTable.fits,Bool.and_eq_true,beq_iff_eq] at hf
   rw [Array.length_toList];row_cond lo
  match hl:t.place.toList with
  | []=>exact .nil
  | [y]=>exact List.pairwise_singleton _ _
  | y :: z :: r=>rw [hl] at h2;simp at h2
theorem avx {slot i:Nat} {Q:Option (Value × Nat)->Shared->Prop} (x:SetR prog w a es ep t s.heap) (hd:dr w es t=false) (hs:bt w=false->slot=sl t i) (hi:i<=es.size)
  (h1:∀ e nx,(ord w a es ep)[i]?=some e->(bt w=false->nx=sl t (i+1))->Q (some (e.2,nx)) s) (h2:i=es.size->Q none s):wpAny (model prog w) A (setNext a slot i ep) Q E s:=by
 unfold setNext
 refine wpAny_bind (act x ?_)
 dsimp only
 refine wpAny_bind (aia ?_)
 cases hb:bt w with
 | true =>
  rw [if_pos rfl]
  rw [if_neg (by simp)]
  refine wpAny_bind ?_
  unfold setWalk
  refine wpAny_bind (act x ?_)
  dsimp only
  refine wpAny_bind (aia ?_)
  rw [hb,if_pos rfl]
  refine wpAny_bind (wpAny_askSetting (wpAny_pure (wpAny_pure ?_)))
  show Q ((pickOrder (w.params.setOrder a ep) es)[i]?.map fun e=>(e.2,slot)) s
  have eo:ord w a es ep=(pickOrder (w.params.setOrder a ep) es).toList:=by unfold ord;rw [hb,if_pos rfl]
  rw [← Array.getElem?_toList,← eo]
  cases he:(ord w a es ep)[i]? with
  | none =>
   refine h2 ?_
   have:=List.getElem?_eq_none_iff.mp he
   rw [ord_perm.length_eq,Array.length_toList] at this
   row_cond lo
  | some e=>exact h1 e slot he fun z=>by rw [hb] at z;cases z
 | false =>
  rw [if_neg (by decide)]
  have hpr:=ao0 x hb hd
  obtain ⟨o,ho,hx,hdt,hf,hT⟩:=id x
  have hps:t.place.size=es.size:=by
   simp only [SetTable.fits,Bool.and_eq_true,beq_iff_eq] at hf;exact hf.1
  have hbl:SetTable.below t.place slot=i:=by
   rw [hs hb]
   cases i with
   | zero=>exact aoz _ hpr
   | succ j =>
    have hj:j < t.place.toList.length:=by rw [Array.length_toList];row_cond lo
    have e:t.place.getD j 0=t.place.toList[j]:=by simp [Array.getD,show j < t.place.size by row_cond lo]
    show SetTable.below t.place (t.place.getD j 0+1)=j+1
    rw [e];exact aoy _ hpr j hj
  refine wpAny_bind (wpAny_pure ?_)
  have hdr:(!t.plain && decide (es.size > 1))=false:=by unfold dr at hd;rw [hb] at hd;exact hd
  show wpAny _ _ (if (!t.plain && decide (es.size > 1))=true then _ else _) _ _ s
  rw [hdr,if_neg (by decide)]
  refine wpAny_bind ?_
  show wpAny _ _ (if (!t.led && !es.isEmpty)=true then _ else _) _ _ s
  rw [hT.led hb]
  rw [if_neg (by simp)]
  refine wpAny_pure ?_
  rw [hbl]
  have eo:ord w a es ep=es.toList:=by unfold ord;rw [hb,if_neg (by decide)]
  rcases Nat.lt_or_ge i es.size with hlt | hge
  ·have e1:es[i]?=some es[i]:=Array.getElem?_eq_getElem hlt
   have e2:t.place[i]?=some t.place[i]:=Array.getElem?_eq_getElem (by row_cond lo)
   rw [e1,e2]
   refine wpAny_pure (h1 es[i] _ (by rw [eo,Array.getElem?_toList];exact e1) fun _=>?_)
   show t.place[i] + 1=t.place.getD i 0+1
   simp [Array.getD,show i < t.place.size by row_cond lo]
  ·have e1:es[i]?=none:=Array.getElem?_eq_none_iff.mpr hge
   rw [e1]
   exact wpAny_pure (h2 (by row_cond lo))
theorem upd2 {h:Heap} {f x b n e:Value} {i:Value} (hit:IsIt h I #[f,i,x,n,e]) (j:Nat) (v:Value) (vs:Array Value) (hv : #[f,i,x,n,e].setIfInBounds j v=vs):IsIt (h.update I (Obj.mapFields (·.setIfInBounds j v))) I vs:=by
 obtain ⟨o,ho,hc,hd⟩:=hit
 exact ⟨_,Heap.get?_update_self _ ho (Obj.isFreed_of_fields (Obj.data_mapFields hd _)),(Obj.cls_mapFields ..).trans hc,by rw [Obj.data_mapFields hd,hv]⟩
theorem acu {vs:Array Value} {i:Nat} {x:Value} {Q:Unit->Shared->Prop} (hit:IsIt s.heap I vs) (hi:i < vs.size) (h:Q () { s with heap:=s.heap.update I (Obj.mapFields (·.setIfInBounds i x)) }):wpAny (model prog w) A (setField (.ref I) i x) Q E s:=by
 obtain ⟨o,ho,hc,hd⟩:=hit
 exact wpAny_setField ho hd hi h
theorem anj {vs:Array Value} {Q:Option Value->Shared->Prop} (hit:IsIt s.heap I vs)
  (h:wpAny (model prog w) A.in1 (Builtin.«set_iterator.__next__» ⟨[.ref I],[]⟩) (fun fin s'=>∃ v,fin=.done (.ret v)/\Q (some v) s') (fun e s'=>wpAny (model prog w) A (do if ← isInstance e (.type "StopIteration") then pure none else throw e) Q E s') s) :
  wpAny (model prog w) A (pyNext (.ref I)) Q E s:=by
 unfold pyNext
 refine wpAny_bind (wpAny_attempt (wpAny_callSpecial?_slot (name:=Str.ofString "__next__") hit.ty slot_it_next (wpAny_call_entry slot_it_next hit.ty ajm ?b (ald _))))
 case b =>
  refine wpAny_mono h ?_ ?_
  ·rintro fin s' ⟨v,rfl,q⟩
   exact ⟨v,rfl,wpAny_pure q⟩
  ·intro e s' q;exact q
theorem ank {Q:Option Value->Shared->Prop} {F:Type} {Qf:F->Shared->Prop} (hh:A.handled=none) (h:∀ h',(∀ b o,s.heap.get? b=some o->h'.get? b=some o)->Q none { s with heap:=h' }) :
  wpAny (model prog w) A.in1 (newExc (.type "StopIteration") [] >>= fun e=>(raiseNew e:Sem F)) Qf (fun e s'=>wpAny (model prog w) A (do if ← isInstance e (.type "StopIteration") then pure none else throw e) Q E s') s:=by
 refine wpAny_bind ?_
 simp only [newExc,newTuple];refine wpAny_bind (wpAny_newObj_type ?_ (by size_fits))
 refine wpAny_bind (m:=firstArgMember _ _) (wpAny_of_eq (a:=Value.none) (by first | rfl | (simp only [firstArgMember];rfl)) (wpAny_newObj_type ?_ (by size_fits)))
 simp only [raiseNew];refine wpAny_bind (wpAny_handled ?_)
 rw [show A.in1.handled=none from hh];refine wpAny_bind (wpAny_pure (wpAny_throw ?_))
 refine wpAny_bind (wpAny_isInstance (T:="StopIteration") (b:=true) ⟨_,Heap.get?_push_size _ rfl,rfl⟩ isSubtype_stop ?_)
 exact wpAny_pure (h _ fun b o e=>Heap.get?_push_of_some _ (Heap.get?_push_of_some _ e))
theorem anl {slot i:Nat} {Q:Option Value->Shared->Prop} (hh:A.handled=none) (hne:a ≠ I) (hit:IsIt s.heap I #[rawInt slot,rawInt i,.ref a,rawInt es.size,rawInt ep]) (x:SetR prog w a es ep t s.heap) (hd:dr w es t=false) (hs:bt w=false->slot=sl t i) (hi:i<=es.size)
  (h1:∀ e (nx:Nat) h',(ord w a es ep)[i]?=some e->(bt w=false->nx=sl t (i+1))->IsIt h' I #[rawInt nx,rawInt ((i+1:Nat):Int),.ref a,rawInt es.size,rawInt ep]->(∀ b o,b ≠ I->s.heap.get? b=some o->h'.get? b=some o)->Q (some e.2) { s with heap:=h' })
  (h2:i=es.size->∀ h',(∀ b o,b ≠ I->s.heap.get? b=some o->h'.get? b=some o)->Q none { s with heap:=h' }):wpAny (model prog w) A (pyNext (.ref I)) Q E s:=by
 refine anj hit ?_
 obtain ⟨o,ho,hc,hdt⟩:=id hit
 unfold Builtin.«set_iterator.__next__»
 refine wpAny_bind (wpAny_pure (wpAny_bind (wpAny_fieldsOf ho hdt ?_)))
 show wpAny _ _ (setEntries a >>= _) _ _ s
 refine wpAny_bind (aek x ?_)
 rw [if_neg (by simp)]
 show wpAny _ _ (setNext a slot i ep >>= _) _ _ s
 refine wpAny_bind (avx x hd hs hi (fun e nx he hn=>?_) fun hz=>?_)
 ·dsimp only
  refine wpAny_bind (acu hit (by simp) ?_)
  have hit1:=upd2 (b:=.none) hit 0 (rawInt nx) #[rawInt nx,rawInt i,.ref a,rawInt es.size,rawInt ep] rfl
  refine wpAny_bind (acu (s:={ s with heap:=_ }) hit1 (by simp) ?_)
  have hit2:=upd2 (b:=.none) hit1 1 (rawInt ((i+1:Nat):Int)) #[rawInt nx,rawInt ((i+1:Nat):Int),.ref a,rawInt es.size,rawInt ep] rfl
  refine wpAny_pure ⟨_,rfl,h1 e nx _ he hn hit2 fun b o hb e=>?_⟩
  exact (Heap.get?_update_other _ _ (Ne.symm hb)).trans ((Heap.get?_update_other _ _ (Ne.symm hb)).trans e)
 ·dsimp only
  refine wpAny_bind (acu hit (by simp) ?_)
  refine ank (s:={ s with heap:=s.heap.update I _ }) hh fun h' k=>h2 hz h' fun b o hb e=>k b o ((Heap.get?_update_other _ _ (Ne.symm hb)).trans e)
theorem anm {vs:Array Value} {Q:Value->Shared->Prop} (hit:IsIt s.heap I vs) (h:Q (.ref I) s):wpAny (model prog w) A (pyIter (.ref I)) Q E s:=by
 refine wpAny_pyIter_slot hit.ty ae1 (wpAny_call_entry ae1 hit.ty ajn ?_ (ale _))
 show wpAny _ _ (ret (.ref I)) _ _ s
 exact wpAny_pure ⟨_,rfl,"set_iterator",_,hit.ty,slot_it_next.lookup,h⟩
theorem walks (hh:A.handled=none) (hne:a ≠ I) (hd:dr w es t=false):Walks prog w A I [I,a] [I] es.size (fun i v=>((ord w a es ep).map (·.2))[i]?=some v)
  (fun i h=>∃ slot:Nat,IsIt h I #[rawInt slot,rawInt i,.ref a,rawInt es.size,rawInt ep]/\SetR prog w a es ep t h/\(bt w=false->slot=sl t i)) where
 sub:=fun b hb=>by simp at hb;simp [hb]
 frame:=fun _ _ _ st hk=>let ⟨slot,h1,h2,h3⟩:=st;⟨slot,h1.at fun o e=>hk I (by simp) o e,h2.at fun o e=>hk a (by simp) o e,h3⟩
 item:=fun i s Q E hi st hQ=>by
  obtain ⟨slot,h1,h2,h3⟩:=st
  refine anl hh hne h1 h2 hd h3 (Nat.le_of_lt hi) (fun e nx h' he hn hit k=>?_) fun hz=>by row_cond lo
  exact hQ _ h' s.toks (by rw [List.getElem?_map,he];rfl) ⟨nx,hit,h2.at fun o e=>k a o hne e,hn⟩ fun b o hb e=>k b o (fun z=>hb (by simp [z])) e
 done:=fun s Q E st hQ=>by
  obtain ⟨slot,h1,h2,h3⟩:=st
  refine anl hh hne h1 h2 hd h3 (Nat.le_refl _) (fun e nx h' he hn hit k=>?_) fun hz h' k=>hQ h' s.toks fun b o hb e=>k b o (fun z=>hb (by simp [z])) e
  have:=(List.getElem?_eq_some_iff.mp he).1
  rw [ord_perm.length_eq,Array.length_toList] at this
  row_cond lo
 self:=fun _ _ _ _ st hQ=>let ⟨_,h1,_,_⟩:=st;anm h1 hQ
theorem atw {i:Nat} {tu:Addr} {pl:List Nat} {Q:Option Value->Shared->Prop} (hh:A.handled=none) (hit:IsIt s.heap I #[.ref tu,rawInt i,.ref a,rawInt es.size,rawInt ep]) (hT:s.heap.get? tu=some (tuO pl)) (x:SetR prog w a es ep t s.heap) (hp:pl.Perm (List.range es.size)) (hi:i<=es.size)
  (h1:∀ e h' j,pl[i]?=some j->es[j]?=some e->IsIt h' I #[.ref tu,rawInt ((i+1:Nat):Int),.ref a,rawInt es.size,rawInt ep]->(∀ b o,b ≠ I->s.heap.get? b=some o->h'.get? b=some o)->Q (some e.2) { s with heap:=h' })
  (h2:i=es.size->∀ h',(∀ b o,b ≠ I->s.heap.get? b=some o->h'.get? b=some o)->Q none { s with heap:=h' }):wpAny (model prog w) A (pyNext (.ref I)) Q E s:=by
 refine anj hit ?_
 obtain ⟨o,ho,hc,hdt⟩:=id hit
 unfold Builtin.«set_iterator.__next__»
 refine wpAny_bind (wpAny_pure (wpAny_bind (wpAny_fieldsOf ho hdt ?_)))
 show wpAny _ _ (setEntries a >>= _) _ _ s
 refine wpAny_bind (aek x ?_)
 rw [if_neg (by simp)]
 show wpAny _ _ (seqItems? (.ref tu) >>= _) _ _ s
 refine wpAny_bind (wpAny_seqItems hT rfl ?_)
 dsimp only
 have hlen:pl.length=es.size:=by rw [hp.length_eq,List.length_range]
 have ei:(rawInt (i:Int))=.int i 0:=rfl
 rcases Nat.lt_or_ge i es.size with hlt | hge
 ·have hj:pl[i]?=some pl[i]:=List.getElem?_eq_getElem (by row_cond lo)
  have e1:(pl.map fun (i:Nat)=>rawInt i).toArray[(i:Int).toNat]?=some (rawInt pl[i]):=by
   rw [Int.toNat_natCast,List.getElem?_toArray,List.getElem?_map,hj];rfl
  rw [e1]
  have hm:pl[i] < es.size:=List.mem_range.mp (hp.mem_iff.mp (List.getElem_mem _))
  have e2:es[pl[i]]?=some es[pl[i]]:=Array.getElem?_eq_getElem hm
  show wpAny _ _ (setNextDrawn a pl[i] ep >>= _) _ _ s
  unfold setNextDrawn
  refine wpAny_bind (wpAny_bind (act x ?_))
  dsimp only
  rw [if_neg (by simp),e2]
  refine wpAny_pure ?_
  refine wpAny_bind (acu hit (by simp) ?_)
  have hit1:=upd2 (b:=.none) hit 1 (rawInt ((i+1:Nat):Int)) #[.ref tu,rawInt ((i+1:Nat):Int),.ref a,rawInt es.size,rawInt ep] rfl
  exact wpAny_pure ⟨_,rfl,h1 _ _ _ hj e2 hit1 fun b o hb e=>(Heap.get?_update_other _ _ (Ne.symm hb)).trans e⟩
 ·have e1:(pl.map fun (i:Nat)=>rawInt i).toArray[(i:Int).toNat]?=none:=by
   rw [Int.toNat_natCast,List.getElem?_toArray,List.getElem?_map,List.getElem?_eq_none_iff.mpr (by row_cond lo)];rfl
  rw [e1]
  dsimp only
  refine wpAny_bind (acu hit (by simp) ?_)
  have hit1:=upd2 (b:=.none) hit 0 (rawInt 0) #[rawInt 0,rawInt i,.ref a,rawInt es.size,rawInt ep] rfl
  refine wpAny_bind (acu (s:={ s with heap:=_ }) hit1 (by simp) ?_)
  refine ank (s:={ s with heap:=(s.heap.update I _).update I _ }) hh fun h' k=>h2 (by row_cond lo) h' fun b o hb e=>k b o ((Heap.get?_update_other _ _ (Ne.symm hb)).trans ((Heap.get?_update_other _ _ (Ne.symm hb)).trans e))
noncomputable def ordD (es:Array (Int × Value)) (pl:List Nat):List Value:=pl.map fun j=>(es.toList.map (·.2)).getD j .none
theorem aqj {pl:List Nat} (hp:pl.Perm (List.range es.size)):(ordD es pl).Perm (es.toList.map (·.2)):=by
 refine (hp.map _).trans (List.Perm.of_eq ?_)
 refine List.ext_getElem (by simp) fun i h1 h2=>?_
 have:i < es.size:=by simpa using h1
 simp [List.getD_eq_getElem?_getD,this]
theorem ayq {tu:Addr} {pl:List Nat} (hh:A.handled=none) (hne:a ≠ I) (hnt:tu ≠ I) (hp:pl.Perm (List.range es.size)):Walks prog w A I [I,a,tu] [I] es.size (fun i v=>(ordD es pl)[i]?=some v)
  (fun i h=>IsIt h I #[.ref tu,rawInt i,.ref a,rawInt es.size,rawInt ep]/\SetR prog w a es ep t h/\h.get? tu=some (tuO pl)) where
 sub:=fun b hb=>by simp at hb;simp [hb]
 frame:=fun _ _ _ st hk=>let ⟨h1,h2,h3⟩:=st;⟨h1.at fun o e=>hk I (by simp) o e,h2.at fun o e=>hk a (by simp) o e,hk tu (by simp) _ h3⟩
 item:=fun i s Q E hi st hQ=>by
  obtain ⟨h1,h2,h3⟩:=st
  refine atw hh h1 h3 h2 hp (Nat.le_of_lt hi) (fun e h' j hj he hit k=>?_) fun hz=>by row_cond lo
  refine hQ _ h' s.toks ?_ ⟨hit,h2.at fun o e=>k a o hne e,k tu _ hnt h3⟩ fun b o hb e=>k b o (fun z=>hb (by simp [z])) e
  unfold ordD
  rw [List.getElem?_map,hj]
  simp [List.getD_eq_getElem?_getD,he]
 done:=fun s Q E st hQ=>by
  obtain ⟨h1,h2,h3⟩:=st
  refine atw hh h1 h3 h2 hp (Nat.le_refl _) (fun e h' j hj he hit k=>?_) fun hz h' k=>hQ h' s.toks fun b o hb e=>k b o (fun z=>hb (by simp [z])) e
  have:=(List.getElem?_eq_some_iff.mp hj).1
  rw [hp.length_eq,List.length_range] at this
  row_cond lo
 self:=fun _ _ _ _ st hQ=>anm st.1 hQ
end
end SS
namespace SS
open PySem PySem.W PyProof.Rows
section
variable {prog:Program} {w:World} {A:Around} {E:Value->Shared->Prop} {s:Shared} {a:Addr} {es:Array (Int × Value)} {ep:Nat} {t:SetTable}
theorem avy {Q:Bool->Shared->Prop} (hT:s.TypeIs (.ref a) "set") (h:Q false s):wpAny (model prog w) A (Builtin.List.listLengthHint (.ref a)) Q E s:=by
 unfold Builtin.List.listLengthHint
 refine wpAny_bind (wpAny_specialOf hT PySem.F.slot_set_len.lookup ?_)
 generalize hid:("set.__len__" : String)=id0
 wp_delta
 rw [show splitId id0=some ("set","__len__") from by subst hid;decide +kernel]
 subst hid
 refine wpAny_bind (wpAny_isInstance (T:="set") (b:=true) hT sub_set_self ?_)
 refine wpAny_ite_split (fun hab=>absurd hab (by decide)) (fun _=>?_)
 refine wpAny_ite_split (fun _=>?_) (fun hab=>absurd (by decide +kernel) hab)
 refine wpAny_bind (wpAny_typeOf hT ?_)
 exact wpAny_pure h
theorem asp {vals:List Value} {acc:Array Value} (h:ItemsOf (fun i v=>vals[i]?=some v) acc vals.length):acc.toList=vals:=by
 obtain ⟨h1,h2⟩:=h
 refine List.ext_getElem (by simpa using h1) fun i a1 a2=>?_
 have:=h2 i acc.toList[i] (by rw [← Array.getElem?_toList];exact List.getElem?_eq_getElem a1)
 exact (Option.some.inj ((List.getElem?_eq_getElem a2).symm.trans this)).symm
theorem ayr {R:Result->Shared->Prop} (hh:A.handled=none) (x:SetR prog w a es ep t s.heap) (hz:es.size<=sizeLine) (S:Addr) (hSa:S ≠ a) (res:Value) (c₀:Nat) (hS:s.heap.get? S=some { cls:=.type "list",data:=.seq #[] c₀ })
  (hR:∀ h' tk d acc c,(∀ b o,b ≠ S->s.heap.get? b=some o->h'.get? b=some o)->h'.get? S=some { cls:=.type "list",dict:=none,data:=.seq acc c,slots:=#[] }->acc.toList.Perm (es.toList.map (·.2))->R (.ok (.ret res)) { s with heap:=h',toks:=tk,drawn:=d }) :
  wpAny (model prog w) A.in1 (Builtin.List.listExtendWith (.ref S) (.ref a) res)
   (fun fin s'=>match fin with | .done f=>R (.ok f) s' | .again c'=>c'.quiet=true/\codeAny (model prog w) A c' R s') (fun e s'=>R (.error e) s') s:=by
 have key:∀ (I:Addr) (fp:List Addr) (St:Nat->Heap->Prop) (vals:List Value) (d:Drawn) (h:Heap) (c₁:Nat) (tk:Nat),Walks prog w A.in1 I fp [I] es.size (fun i v=>vals[i]?=some v) St->S ∉ fp->s.heap.objs.size<=I->vals.Perm (es.toList.map (·.2))->St 0 h->(∀ b o,b ≠ S->s.heap.get? b=some o->h.get? b=some o) ->
   h.get? S=some { cls:=.type "list",data:=.seq #[] c₁ }->codeAny (model prog w) A (.builtin "list.extend.loop" ⟨[.ref S,.ref I,res],[]⟩) R { s with heap:=h,toks:=tk,drawn:=d }:=by
  intro I fp St vals d h c₁ tk W hSf hI hp hst hk hS₁
  refine codeAny_extend_loopS W.toS hz S hSf res es.size 0 _ #[] c₁ rfl (Nat.zero_le _) hst hS₁ (ItemsOf.nil _) fun s' acc' c' hm hS' hacc=>?_
  have hl:es.size=vals.length:=by rw [hp.length_eq,List.length_map,Array.length_toList]
  rw [hl] at hacc
  rw [Moved.eq_with hm]
  refine hR s'.heap s'.toks d acc' c' (fun b o hb e=>hm.heap b o (fun hmem=>?_) (hk b o hb e)) hS' (by rw [asp hacc];exact hp)
  rcases List.mem_cons.mp hmem with e' | hmem
  ·exact hb e'
  ·rw [List.mem_singleton] at hmem
   subst hmem
   exact absurd (Heap.lt_size e) (Nat.not_lt.mpr hI)
 have hSlt:=Heap.lt_size hS
 have halt:a < s.heap.objs.size:=let ⟨_,e,_⟩:=x;Heap.lt_size e
 unfold Builtin.List.listExtendWith
 refine wpAny_bind (wpAny_typeOf (T:="set") x.ty ?_)
 have h1:Builtin.List.listSameRef (.ref S) (.ref a)=false:=by simp [Builtin.List.listSameRef,hSa]
 have h2:(Value.type "set" == Value.type "list")=false:=by decide
 have h3:(Value.type "set" == Value.type "tuple")=false:=by decide
 simp only [h1,h2,h3,Bool.or_false,Bool.false_eq_true,if_false]
 have touch:∀ (rm:Bool) (I:Addr) (fp:List Addr) (St:Nat->Heap->Prop) (vals:List Value) (d:Drawn) (h:Heap),Walks prog w A.in1 I fp [I] es.size (fun i v=>vals[i]?=some v) St->S ∉ fp->s.heap.objs.size<=I->vals.Perm (es.toList.map (·.2))->St 0 h->(∀ b o,s.heap.get? b=some o->h.get? b=some o)->
   wpAny (model prog w) A.in1 (holding [.ref I] (Builtin.List.listLengthHint (.ref a)) >>= fun room=>if (room || rm)=true then (rule "list.extend.makes-room" >>= fun _=>Builtin.List.listTouch (.ref S) >>= fun _=>again (.builtin "list.extend.loop" ⟨[.ref S,.ref I,res],[]⟩)) else again (.builtin "list.extend.loop" ⟨[.ref S,.ref I,res],[]⟩)) (fun fin s'=>match fin with | .done f=>R (.ok f) s' | .again c'=>c'.quiet=true/\codeAny (model prog w) A c' R s') (fun e s'=>R (.error e) s') { s with heap:=h,drawn:=d }:=by
  intro rm I fp St vals d h W hSf hI hp st hk
  have hS₁:=hk _ _ hS
  refine wpAny_bind (wpAny_holding (avy (s:={ s with heap:=h,drawn:=d }) (SetR.ty (s:={ s with heap:=h,drawn:=d }) (x.at fun o e=>hk a o e)) ?_))
  refine wpAny_ite_split (fun _=>?_) (fun _=>wpAny_pure ⟨plainId_quiet PySem.F.plain_extend_loop _,key I fp St vals d h c₀ _ W hSf hI hp st (fun b o _ e=>hk b o e) hS₁⟩)
  refine wpAny_bind (wpAny_rule ?_)
  refine wpAny_bind ?_
  show wpAny _ _ (updateSeq S (·.push .none) >>= fun _=>updateSeq S (·.pop)) _ _ _
  refine wpAny_bind (wpAny_updateSeq hS₁ rfl ?_)
  have hS₂:=Heap.get?_update_self (Obj.mapSeq (·.push Value.none)) hS₁ rfl
  refine wpAny_updateSeq (hz:=by seq_fits) hS₂ rfl ?_
  have hS₃:=Heap.get?_update_self (Obj.mapSeq (·.pop)) hS₂ rfl
  refine wpAny_pure ⟨plainId_quiet PySem.F.plain_extend_loop _,key I fp St vals d _ _ _ W hSf hI hp ?_ (fun b o hb e=>?_) hS₃⟩
  ·refine W.frame 0 _ _ st fun b hb o e=>?_
   have hbS:b ≠ S:=fun h=>hSf (h ▸ hb)
   exact (Heap.get?_update_other _ _ (Ne.symm hbS)).trans ((Heap.get?_update_other _ _ (Ne.symm hbS)).trans e)
  ·exact (Heap.get?_update_other _ _ (Ne.symm hb)).trans ((Heap.get?_update_other _ _ (Ne.symm hb)).trans (hk b o e))
 refine wpAny_bind (avw x hz (fun hd=>?_) fun hd pl d hp=>?_)
 ·exact touch _ s.heap.objs.size _ _ ((ord w a es ep).map (·.2)) s.drawn _ (walks (A:=A.in1) (prog:=prog) (w:=w) (t:=t) (ep:=ep) hh (Nat.ne_of_lt halt) hd) (by simp only [List.mem_cons,List.not_mem_nil,or_false,not_or];exact ⟨Nat.ne_of_lt hSlt,hSa⟩) (Nat.le_refl _) (ord_perm.map _)
   ⟨0,⟨_,Heap.get?_push_size _ rfl,rfl,rfl⟩,x.at fun o e=>Heap.get?_push_of_some _ e,fun _=>rfl⟩ fun b o e=>Heap.get?_push_of_some _ e
 ·refine touch _ (s.heap.objs.size+1) _ _ (ordD es pl) d _ (ayq (A:=A.in1) (prog:=prog) (w:=w) (t:=t) (ep:=ep) (tu:=s.heap.objs.size) hh (Nat.ne_of_lt (Nat.lt_succ_of_lt halt)) (Nat.ne_of_lt (Nat.lt_succ_self _)) hp) (by simp only [List.mem_cons,List.not_mem_nil,or_false,not_or];exact ⟨Nat.ne_of_lt (Nat.lt_succ_of_lt hSlt),hSa,Nat.ne_of_lt hSlt⟩) (Nat.le_succ _) (aqj hp)
   ⟨⟨itO (.ref s.heap.objs.size) a es.size ep,?_,rfl,rfl⟩,x.at fun o e=>Heap.get?_push_of_some _ (Heap.get?_push_of_some _ e),Heap.get?_push_of_some _ (Heap.get?_push_size _ rfl)⟩ fun b o e=>Heap.get?_push_of_some _ (Heap.get?_push_of_some _ e)
  have:=Heap.get?_push_size (s.heap.push (tuO pl)) (o:=itO (.ref s.heap.objs.size) a es.size ep) rfl
  rw [Heap.size_push] at this
  exact this
theorem amb {Q:List Value->Shared->Prop} (hh:A.handled=none) (x:SetR prog w a es ep t s.heap) (hz:es.size<=sizeLine)
  (hQ:∀ h' tk d (vs:List Value),(∀ b o,s.heap.get? b=some o->h'.get? b=some o)->s.heap.objs.size<=h'.objs.size->vs.Perm (es.toList.map (·.2))->Q vs { s with heap:=h',toks:=tk,drawn:=d }):wpAny (model prog w) A (collect (.ref a)) Q E s:=by
 unfold collect
 refine wpAny_bind (wpAny_runValue (codeAny_builtin PySem.F.entry_proto_collect ?a1))
 case a1 =>
  rw [Around.under_plainId PySem.F.plain_proto_collect _];show wpAny _ A.in1 (newList [] >>= fun l=>again (.builtin "list.__iadd__" ⟨[l,.ref a],[]⟩)) _ _ s
  refine wpAny_bind (wpAny_newObj_type (wpAny_pure ⟨plainId_quiet PySem.F.plain_list_iadd _,codeAny_builtin PySem.F.entry_list_iadd ?a2⟩))
  case a2 =>
   rw [Around.under_plainId PySem.F.plain_list_iadd _];show wpAny _ A.in1 (Builtin.List.listExtendWith (.ref s.heap.objs.size) (.ref a) (.ref s.heap.objs.size)) _ _ _
   have hS:(s.heap.push { cls:=.type "list",data:=.seq ([]:List Value).toArray }).get? s.heap.objs.size=some { cls:=.type "list",data:=.seq #[] 0 }:=Heap.get?_push_size _ rfl
   have halt:a < s.heap.objs.size:=let ⟨_,e,_⟩:=x;Heap.lt_size e
   refine ayr (R:=wants (fun v s'=>wpAny (model prog w) A (match v with | .ref a=>(do match (← load a).data with | .seq xs _=>pure xs.toList | _=>unsupported "internal:collect") | _=>unsupported "internal:collect") Q E s') E) (s:={ s with heap:=s.heap.push { cls:=.type "list",data:=.seq ([]:List Value).toArray } }) hh (x.at fun o e=>Heap.get?_push_of_some _ e) hz s.heap.objs.size (Nat.ne_of_gt halt) _ 0 hS (fun h' tk d acc c k hS' hacc=>?a3)
   case a3 =>
    show wpAny (model prog w) A _ Q E _
    refine wpAny_bind (wpAny_load hS' ?a4)
    case a4=>exact wpAny_pure (hQ h' tk d acc.toList (fun b o e=>k b o (Nat.ne_of_lt (Heap.lt_size e)) (Heap.get?_push_of_some _ e)) (Nat.le_of_lt (Heap.lt_size hS')) hacc)
end
end SS
namespace SS
open PySem PySem.W PyProof.Rows
section
variable {prog:Program} {w:World} {A:Around} {E:Value->Shared->Prop} {s:Shared} {a:Addr}
end
end SS
namespace L2
open PySem PySem.W PyProof.Rows
section
variable {X:Cx}
theorem Inv.drawn' {pins:List (Addr × Obj)} {σ:St} {H:Hp} {s:Shared} (I:Inv X pins σ H s) (d:Drawn):Inv X pins σ H { s with drawn:=d }:=⟨I.ok,I.os,I.bare,I.base,I.loc,I.cell,I.free,I.freeC,I.pin,I.hok,I.len⟩
end
end L2
namespace VL
open PySem PySem.Spec L2
section
variable {B:Bs} {env:En} {QO:Sl->En->Prop} {K:PySem.W.Frag} {ta:TA} {P:Program} {w:World}
end
end VL
namespace SH
open PySem PySem.SetTable
noncomputable def it:Nat->Nat->Nat
 | 0,x=>x
 | n+1,x=>it n (5 * x+1)
theorem ahe:∀ (a b x:Nat),it (a+b) x=it b (it a x)
 | 0,b,x=>by rw [Nat.zero_add];rfl
 | a+1,b,x=>by rw [Nat.add_right_comm];exact ahe a b (5 * x+1)
theorem ays (m:Nat):∃ c d:Nat,∀ x,it (2 ^ m) x=(1+2 ^ (m+2) * c) * x+2 ^ m * (2 * d+1):=by
 induction m with
 | zero => exact ⟨1, 0, fun x => by show 5 * x + 1 = _; row_cond lo⟩
 | succ m ih =>
  obtain ⟨c,d,h⟩:=ih
  refine ⟨c+2 ^ (m+1) * (c * c),d+2 ^ m * c * (2 * d+1),fun x=>?_⟩
  rw [show 2 ^ (m+1)=2 ^ m+2 ^ m by rw [Nat.pow_succ];row_cond lo,ahe,h,h]
  have e1:2 ^ (m+2)=4 * 2 ^ m:=by rw [Nat.pow_add];row_cond lo
  have e2:2 ^ (m+1+2)=8 * 2 ^ m:=by rw [Nat.pow_add,Nat.pow_succ];row_cond lo
  rw [e1,e2]
  generalize 2 ^ m=P
  grind
theorem ayt (m:Nat) (x j:Nat):∃ r,r < 2 ^ m/\it r x % 2 ^ m=j % 2 ^ m:=by
 induction m with
 | zero=>exact ⟨0,by decide,by rw [Nat.pow_zero,Nat.mod_one,Nat.mod_one]⟩
 | succ m ih =>
  obtain ⟨r,hr,e⟩:=ih
  obtain ⟨c,d,h⟩:=ays m
  have hp:0 < 2 ^ m:=Nat.pow_pos (by decide)
  have e2:2 ^ (m+1)=2 ^ m * 2:=Nat.pow_succ ..
  have e4:2 ^ (m+2)=2 ^ m * 4:=by rw [Nat.pow_add]
  rw [e2]
  have m1:=Nat.mod_mul (x:=it r x) (a:=2 ^ m) (b:=2)
  have m2:=Nat.mod_mul (x:=j) (a:=2 ^ m) (b:=2)
  by_cases hq:it r x / 2 ^ m % 2=j / 2 ^ m % 2
  ·exact ⟨r,by row_cond lo,by rw [m1,m2,e,hq]⟩
  ·refine ⟨r+2 ^ m,by row_cond lo,?_⟩
   rw [ahe,h,e4]
   have e5:(1+2 ^ m * 4 * c) * it r x+2 ^ m * (2 * d+1)=it r x+2 ^ m * (4 * (c * it r x)+2 * d+1):=by
    generalize 2 ^ m=P
    grind
   rw [e5,Nat.mod_mul,m2,Nat.add_mul_mod_self_left,e,Nat.add_mul_div_left _ _ hp]
   have:(it r x / 2 ^ m+(4 * (c * it r x)+2 * d+1)) % 2=j / 2 ^ m % 2:=by
    generalize c * it r x=z
    row_cond lo
   rw [this]
theorem avz (r x:Nat):it (r+1) x=5 * it r x+1:=by rw [ahe];rfl
noncomputable def adv (mask:Nat) (p:Probe):Probe:=if p.more > 0 then { p with j:=p.j+1,more:=p.more - 1 } else { p with j:=(leap mask p.i p.perturb).1,more:=runEnd mask (leap mask p.i p.perturb).1 - (leap mask p.i p.perturb).1,i:=(leap mask p.i p.perturb).1,perturb:=(leap mask p.i p.perturb).2 }
noncomputable def pr0 (mask:Nat) (h:Int):Probe:={ j:=bits h % (mask+1),more:=runEnd mask (bits h % (mask+1)) - bits h % (mask+1),i:=bits h % (mask+1),perturb:=bits h,dummy:=none }
noncomputable def pr (mask:Nat) (h:Int):Nat->Probe
 | 0=>pr0 mask h
 | k+1=>adv mask (pr mask h k)
theorem alg (mask:Nat) (h:Int):∀ k,(pr mask h k).dummy=none
 | 0=>rfl
 | k+1=>by
  have:=alg mask h k
  show (adv mask (pr mask h k)).dummy=none
  unfold adv
  split <;> exact this
noncomputable def lp (mask:Nat) (h:Int):Nat->Nat × Nat
 | 0=>(bits h % (mask+1),bits h)
 | n+1=>leap mask (lp mask h n).1 (lp mask h n).2
noncomputable def pAt (mask:Nat) (q:Nat × Nat) (a:Nat):Probe:={ j:=q.1+a,more:=runEnd mask q.1 - q.1 - a,i:=q.1,perturb:=q.2,dummy:=none }
theorem ayu (mask i:Nat):runEnd mask i - i<=9:=by unfold runEnd;split <;> row_cond lo
theorem alh {mask:Nat} {h:Int} {s:Nat} {q:Nat × Nat} (e:pr mask h s=pAt mask q 0):∀ a,a<=runEnd mask q.1 - q.1->pr mask h (s+a)=pAt mask q a
 | 0,_=>e
 | a+1,ha=>by
  have ih:=alh e a (by row_cond lo)
  show adv mask (pr mask h (s+a))=_
  rw [ih]
  unfold adv pAt
  rw [if_pos (by show runEnd mask q.1 - q.1 - a > 0;row_cond lo)]
  show Probe.mk _ _ _ _ _=Probe.mk _ _ _ _ _
  congr 1
theorem av0 {mask:Nat} {h:Int} {s:Nat} {q:Nat × Nat} (e:pr mask h s=pAt mask q 0):pr mask h (s+(runEnd mask q.1 - q.1)+1)=pAt mask (leap mask q.1 q.2) 0:=by
 have:=alh e _ (Nat.le_refl _)
 show adv mask (pr mask h (s+_))=_
 rw [this]
 unfold adv pAt
 rw [if_neg (by show ¬ (runEnd mask q.1 - q.1 - (runEnd mask q.1 - q.1) > 0);row_cond lo)]
 rfl
noncomputable def sp (mask:Nat) (h:Int):Nat->Nat
 | 0=>0
 | n+1=>sp mask h n+(runEnd mask (lp mask h n).1 - (lp mask h n).1)+1
theorem atx (mask:Nat) (h:Int):∀ n,sp mask h n<=10 * n
 | 0=>Nat.le_refl _
 | n+1=>by
  have:=atx mask h n
  have:=ayu mask (lp mask h n).1
  unfold sp
  row_cond lo
theorem ao1 (mask:Nat) (h:Int):∀ n,pr mask h (sp mask h n)=pAt mask (lp mask h n) 0
 | 0=>rfl
 | n+1=>av0 (ao1 mask h n)
theorem ann (mask:Nat) (h:Int):∀ n,(lp mask h n).2=bits h / 32 ^ n
 | 0=>by show bits h=_;rw [Nat.pow_zero,Nat.div_one]
 | n+1=>by
  show (lp mask h n).2 / 32=_
  rw [ann mask h n,Nat.div_div_eq_div_mul,Nat.pow_succ]
theorem av1 (h:Int):bits h < 2 ^ 64:=by
 unfold bits
 have h1:=Int.emod_nonneg h (show (2 ^ 64:Int) ≠ 0 by decide)
 have h2:=Int.emod_lt_of_pos h (show (0:Int) < 2 ^ 64 by decide)
 row_cond lo
theorem av2 (mask:Nat) (h:Int) (r:Nat):(lp mask h (13+r)).2=0:=by
 rw [ann]
 apply Nat.div_eq_of_lt
 refine Nat.lt_of_lt_of_le (av1 h) ?_
 rw [Nat.pow_add]
 exact Nat.le_trans (show 2 ^ 64<=32 ^ 13 by decide) (Nat.le_mul_of_pos_right _ (Nat.pow_pos (by decide)))
theorem aty (mask:Nat) (h:Int):∀ r,(lp mask h (13+r)).1 % (mask+1)=it r (lp mask h 13).1 % (mask+1)
 | 0=>rfl
 | r+1=>by
  show ((lp mask h (13+r)).1 * 5+1+(lp mask h (13+r)).2 / 32) % (mask+1) % (mask+1)=_
  rw [av2,avz,Nat.mod_mod,show 0 / 32=0 from rfl,Nat.add_zero,Nat.add_mod,Nat.mul_mod,aty mask h r,← Nat.mul_mod,← Nat.add_mod,Nat.mul_comm]
theorem atz (mask:Nat) (h:Int):∀ n,(lp mask h n).1 < mask+1
 | 0=>Nat.mod_lt _ (Nat.succ_pos _)
 | n+1=>Nat.mod_lt _ (Nat.succ_pos _)
theorem aqk {mask m:Nat} (hm:mask+1=2 ^ m) (h:Int) (j:Nat) (hj:j<=mask):∃ n,n < mask+14/\(lp mask h n).1=j:=by
 obtain ⟨r,hr,e⟩:=ayt m (lp mask h 13).1 j
 refine ⟨13+r,by row_cond lo,?_⟩
 have h1:=aty mask h r
 rw [hm,e,← hm,Nat.mod_eq_of_lt (atz mask h _),Nat.mod_eq_of_lt (show j < mask+1 by row_cond lo)] at h1
 exact h1
theorem ayv {mask m:Nat} (hm:mask+1=2 ^ m) (h:Int) (j:Nat) (hj:j<=mask):∃ k,k < 10 * turns mask/\(pr mask h k).j=j:=by
 obtain ⟨n,hn,e⟩:=aqk hm h j hj
 refine ⟨sp mask h n,?_,by rw [ao1];exact e⟩
 have:=atx mask h n
 unfold turns
 row_cond lo
end SH
namespace SH
open PySem PySem.SetTable
structure TOk (t:SetTable):Prop where
 ris:t.place.toList.Pairwise (· < ·)
 dum:t.dummies = #[]
 le:∀ j∈t.place.toList,j<=t.mask
 two:∃ m,t.mask+1=2 ^ m
 room:t.place.size<=t.mask
theorem adb {t:SetTable} (x:TOk t) {j i:Nat}:t.slot j=.live i ↔ t.place.toList[i]?=some j:=by
 have hb:=SS.below_ok t.place j x.ris
 unfold slot
 dsimp only
 rw [x.dum,SS.has_nil]
 constructor
 ·intro h
  split at h
  ·rename_i e
   cases h
   have e:=eq_of_beq e
   rw [Array.getElem?_toList]
   exact e
  ·cases h
 ·intro h
  obtain ⟨hi,e⟩:=List.getElem?_eq_some_iff.mp h
  have hbi:below t.place j=i:=by
   rcases Nat.lt_trichotomy (below t.place j) i with hl | hl | hl
   ·have h1:=hb.2.2 (below t.place j) (by row_cond lo) (Nat.le_refl _)
    have h2:=List.pairwise_iff_getElem.mp x.ris (below t.place j) i (by row_cond lo) hi hl
    row_cond lo
   ·exact hl
   ·have:=hb.2.1 i hi hl
    row_cond lo
  rw [hbi,if_pos (by rw [← Array.getElem?_toList,h];exact beq_self_eq_true _)]
theorem ahf {t:SetTable} (x:TOk t) (j:Nat):t.slot j=.empty\/∃ i,t.slot j=.live i:=by
 unfold slot
 dsimp only
 rw [x.dum,SS.has_nil]
 split
 ·exact .inr ⟨_,rfl⟩
 ·exact .inl rfl
theorem acq {t:SetTable} (x:TOk t) {j:Nat}:t.slot j=.empty ↔ j ∉ t.place.toList:=by
 constructor
 ·intro h hm
  obtain ⟨i,hi⟩:=List.getElem?_of_mem hm
  rw [(adb x).mpr hi] at h
  cases h
 ·intro h
  rcases ahf x j with e | ⟨i,e⟩
  ·exact e
  ·exact absurd (List.mem_of_getElem? ((adb x).mp e)) h
theorem aql {t:SetTable} (x:TOk t):∃ j,j<=t.mask/\t.slot j=.empty:=by
 apply Classical.byContradiction
 intro hn
 have hall:∀ j∈List.range (t.mask+1),j∈t.place.toList:=fun j hj=>by
  have hj:=List.mem_range.mp hj
  apply Classical.byContradiction
  intro h
  exact hn ⟨j,by row_cond lo,(acq x).mpr h⟩
 have:=List.Nodup.length_le_of_subset List.nodup_range hall
 rw [List.length_range,Array.length_toList] at this
 have:=x.room
 row_cond lo
theorem ali {t:SetTable} (x:TOk t) {ha:Nat->Int} {h:Int}:∀ (fuel k:Nat),(∃ k1,k<=k1/\k1 < k+fuel/\t.slot (pr t.mask h k1).j=.empty) ->
  ∃ k1,k<=k1/\k1 < k+fuel/\(∀ k',k<=k'->k' < k1->∃ i,t.slot (pr t.mask h k').j=.live i/\ha i ≠ h) /\
   ((t.slot (pr t.mask h k1).j=.empty ∧ probe.go t ha h fuel (pr t.mask h k)=some (.empty (pr t.mask h k1).j none)) ∨
    ∃ i,t.slot (pr t.mask h k1).j=.live i/\ha i=h/\probe.go t ha h fuel (pr t.mask h k)=some (.candidate (pr t.mask h k1).j i (pr t.mask h (k1+1))))
 | 0, k, ⟨k1, h1, h2, _⟩ => by row_cond lo
 | fuel+1,k,⟨k1,h1,h2,h3⟩=>by
  rcases ahf x (pr t.mask h k).j with e | ⟨i,e⟩
  ·refine ⟨k,Nat.le_refl _,by row_cond lo,fun k' a b=>by row_cond lo,.inl ⟨e,?_⟩⟩
   unfold probe.go
   rw [e,alg]
  ·by_cases hi:ha i=h
   ·refine ⟨k,Nat.le_refl _,by row_cond lo,fun k' a b=>by row_cond lo,.inr ⟨i,e,hi,?_⟩⟩
    unfold probe.go
    rw [e]
    dsimp only
    rw [if_pos (by rw [hi];exact beq_self_eq_true _)]
    rfl
   ·have hk1:k+1<=k1:=by
     rcases Nat.lt_or_eq_of_le h1 with h | h
     ·exact h
     ·rw [← h,e] at h3;cases h3
    obtain ⟨k2,a1,a2,a3,a4⟩:=ali x (ha:=ha) (h:=h) fuel (k+1) ⟨k1,hk1,by row_cond lo,h3⟩
    have eg:probe.go t ha h (fuel+1) (pr t.mask h k)=probe.go t ha h fuel (pr t.mask h (k+1)):=by
     conv=>lhs;unfold probe.go
     rw [e]
     dsimp only
     rw [if_neg (by intro z;exact hi (eq_of_beq z))]
     rfl
    refine ⟨k2,by row_cond lo,by row_cond lo,fun k' b1 b2=>?_,?_⟩
    ·rcases Nat.lt_or_eq_of_le b1 with b | b
     ·exact a3 k' (by row_cond lo) b2
     ·exact ⟨i,by rw [← b];exact e,hi⟩
    ·rw [eg]
     exact a4
def HI (t:SetTable) (es:List (Int × Value)):Prop:=es.length=t.place.size/\∀ (i:Nat) (e:Int × Value) (j:Nat),es[i]?=some e->t.place.toList[i]?=some j->∃ k,(pr t.mask e.1 k).j=j/\∀ k',k' < k->t.slot (pr t.mask e.1 k').j ≠ .empty
theorem HI.found {t:SetTable} {es:List (Int × Value)} (x:TOk t) (hI:HI t es) {h:Int} {k1:Nat} (he:t.slot (pr t.mask h k1).j=.empty) {i:Nat} {e:Int × Value} (hi:es[i]?=some e) (hh:e.1=h):∃ k,k < k1/\t.slot (pr t.mask h k).j=.live i:=by
 have hl:i < t.place.toList.length:=by rw [Array.length_toList,← hI.1];exact (List.getElem?_eq_some_iff.mp hi).1
 obtain ⟨k,e1,e2⟩:=hI.2 i e _ hi (List.getElem?_eq_getElem hl)
 rw [hh] at e1 e2
 have hs:t.slot (pr t.mask h k).j=.live i:=(adb x).mpr (by rw [e1];exact List.getElem?_eq_getElem hl)
 refine ⟨k,?_,hs⟩
 rcases Nat.lt_trichotomy k k1 with a | a | a
 ·exact a
 ·subst a;rw [he] at hs;cases hs
 ·exact absurd he (e2 k1 a)
theorem ins_get {α:Type} (l:List α) (p:Nat) (x : α) (hp:p<=l.length) (i:Nat):(l.take p ++ x :: l.drop p)[i]?=if i < p then l[i]? else if i=p then some x else l[i - 1]?:=by
 have hlen:(l.take p).length=p:=by rw [List.length_take];row_cond lo
 by_cases h1:i < p
 ·rw [if_pos h1,List.getElem?_append_left (by row_cond lo),List.getElem?_take,if_pos h1]
 ·rw [if_neg h1,List.getElem?_append_right (by row_cond lo),hlen]
  by_cases h2:i=p
  ·rw [if_pos h2,h2,Nat.sub_self];rfl
  ·rw [if_neg h2]
   obtain ⟨d,hd⟩:∃ d,i - p=d+1:=⟨i - p - 1,by row_cond lo⟩
   rw [hd,List.getElem?_cons_succ,List.getElem?_drop,show p+d=i - 1 by row_cond lo]
theorem adc (t:SetTable) (j:Nat):(t.put j).1.place.toList=t.place.toList.take (below t.place j) ++ j :: t.place.toList.drop (below t.place j):=SetTable.toList_insertAt ..
theorem asq (t:SetTable) (j:Nat):(t.put j).1.mask=t.mask:=rfl
theorem TOk.put {t:SetTable} (x:TOk t) {j:Nat} (hj:j<=t.mask) (he:t.slot j=.empty) (hr:t.place.size+1<=t.mask):TOk (t.put j).1:=by
 have hb:=SS.below_ok t.place j x.ris
 refine ⟨?_,?_,fun q hq=>?_,x.two,?_⟩
 ·refine SS.put_rise x.ris fun e=>?_
  exact (acq x).mp he (by rw [← Array.getElem?_toList] at e;exact List.mem_of_getElem? e)
 ·show (if has t.dummies j=true then _ else t.dummies) = #[]
  rw [x.dum,SS.has_nil];rfl
 ·rw [adc] at hq
  rcases List.mem_append.mp hq with h | h
  ·exact x.le q (List.mem_of_mem_take h)
  ·rcases List.mem_cons.mp h with h | h
   ·rw [h];exact hj
   ·exact x.le q (List.mem_of_mem_drop h)
 ·have:(t.put j).1.place.toList.length=t.place.toList.length+1:=by
   rw [adc,List.length_append,List.length_cons,List.length_take,List.length_drop]
   have:=hb.1
   simp only [Array.length_toList]
   row_cond lo
  simp only [Array.length_toList] at this
  rw [this]
  exact hr
theorem HI.put {t:SetTable} {es:List (Int × Value)} (x:TOk t) (hI:HI t es) {j:Nat} (hj:j<=t.mask) (hr:t.place.size+1<=t.mask) {e:Int × Value} {k1:Nat} (ej:(pr t.mask e.1 k1).j=j) (he:t.slot j=.empty) (hk:∀ k',k' < k1->t.slot (pr t.mask e.1 k').j ≠ .empty) :
  HI (t.put j).1 (es.take (below t.place j) ++ e :: es.drop (below t.place j)):=by
 have hb:=SS.below_ok t.place j x.ris
 have x':=x.put hj he hr
 have hle:es.length=t.place.toList.length:=by rw [Array.length_toList];exact hI.1
 have hbl:below t.place j<=t.place.toList.length:=by rw [Array.length_toList];exact hb.1
 have hmono:∀ q,t.slot q ≠ .empty->(t.put j).1.slot q ≠ .empty:=fun q hq z=>by
  rw [acq x'] at z
  refine hq ((acq x).mpr fun hm=>z ?_)
  rw [adc]
  rw [← List.take_append_drop (below t.place j) t.place.toList] at hm
  rcases List.mem_append.mp hm with h | h
  ·exact List.mem_append_left _ h
  ·exact List.mem_append_right _ (List.mem_cons_of_mem _ h)
 refine ⟨?_,fun i e' j' hi hj'=>?_⟩
 ·have h1:(t.put j).1.place.toList.length=es.length+1:=by
   rw [adc,List.length_append,List.length_cons,List.length_take,List.length_drop]
   row_cond lo
  rw [← Array.length_toList,h1,List.length_append,List.length_cons,List.length_take,List.length_drop]
  row_cond lo
 ·rw [adc,ins_get _ _ _ hbl] at hj'
  rw [ins_get _ _ _ (by row_cond lo)] at hi
  rw [asq]
  by_cases h1:i < below t.place j
  ·rw [if_pos h1] at hi hj'
   obtain ⟨k,a1,a2⟩:=hI.2 i e' j' hi hj'
   exact ⟨k,a1,fun k' hk'=>hmono _ (a2 k' hk')⟩
  ·rw [if_neg h1] at hi hj'
   by_cases h2:i=below t.place j
   ·rw [if_pos h2] at hi hj'
    cases hi
    cases hj'
    exact ⟨k1,ej,fun k' hk'=>hmono _ (hk k' hk')⟩
   ·rw [if_neg h2] at hi hj'
    obtain ⟨k,a1,a2⟩:=hI.2 (i - 1) e' j' hi hj'
    exact ⟨k,a1,fun k' hk'=>hmono _ (a2 k' hk')⟩
noncomputable def ow (owner:Array (Option Nat)) (j:Nat):Option Nat:=owner.getD j none
theorem ao2 (f:Nat->Bool):∀ (n:Nat),(∃ k,(List.range n).find? f=some k/\k < n/\f k=true/\∀ k',k' < k->f k'=false)\/((List.range n).find? f=none/\∀ k',k' < n->f k'=false):=fun n=>by
 cases h:(List.range n).find? f with
 | none =>
  refine .inr ⟨rfl,fun k' hk=>?_⟩
  have:=List.find?_eq_none.mp h k' (List.mem_range.mpr hk)
  simpa using this
 | some k =>
  refine .inl ⟨k,rfl,List.mem_range.mp (List.mem_of_find?_eq_some h),List.find?_some h,fun k' hk=>?_⟩
  rw [List.find?_range_eq_some] at h
  have:=h.2.2 k' hk
  simpa using this
theorem ano {mask:Nat} {owner:Array (Option Nat)} (hsz:owner.size=mask+1) {h:Int} {ne je:Nat} (hne:(lp mask h ne).1=je) (hje:ow owner je=none) (hjm:je<=mask):∀ (fuel n:Nat),n+fuel > ne->n<=ne->(∀ s',s' < sp mask h n->ow owner (pr mask h s').j ≠ none) ->
  ∃ s,layClean.free mask owner fuel (lp mask h n).1 (lp mask h n).2=some (pr mask h s).j/\ow owner (pr mask h s).j=none/\(pr mask h s).j<=mask/\∀ s',s' < s->ow owner (pr mask h s').j ≠ none
 | 0, n, h1, h2, _ => by row_cond lo
 | fuel+1,n,h1,h2,hall=>by
  have hl:=atz mask h n
  have hrun:runEnd mask (lp mask h n).1<=mask/\(lp mask h n).1<=runEnd mask (lp mask h n).1:=by unfold runEnd;split <;> row_cond lo
  have hg:∀ j,j<=mask->owner.getD j (some 0)=ow owner j:=fun j hj=>by
   unfold ow
   simp [Array.getD,hsz,show j < mask+1 by row_cond lo]
  have hat:∀ a,a<=runEnd mask (lp mask h n).1 - (lp mask h n).1->(pr mask h (sp mask h n+a)).j=(lp mask h n).1+a:=fun a ha=>by rw [alh (ao1 mask h n) a ha];rfl
  have hrest:∀ K,K<=runEnd mask (lp mask h n).1 - (lp mask h n).1+1->(∀ k',k' < K->(owner.getD ((lp mask h n).1+k') (some 0)).isNone=false)->∀ s',s' < sp mask h n+K->ow owner (pr mask h s').j ≠ none:=fun K hK hf s' hs'=>by
   by_cases hs:s' < sp mask h n
   ·exact hall s' hs
   ·obtain ⟨a,rfl⟩:∃ a,s'=sp mask h n+a:=⟨s' - sp mask h n,by row_cond lo⟩
    rw [hat a (by row_cond lo),← hg _ (by row_cond lo)]
    intro z
    have:=hf a (by row_cond lo)
    rw [z] at this
    cases this
  unfold layClean.free
  rcases ao2 (fun k=>(owner.getD ((lp mask h n).1+k) (some 0)).isNone) (runEnd mask (lp mask h n).1+1 - (lp mask h n).1) with ⟨k,e,hk,hfk,hfb⟩ | ⟨e,hf⟩
  ·rw [e]
   refine ⟨sp mask h n+k,by rw [hat k (by row_cond lo)],?_,by rw [hat k (by row_cond lo)];row_cond lo,hrest k (by row_cond lo) hfb⟩
   rw [hat k (by row_cond lo),← hg _ (by row_cond lo)]
   simpa using hfk
  ·rw [e]
   have hne':n ≠ ne:=fun z=>by
    subst z
    have:=hf 0 (by row_cond lo)
    rw [Nat.add_zero,hne,hg je hjm,hje] at this
    cases this
   have ih:=ano hsz hne hje hjm fuel (n+1) (by row_cond lo) (by row_cond lo) (fun s' hs'=>hrest _ (Nat.le_refl _) (fun k' hk'=>hf k' (by row_cond lo)) s' (by
    have:sp mask h (n+1)=sp mask h n+(runEnd mask (lp mask h n).1 - (lp mask h n).1)+1:=rfl
    row_cond lo))
   exact ih
end SH
namespace SH
open PySem PySem.SetTable
structure Lay (mask:Nat) (hs:List Int) (owner:Array (Option Nat)):Prop where
 sz:owner.size=mask+1
 at':∀ k h,hs[k]?=some h->∃ s,(pr mask h s).j<=mask/\ow owner (pr mask h s).j=some k/\∀ s',s' < s->ow owner (pr mask h s').j ≠ none
 un:∀ j k,ow owner j=some k->k < hs.length
 inj:∀ j j' k,ow owner j=some k->ow owner j'=some k->j=j'
theorem ayw {owner:Array (Option Nat)} {j:Nat} (h:owner.size<=j):ow owner j=none:=by
 unfold ow
 simp [Array.getD,show ¬ (j < owner.size) by row_cond lo]
theorem Lay.start (mask:Nat):Lay mask [] (Array.replicate (mask+1) none):=by
 have hn:∀ j,ow (Array.replicate (mask+1) none) j=none:=fun j=>by
  unfold ow
  simp only [Array.getD]
  split
  ·simp
  ·rfl
 exact ⟨by simp,fun k h hk=>by simp at hk,fun j k e=>(by rw [hn] at e;cases e),fun j j' k e=>(by rw [hn] at e;cases e)⟩
theorem Lay.gap {mask:Nat} {hs:List Int} {owner:Array (Option Nat)} (x:Lay mask hs owner) (hl:hs.length<=mask):∃ j,j<=mask/\ow owner j=none:=by
 apply Classical.byContradiction
 intro hn
 have hall:∀ j,j<=mask->∃ k,ow owner j=some k:=fun j hj=>by
  cases e:ow owner j with
  | some k=>exact ⟨k,rfl⟩
  | none=>exact absurd ⟨j,hj,e⟩ hn
 have hnd:((List.range (mask+1)).map fun j=>(ow owner j).getD 0).Nodup:=by
  rw [List.Nodup,List.pairwise_map]
  refine List.Pairwise.imp_of_mem (fun {a b} ha hb hab=>?_) List.nodup_range
  obtain ⟨k,hk⟩:=hall a (by have:=List.mem_range.mp ha;row_cond lo)
  obtain ⟨k',hk'⟩:=hall b (by have:=List.mem_range.mp hb;row_cond lo)
  rw [hk,hk']
  intro e
  have e:k=k':=e
  subst e
  exact hab (x.inj a b k hk hk')
 have:=List.Nodup.length_le_of_subset (l₂:=List.range hs.length) hnd fun k hk=>by
  obtain ⟨j,hj,rfl⟩:=List.mem_map.mp hk
  obtain ⟨k,e⟩:=hall j (by have:=List.mem_range.mp hj;row_cond lo)
  rw [e]
  exact List.mem_range.mpr (x.un j k e)
 rw [List.length_map,List.length_range,List.length_range] at this
 row_cond lo
theorem ae2 {owner:Array (Option Nat)} {j q:Nat} {o:Option Nat} (hj:j < owner.size):ow (owner.setIfInBounds j o) q=if q=j then o else ow owner q:=by
 unfold ow
 simp only [Array.getD,Array.size_setIfInBounds]
 by_cases e:q=j
 ·subst e
  simp [hj]
 ·rw [if_neg e]
  split
  ·rename_i hq
   simp [Array.getElem_setIfInBounds,hq,Ne.symm e]
  ·rfl
theorem Lay.next {mask m:Nat} (hm:mask+1=2 ^ m) {hs:List Int} {owner:Array (Option Nat)} (x:Lay mask hs owner) (hl:hs.length<=mask) (h:Int) :
  ∃ j,layClean.free mask owner (turns mask) (bits h % (mask+1)) (bits h)=some j/\Lay mask (hs ++ [h]) (owner.setIfInBounds j (some hs.length)):=by
 obtain ⟨je,hje,he⟩:=x.gap hl
 obtain ⟨ne,hne,el⟩:=aqk hm h je hje
 obtain ⟨s,e1,e2,e3,e4⟩:=ano x.sz el he hje (turns mask) 0 (by unfold turns;row_cond lo) (Nat.zero_le _) (fun s' hs'=>by cases hs')
 have hjs:(pr mask h s).j < owner.size:=by rw [x.sz];row_cond lo
 have hmono:∀ q,ow owner q ≠ none->ow (owner.setIfInBounds (pr mask h s).j (some hs.length)) q ≠ none:=fun q hq=>by
  rw [ae2 hjs]
  split
  ·simp
  ·exact hq
 refine ⟨_,e1,⟨by rw [Array.size_setIfInBounds];exact x.sz,fun k h' hk=>?_,fun j k e=>?_,fun j j' k e e'=>?_⟩⟩
 ·by_cases hkl:k < hs.length
  ·rw [List.getElem?_append_left hkl] at hk
   obtain ⟨s2,a1,a2,a3⟩:=x.at' k h' hk
   refine ⟨s2,a1,?_,fun s' hs'=>hmono _ (a3 s' hs')⟩
   rw [ae2 hjs,if_neg (fun z=>by rw [z,e2] at a2;cases a2)]
   exact a2
  ·have hk2:=(List.getElem?_eq_some_iff.mp hk).1
   rw [List.length_append] at hk2
   simp at hk2
   have:k=hs.length:=by row_cond lo
   subst this
   rw [List.getElem?_append_right (Nat.le_refl _),Nat.sub_self] at hk
   cases hk
   exact ⟨s,e3,by rw [ae2 hjs,if_pos rfl],fun s' hs'=>hmono _ (e4 s' hs')⟩
 ·rw [ae2 hjs] at e
  rw [List.length_append]
  split at e
  ·cases e;simp
  ·have:=x.un j k e;row_cond lo
 ·rw [ae2 hjs] at e e'
  split at e
  ·rename_i h1
   cases e
   split at e'
   ·rename_i h2;rw [h1,h2]
   ·have:=x.un j' _ e';row_cond lo
  ·split at e'
   ·cases e'
    have:=x.un j _ e;row_cond lo
   ·exact x.inj j j' k e e'
theorem alj {mask m:Nat} (hm:mask+1=2 ^ m):∀ (rest pre:List Int) (owner:Array (Option Nat)),Lay mask pre owner->pre.length+rest.length<=mask+1 ->
  ∃ owner',rest.foldl (fun (acc:Option (Array (Option Nat) × Nat)) h=>do
   let (owner,k) ← acc
   let j ← layClean.free mask owner (turns mask) (bits h % (mask+1)) (bits h)
   pure (owner.setIfInBounds j (some k),k+1)) (some (owner,pre.length))=some (owner',pre.length+rest.length)/\Lay mask (pre ++ rest) owner'
 | [],pre,owner,x,_=>⟨owner,rfl,by rw [List.append_nil];exact x⟩
 | h :: rest,pre,owner,x,hl=>by
  rw [List.length_cons] at hl
  obtain ⟨j,e,y⟩:=x.next hm (by row_cond lo) h
  obtain ⟨o',a1,a2⟩:=alj hm rest (pre ++ [h]) _ y (by rw [List.length_append,List.length_singleton];row_cond lo)
  refine ⟨o',?_,by rw [List.append_assoc] at a2;exact a2⟩
  rw [List.length_append,List.length_singleton] at a1
  rw [List.foldl_cons,List.length_cons]
  have e0:(do
   let (owner,k) ← (some (owner,pre.length):Option (Array (Option Nat) × Nat))
   let j ← layClean.free mask owner (turns mask) (bits h % (mask+1)) (bits h)
   pure (owner.setIfInBounds j (some k),k+1))=some (owner.setIfInBounds j (some pre.length),pre.length+1):=by
   show (layClean.free mask owner (turns mask) (bits h % (mask+1)) (bits h) >>= fun j=>pure (owner.setIfInBounds j (some pre.length),pre.length+1))=_
   rw [e]
   rfl
  rw [e0,a1]
  congr 2
  row_cond lo
theorem ayx {mask m:Nat} (hm:mask+1=2 ^ m) (hs:Array Int) (hl:hs.size<=mask+1):∃ owner,layClean mask hs=some owner/\Lay mask hs.toList owner:=by
 obtain ⟨o,e,x⟩:=alj hm hs.toList [] _ (Lay.start mask) (by simpa using hl)
 refine ⟨o,?_,by simpa using x⟩
 unfold layClean
 rw [← Array.foldl_toList]
 have e':hs.toList.foldl (fun (acc:Option (Array (Option Nat) × Nat)) h=>do
   let (owner,k) ← acc
   let j ← layClean.free mask owner (turns mask) (bits h % (mask+1)) (bits h)
   pure (owner.setIfInBounds j (some k),k+1)) (some (Array.replicate (mask+1) none,0))=_:=e
 rw [e']
 rfl
noncomputable def live (owner:Array (Option Nat)) (mask:Nat):List (Nat × Nat):=(List.range (mask+1)).filterMap fun j=>(owner.getD j none).map (j,·)
theorem live_mem {owner:Array (Option Nat)} {mask j k:Nat}:(j,k)∈live owner mask ↔ j<=mask/\ow owner j=some k:=by
 unfold live ow
 rw [List.mem_filterMap]
 constructor
 ·rintro ⟨j',hj,e⟩
  have hj:=List.mem_range.mp hj
  cases h:owner.getD j' none with
  | none=>rw [h] at e;cases e
  | some k' => rw [h] at e; cases e; exact ⟨by row_cond lo, h⟩
 ·rintro ⟨hj,e⟩
  exact ⟨j,List.mem_range.mpr (by row_cond lo),by rw [e];rfl⟩
theorem av3 {mask:Nat} {hs:List Int} {owner:Array (Option Nat)} (x:Lay mask hs owner):((live owner mask).map (·.2)).Nodup:=by
 rw [List.Nodup,List.pairwise_map]
 have h1:((live owner mask).map (·.1)).Pairwise (· < ·):=SS.live_rise owner (mask+1)
 rw [List.pairwise_map] at h1
 refine List.Pairwise.imp_of_mem (fun {a b} ha hb hab e=>?_) h1
 obtain ⟨j,k⟩:=a
 obtain ⟨j',k'⟩:=b
 have e:k=k':=e
 subst e
 have:=x.inj j j' k (live_mem.mp ha).2 (live_mem.mp hb).2
 have hab:j < j':=hab
 row_cond lo
theorem aqm {mask:Nat} {hs:List Int} {owner:Array (Option Nat)} (x:Lay mask hs owner):((live owner mask).map (·.2)).Perm (List.range hs.length):=by
 refine (List.perm_ext_iff_of_nodup (av3 x) List.nodup_range).mpr fun k=>?_
 rw [List.mem_map,List.mem_range]
 constructor
 ·rintro ⟨⟨j,k'⟩,h,rfl⟩
  exact x.un j _ (live_mem.mp h).2
 ·intro h
  obtain ⟨s,a1,a2,_⟩:=x.at' k _ (List.getElem?_eq_getElem h)
  exact ⟨((pr mask hs[k] s).j,k),live_mem.mpr ⟨a1,a2⟩,rfl⟩
theorem ai2 {α:Type} (xs:List α) (d : α):∀ (l:List Nat),(∀ k∈l,k < xs.length)->l.filterMap (xs[·]?)=l.map fun k=>xs.getD k d
 | [],_=>rfl
 | k :: l,h=>by
  have hk:=h k List.mem_cons_self
  rw [List.filterMap_cons,List.getElem?_eq_getElem hk,List.map_cons,ai2 xs d l fun q hq=>h q (List.mem_cons_of_mem _ hq),List.getD_eq_getElem?_getD,List.getElem?_eq_getElem hk]
  rfl
theorem av4 {mask m finger moves:Nat} {led plain:Bool} (hm:mask+1=2 ^ m) (es:Array (Int × Value)) (hl:es.size<=mask) :
  ∃ t order es',laid mask finger moves led plain (es.map (·.1))=some (t,order)/\order.filterMap (es[·]?)=es'/\es'.size=es.size/\es'.toList.Perm es.toList/\TOk t/\HI t es'.toList/\t.mask=mask/\t.place.size=es.size/\t.led=led/\t.plain=plain:=by
 obtain ⟨owner,e,x⟩:=ayx hm (es.map (·.1)) (by simp;row_cond lo)
 have hlen:(es.map (·.1)).toList.length=es.size:=by simp
 have hp:=aqm x
 rw [hlen] at hp
 have hll:(live owner mask).length=es.size:=by have:=hp.length_eq;simpa using this
 have hout:=ai2 es.toList (0,Value.none) ((live owner mask).map (·.2)) fun k hk=>by rw [Array.length_toList];exact List.mem_range.mp (hp.mem_iff.mp hk)
 have hes:((((live owner mask).map (·.2)).toArray).filterMap (es[·]?)).toList=((live owner mask).map (·.2)).map fun k=>es.toList.getD k (0,.none):=by
  rw [← hout]
  simp
 have hpl:(((live owner mask).map (·.1)).toArray).toList=(live owner mask).map (·.1):=by simp
 have x':TOk { mask,place:=((live owner mask).map (·.1)).toArray,dummies:=#[],finger,led,moves,plain }:=by
  refine ⟨by show (((live owner mask).map (·.1)).toArray).toList.Pairwise _;rw [hpl];exact SS.live_rise owner (mask+1),rfl,fun j hj=>?_,⟨m,hm⟩,?_⟩
  ·have hj:j∈(live owner mask).map (·.1):=by simpa using hj
   obtain ⟨⟨j',k⟩,h,rfl⟩:=List.mem_map.mp hj
   exact (live_mem.mp h).1
  ·simp only [List.size_toArray,List.length_map]
   row_cond lo
 refine ⟨_,_,_,by unfold laid;rw [e];rfl,rfl,?_,?_,x',⟨?_,fun i q j hi hj=>?_⟩,rfl,?_,rfl,rfl⟩
 ·rw [← Array.length_toList]
  refine Eq.trans (congrArg List.length hes) ?_
  rw [List.length_map,List.length_map]
  exact hll
 ·refine (List.Perm.of_eq hes).trans ?_
  have h2:es.toList=(List.range es.size).map fun k=>es.toList.getD k (0,.none):=by
   refine List.ext_getElem? fun k=>?_
   rw [List.getElem?_map]
   by_cases hk:k < es.size
   ·rw [List.getElem?_range hk,List.getElem?_eq_getElem (by rw [Array.length_toList];exact hk),Option.map_some,List.getD_eq_getElem?_getD,List.getElem?_eq_getElem (by rw [Array.length_toList];exact hk)]
    rfl
   ·rw [List.getElem?_eq_none (by rw [Array.length_toList];row_cond lo),List.getElem?_eq_none (by rw [List.length_range];row_cond lo)]
    rfl
  refine (hp.map _).trans ?_
  rw [← h2]
 ·refine Eq.trans (congrArg List.length hes) ?_
  rw [List.length_map,List.length_map]
  simp
 ·have hi:=(congrArg (·[i]?) hes).symm.trans hi
  have hj:((live owner mask).map (·.1))[i]?=some j:=by simpa using hj
  rw [List.map_map,List.getElem?_map] at hi
  rw [List.getElem?_map] at hj
  cases hli:(live owner mask)[i]? with
  | none=>rw [hli] at hj;cases hj
  | some p =>
   obtain ⟨j',k⟩:=p
   rw [hli] at hi hj
   cases hj
   have hjk:=live_mem.mp (List.mem_of_getElem? hli)
   have hkl:k < es.size:=by have:=x.un _ _ hjk.2;rwa [hlen] at this
   have hq:q=es.toList.getD k (0,.none):=by simpa using hi.symm
   have hh:(es.map (·.1)).toList[k]?=some q.1:=by
    rw [hq,Array.toList_map,List.getElem?_map,List.getElem?_eq_getElem (by rw [Array.length_toList];exact hkl),List.getD_eq_getElem?_getD,List.getElem?_eq_getElem (by rw [Array.length_toList];exact hkl)]
    rfl
   obtain ⟨s,a1,a2,a3⟩:=x.at' k _ hh
   refine ⟨s,x.inj _ _ k a2 hjk.2,fun s' hs' z=>?_⟩
   have hn:=a3 s' hs'
   cases ho:ow owner (pr mask q.1 s').j with
   | none=>exact hn ho
   | some k' =>
    have hjm:(pr mask q.1 s').j<=mask:=by
     apply Classical.byContradiction
     intro hgt
     rw [ayw (by rw [x.sz];row_cond lo)] at ho
     cases ho
    refine (acq x').mp z ?_
    show _∈(((live owner mask).map (·.1)).toArray).toList
    rw [hpl]
    exact List.mem_map.mpr ⟨_,live_mem.mpr ⟨hjm,ho⟩,rfl⟩
 ·simp only [List.size_toArray,List.length_map]
  exact hll
theorem alk (n:Nat):∀ (fuel a:Nat),n < 2 ^ (a+fuel)->∃ b,sizeAbove.go n fuel (2 ^ a)=2 ^ b/\n < 2 ^ b/\a<=b/\(2 ^ b=2 ^ a\/2 ^ b<=2 * n)
 | 0,a,h=>⟨a,rfl,by simpa using h,Nat.le_refl _,.inl rfl⟩
 | fuel+1,a,h=>by
  unfold sizeAbove.go
  by_cases hs:2 ^ a<=n
  ·rw [if_pos hs,← Nat.pow_succ]
   obtain ⟨b,h1,h2,h3,h4⟩:=alk n fuel (a+1) (by rw [show a+1+fuel=a+(fuel+1) by row_cond lo];exact h)
   refine ⟨b,h1,h2,by row_cond lo,.inr ?_⟩
   rcases h4 with h4 | h4
   ·rw [h4,Nat.pow_succ];row_cond lo
   ·exact h4
  ·rw [if_neg hs]
   exact ⟨a,rfl,by row_cond lo,Nat.le_refl _,.inl rfl⟩
theorem asr {n:Nat} (h:n<=100000):∃ m,sizeAbove n=2 ^ m/\n < 2 ^ m/\3<=m/\(2 ^ m=8\/2 ^ m<=2 * n):=by
 obtain ⟨b,h1,h2,h3,h4⟩:=alk n 64 3 (Nat.lt_of_le_of_lt h (by decide))
 exact ⟨b,h1,h2,h3,h4⟩
theorem aqn {m n:Nat} (h:2 ^ m<=2 * n) (hn:n < 8192):2 ^ m<=8192:=by
 apply Classical.byContradiction
 intro hc
 have:13 < m:=(Nat.pow_lt_pow_iff_right (a:=2) (by decide)).mp (by show 2 ^ 13 < 2 ^ m;row_cond lo)
 have:=Nat.pow_le_pow_right (n:=2) (by decide) (show 14<=m by row_cond lo)
 row_cond lo
end SH
namespace SH
open PySem PySem.W PyProof.Rows
section
variable {prog:Program} {w:World} {A:Around} {E:Value->Shared->Prop} {s:Shared} {U:Addr->Prop}
noncomputable abbrev TK (prog:Program) (w:World):=tupleKind (intKind prog w)
theorem afz {ks:List Int} {a:Addr} {Q:Bool->Shared->Prop} (hk:(TK prog w).is s.heap ks a) (h:Q false s):wpAny (model prog w) A (ofAClassStatement 8 (.ref a)) Q E s:=by
 have hT:=IsTupleKey.typeIs hk
 obtain ⟨o,items,n,ho,_,hd,hi⟩:=hk
 unfold ofAClassStatement
 refine wpAny_bind (wpAny_typeOf hT ?_)
 show wpAny _ _ (pure true >>= _) _ _ s
 refine wpAny_bind (wpAny_pure ?_)
 simp only [Bool.not_true,Bool.false_eq_true,if_false]
 refine wpAny_bind (wpAny_seqItems ho hd ?_)
 refine wpAny_bind ?_
 show wpAny _ _ (forIn items _ _) _ _ s
 rw [← Array.forIn_toList]
 refine wpAny_forIn_list _ (fun rest r s'=>r.1=none/\s'=s/\∀ v∈rest,carriedByValue v=true) _ ?_ ?_ _ _ ⟨rfl,rfl,hi.byValue⟩
 ·rintro v rest r s' ⟨hr,rfl,hall⟩
  have hv:=hall v List.mem_cons_self
  have e:ofAClassStatement 7 v=pure false:=by
   cases v <;> first | (simp [carriedByValue] at hv;done) | (unfold ofAClassStatement;rfl)
  rw [e]
  refine wpAny_bind (wpAny_pure ?_)
  simp only [Bool.false_eq_true,if_false]
  exact wpAny_pure ⟨rfl,rfl,fun u hu'=>hall u (List.mem_cons_of_mem _ hu')⟩
 ·rintro ⟨r1,r2⟩ s' ⟨hr,rfl,_⟩
  simp only at hr
  subst hr
  exact wpAny_pure h
theorem ao3 {ks:List Int} {vs:List Value} (h:ItemsAre (intKind prog w) ks vs):∀ v∈vs,∃ i t,v=.int i t:=by
 induction h with
 | nil=>intro v hv;cases hv
 | cons h1 _ ih =>
  intro v hv
  rcases List.mem_cons.mp hv with rfl | hv
  ·obtain ⟨t,rfl⟩:=Value.isInt_shape h1
   exact ⟨_,t,rfl⟩
  ·exact ih v hv
theorem amc {ks:List Int} {a:Addr} {Q:Bool->Shared->Prop} (hk:(TK prog w).is s.heap ks a) (h:Q true s):wpAny (model prog w) A (hashByValue 8 (.ref a)) Q E s:=by
 have hT:=IsTupleKey.typeIs hk
 obtain ⟨o,items,n,ho,_,hd,hi⟩:=hk
 unfold hashByValue
 refine wpAny_bind (wpAny_specialOf hT F.slot_tuple_hash.lookup ?_)
 show wpAny _ _ (seqItems? (.ref a) >>= _) _ _ s
 refine wpAny_bind (wpAny_seqItems ho hd ?_)
 refine wpAny_bind ?_
 show wpAny _ _ (forIn items _ _) _ _ s
 rw [← Array.forIn_toList]
 refine wpAny_forIn_list _ (fun rest r s'=>r.1=none/\s'=s/\∀ v∈rest,∃ i t,v=Value.int i t) _ ?_ ?_ _ _ ⟨rfl,rfl,ao3 hi⟩
 ·rintro v rest r s' ⟨hr,rfl,hall⟩
  obtain ⟨i,t,rfl⟩:=hall v List.mem_cons_self
  have e:hashByValue 7 (.int i t)=pure true:=by unfold hashByValue;rfl
  rw [e]
  refine wpAny_bind (wpAny_pure ?_)
  simp only [Bool.not_true,Bool.false_eq_true,if_false]
  exact wpAny_pure ⟨rfl,rfl,fun u hu'=>hall u (List.mem_cons_of_mem _ hu')⟩
 ·rintro ⟨r1,r2⟩ s' ⟨hr,rfl,_⟩
  simp only at hr
  subst hr
  exact wpAny_pure h
theorem ayy {k0:List Int} {b0:Addr} {stored:List Value} {Q:Bool->Shared->Prop} (hk:(TK prog w).is s.heap k0 b0) (hst:∀ v∈stored,∃ k b,v=.ref b/\(TK prog w).is s.heap k b) (h:Q false s):wpAny (model prog w) A (searchCouldBeSeen (.ref b0) stored) Q E s:=by
 unfold searchCouldBeSeen
 refine wpAny_bind ?_
 refine wpAny_forIn_list _ (fun rest r s'=>r.1=none/\s'=s/\∀ v∈rest,∃ k b,v=.ref b/\(TK prog w).is s.heap k b) _ ?_ ?_ _ _ ⟨rfl,rfl,hst⟩
 ·rintro v rest r s' ⟨hr,rfl,hall⟩
  obtain ⟨k,b,rfl,hb⟩:=hall v List.mem_cons_self
  have hrest:∀ u∈rest,∃ k b,u=Value.ref b/\(TK prog w).is s'.heap k b:=fun u hu'=>hall u (List.mem_cons_of_mem _ hu')
  dsimp only
  split
  ·exact wpAny_pure ⟨rfl,rfl,hrest⟩
  ·refine wpAny_bind ((TK prog w).quiet hk ?_)
   simp only [Bool.not_true,Bool.false_eq_true,if_false]
   refine wpAny_bind ((TK prog w).quiet hb ?_)
   simp only [Bool.not_true,Bool.false_eq_true,if_false]
   refine wpAny_bind (afz hk ?_)
   simp only [Bool.false_eq_true,if_false]
   refine wpAny_bind (afz hb ?_)
   simp only [Bool.false_eq_true,if_false]
   exact wpAny_pure ⟨rfl,rfl,hrest⟩
 ·rintro ⟨r1,r2⟩ s' ⟨hr,rfl,_⟩
  simp only at hr
  subst hr
  exact wpAny_pure h
theorem az8 (mask:Nat) (h:Int):∀ k,(pr mask h k).j+(pr mask h k).more<=mask:=fun k=>by
 have run:∀ i,i < mask+1->i+(SetTable.runEnd mask i - i)<=mask:=fun i hi=>by unfold SetTable.runEnd;split <;> row_cond lo
 induction k with
 | zero=>exact run _ (Nat.mod_lt _ (Nat.succ_pos _))
 | succ k ih =>
  show (adv mask (pr mask h k)).j+(adv mask (pr mask h k)).more<=mask
  unfold adv
  split
  ·dsimp only;row_cond lo
  ·exact run _ (Nat.mod_lt _ (Nat.succ_pos _))
structure ST (prog:Program) (w:World) (U:Addr->Prop) (a:Addr) (es:Array (Int × Value)) (ep:Nat) (t:SetTable) (ks:List (List Int)) (h:Heap):Prop where
 r:SS.SetR prog w a es ep t h
 ok:TOk t
 hi:HI t es.toList
 pl:t.plain=true
 msk:7<=t.mask/\t.mask<=8191
 len:ks.length=es.size
 gd:∀ (i:Nat) e k,es.toList[i]?=some e->ks[i]?=some k->∃ b,e=((TK prog w).hash k,.ref b)/\(TK prog w).is h k b/\U b
 nd:ks.Nodup
theorem ST.stored {a:Addr} {es:Array (Int × Value)} {ep:Nat} {t:SetTable} {ks:List (List Int)} {h:Heap} (x:ST prog w U a es ep t ks h) {e:Int × Value} (he:e∈es.toList):∃ k b,e=((TK prog w).hash k,.ref b)/\(TK prog w).is h k b/\U b:=by
 obtain ⟨i,hi⟩:=List.getElem?_of_mem he
 have hl:i < ks.length:=by rw [x.len,← Array.length_toList];exact (List.getElem?_eq_some_iff.mp hi).1
 obtain ⟨b,h1,h2⟩:=x.gd i e _ hi (List.getElem?_eq_getElem hl)
 exact ⟨_,b,h1,h2⟩
theorem amd {a b0:Addr} {es:Array (Int × Value)} {ep:Nat} {t:SetTable} {ks:List (List Int)} {kx:List Int} {Q:SetFound->Shared->Prop} (hu:(TK prog w).room A) (x:ST prog w U a es ep t ks s.heap) (hk:(TK prog w).is s.heap kx b0)
  (h1:kx∈ks->Q (.there none) s) (h2:kx ∉ ks->∀ k1,(pr t.mask ((TK prog w).hash kx) k1).j<=t.mask->t.slot (pr t.mask ((TK prog w).hash kx) k1).j=.empty->(∀ k',k' < k1->t.slot (pr t.mask ((TK prog w).hash kx) k').j ≠ .empty)->Q (.free (pr t.mask ((TK prog w).hash kx) k1).j false) s) :
  ∀ (fuel k0:Nat) (stand:Option SetTable.Probe),fuel+k0 > 10 * SetTable.turns t.mask->stand.getD (t.probeStart ((TK prog w).hash kx))=pr t.mask ((TK prog w).hash kx) k0->(∀ k',k' < k0->∃ i,t.slot (pr t.mask ((TK prog w).hash kx) k').j=.live i/\ks[i]? ≠ some kx) ->
   wpAny (model prog w) A (setSearchFrom a (.ref b0) ((TK prog w).hash kx) true fuel stand) Q E s:=by
 obtain ⟨o,ho,hx,hd,hf,hT⟩:=id x.r
 generalize hhx:(TK prog w).hash kx=hx0 at *
 obtain ⟨je,hje,hjee⟩:=aql x.ok
 obtain ⟨m,hm⟩:=x.ok.two
 obtain ⟨ke,hke,ekj⟩:=ayv hm hx0 je hje
 have hgw:t.gaveWay=false:=by
  unfold SetTable.gaveWay
  have:m ≠ 0:=fun z=>by rw [z] at hm;have:=x.msk.1;simp at hm;row_cond lo
  obtain ⟨m',rfl⟩:=Nat.exists_eq_succ_of_ne_zero this
  rw [Nat.pow_succ] at hm
  have:t.mask % 2=1:=by row_cond lo
  rw [this];rfl
 intro fuel
 induction fuel with
 | zero =>
  intro k0 stand hfu _ hinv
  exfalso
  obtain ⟨i,hi,_⟩:=hinv ke (by row_cond lo)
  rw [ekj,hjee] at hi
  cases hi
 | succ fuel ih =>
  intro k0 stand hfu hst hinv
  have hk0:k0<=ke:=by
   apply Classical.byContradiction
   intro hc
   obtain ⟨i,hi,_⟩:=hinv ke (by row_cond lo)
   rw [ekj,hjee] at hi
   cases hi
  unfold setSearchFrom
  refine wpAny_bind (wpAny_setState_of ho hd hf ?_)
  dsimp only
  rw [hgw]
  simp only [Bool.false_eq_true,if_false]
  rw [hst]
  obtain ⟨k1,a1,a2,a3,a4⟩:=ali x.ok (ha:=fun i=>(es[i]?.map (·.1)).getD 0) (h:=hx0) (10 * SetTable.turns t.mask) k0 ⟨ke,hk0,by row_cond lo,by rw [ekj];exact hjee⟩
  have hbefore:∀ k',k' < k1->∃ i,t.slot (pr t.mask hx0 k').j=.live i/\ks[i]? ≠ some kx:=fun k' hk'=>by
   by_cases hkk:k' < k0
   ·exact hinv k' hkk
   ·obtain ⟨i,hi,hne⟩:=a3 k' (by row_cond lo) hk'
    refine ⟨i,hi,fun hks=>?_⟩
    have hpl:=(adb x.ok).mp hi
    have hil:i < es.toList.length:=by rw [x.hi.1,← Array.length_toList];exact (List.getElem?_eq_some_iff.mp hpl).1
    obtain ⟨b,e1,_⟩:=x.gd i _ _ (List.getElem?_eq_getElem hil) hks
    apply hne
    rw [← Array.getElem?_toList,List.getElem?_eq_getElem hil,e1]
    exact hhx
  generalize hp:t.probe _ hx0 (pr t.mask hx0 k0)=pp
  rcases a4 with ⟨e,ep'⟩ | ⟨i,e,hei,ep'⟩
  ·have hpp:pp=some (.empty (pr t.mask hx0 k1).j none):=hp.symm.trans ep'
   subst hpp
   dsimp only
   refine wpAny_pure (h2 (fun hm=>?_) k1 ?_ e fun k' hk' z=>?_)
   ·obtain ⟨i,hi⟩:=List.getElem?_of_mem hm
    have hil:i < es.toList.length:=by rw [Array.length_toList,← x.len];exact (List.getElem?_eq_some_iff.mp hi).1
    obtain ⟨b,e1,_⟩:=x.gd i _ _ (List.getElem?_eq_getElem hil) hi
    obtain ⟨k,hk,hs⟩:=x.hi.found x.ok e (List.getElem?_eq_getElem hil) (by rw [e1];exact hhx)
    obtain ⟨i',hs',hne⟩:=hbefore k hk
    rw [hs] at hs'
    cases hs'
    exact hne hi
   ·exact Nat.le_trans (Nat.le_add_right _ _) (az8 t.mask hx0 k1)
   ·obtain ⟨i,hi,_⟩:=hbefore k' hk'
    rw [z] at hi
    cases hi
  ·have hpp:pp=some (.candidate (pr t.mask hx0 k1).j i (pr t.mask hx0 (k1+1))):=hp.symm.trans ep'
   subst hpp
   have hpl:=(adb x.ok).mp e
   have hil:i < es.toList.length:=by rw [x.hi.1,← Array.length_toList];exact (List.getElem?_eq_some_iff.mp hpl).1
   have hikl:i < ks.length:=by rw [x.len,← Array.length_toList];exact hil
   obtain ⟨b,e1,e2⟩:=x.gd i _ _ (List.getElem?_eq_getElem hil) (List.getElem?_eq_getElem hikl)
   have hes:es[i]?=some ((TK prog w).hash ks[i],.ref b):=by rw [← Array.getElem?_toList,List.getElem?_eq_getElem hil,e1]
   have rest:wpAny (model prog w) A (do
     let some (_,y):=es[i]? | unsupported "internal:set-entry"
     let equal ← holding [y] (eqBool y (.ref b0))
     let (es',_,t') ← setState a
     if true && equal then return .there none
     let some same:=t'.sameMemory t.moves t.mask | unsupported "set.changed-during-lookup:is-the-new-block-at-the-old-address"
     let still ← match (if same then t'.slot (pr t.mask hx0 k1).j else .empty) with
      | .live i'=>match es'[i']? with
       | some (_,y')=>do pure (if ← isSame y' y then some i' else none)
       | none=>pure none
      | _=>pure none
     match still with
     | none=>rule "set.search.anew";setSearchFrom a (.ref b0) hx0 true fuel none
     | some i'=>if equal then return .there (some i') else setSearchFrom a (.ref b0) hx0 true fuel (some (pr t.mask hx0 (k1+1)))) Q E s:=by
    rw [hes]
    dsimp only
    refine wpAny_bind (wpAny_holding ((TK prog w).eqBool hu e2.1 hk ?_))
    refine wpAny_bind (wpAny_setState_of ho hd hf ?_)
    dsimp only
    by_cases heq:ks[i]=kx
    ·rw [decide_eq_true heq]
     simp only [Bool.and_self,if_true]
     exact wpAny_pure (h1 (by rw [← heq];exact List.getElem_mem hikl))
    ·rw [decide_eq_false heq]
     simp only [Bool.and_false,Bool.false_eq_true,if_false]
     have hsm:t.sameMemory t.moves t.mask=some true:=by
      unfold SetTable.sameMemory
      rw [if_pos (beq_self_eq_true _)]
     rw [hsm]
     dsimp only
     rw [if_pos rfl,e]
     dsimp only
     rw [hes]
     dsimp only
     refine wpAny_bind (wpAny_isSame_ref_self ?_)
     refine wpAny_bind (wpAny_pure ?_)
     rw [if_pos rfl]
     dsimp only
     refine ih (k1+1) (some _) (by row_cond lo) rfl fun k' hk'=>?_
     rcases Nat.lt_or_eq_of_le (Nat.le_of_lt_succ hk') with hlt | heq'
     ·exact hbefore k' hlt
     ·refine ⟨i,by rw [heq'];exact e,fun z=>heq ?_⟩
      rw [List.getElem?_eq_getElem hikl] at z
      exact Option.some.inj z
   dsimp only
   cases hled:t.led with
   | true =>
    simp only [Bool.not_true,Bool.false_eq_true,if_false]
    exact rest
   | false =>
    simp only [Bool.not_false,if_true]
    refine wpAny_bind (ayy hk (fun v hv=>?_) ?_)
    ·obtain ⟨q,hq,rfl⟩:=List.mem_map.mp hv
     have hq:q∈es.toList:=by
      have:=Array.mem_toList_iff.mp hq
      exact Array.mem_toList_iff.mpr (Array.mem_filter.mp this).1
     obtain ⟨k,b,rfl,hb⟩:=x.stored hq
     exact ⟨k,b,rfl,hb.1⟩
    ·simp only [Bool.false_eq_true,if_false]
     exact rest
theorem ST.at {a:Addr} {es:Array (Int × Value)} {ep:Nat} {t:SetTable} {ks:List (List Int)} {h h':Heap} (x:ST prog w U a es ep t ks h) (k:∀ o,h.get? a=some o->h'.get? a=some o) (kt:∀ b ks,U b->(TK prog w).is h ks b->(TK prog w).is h' ks b):ST prog w U a es ep t ks h' :=
 ⟨x.r.at k,x.ok,x.hi,x.pl,x.msk,x.len,fun i e q h1 h2=>let ⟨b,e1,e2⟩:=x.gd i e q h1 h2;⟨b,e1,kt b q e2.2 e2.1,e2.2⟩,x.nd⟩
def SetT (prog:Program) (w:World) (U:Addr->Prop) (a:Addr) (L:List (List Int)) (h:Heap):Prop:=∃ es ep t ks,ST prog w U a es ep t ks h/\t.place.size * 5 < t.mask * 3/\ks.Perm L
theorem alm {a b:Addr} {ks:List Int} {h h':Heap} (hs:Heap.SameBut a h h') (hk:(TK prog w).is h ks b) {o:Obj} (ho:h.get? a=some o) (hx:o.ExactSet):(TK prog w).is h' ks b:=by
 obtain ⟨ob,items,n,e1,e2,r⟩:=hk
 refine ⟨ob,items,n,?_,e2,r⟩
 rw [hs.2 b fun z=>?_]
 ·exact e1
 ·subst z
  rw [ho] at e1
  cases e1
  rw [hx.1] at e2
  exact absurd e2 (by decide)
theorem anp {t:SetTable} {n:Nat} (x:TOk t) (h:t.place.size=n):t.fits n=true:=by
 unfold SetTable.fits SetTable.fill
 rw [x.dum,h,beq_self_eq_true,Bool.true_and,decide_eq_true_eq]
 have:=x.room
 show n+0<=t.mask
 row_cond lo
theorem aln {α:Type} (l:List α) (x : α) (p:Nat):(l.take p ++ x :: l.drop p).Perm (x :: l):=by
 have h:=List.perm_middle (a:=x) (l₁:=l.take p) (l₂:=l.drop p)
 rw [List.take_append_drop] at h
 exact h
theorem ass {a:Addr} {es:Array (Int × Value)} {ep:Nat} {t:SetTable} {ks:List (List Int)} {Q:Unit->Shared->Prop} (x:ST prog w U a es ep t ks s.heap) (hz:es.size<=2040) (h1:1<=es.size)
  (h:∀ h',Heap.SameBut a s.heap h'->∀ es' ep' t' ks',ST prog w U a es' ep' t' ks' h'->t'.place.size * 5 < t'.mask * 3->ks'.Perm ks->Q () { s with heap:=h' }):wpAny (model prog w) A (setRelay a (SetTable.grown es.size)) Q E s:=by
 obtain ⟨o,ho,hx,hd,hf,hT⟩:=id x.r
 have hgr:SetTable.grown es.size=es.size * 4:=by unfold SetTable.grown;rw [if_neg (by row_cond lo)]
 rw [hgr]
 obtain ⟨m,em,hm1,hm2,hm3⟩:=asr (n:=es.size * 4) (by row_cond lo)
 have h8:8<=2 ^ m:=Nat.pow_le_pow_right (n:=2) (by decide) hm2
 have hle:2 ^ m<=8192:=by
  rcases hm3 with h | h
  ·row_cond lo
  ·exact aqn h (by row_cond lo)
 unfold setRelay
 refine wpAny_bind (wpAny_setState_of ho hd hf ?_)
 dsimp only
 rw [em,if_neg (by rw [sizeLine_eq];row_cond lo)]
 obtain ⟨t2,order,es2,e1,e2,e3,e4,ok2,hi2,em2,eps,el,epl⟩:=av4 (mask:=2 ^ m - 1) (m:=m) (finger:=t.finger) (moves:=t.movedTo (2 ^ m - 1)) (led:=t.led) (plain:=t.plain) (by row_cond lo) es (by row_cond lo)
 have er:t.relaid (es.map (·.1)) (es.size * 4)=some (t2,order):=by
  unfold SetTable.relaid
  rw [em]
  exact e1
 rw [er]
 refine wpAny_bind ?_
 show wpAny _ _ (do
  let es':=order.filterMap (es[·]?)
  if es'.size != es.size then unsupported "internal:set-table-lost-an-element"
  pure (es',t2)) _ _ _
 rw [e2]
 dsimp only
 rw [if_neg (by rw [e3];simp)]
 refine wpAny_pure ?_
 dsimp only
 refine wpAny_storeSet_of ho hd ?_ (by rw [e3,sizeLine_eq];row_cond lo)
 have sb:=Heap.SameBut.update s.heap a (Obj.putSet es2 t2)
 have r2:=x.r.put (es':=es2) (t':=t2) (anp ok2 (by rw [e3];exact eps)) ⟨fun hb=>by rw [el];exact hT.led hb,ok2.dum,fun _=>ok2.ris⟩
 have kk:∀ q b,(TK prog w).is s.heap q b->(TK prog w).is (s.heap.update a (Obj.putSet es2 t2)) q b:=fun q b hq=>alm sb hq ho hx
 have hkey:∃ f:Int × Value->List Int,∀ e∈es.toList,∃ b,e=((TK prog w).hash (f e),.ref b)/\(TK prog w).is s.heap (f e) b/\U b:=by
  have:=Classical.skolem (p:=fun (e:Int × Value) (k:List Int)=>e∈es.toList->∃ b,e=((TK prog w).hash k,Value.ref b)/\(TK prog w).is s.heap k b/\U b)
  exact this.mp fun e=>by
   by_cases he:e∈es.toList
   ·obtain ⟨k,b,h1,h2⟩:=x.stored he
    exact ⟨k,fun _=>⟨b,h1,h2⟩⟩
   ·exact ⟨[],fun z=>absurd z he⟩
 obtain ⟨f,hff⟩:=hkey
 have hks:ks=es.toList.map f:=by
  refine List.ext_getElem? fun i=>?_
  rw [List.getElem?_map]
  by_cases hi:i < ks.length
  ·have hil:i < es.toList.length:=by rw [Array.length_toList,← x.len];exact hi
   rw [List.getElem?_eq_getElem hi,List.getElem?_eq_getElem hil,Option.map_some]
   obtain ⟨b,g1,g2⟩:=x.gd i _ _ (List.getElem?_eq_getElem hil) (List.getElem?_eq_getElem hi)
   obtain ⟨b',g3,g4⟩:=hff _ (List.getElem_mem hil)
   have hbb:Value.ref b=.ref b':=(Prod.ext_iff.mp (g1.symm.trans g3)).2
   cases hbb
   rw [(TK prog w).inj g2.1 g4.1]
  ·rw [List.getElem?_eq_none (by row_cond lo),List.getElem?_eq_none (by rw [Array.length_toList,← x.len];row_cond lo)]
   rfl
 have hpk:(es2.toList.map f).Perm ks:=by rw [hks];exact e4.map f
 refine h _ sb es2 _ t2 (es2.toList.map f) ⟨r2,ok2,hi2,by rw [epl];exact x.pl,by row_cond lo,by rw [List.length_map,Array.length_toList],fun i e k g1 g2=>?_,hpk.nodup_iff.mpr x.nd⟩ (by row_cond lo) hpk
 rw [List.getElem?_map,g1] at g2
 cases g2
 obtain ⟨b,q1,q2⟩:=hff e (e4.mem_iff.mp (List.mem_of_getElem? g1))
 exact ⟨b,q1,kk _ b q2.1,q2.2⟩
theorem aqo {a b0:Addr} {L:List (List Int)} {kx:List Int} {Q:Bool->Shared->Prop} (hu:(TK prog w).room A) (x:SetT prog w U a L s.heap) (hk:(TK prog w).is s.heap kx b0) (hU:U b0) (hb:L.length+1<=2040)
  (h:∀ b h',Heap.SameBut a s.heap h'->SetT prog w U a (if kx∈L then L else L ++ [kx]) h'->Q b { s with heap:=h' }):wpAny (model prog w) A (setAddHashed a (.ref b0) ((TK prog w).hash kx)) Q E s:=by
 obtain ⟨es,ep,t,ks,x,hnf,hp⟩:=x
 obtain ⟨o,ho,hx,hd,hf,hT⟩:=id x.r
 have hsz:es.size=L.length:=by rw [← hp.length_eq,x.len]
 have hps:t.place.size=es.size:=by have:=x.hi.1;rw [Array.length_toList] at this;row_cond lo
 unfold setAddHashed setAddHashedIn
 refine wpAny_holding (wpAny_bind (wpAny_setState_of ho hd hf ?_))
 dsimp only
 have hns:byScan (.ref b0) es=false:=rfl
 rw [hns]
 simp only [Bool.false_eq_true,if_false]
 unfold setSearch
 refine wpAny_bind (amd hu x hk (fun hm=>?_) (fun hm k1 hj he hbf=>?_) 100000 0 none ?_ rfl fun k' hk'=>absurd hk' (Nat.not_lt_zero _))
 ·refine wpAny_pure ?_
  have e:s={ s with heap:=s.heap }:=by cases s;rfl
  have:=h false s.heap (Heap.SameBut.refl a s.heap) (by rw [if_pos (hp.mem_iff.mp hm)];exact ⟨es,ep,t,ks,x,hnf,hp⟩)
  rw [e];exact this
 ·have hmL:kx ∉ L:=fun z=>hm (hp.mem_iff.mpr z)
  have hroom:t.place.size+1<=t.mask:=by have:=x.msk.1;row_cond lo
  obtain ⟨j,hjd⟩:∃ j,j=(pr t.mask ((TK prog w).hash kx) k1).j:=⟨_,rfl⟩
  rw [← hjd] at hj he ⊢
  dsimp only
  refine wpAny_bind (wpAny_setState_of ho hd hf ?_)
  dsimp only
  have hpl1:(t.put j).1.plain=true:=x.pl
  rw [if_pos hpl1]
  refine wpAny_bind (amc hk ?_)
  rw [if_pos rfl]
  have hbl:=(SS.below_ok t.place j x.ok.ris).1
  obtain ⟨es1,hes1⟩:∃ es1,es1=SetTable.insertAt es (t.put j).2 ((TK prog w).hash kx,Value.ref b0):=⟨_,rfl⟩
  have hes1l:es1.toList=es.toList.take (SetTable.below t.place j) ++ ((TK prog w).hash kx,Value.ref b0) :: es.toList.drop (SetTable.below t.place j):=by rw [hes1];exact SetTable.toList_insertAt ..
  have hsz1:es1.size=es.size+1:=by
   rw [← Array.length_toList,hes1l,List.length_append,List.length_cons,List.length_take,List.length_drop,Array.length_toList]
   row_cond lo
  have ok1:=x.ok.put hj he hroom
  have hi1:HI (t.put j).1 es1.toList:=by
   rw [hes1l]
   exact x.hi.put x.ok hj hroom (e:=((TK prog w).hash kx,Value.ref b0)) (k1:=k1) hjd.symm he hbf
  have hps1:(t.put j).1.place.size=es1.size:=by have:=hi1.1;rw [Array.length_toList] at this;exact this.symm
  have hfits:(t.put j).1.fits es1.size=true:=anp ok1 hps1
  rw [← hes1]
  refine wpAny_bind (wpAny_storeSet_of ho hd ?_ (by rw [hsz1];rw [sizeLine_eq];row_cond lo))
  have r1:=x.r.put (es':=es1) (t':=(t.put j).1) hfits (hT.put he)
  have sb1:=Heap.SameBut.update s.heap a (Obj.putSet es1 (t.put j).1)
  have kk:∀ q b,(TK prog w).is s.heap q b->(TK prog w).is (s.heap.update a (Obj.putSet es1 (t.put j).1)) q b:=fun q b hq=>alm sb1 hq ho hx
  have x1:ST prog w U a es1 (ep+1) (t.put j).1 (ks.take (SetTable.below t.place j) ++ kx :: ks.drop (SetTable.below t.place j)) (s.heap.update a (Obj.putSet es1 (t.put j).1)):=by
   have hkb:SetTable.below t.place j<=ks.length:=by rw [x.len];row_cond lo
   have heb:SetTable.below t.place j<=es.toList.length:=by rw [Array.length_toList];row_cond lo
   refine ⟨r1,ok1,hi1,hpl1,x.msk,?_,fun i e k h1 h2=>?_,?_⟩
   ·rw [List.length_append,List.length_cons,List.length_take,List.length_drop,hsz1,← x.len]
    row_cond lo
   ·rw [hes1l,ins_get _ _ _ heb] at h1
    rw [ins_get _ _ _ hkb] at h2
    by_cases c1:i < SetTable.below t.place j
    ·rw [if_pos c1] at h1 h2
     obtain ⟨b,g1,g2⟩:=x.gd i e k h1 h2
     exact ⟨b,g1,kk k b g2.1,g2.2⟩
    ·rw [if_neg c1] at h1 h2
     by_cases c2:i=SetTable.below t.place j
     ·rw [if_pos c2] at h1 h2
      cases h1
      cases h2
      exact ⟨b0,rfl,kk kx b0 hk,hU⟩
     ·rw [if_neg c2] at h1 h2
      obtain ⟨b,g1,g2⟩:=x.gd (i - 1) e k h1 h2
      exact ⟨b,g1,kk k b g2.1,g2.2⟩
   ·refine (aln ks kx _).nodup_iff.mpr (List.nodup_cons.mpr ⟨hm,x.nd⟩)
  have hp1:(ks.take (SetTable.below t.place j) ++ kx :: ks.drop (SetTable.below t.place j)).Perm (L ++ [kx]):=(aln ks kx _).trans ((hp.cons kx).trans (List.perm_append_singleton kx L).symm)
  by_cases hfull:(t.put j).1.tooFull=true
  ·rw [if_pos (by rw [hfull];rfl)]
   rw [← hsz1]
   refine wpAny_bind (ass (s:={ s with heap:=s.heap.update a (Obj.putSet es1 (t.put j).1) }) x1 (by row_cond lo) (by row_cond lo) fun h' sb2 es2 ep2 t2 ks2 x2 hnf2 hp2=>?_)
   refine wpAny_pure (h true h' (sb1.trans sb2) ?_)
   rw [if_neg hmL]
   exact ⟨es2,ep2,t2,ks2,x2,hnf2,hp2.trans hp1⟩
  ·rw [if_neg (by intro z;exact hfull (by simpa using z))]
   refine wpAny_pure ?_
   refine h true _ sb1 ?_
   rw [if_neg hmL]
   refine ⟨es1,ep+1,_,_,x1,?_,hp1⟩
   unfold SetTable.tooFull SetTable.fill at hfull
   rw [ok1.dum] at hfull
   simp at hfull
   row_cond lo
 ·have:=x.msk.2
  unfold SetTable.turns
  row_cond lo
end
end SH
namespace SH
open PySem PySem.W PyProof.Rows SS
section
variable {prog:Program} {w:World} {A:Around} {E:Value->Shared->Prop} {s:Shared} {U:Addr->Prop}
theorem av5 (h:Heap):SetT prog w U h.objs.size [] (h.push (abg w)):=by
 have tok:TOk (SetTable.fresh 0 0 (!bt w)):=⟨List.Pairwise.nil,rfl,fun j hj=>(nomatch hj),⟨3,rfl⟩,Nat.zero_le _⟩
 have hi:HI (SetTable.fresh 0 0 (!bt w)) ([]:List (Int × Value)):=⟨rfl,fun i e j hi=>(nomatch hi)⟩
 exact ⟨#[],0,_,[],⟨⟨_,Heap.get?_push_size _ rfl,⟨rfl,rfl,rfl⟩,rfl,rfl,TbI.fresh _ _ _⟩,tok,hi,rfl,⟨Nat.le_refl 7,show (7:Nat)<=8191 by decide⟩,rfl,fun i e k hi=>(nomatch hi),List.nodup_nil⟩,show (0:Nat) * 5 < 7 * 3 by decide,.refl _⟩
section
variable {R:Result->Shared->Prop} {I:Addr} {fp wr:List Addr} {n:Nat} {P:Nat->Value->Prop} {St:Nat->Heap->Prop}
theorem az9 (W:Walks prog w A.in1 I fp wr n P St) (S:Addr) (hSf:S ∉ fp) (hu:(TK prog w).room A.in1) (h0:Heap) (val:Nat->List Int) (tup:Nat->Addr) (hval:∀ i v,P i v->v=.ref (tup i)) (hU:∀ i,i < n->U (tup i)) (hUw:∀ b,U b->b ≠ S/\b ∉ wr) (hb:n+1<=2040)
  (hkey:∀ h',(∀ b o,b ≠ S->b ∉ wr->h0.get? b=some o->h'.get? b=some o)->∀ i,i < n->(TK prog w).is h' (val i) (tup i)) :
  ∀ (k i:Nat) (s:Shared) (L:List (List Int)),n - i=k->i<=n->St i s.heap->(∀ b o,b ≠ S->b ∉ wr->h0.get? b=some o->s.heap.get? b=some o)->SetT prog w U S L s.heap->L.Nodup->L.length<=i->(∀ x,x∈L ↔ ∃ j,j < i/\val j=x) ->
   (∀ h' tk L',(∀ b o,b ≠ S->b ∉ wr->s.heap.get? b=some o->h'.get? b=some o)->SetT prog w U S L' h'->L'.Nodup->L'.length<=n->(∀ x,x∈L' ↔ ∃ j,j < n/\val j=x)->R (.ok (.ret .none)) { s with heap:=h',toks:=tk }) ->
   codeAny (model prog w) A (.builtin "set.update.loop" ⟨[.ref S,.ref I],[]⟩) R s:=by
 have hSw:S ∉ wr:=fun h=>hSf (W.sub _ h)
 have mv:∀ {h h':Heap} {L:List (List Int)},SetT prog w U S L h->(∀ b o,b ∉ wr->h.get? b=some o->h'.get? b=some o)->SetT prog w U S L h':=fun {h h' L} x hm=>by
  obtain ⟨es,ep,t,ks,x,r⟩:=x
  exact ⟨es,ep,t,ks,x.at (fun o e=>hm S o hSw e) (fun b ks hb ⟨o,items,m,e,q⟩=>⟨o,items,m,hm b o (hUw b hb).2 e,q⟩),r⟩
 intro k
 induction k with
 | zero =>
  intro i s L hk hi hst h00 hS hnd hlen hmem hR
  have hin:i=n:=by row_cond lo
  subst hin
  refine codeAny_builtin PyProof.Rows.F.entry_set_update_loop ?_
  rw [Around.under_plainId PyProof.Rows.F.plain_set_update_loop _]
  show wpAny _ A.in1 (pyNext (.ref I) >>= _) _ _ s
  refine wpAny_bind (W.done s _ _ hst fun h' tk hk=>?_)
  show wpAny _ A.in1 (ret Value.none) _ _ _
  exact wpAny_pure (hR h' tk L (fun b o _ hb e=>hk b o hb e) (mv hS hk) hnd hlen hmem)
 | succ k ih =>
  intro i s L hk hi hst h00 hS hnd hlen hmem hR
  have hlt:i < n:=by row_cond lo
  refine codeAny_builtin PyProof.Rows.F.entry_set_update_loop ?_
  rw [Around.under_plainId PyProof.Rows.F.plain_set_update_loop _]
  show wpAny _ A.in1 (pyNext (.ref I) >>= _) _ _ s
  refine wpAny_bind (W.item i s _ _ hlt hst fun v h1 tk hP hst' hk1=>?_)
  have ev:=hval i v hP
  subst ev
  have hS':SetT prog w U S L h1:=mv hS hk1
  have h01:∀ b o,b ≠ S->b ∉ wr->h0.get? b=some o->h1.get? b=some o:=fun b o b1 b2 e=>hk1 b o b2 (h00 b o b1 b2 e)
  show wpAny _ A.in1 (holding [Value.ref (tup i)] (setAdd S (.ref (tup i))) >>= _) _ _ _
  refine wpAny_bind (wpAny_holding ?_)
  unfold setAdd
  refine wpAny_holding ?_
  refine wpAny_bind ((TK prog w).pyHash hu (hkey h1 h01 i hlt) ?_)
  refine aqo (s:={ s with heap:=h1,toks:=tk+(TK prog w).draws (val i) }) hu hS' (hkey h1 h01 i hlt) (hU i hlt) (by row_cond lo) fun b h' hsb hS2=>?_
  refine wpAny_pure ⟨plainId_quiet PyProof.Rows.F.plain_set_update_loop _,ih (i+1) _ _ (by row_cond lo) hlt (W.frame _ h1 _ hst' fun b hb o e=>?_) (fun b o b1 b2 e=>?_) hS2 ?_ ?_ ?_ fun h'' tk'' L' hk'' hS'' n1 n2 n3=>?_⟩
  ·rw [hsb.2 b (fun h:b=S=>hSf (by rw [← h];exact hb))];exact e
  ·show h'.get? b=some o
   rw [hsb.2 b b1];exact h01 b o b1 b2 e
  ·split
   ·exact hnd
   ·rename_i hm
    rw [List.nodup_append]
    refine ⟨hnd,by simp,fun a ha b hb=>?_⟩
    rw [List.mem_singleton] at hb;subst hb
    exact fun z=>hm (z ▸ ha)
  ·split
   ·row_cond lo
   ·rw [List.length_append,List.length_singleton];row_cond lo
  ·intro x
   have key:x∈(if val i∈L then L else L ++ [val i]) ↔ x∈L\/x=val i:=by
    split
    ·rename_i hm;exact ⟨.inl,fun h=>h.elim id fun e=>e ▸ hm⟩
    ·simp
   rw [key,hmem x]
   constructor
   ·rintro (⟨j,a,b⟩ | rfl)
    ·exact ⟨j,by row_cond lo,b⟩
    ·exact ⟨i,by row_cond lo,rfl⟩
   ·rintro ⟨j,a,b⟩
    by_cases e:j=i
    ·subst e;exact .inr b.symm
    ·exact .inl ⟨j,by row_cond lo,b⟩
  ·refine hR h'' tk'' L' (fun b o b1 b2 e=>hk'' b o b1 b2 ?_) hS'' n1 n2 n3
   show h'.get? b=some o
   rw [hsb.2 b b1]
   exact hk1 b o b2 e
end
theorem call_setT {U:Addr->Prop} {l:Addr} {items:Array Value} {n:Nat} {val:Nat->List Int} {tup:Nat->Addr} {Q:Value->Shared->Prop}
  (hh:A.handled=none) (hu:(TK prog w).room A.in1.in1.in1) (hl:s.heap.IsList l items) (hP:∀ (i:Nat) (v:Value),items[i]?=some v->v=Value.ref (tup i)) (hi:∀ i,i < items.size->(TK prog w).is s.heap (val i) (tup i)) (hU:∀ i,i < items.size->U (tup i)) (hUl:∀ b,U b->b < s.heap.objs.size) (hb:items.size+1<=2040)
  (h:∀ (h':Heap) (tk:Nat) (L:List (List Int)),SetT prog w U s.heap.objs.size L h'->L.Nodup->L.length<=items.size->(∀ x,x∈L ↔ ∃ j,j < items.size/\val j=x) ->
   (∀ b o,s.heap.get? b=some o->h'.get? b=some o)->Q (.ref s.heap.objs.size) { s with heap:=h',toks:=tk }) :
  wpAny (model prog w) A (call (.type "set") [.ref l]) Q E s:=by
 obtain ⟨c,tl,hmro⟩:=PySem.F.called_set.mro
 have hmade:=PySem.F.called_set.made
 have hsub:=PySem.F.called_set.sub
 refine wpAny_call (codeAny_of_tree ?_)
 show wpAny _ _ (callAny (.type "set") _) _ _ _
 refine wpAny_pure ⟨Code.quiet_builtin _ (by decide +kernel),codeAny_builtin PySem.F.entry_type_call ?_⟩
 rw [Around.under_plain (weight_type_call_type "set" [.ref l] []) rfl]
 have h1:=PySem.F.called_set.notType
 have h2:=PySem.F.called_set.canCreate
 have hct:=PySem.F.typeCall_set_1 (.ref l)
 repeat (any_goals (first | assumption | wp_step))
 refine codeAny_mono (aso (.ref l) (E:=E) (Q₁:=fun obj s₁=>obj=.ref s.heap.objs.size/\s₁={ s with heap:=s.heap.push (abg w) }) ⟨rfl,rfl⟩) fun r s₁ hr=>?_
 cases r with
 | error e=>exact hr
 | ok fl =>
  cases fl with
  | ret obj =>
   obtain ⟨rfl,rfl⟩:=hr
   have hS:(s.heap.push (abg w)).get? s.heap.objs.size=some (abg w):=Heap.get?_push_size _ rfl
   have hT:Shared.TypeIs { s with heap:=s.heap.push (abg w) } (.ref s.heap.objs.size) "set":=⟨_,hS,rfl⟩
   have hli:=PySem.F.called_set.init.lookup
   have hbi:=PySem.F.called_set.init.bind (.ref s.heap.objs.size)
   repeat (any_goals (first | assumption | wp_step))
   refine codeAny_mono (codeAny_call_builtin (R:=wants (fun r s₂=>r=.none/\∃ h' tk L,s₂={ s with heap:=h',toks:=tk }/\SetT prog w U s.heap.objs.size L h'/\L.Nodup/\L.length<=items.size/\(∀ x,x∈L ↔ ∃ j,j < items.size/\val j=x) /\
     (∀ b o,s.heap.get? b=some o->h'.get? b=some o)) E) PySem.F.called_set.init.plain PySem.F.entry_set_init (check_set_init_1 hT ?_)) fun r₂ s₂ hr₂=>?_
   ·obtain ⟨ol,hol,hcl,nl,hdl⟩:=hl
    obtain ⟨ocls,odict,odata,oslots⟩:=ol
    simp only at hcl hdl
    subst hcl;subst hdl
    have hol':(s.heap.push (abg w)).get? l=some { cls:=.type "list",dict:=odict,data:=.seq items nl,slots:=oslots }:=Heap.get?_push_of_some _ hol
    have hsls:=PySem.F.sub_list_set
    have hslf:=PySem.F.sub_list_frozenset
    have hne:(Value.type "list" == Value.type "dict")=false:=by decide
    have hl1:(s.heap.push (abg w)).IsList l items:=⟨_,hol',rfl,nl,rfl⟩
    unfold Builtin.«set.__init__» noKeywords Builtin.Frozenset.updateFrom
    generalize hPI:pyIter=PI
    unfold abg at *
    wp_walk
    subst hPI
    refine wpAny_pyIter_list hl1 ?_
    refine wpAny_bind (wpAny_runValue ?_)
    have hlS:l < s.heap.objs.size:=Heap.lt_size hol
    have hh3:A.in1.in1.in1.handled=none:=by simp [hh]
    have hneI:l ≠ (s.heap.push (abg w)).objs.size:=by
     rw [Heap.size_push];exact Nat.ne_of_lt (Nat.lt_succ_of_lt hlS)
    have hSf:s.heap.objs.size ∉ [(s.heap.push (abg w)).objs.size,l]:=by
     rw [Heap.size_push];simp only [List.mem_cons,List.mem_singleton,List.not_mem_nil,or_false,not_or]
     exact ⟨Nat.ne_of_lt (Nat.lt_succ_self _),Nat.ne_of_gt hlS⟩
    have hts:∀ i,i < items.size->tup i < s.heap.objs.size:=fun i h=>let ⟨_,_,_,e,_⟩:=hi i h;Heap.lt_size e
    refine az9 (U:=U) (Walks.list hh3 _ l hneI items) s.heap.objs.size hSf hu s.heap val tup hP hU (fun b hb=>⟨Nat.ne_of_lt (hUl b hb),by rw [List.mem_singleton,Heap.size_push];exact Nat.ne_of_lt (Nat.lt_succ_of_lt (hUl b hb))⟩) hb
     (fun h' kp i h=>let ⟨o,its,m,e,q⟩:=hi i h;⟨o,its,m,kp _ o (Nat.ne_of_lt (Heap.lt_size e)) (by rw [List.mem_singleton,Heap.size_push];exact Nat.ne_of_lt (Nat.lt_succ_of_lt (Heap.lt_size e))) e,q⟩)
     (items.size - 0) 0 _ [] (by row_cond lo) (Nat.zero_le _)
     ⟨⟨_,Heap.get?_push_size _ rfl,rfl,rfl⟩,(hl1.push _)⟩ (fun b o _ _ e=>Heap.get?_push_of_some _ (Heap.get?_push_of_some _ e)) (let ⟨es,ep,t,ks,x,r⟩:=av5 s.heap;⟨es,ep,t,ks,x.at (fun o e=>Heap.get?_push_of_some _ e) (fun b ks hb ⟨o,its,m,e,q⟩=>⟨o,its,m,Heap.get?_push_of_some _ e,q⟩),r⟩) List.nodup_nil (Nat.le_refl _) (fun x=>by simp) fun h' tk L hk hS' n1 n2 n3=>?_
    show wpAny _ _ _ _ _ _
    refine wpAny_pure ?_
    show wpAny _ _ (ret Value.none) _ _ _
    refine wpAny_pure ⟨rfl,h',tk,L,rfl,hS',n1,n2,n3,fun b o e=>?_⟩
    have hlt:=Heap.lt_size e
    have hb1:b ≠ s.heap.objs.size:=Nat.ne_of_lt hlt
    have hb2:b ≠ (s.heap.push (abg w)).objs.size:=by
     rw [Heap.size_push];exact Nat.ne_of_lt (Nat.lt_succ_of_lt hlt)
    exact hk b o hb1 (by rw [List.mem_singleton];exact hb2) (Heap.get?_push_of_some _ (Heap.get?_push_of_some _ e))
   ·cases r₂ with
    | error e=>exact hr₂
    | ok fl₂ =>
     cases fl₂ with
     | ret r =>
      obtain ⟨rfl,h',tk,L,rfl,hS',n1,n2,n3,hk'⟩:=hr₂
      repeat (any_goals (first | assumption | wp_step))
      exact h _ _ _ hS' n1 n2 n3 hk'
     | _=>exact hr₂.elim
  | _=>exact hr.elim
end
end SH
namespace SH
open PySem PySem.W PyProof.Rows SS
section
variable {prog:Program} {w:World} {A:Around} {E:Value->Shared->Prop} {s:Shared} {a:Addr}
def SetB (prog:Program) (w:World) (a:Addr) (bs:List Addr) (h:Heap):Prop:=∃ es ep t,SetR prog w a es ep t h/\(es.toList.map (·.2)).Perm (bs.map Value.ref)
theorem sorted_setT {bs:List Addr} {Q:Value->Shared->Prop} (hh:A.handled=none) (x:SetB prog w a bs s.heap) (hb:bs.length < 64)
  (hκ:∀ vs:List Value,vs.Perm (bs.map Value.ref)->2<=vs.length->∀ h' tk d,(∀ b o,s.heap.get? b=some o->h'.get? b=some o)->∃ κ S R,(∀ (Q:SortKind->Shared->Prop),Q κ { s with heap:=h',toks:=tk,drawn:=d }->wpAny (model prog w) A.in1.in1 (keyKind' vs.toArray) Q E { s with heap:=h',toks:=tk,drawn:=d })/\TS.Cmp (model prog w) A.in1.in1 E { s with heap:=h',toks:=tk,drawn:=d } κ S R/\(∀ v∈vs,S (v,v)) /\
   ∀ (out:List Value) p h'' e,out.Perm vs->out.Pairwise (fun x y=>R (y,y) (x,x)=false)->(∀ b o,s.heap.get? b=some o->h''.get? b=some o)->s.heap.objs.size<=p->h''.get? p=some (seqObj "list" out.toArray e)->Q (.ref p) { s with heap:=h'',toks:=tk,drawn:=d })
  (h1:∀ (vs:List Value) p h'' e tk d,vs.Perm (bs.map Value.ref)->vs.length < 2->(∀ b o,s.heap.get? b=some o->h''.get? b=some o)->s.heap.objs.size<=p->h''.get? p=some (seqObj "list" vs.toArray e)->Q (.ref p) { s with heap:=h'',toks:=tk,drawn:=d }) :
  wpAny (model prog w) A (call (.builtin "sorted") [.ref a]) Q E s:=by
 obtain ⟨es,ep,t,x,hp⟩:=x
 have hsz:es.size=bs.length:=by have:=hp.length_eq;simpa using this
 have hline:es.size<=sizeLine:=by rw [sizeLine_eq];row_cond lo
 refine Calls.call_function_entry kind_sorted plain_sorted entry_sorted (args_sorted1 _) ?_
 unfold Builtin.«sorted»
 refine wpAny_bind (m:=checkCount "sorted" 1 1 _) (wpAny_pure (wpAny_bind (amb (A:=A.in1) hh x hline fun g tk d vs kp hs hv=>?_)))
 have hvp:=hv.trans hp
 have hlen:vs.length=bs.length:=by rw [hvp.length_eq,List.length_map]
 have hlz:vs.length<=sizeLine:=by rw [hlen,sizeLine_eq];row_cond lo
 refine wpAny_bind (wpAny_newList ?_ hlz)
 have hoL:(g.push (seqObj "list" vs.toArray 0)).get? g.objs.size=some (seqObj "list" vs.toArray 0):=Heap.get?_push_size _ rfl
 have keep:∀ b o,s.heap.get? b=some o->(g.push (seqObj "list" vs.toArray 0)).get? b=some o:=fun b o e=>Heap.get?_push_of_some _ (kp b o e)
 have fin:∀ out:List Value,(∀ b o,s.heap.get? b=some o->(sortedHeap (g.push (seqObj "list" vs.toArray 0)) g.objs.size vs out.toArray).get? b=some o):=fun out b o q=>by
  have lt:=Heap.lt_size (kp b o q)
  rw [sortedHeap_old (Nat.ne_of_lt lt) (by rw [size_push'];exact Nat.lt_succ_of_lt lt)]
  exact keep b o q
 refine wpAny_bind (wpAny_holding (wpAny_call_entry slot_list_sort ⟨_,hoL,rfl⟩ entry_list_sort ?body (args_list_sort _)))
 case body =>
  refine TS.list_sort_small (s:={ s with heap:=g.push (seqObj "list" vs.toArray 0),toks:=tk,drawn:=d }) hoL hlz (by rw [hlen];exact hb) (fun hge h' kq=>?_) fun hlt=>?_
  ·obtain ⟨κ,S,R,hk,C,hS,hfin⟩:=hκ vs hvp hge h' tk d fun b o e=>kq b o (Nat.ne_of_lt (Heap.lt_size (kp b o e))) (keep b o e)
   refine ⟨κ,S,R,hk,C,hS,fun out q1 q2=>⟨_,rfl,wpAny_pure ⟨_,rfl,?_⟩⟩⟩
   obtain ⟨e,he⟩:=sortedHeap_at (vs:=vs) (out:=out.toArray) (n:=0) hoL
   exact hfin out _ _ e q1 q2 (fin out) hs he
  ·refine ⟨_,rfl,wpAny_pure ⟨_,rfl,?_⟩⟩
   obtain ⟨e,he⟩:=sortedHeap_at (vs:=vs) (out:=vs.toArray) (n:=0) hoL
   exact h1 vs _ _ e tk d hvp hlt (fin vs) hs he
end
end SH
namespace L2
open PySem PySem.W PyProof.Rows
def at3 (P:Program) (w:World) (K:PySem.W.Frag):List V->Hp->VK->Prop:=fun xs H Q=>∃ (a:Addr) (ts:List Addr) (ps:List (List Int)),xs=[.ref a]/\SqL K H a (ts.map V.ref)/\ts.length=ps.length/\ps.length<=2030 /\
 (∀ (i:Nat) t k,ts[i]?=some t->ps[i]?=some k->H t=some (.tup (k.map V.int))) /\
 ∀ (bs:List Addr) (L:List (List Int)) (p:Addr),bs.length=L.length->L.length<=ps.length->(∀ (i:Nat) b k,bs[i]?=some b->L[i]?=some k->H b=some (.tup (k.map V.int)))->L.Nodup->(∀ x,x∈L ↔ x∈ps)->H p=none->Q (.ref p) (upd H p (.ext (SH.SetB P w p bs)))
def anq (P:Program) (w:World):List V->Hp->VK->Prop:=fun xs H Q=>∃ (a:Addr) (bs:List Addr),xs=[.ref a]/\H a=some (.ext (SH.SetB P w a bs))/\bs.length < 64/\(∀ b∈bs,TupI H (.ref b)) /\
 ∀ (vs':List V) (p:Addr),vs'.Perm (bs.map V.ref)->vs'.Pairwise (fun x y=>HT.lexLt (kH H y) (kH H x)=false)->H p=none->Q (.ref p) (upd H p (.lst vs'))
section
variable {X:Cx}
theorem alo {P:Program} {w:World}:∀ {its:List Value} {k:List Int},IntsAre its k->ItemsAre (intKind P w) k its
 | _,_,.nil => .nil
 | _,_,.cons i tk h => .cons (intKind_is _ _ _ _) (alo h)
theorem at4 {H:Hp} {h:Heap} {P:Program} {w:World} (ok:HOk P w H h) {t:Addr} {k:List Int} (e:H t=some (.tup (k.map V.int))):(SH.TK P w).is h k t:=by
 obtain ⟨_,its,rv,o,e1,e2,n,e3⟩:=(show ObjOk P w H h t (.tup (k.map V.int)) from ok t _ e)
 refine ⟨o,its.toArray,n,e1,e2,e3,?_⟩
 have hi:IntsAre its k:=by simpa using (ab5 rv:IntsAre its.toArray.toList k)
 show ItemsAre (intKind P w) k its.toArray.toList
 rw [List.toList_toArray]
 exact alo hi
theorem call_setT (hc:X.calm=true) (hu:X.A.units+64 < cLine):aa9 X (.type "set") (at3 X.prog X.w X.K):=by
 intro pins s σ H xs us Q I r h
 obtain ⟨a,ts,ps,rfl,ha,hl,hz,ht,q⟩:=h
 obtain ⟨u,rfl,ru⟩:=acn r
 cases ru
 obtain ⟨its,rv,p1,_⟩:=I.list ha
 have hlen:its.length=ts.length:=by have:=rv.length;rw [List.length_map] at this;row_cond lo
 have hsz:its.toArray.size=ts.length:=by simp [hlen]
 have g1:∀ {i},i < ts.length->ts[i]?=some (ts.getD i 0):=fun {i} hi=>by rw [List.getD_eq_getElem?_getD,List.getElem?_eq_getElem hi];rfl
 have g2:∀ {i},i < ts.length->ps[i]?=some (ps.getD i []):=fun {i} hi=>by rw [List.getD_eq_getElem?_getD,List.getElem?_eq_getElem (show i < ps.length by row_cond lo)];rfl
 have hH:∀ i,i < ts.length->H (ts.getD i 0)=some (.tup ((ps.getD i []).map V.int)):=fun i hi=>ht i _ _ (g1 hi) (g2 hi)
 refine SH.call_setT (n:=0) (U:=fun b=>b∈ts) (items:=its.toArray) (val:=fun i=>ps.getD i []) (tup:=fun i=>ts.getD i 0) (I.ok.hd hc) (by show X.A.units+1+1+1 < cLine;row_cond lo) p1.isList (fun i v hv=>?_) (fun i hi=>at4 I.hok (hH i (by row_cond lo))) (fun i hi=>List.mem_of_getElem? (g1 (by row_cond lo))) (fun b hb=>?_) (by row_cond lo) fun h' tk L hS nd nl hm kp=>?_
 ·have hv:its[i]?=some v:=by simpa using hv
  have hi:=(List.getElem?_eq_some_iff.mp hv).1
  have e1:(ts.map V.ref)[i]?=some (.ref (ts.getD i 0)):=by rw [List.getElem?_map,g1 (by row_cond lo)];rfl
  obtain ⟨u,hu,ru⟩:=rv.get e1
  rw [hv] at hu
  cases hu
  exact ru
 ·obtain ⟨i,hi⟩:=List.getElem?_of_mem hb
  have hil:=(List.getElem?_eq_some_iff.mp hi).1
  have:=hH i hil
  rw [List.getD_eq_getElem?_getD,hi] at this
  exact ObjOk.lt (I.hok _ _ this)
 ·obtain ⟨es,ep,t,ks,x,_,hpk⟩:=hS
  have hkey:∀ (i:Nat) (e:Int × Value) k,es.toList[i]?=some e->ks[i]?=some k->∃ b,e.2=.ref b/\H b=some (.tup (k.map V.int)):=fun i e k h1 h2=>by
   obtain ⟨b,e1,e2,e3⟩:=x.gd i e k h1 h2
   refine ⟨b,by rw [e1],?_⟩
   obtain ⟨j,hj⟩:=List.getElem?_of_mem e3
   have hjl:=(List.getElem?_eq_some_iff.mp hj).1
   have hb:=hH j hjl
   rw [List.getD_eq_getElem?_getD,hj] at hb
   have hb:H b=some (.tup ((ps.getD j []).map V.int)):=hb
   have h3:=at4 (I.hok.kept kp) hb
   rw [(SH.TK X.prog X.w).inj e2 h3]
   exact hb
  have hbs:∃ bs:List Addr,es.toList.map (·.2)=bs.map Value.ref/\bs.length=ks.length/\∀ (i:Nat) b k,bs[i]?=some b->ks[i]?=some k->H b=some (.tup (k.map V.int)):=by
   refine ⟨es.toList.map fun e=>match e.2 with | .ref b=>b | _=>0,?_,?_,fun i b k h1 h2=>?_⟩
   ·rw [List.map_map]
    refine List.map_congr_left fun e he=>?_
    obtain ⟨i,hi⟩:=List.getElem?_of_mem he
    have hil:i < ks.length:=by rw [x.len,← Array.length_toList];exact (List.getElem?_eq_some_iff.mp hi).1
    obtain ⟨b,e1,_⟩:=hkey i e _ hi (List.getElem?_eq_getElem hil)
    simp only [Function.comp,e1]
   ·rw [List.length_map,x.len,Array.length_toList]
   ·rw [List.getElem?_map] at h1
    cases he:es.toList[i]? with
    | none=>rw [he] at h1;cases h1
    | some e =>
     rw [he] at h1
     obtain ⟨b',e1,e2⟩:=hkey i e k he h2
     rw [Option.map_some,e1] at h1
     cases h1
     exact e2
  obtain ⟨bs,b1,b2,b3⟩:=hbs
  have hfr:=I.hok.fresh (a:=s.heap.objs.size) (Nat.le_refl _)
  have hSB:SH.SetB X.prog X.w s.heap.objs.size bs h':=⟨es,ep,t,x.r,by rw [b1]⟩
  refine ⟨.ref s.heap.objs.size,_,I.laid (t':=tk) (o:=.ext (SH.SetB X.prog X.w s.heap.objs.size bs)) kp (Nat.le_refl _) ⟨hSB,?_,fun h1 h2 ⟨es,ep,t,y,r⟩ k=>⟨es,ep,t,y.at k,r⟩⟩,rfl,q bs ks _ b2 ?_ b3 x.nd (fun y=>?_) hfr⟩
  ·obtain ⟨o,e,_⟩:=x.r
   exact ⟨o,e⟩
  ·rw [hpk.length_eq];row_cond lo
  ·rw [hpk.mem_iff,hm]
   constructor
   ·rintro ⟨j,hj,e⟩
    rw [← e]
    exact List.mem_of_getElem? (g2 (by row_cond lo))
   ·intro hy
    obtain ⟨j,hj⟩:=List.getElem?_of_mem hy
    have hjl:=(List.getElem?_eq_some_iff.mp hj).1
    exact ⟨j,by row_cond lo,by rw [List.getD_eq_getElem?_getD,hj];rfl⟩
theorem af0 (hc:X.calm=true):aa9 X (.builtin "sorted") (anq X.prog X.w):=by
 intro pins s σ H xs us Q I r h
 obtain ⟨a,bs,rfl,ha,hz,hT,q⟩:=h
 obtain ⟨u,rfl,ru⟩:=acn r
 cases ru
 obtain ⟨hS,_,_⟩:=(show ObjOk X.prog X.w H s.heap a (.ext (SH.SetB X.prog X.w a bs)) from I.hok a _ ha)
 have hrefs:∀ {us:List Value},us.Perm (bs.map Value.ref)->∀ u∈us,∃ b,u=.ref b/\b∈bs:=fun {us} hp u hu=>by
  obtain ⟨b,hb,rfl⟩:=List.mem_map.mp (hp.mem_iff.mp hu)
  exact ⟨b,rfl,hb⟩
 have hvals:∀ {us:List Value},us.Perm (bs.map Value.ref)->Vals (us.map ab9) us/\(∀ v∈us.map ab9,TupI H v)/\(us.map ab9).Perm (bs.map V.ref):=fun {us} hp=>by
  refine ⟨aex fun u hu=>let ⟨b,e,_⟩:=hrefs hp u hu;⟨b,e⟩,fun v hv=>?_,?_⟩
  ·obtain ⟨u,hu,rfl⟩:=List.mem_map.mp hv
   obtain ⟨b,rfl,hb⟩:=hrefs hp u hu
   exact hT b hb
  ·have:=hp.map ab9
   rw [List.map_map] at this
   exact this
 have fin:∀ (us out:List Value) p h'' e tk d,us.Perm (bs.map Value.ref)->out.Perm us->(out.map ab9).Pairwise (fun x y=>HT.lexLt (kH H y) (kH H x)=false)->(∀ b o,s.heap.get? b=some o->h''.get? b=some o)->s.heap.objs.size<=p->h''.get? p=some (seqObj "list" out.toArray e)->EP X pins σ Q (.ref p) { s with heap:=h'',toks:=tk,drawn:=d }:=by
  intro us out p h'' e tk d hp ho hs kp hpp he
  obtain ⟨v1,v2,v3⟩:=hvals (ho.trans hp)
  have hl:out.length=bs.length:=by rw [(ho.trans hp).length_eq,List.length_map]
  have J:=I.laid (t':=tk) (o:=.lst (out.map ab9)) kp hpp (show ObjOk X.prog X.w _ h'' p (.lst (out.map ab9)) from ⟨by rw [List.length_map,hl,sizeLine_eq];row_cond lo,out,e,v1,by rw [he]⟩)
  exact ⟨.ref p,_,J.drawn' d,rfl,q _ _ v3 hs (I.hok.fresh hpp)⟩
 refine SH.sorted_setT (I.ok.hd hc) hS hz (fun vs hp hge h' tk d kp=>?_) fun vs p h'' e tk d hp hlt kp hpp he=>?_
 ·obtain ⟨v1,v2,v3⟩:=hvals hp
  obtain ⟨⟨fs,k1,k2,k3⟩,k4⟩:=af4 I kp v1 v2
  have hne:(Value.type "int" != Value.type "tuple")=true:=by rfl
  refine ⟨tuples' true,TS.tS h' (fun a=>kH H (.ref a)),TS.tR (fun a=>kH H (.ref a)),fun Q' hq=>?_,TS.cmp_tups (s:={ s with heap:=h',toks:=tk,drawn:=d }) (fun a=>kH H (.ref a)),fun v hv=>?_,fun out p h'' e ho hs kq hpp he=>fin vs out p h'' e tk d hp ho ?_ kq hpp he⟩
  ·refine PySem.W.kat_kind (T:=.type "int") (s:={ s with heap:=h',toks:=tk,drawn:=d }) k1 (by row_cond lo) (fun v hv=>?_) (by rfl) ?_
   ·obtain ⟨i,t,rfl⟩:=k3 v hv
    exact .now
   ·rw [hne];exact hq
  ·obtain ⟨a,e,ht⟩:=k4 v hv
   exact ⟨rfl,a,e,ht⟩
  ·rw [List.pairwise_map]
   refine List.Pairwise.imp_of_mem ?_ hs
   intro x y hx hy hr
   obtain ⟨ax,rfl,_⟩:=hrefs (ho.trans hp) x hx
   obtain ⟨ay,rfl,_⟩:=hrefs (ho.trans hp) y hy
   exact hr
 ·exact fin vs vs p h'' e tk d hp (List.Perm.refl _) (ak1 (by rw [List.length_map];exact hlt)) kp hpp he
end
end L2
namespace VL
open PySem PySem.Spec L2
section
variable {B:Bs} {env:En} {QO:Sl->En->Prop} {K:PySem.W.Frag} {ta:TA} {P:Program} {w:World}
theorem ahg (h:EvA B ta env fun ds e=>∃ ps:List (Int × Int),ds=[.list (ps.map prD)]/\ps.length < 64/\∀ qs:List (Int × Int),qs.Nodup->(∀ x,x∈qs ↔ x∈ps)->lexS (qs.map p2)->QO (.own (OL (qs.map prD))) e):EvO B (tCB (anq P w) (aa4 (tCB (at3 P w K) ta) tNil)) env QO:=fun σ G H F Q I k =>
 h σ G H F _ I fun vs G1 H1 F1 ds e1 I1 g1 r1 z_=>by
  obtain ⟨ps,ed,hl,q1⟩:=z_
  subst ed
  cases r1 with
  | cons r t =>
   cases t
   cases r with
   | @lst a us _ ha rs =>
    rw [← aha] at rs
    obtain ⟨t1,t2⟩:=ad3 I1.gh rs atu
    have hus:us.length=ps.length:=by have:=congrArg List.length t2;simpa using this
    obtain ⟨ts,ets⟩:∃ ts:List Addr,us=ts.map V.ref:=⟨us.map fun v=>match v with | .ref b=>b | _=>0,by
     rw [List.map_map]
     conv=>lhs;rw [← List.map_id us]
     refine List.map_congr_left fun v hv=>?_
     obtain ⟨b,_,rfl,_⟩:=t1 v hv
     rfl⟩
    subst ets
    have htl:ts.length=ps.length:=by simpa using hus
    have hk:∀ (i:Nat) t q,ts[i]?=some t->(ps.map p2)[i]?=some q->H1 t=some (.tup (q.map V.int)):=fun i t q h1 h2=>by
     have h3:(ts.map V.ref)[i]?=some (.ref t):=by rw [List.getElem?_map,h1];rfl
     obtain ⟨b,ns,e,hb,_⟩:=t1 _ (List.mem_of_getElem? h3)
     cases e
     have h4:((ts.map V.ref).map (kH H1))[i]?=some (kH H1 (.ref t)):=by rw [List.getElem?_map,h3];rfl
     rw [t2,h2,agy hb] at h4
     cases h4
     exact hb
    refine ⟨a,ts,ps.map p2,rfl,SqL.of (I1.gh _ _ ha),by rw [List.length_map];exact htl,by rw [List.length_map];row_cond lo,hk,fun bs L p hbl hll hbk nd hm hf=>?_⟩
    rw [List.length_map] at hll
    have J:=I1.aside (p:=p) (o:=.ext (SH.SetB P w p bs)) (fun _ z=>nomatch z) (I1.no_g hf) (fun j z=>I1.no_f hf j z) (I1.no_b hf)
    have hb2:∀ (i:Nat) b q,bs[i]?=some b->L[i]?=some q->upd H1 p (.ext (SH.SetB P w p bs)) b=some (.tup (q.map V.int)):=fun i b q h1 h2=>by
     have:=hbk i b q h1 h2
     rw [aaf (aap this hf)]
     exact this
    have hLp:∀ q∈L,∃ x∈ps,q=p2 x:=fun q hq=>by
     obtain ⟨x,hx,e⟩:=List.mem_map.mp ((hm q).mp hq)
     exact ⟨x,hx,e.symm⟩
    have hbT:∀ b∈bs,TupI (upd H1 p (.ext (SH.SetB P w p bs))) (.ref b):=fun b hb=>by
     obtain ⟨i,hi⟩:=List.getElem?_of_mem hb
     have hil:i < L.length:=by rw [← hbl];exact (List.getElem?_eq_some_iff.mp hi).1
     refine ⟨b,L[i],rfl,hb2 i b _ hi (List.getElem?_eq_getElem hil),?_⟩
     obtain ⟨x,_,e⟩:=hLp _ (List.getElem_mem hil)
     rw [e]
     simp
    have hbL:(bs.map V.ref).map (kH (upd H1 p (.ext (SH.SetB P w p bs))))=L:=by
     refine List.ext_getElem? fun i=>?_
     rw [List.getElem?_map,List.getElem?_map]
     by_cases hi:i < bs.length
     ·rw [List.getElem?_eq_getElem hi,List.getElem?_eq_getElem (show i < L.length by row_cond lo),Option.map_some,Option.map_some,agy (hb2 i _ _ (List.getElem?_eq_getElem hi) (List.getElem?_eq_getElem (by row_cond lo)))]
     ·rw [List.getElem?_eq_none (by row_cond lo),List.getElem?_eq_none (show L.length<=i by row_cond lo)]
      rfl
    refine ⟨p,bs,rfl,aai,by row_cond lo,hbT,fun ws p' hp hs hf'=>?_⟩
    have tw:∀ v∈ws,TupI (upd H1 p (.ext (SH.SetB P w p bs))) v:=fun v hv=>by
     obtain ⟨b,hb,rfl⟩:=List.mem_map.mp (hp.mem_iff.mp hv)
     exact hbT b hb
    have o:=Out.newL J.gh hf' (af8 J.ft tw)
    have hqp:(ws.map (kH (upd H1 p (.ext (SH.SetB P w p bs))))).Perm L:=by
     have:=hp.map (kH (upd H1 p (.ext (SH.SetB P w p bs))))
     rw [hbL] at this
     exact this
    obtain ⟨qs,eqs⟩:∃ qs:List (Int × Int),ws.map (kH (upd H1 p (.ext (SH.SetB P w p bs))))=qs.map p2:=⟨(ws.map (kH (upd H1 p (.ext (SH.SetB P w p bs))))).map fun l=>(l.getD 0 0,l.getD 1 0),by
     rw [List.map_map]
     conv=>lhs;rw [← List.map_id (ws.map (kH (upd H1 p (.ext (SH.SetB P w p bs)))))]
     refine List.map_congr_left fun q hq=>?_
     obtain ⟨x,_,rfl⟩:=hLp q (hqp.mem_iff.mp hq)
     rfl⟩
    rw [eqs] at hqp o
    rw [aha] at o
    have p2i:∀ x y:Int × Int,p2 x=p2 y->x=y:=fun x y e=>by
     obtain ⟨a,b⟩:=x
     obtain ⟨c,d⟩:=y
     simp [p2] at e
     rw [e.1,e.2]
    refine k _ _ _ F1 _ _ e1 (J.out o).1 (g1.trans o.gg) (J.out o).2 (q1 qs ?_ (fun x=>?_) ?_)
    ·have:=hqp.nodup_iff.mpr nd
     rw [List.Nodup,List.pairwise_map] at this
     exact this.imp fun {x y} h e=>h (by rw [e])
    ·constructor
     ·intro hx
      obtain ⟨y,hy,e⟩:=hLp _ (hqp.mem_iff.mp (List.mem_map_of_mem hx))
      rw [p2i x y e]
      exact hy
     ·intro hx
      obtain ⟨y,hy,e⟩:=List.mem_map.mp (hqp.mem_iff.mpr ((hm (p2 x)).mpr (List.mem_map_of_mem hx)))
      rw [← p2i y x e]
      exact hy
    ·rw [← eqs]
     unfold lexS
     rw [List.pairwise_map]
     exact hs
end
end VL
namespace L2
open PySem PySem.W PyProof.Rows
section
variable {X:Cx} {pins:List (Addr × Obj)} {σ:St} {H:Hp} {s:Shared} {a:Addr} {kvs:List (Key × V)} {k:Key} {A:Around} {E:Value->Shared->Prop}
end
section
variable {X:Cx} {o e f:Expr} {apos cpos:Pos} {td ty tx:TE}
end
end L2
namespace VL
open PySem PySem.Spec L2
section
variable {B:Bs} {env:En} {QO:Sl->En->Prop} {Q':PyData->En->Prop} {D':VEnds} {K:PySem.W.Frag} {i:Nat}
noncomputable def a0e (es:List (Int × List PyData)) (k:Int):List PyData:=((es.find? fun p=>decide (p.1=k)).map (·.2)).getD []
end
end VL
namespace VL
open PySem PySem.Spec L2
theorem ao4 {α β:Type} {K K1 K2:PySem.W.Frag} {src:List (Option Nat)} {e1:En} {wi2:TI} {tif2:TT} {te:TE} {R:List PyData->Prop} {xs:List α} {fa fb : α->PyData} (yf : α->List β) (fc fd : α->β->PyData) (f : α->β->PyData) (q : α->β->Bool) (hc:adq (aal src e1))
  (hl:(xs.flatMap fun x=>((yf x).filter (q x)).map (f x)).length<=999999)
  (h1:∀ x∈xs,∀ B':Bs,B'.K=K->∀ o o',EvI B' wi2 (some (.st (fa x)) :: some (.st (fb x)) :: stO o :: stO o' :: aal src e1) fun ds2 e4=>ds2=(yf x).map (fun y => .tuple [fc x y,fd x y])/\e4=some (.st (fa x)) :: some (.st (fb x)) :: stO o :: stO o' :: aal src e1)
  (h2:∀ x∈xs,∀ y∈yf x,∀ B':Bs,B'.K=K->EvT B' tif2 (some (.st (fa x)) :: some (.st (fb x)) :: some (.st (fc x y)) :: some (.st (fd x y)) :: aal src e1) fun b e6=>b=q x y/\e6=some (.st (fa x)) :: some (.st (fb x)) :: some (.st (fc x y)) :: some (.st (fd x y)) :: aal src e1/\(b=true->Ev B' te (some (.st (fa x)) :: some (.st (fb x)) :: some (.st (fc x y)) :: some (.st (fd x y)) :: aal src e1) fun z e7=>z=f x y/\e7=some (.st (fa x)) :: some (.st (fb x)) :: some (.st (fc x y)) :: some (.st (fd x y)) :: aal src e1))
  (hR:R (xs.flatMap fun x=>((yf x).filter (q x)).map (f x))):LcV2 K (none :: none :: none :: none :: src) (gTup K1 2 (aby (aa2 0) (aby (aa2 1) gNil))) tYes wi2 (gTup K2 2 (aby (aa2 2) (aby (aa2 3) gNil))) tif2 te (xs.map fun x => .tuple [fa x,fb x]) e1 R:=by
 refine ⟨fun i ys e=>ys=(xs.take i).flatMap (fun x=>((yf x).filter (q x)).map (f x))/\∃ o o' p p',e=stO o :: stO o' :: stO p :: stO p' :: aal src e1,⟨by simp,none,none,none,none,rfl⟩,?_,?_,?_⟩
 ·rintro i ys e ⟨_,o,o',p,p',rfl⟩
  exact abd (abd (abd (abd hc)))
 ·rintro i d ys e hd ⟨rfl,o,o',p,p',rfl⟩ B' hB
  rw [List.getElem?_map] at hd
  cases hx:xs[i]? with
  | none=>rw [hx] at hd;cases hd
  | some x =>
   rw [hx] at hd
   cases hd
   have hxm:=List.mem_of_getElem? hx
   have et:xs.take (i+1)=xs.take i ++ [x]:=by rw [List.take_add_one,hx];rfl
   have hle:((xs.take (i+1)).flatMap (fun x=>((yf x).filter (q x)).map (f x))).length<=999999:=by
    refine Nat.le_trans ?_ hl
    conv=>rhs;rw [← List.take_append_drop (i+1) xs,List.flatMap_append,List.length_append]
    exact Nat.le_add_right _ _
   refine afg rfl (ab3 (aa1 (ab3 (aa1 (aef (afe ?_))))))
   rw [if_pos rfl]
   show EvI B' wi2 (some (.st (fa x)) :: some (.st (fb x)) :: stO p :: stO p' :: aal src e1) _
   intro σ G H F Q I k
   refine h1 x hxm B' hB p p' σ G H F Q I fun J G' H' F' ds2 e4 I' g' it' ⟨hds,he4⟩=>k J G' H' F' ds2 e4 I' g' it' ?_
   subst hds he4
   refine ⟨fun j ys2 e=>ys2=(xs.take i).flatMap (fun x=>((yf x).filter (q x)).map (f x)) ++ (((yf x).take j).filter (q x)).map (f x)/\∃ p p',e=some (.st (fa x)) :: some (.st (fb x)) :: stO p :: stO p' :: aal src e1,⟨by simp,p,p',rfl⟩,?_,?_,?_⟩
   ·rintro j ys2 e ⟨_,p,p',rfl⟩
    exact abd (o:=some (fa x)) (abd (o:=some (fb x)) (abd (abd hc)))
   ·rintro j d2 ys2 e hd2 ⟨rfl,p,p',rfl⟩ B2 hB2
    rw [List.getElem?_map] at hd2
    cases hy:(yf x)[j]? with
    | none=>rw [hy] at hd2;cases hd2
    | some y =>
     rw [hy] at hd2
     cases hd2
     have et2:(yf x).take (j+1)=(yf x).take j ++ [y]:=by rw [List.take_add_one,hy];rfl
     refine afg rfl (ab3 (aa1 (ab3 (aa1 (aef ?_)))))
     show EvT B2 tif2 (some (.st (fa x)) :: some (.st (fb x)) :: some (.st (fc x y)) :: some (.st (fd x y)) :: aal src e1) _
     intro σ G H F Q I k
     refine h2 x hxm y (List.mem_of_getElem? hy) B2 hB2 σ G H F Q I fun b G' H' F' e3 I' g' ⟨hb,he,hq⟩=>k b G' H' F' e3 I' g' ?_
     subst he
     by_cases hp:b=true
     ·rw [if_pos hp]
      intro σ G H F Q I k
      refine hq hp σ G H F Q I fun v G' H' F' d' e4 I' g' r' ⟨hy',he4⟩=>k v G' H' F' d' e4 I' g' r' ?_
      subst hy' he4
      have hqt:q x y=true:=by rw [← hb];exact hp
      refine ⟨?_,?_,some (fc x y),some (fd x y),rfl⟩
      ·refine Nat.le_trans ?_ hle
       rw [et,List.flatMap_append,List.length_append,List.length_append]
       refine Nat.add_le_add_left ?_ _
       simp only [List.flatMap_cons,List.flatMap_nil,List.append_nil,List.length_map]
       exact (List.Sublist.filter (q x) (List.take_sublist j (yf x))).length_le
      ·rw [et2,List.filter_append,List.map_append,← List.append_assoc]
       simp [hqt]
     ·rw [if_neg hp]
      have hqf:q x y=false:=by rw [← hb];simpa using hp
      refine ⟨?_,some (fc x y),some (fd x y),rfl⟩
      rw [et2,List.filter_append,List.map_append]
      simp [hqf]
   ·rintro ys2 e ⟨rfl,p,p',rfl⟩
    refine ⟨?_,some (fa x),some (fb x),p,p',rfl⟩
    rw [et,List.flatMap_append]
    simp
 ·rintro ys e ⟨rfl,o,o',p,p',rfl⟩
  rw [List.length_map,List.take_length]
  exact hR
end VL
namespace VL
open PySem PySem.Spec L2
end VL
namespace VL
open PySem PySem.Spec L2
section
variable {B:Bs} {env:En} {QO:Sl->En->Prop} {Q':PyData->En->Prop} {K:PySem.W.Frag} {E:XK} {i:Nat}
end
end VL
namespace VL
open PySem L2
theorem ast {n:Int} {es:List (Int × Int)} (h:Conn n (Tied es)):∃ fs:List (Int × Int),fs.Nodup/\(∀ p∈fs,p∈es)/\(fs.length:Int)=(n - 1).toNat:=by
 have key:∀ i:Nat,∃ p:Int × Int,(i:Int)+1 < n->p∈es/\∃ (u:Int) (d:Nat),(p=(u,(i:Int)+1)\/p=((i:Int)+1,u))/\Gr.Dist (Tied es) 0 u d/\Gr.Dist (Tied es) 0 ((i:Int)+1) (d+1):=by
  intro i
  by_cases hi:(i:Int)+1 < n
  ·obtain ⟨k,w⟩:=h 0 ((i:Int)+1) (by row_cond lo) (by row_cond lo) (by row_cond lo) hi
   obtain ⟨d,_,hd⟩:=Gr.Dist.of_walk w
   cases d with
   | zero =>
    have hz:=hd.1
    generalize hv:(i:Int)+1=v at hz
    cases hz
    row_cond lo
   | succ d =>
    obtain ⟨u,ht,hu⟩:=hd.pred
    rcases ht with ht | ht
    ·exact ⟨_,fun _=>⟨ht,u,d,.inl rfl,hu,hd⟩⟩
    ·exact ⟨_,fun _=>⟨ht,u,d,.inr rfl,hu,hd⟩⟩
  ·exact ⟨(0,0),fun q=>absurd q hi⟩
 obtain ⟨f,hf⟩:∃ f:Nat->Int × Int,∀ i:Nat,(i:Int)+1 < n->f i∈es/\∃ (u:Int) (d:Nat),(f i=(u,(i:Int)+1)\/f i=((i:Int)+1,u))/\Gr.Dist (Tied es) 0 u d/\Gr.Dist (Tied es) 0 ((i:Int)+1) (d+1):=⟨fun i=>Classical.choose (key i),fun i=>Classical.choose_spec (key i)⟩
 refine ⟨(List.range (n - 1).toNat).map f,?_,fun p hp=>?_,by simp⟩
 ·unfold List.Nodup
  rw [List.pairwise_map]
  refine List.Pairwise.imp_of_mem ?_ List.nodup_range
  intro i j hi hj hij e
  have hi1:=List.mem_range.mp hi
  have hj1:=List.mem_range.mp hj
  obtain ⟨_,u,d,e1,hu,hd⟩:=hf i (by row_cond lo)
  obtain ⟨_,v,c,e2,hv,hc⟩:=hf j (by row_cond lo)
  rw [e] at e1
  have hsw:u=(j:Int)+1/\v=(i:Int)+1:=by
   rcases e1 with e1 | e1 <;> rcases e2 with e2 | e2 <;> rw [e1] at e2 <;> simp only [Prod.mk.injEq] at e2 <;> row_cond lo
  rw [hsw.1] at hu
  rw [hsw.2] at hv
  have:=hu.uniq hc
  have:=hv.uniq hd
  row_cond lo
 ·obtain ⟨i,hi,rfl⟩:=List.mem_map.mp hp
  exact (hf i (by have:=List.mem_range.mp hi;row_cond lo)).1
noncomputable def ach (es:List (Int × Int)) (t:Int × Int):List (Int × Int):=es.filter fun p => !decide (p=t)
theorem lessE_mem {es:List (Int × Int)} {t p:Int × Int}:p∈ach es t ↔ p∈es/\p ≠ t:=by simp [ach]
theorem aqp {es:List (Int × Int)} {a b:Int} (h:(a,b)∈es) (x y:Int):Tied es x y ↔ Tied (ach es (a,b)) x y\/(x=a/\y=b)\/(x=b/\y=a):=by
 unfold Tied
 rw [lessE_mem,lessE_mem]
 constructor
 ·rintro (q | q)
  ·by_cases e:(x,y)=(a,b)
   ·exact .inr (.inl (by simpa using e))
   ·exact .inl (.inl ⟨q,e⟩)
  ·by_cases e:(y,x)=(a,b)
   ·simp only [Prod.mk.injEq] at e
    exact .inr (.inr ⟨e.2,e.1⟩)
   ·exact .inl (.inr ⟨q,e⟩)
 ·rintro ((q | q) | ⟨rfl,rfl⟩ | ⟨rfl,rfl⟩)
  ·exact .inl q.1
  ·exact .inr q.1
  ·exact .inl h
  ·exact .inr h
theorem ahh {n:Int} {es:List (Int × Int)} {a b:Int} (hn:1<=n) (hl:(es.length:Int)=n - 1) (hc:Conn n (Tied es)) (h:(a,b)∈es) (k:Nat):¬ Gr.Walk (Tied (ach es (a,b))) a k b:=fun hw=>by
 have hs:∀ u v,Tied (ach es (a,b)) u v->Tied (ach es (a,b)) v u:=fun _ _ t=>t.symm
 have hc':Conn n (Tied (ach es (a,b))):=fun u v u0 u1 v0 v1=>by
  obtain ⟨j,w⟩:=hc u v u0 u1 v0 v1
  clear v0 v1
  induction w with
  | refl=>exact ⟨0,.refl⟩
  | step _ t ih =>
   obtain ⟨m,w⟩:=ih
   rcases (aqp h _ _).mp t with t | ⟨rfl,rfl⟩ | ⟨rfl,rfl⟩
   ·exact ⟨_,.step w t⟩
   ·exact ⟨_,w.app hw⟩
   ·exact ⟨_,w.app (hw.rev hs)⟩
 obtain ⟨fs,nd,sub,len⟩:=ast hc'
 have:=List.Nodup.length_le_of_subset (l₁:=(a,b) :: fs) (l₂:=es) (List.nodup_cons.mpr ⟨fun q=>(lessE_mem.mp (sub _ q)).2 rfl,nd⟩) fun p hp=>by
  rcases List.mem_cons.mp hp with rfl | hp
  ·exact h
  ·exact (lessE_mem.mp (sub _ hp)).1
 simp only [List.length_cons] at this
 row_cond lo
section
variable {T T':Int->Int->Prop} {a b:Int}
end
theorem aga {T T':Int->Int->Prop} {b v:Int} {K:Nat} (hv:Gr.Dist T b v (K+1)) (hT:∀ x y,x ≠ v->y ≠ v->T x y->T' x y):∀ (k:Nat) (p:Int),k<=K->Gr.Dist T b p k->Gr.Walk T' b k p
 | 0,p,_,h=>by cases h.1;exact .refl
 | k+1,p,hk,h=>by
  obtain ⟨u,t,hu⟩:=h.pred
  refine .step (aga hv hT k u (by row_cond lo) hu) (hT u p ?_ ?_ t)
  ·rintro rfl;have:=hu.uniq hv;row_cond lo
  ·rintro rfl;have:=h.uniq hv;row_cond lo
theorem aqq {n:Int} {es:List (Int × Int)} {b v p q:Int} {K:Nat} (hn:1<=n) (hl:(es.length:Int)=n - 1) (hc:Conn n (Tied es)) (tp:Tied es v p) (tq:Tied es v q) (hp:Gr.Dist (Tied es) b p K) (hq:Gr.Dist (Tied es) b q K) (hv:Gr.Dist (Tied es) b v (K+1)):p=q:=by
 apply Classical.byContradiction
 intro hne
 have pv:p ≠ v:=by rintro rfl;have:=hp.uniq hv;row_cond lo
 have qv:q ≠ v:=by rintro rfl;have:=hq.uniq hv;row_cond lo
 have key:∀ t:Int × Int,(t=(v,p)\/t=(p,v))->∃ k,Gr.Walk (Tied (ach es t)) v k p:=by
  intro t ht
  have hs:∀ u v,Tied (ach es t) u v->Tied (ach es t) v u:=fun _ _ t=>t.symm
  have hT:∀ x y,x ≠ v->y ≠ v->Tied es x y->Tied (ach es t) x y:=fun x y hx hy h=>by
   have n1:(x,y) ≠ t:=fun e=>by rw [← e] at ht;simp only [Prod.mk.injEq] at ht;row_cond lo
   have n2:(y,x) ≠ t:=fun e=>by rw [← e] at ht;simp only [Prod.mk.injEq] at ht;row_cond lo
   rcases h with h | h
   ·exact .inl (lessE_mem.mpr ⟨h,n1⟩)
   ·exact .inr (lessE_mem.mpr ⟨h,n2⟩)
  have hvq:Tied (ach es t) v q:=by
   have n1:(v,q) ≠ t:=fun e=>by rw [← e] at ht;simp only [Prod.mk.injEq] at ht;row_cond lo
   have n2:(q,v) ≠ t:=fun e=>by rw [← e] at ht;simp only [Prod.mk.injEq] at ht;row_cond lo
   rcases tq with h | h
   ·exact .inl (lessE_mem.mpr ⟨h,n1⟩)
   ·exact .inr (lessE_mem.mpr ⟨h,n2⟩)
  exact ⟨_,(Gr.Walk.step .refl hvq).app (((aga hv hT K q (Nat.le_refl _) hq).rev hs).app (aga hv hT K p (Nat.le_refl _) hp))⟩
 rcases tp with h | h
 ·obtain ⟨k,w⟩:=key (v,p) (.inl rfl)
  exact ahh hn hl hc h k w
 ·obtain ⟨k,w⟩:=key (p,v) (.inr rfl)
  exact ahh hn hl hc h k (w.rev fun _ _ t=>t.symm)
structure WayTo (T:Int->Int->Prop) (a b:Int) (d:Nat) (ws:List Int):Prop where
 len:ws.length=d+1
 fst:ws[0]?=some a
 far:∀ (i:Nat) x,ws[i]?=some x->Gr.Dist T b x (d - i)
 tie:∀ (i:Nat) x y,ws[i]?=some x->ws[i+1]?=some y->T x y
theorem WayTo.uniq {n:Int} {es:List (Int × Int)} {a b:Int} {d:Nat} {ws zs:List Int} (hn:1<=n) (hl:(es.length:Int)=n - 1) (hc:Conn n (Tied es)) (h:WayTo (Tied es) a b d ws) (g:WayTo (Tied es) a b d zs):ws=zs:=by
 have key:∀ i:Nat,i<=d->ws[i]?=zs[i]?:=by
  intro i
  induction i with
  | zero=>intro _;rw [h.fst,g.fst]
  | succ i ih =>
   intro hi
   have e:=ih (by row_cond lo)
   obtain ⟨x,hx⟩:∃ x,ws[i]?=some x:=⟨_,List.getElem?_eq_getElem (by rw [h.len];row_cond lo)⟩
   obtain ⟨y,hy⟩:∃ y,ws[i+1]?=some y:=⟨_,List.getElem?_eq_getElem (by rw [h.len];row_cond lo)⟩
   obtain ⟨z,hz⟩:∃ z,zs[i+1]?=some z:=⟨_,List.getElem?_eq_getElem (by rw [g.len];row_cond lo)⟩
   have hx':zs[i]?=some x:=by rw [← e];exact hx
   have dx:=h.far i x hx
   have dy:=h.far (i+1) y hy
   have dz:=g.far (i+1) z hz
   rw [show d - i=d - (i+1)+1 by row_cond lo] at dx
   rw [hy,hz,aqq hn hl hc (h.tie i x y hx hy) (g.tie i x z hx' hz) dy dz dx]
 refine List.ext_getElem? fun i=>?_
 by_cases hi:i<=d
 ·exact key i hi
 ·rw [List.getElem?_eq_none (by rw [h.len];row_cond lo),List.getElem?_eq_none (by rw [g.len];row_cond lo)]
theorem WayTo.walk {T:Int->Int->Prop} {a b:Int} {d:Nat} {zs:List Int} (h:WayTo T a b d zs):∀ (j:Nat) x,zs[j]?=some x->Gr.Walk T a j x
 | 0,x,e=>by rw [h.fst] at e;cases e;exact .refl
 | j+1,x,e=>by
  have hj:=(List.getElem?_eq_some_iff.mp e).1
  obtain ⟨y,hy⟩:∃ y,zs[j]?=some y:=⟨_,List.getElem?_eq_getElem (by row_cond lo)⟩
  exact .step (h.walk j y hy) (h.tie j y x hy e)
theorem WayTo.rev {T:Int->Int->Prop} {a b:Int} {d:Nat} {zs:List Int} (hs:∀ u v,T u v->T v u) (h:WayTo T b a d zs):WayTo T a b d zs.reverse:=by
 have get:∀ (i:Nat) x,zs.reverse[i]?=some x->i<=d/\zs[d - i]?=some x:=fun i x e=>by
  have hi:=(List.getElem?_eq_some_iff.mp e).1
  rw [List.length_reverse,h.len] at hi
  rw [List.getElem?_reverse (by rw [h.len];exact hi),h.len] at e
  exact ⟨by row_cond lo,by rw [show d - i=d+1 - 1 - i by row_cond lo];exact e⟩
 have hab:Gr.Dist T a b d:=h.far 0 b h.fst
 refine ⟨by rw [List.length_reverse,h.len],?_,fun i x e=>?_,fun i x y e1 e2=>?_⟩
 ·rw [List.getElem?_reverse (by rw [h.len];row_cond lo),h.len]
  obtain ⟨x,hx⟩:∃ x,zs[d+1 - 1 - 0]?=some x:=⟨_,List.getElem?_eq_getElem (by rw [h.len];row_cond lo)⟩
  have:=h.far _ x hx
  rw [show d - (d+1 - 1 - 0)=0 by row_cond lo] at this
  rw [hx]
  cases this.1
  rfl
 ·obtain ⟨hi,e⟩:=get i x e
  refine ⟨h.walk (d - i) x e,fun k w=>?_⟩
  have h1:=h.far (d - i) x e
  rw [show d - (d - i)=i by row_cond lo] at h1
  have:=hab.2 _ (h1.1.app (w.rev hs))
  row_cond lo
 ·obtain ⟨hi,e1⟩:=get i x e1
  obtain ⟨hi2,e2⟩:=get (i+1) y e2
  exact hs _ _ (h.tie (d - (i+1)) y x e2 (by rw [show d - (i+1)+1=d - i by row_cond lo];exact e1))
end VL
namespace L2
open PySem PySem.Spec PyProof.Rows
structure FlyT (base:Heap) (l:List Env) (e T:Addr) (cls:Value) (h:Heap):Prop where
 stay:base.StaysIn h
 new:base.get? e=none
 newT:base.get? T=none
 funs:h.FunFrames base l
 tr:∃ oe vs oT ts a0,h.get? e=some oe/\(oe.cls=cls/\vs[0]?=some a0)/\oe.data=.fields vs/\vs[1]?=some (.ref T)/\T ≠ e/\h.get? T=some oT/\oT.data=.fields ts/\ts[3]?=some .none
theorem FlyT.of {base h0 h':Heap} {as:List Addr} {l:List Env} {e:Addr} {cls a0:Value} (x:Heap.FlyingW (PySem.W.hideAll h0 as) l e cls a0 h') (up:h0.UpToSlots h') (st:base.StaysIn h0) (ha:∀ b∈as,base.get? b=none) (fn:h0.FunFrames base l) (ne:base.get? e=none) :
  ∃ T,FlyT base l e T cls h'/\(T∈as\/h0.get? T=none):=by
 obtain ⟨k1,k2,k3,oe,vs,T,oT,ts,he,hc,hd,h1,hT,hTe,hoT,hdT,h3⟩:=x
 have hT':T∈as\/h0.get? T=none:=by
  by_cases m:T∈as
  ·exact .inl m
  ·cases q:h0.get? T with
   | none=>exact .inr rfl
   | some o=>rw [PySem.W.hideAll_get as q m] at hT;cases hT
 refine ⟨T,⟨fun b o q=>k1 b o (PySem.W.hideAll_get as (st b o q) fun m=>by rw [ha b m] at q;cases q),ne,?_,fn.of_keeps fun b o hb hn=>?_,oe,vs,oT,ts,a0,he,hc,hd,h1,hTe,hoT,hdT,h3⟩,hT'⟩
 ·rcases hT' with m | m
  ·exact ha T m
  ·exact PySem.W.fresh_of_stays st m
 ·obtain ⟨sl,q⟩:=up b o hb hn
  exact ⟨_,q,rfl⟩
theorem aqr {base h0 h':Heap} {l l':List Env} {e T:Addr} {cls:Value} (fn:h0.FunFrames base l) (up:h0.UpToSlots h') (y:FlyT base l' e T cls h'):T ∉ frs l:=fun m=>by
 obtain ⟨_,o,ho,hn⟩:=fn.mem m
 obtain ⟨sl,q⟩:=up T o ho hn
 obtain ⟨oe,vs,oT,ts,a0,_,_,_,_,_,hoT,hdT,_⟩:=y.tr
 rw [q] at hoT;cases hoT
 exact hn ts hdT
theorem aib {l:List Env}:∀ env∈l,∀ a,env.frame=some a->a∈frs l:=fun env he a ha=>List.mem_filterMap.mpr ⟨env,he,ha⟩
section
variable {M:Model} {A:Around} {E:Value->Shared->Prop} {s:Shared} {base:Heap} {env:Env} {outer:List Env} {L e T:Addr} {cls:Value} {Q:Unit->Shared->Prop}
theorem asu (hfr:A.frames=some (env :: outer)) (hf:env.frame=some L) (x:FlyT base (env :: outer) e T cls s.heap)
  (hQ:∀ h' T',FlyT base outer e T' cls h'->(T'=T\/s.heap.get? T'=none)->(∀ b o,s.heap.get? b=some o->b ≠ e->b ≠ T->b ∉ frs (env :: outer)->h'.get? b=some o)->s.heap.UpToSlots h'->Q () { s with heap:=h' }):wpAny M A (leaving env (.ref e)) Q E s:=by
 obtain ⟨oe,vs,oT,ts,a0,he,hc,hd,h1,hTe,hoT,hdT,h3⟩:=id x.tr
 refine wpAny_leaves_onW (base:=PySem.W.hideAll s.heap (e :: T :: frs (env :: outer))) hfr hf ⟨fun b o q=>PySem.W.of_hideAll _ q,PySem.W.hideAll_none _ (.head _),PySem.W.funFrames_hide x.funs fun en hn a ha => .tail _ (.tail _ (aib en hn a ha)),
  oe,vs,T,oT,ts,he,hc,hd,h1,PySem.W.hideAll_none _ (.tail _ (.head _)),hTe,hoT,hdT,h3⟩ fun h' f up=>?_
 obtain ⟨T',y,hT'⟩:=FlyT.of (base:=base) f up x.stay (fun b hb=>by
  rcases List.mem_cons.mp hb with z | hb
  ·rw [z];exact x.new
  ·rcases List.mem_cons.mp hb with z | hb
   ·rw [z];exact x.newT
   ·exact (x.funs.mem hb).1) x.funs.2.2 x.new
 refine hQ h' T' y ?_ (fun b o q n1 n2 n3=>f.1 b o (PySem.W.hideAll_get _ q fun z=>?_)) up
 ·rcases hT' with z | z
  ·rcases List.mem_cons.mp z with z | z
   ·obtain ⟨_,_,_,_,_,_,_,_,_,n,_⟩:=y.tr
    exact absurd z n
   ·rcases List.mem_cons.mp z with z | z
    ·exact .inl z
    ·exact absurd z (aqr x.funs up y)
  ·exact .inr z
 ·rcases List.mem_cons.mp z with z | z
  ·exact n1 z
  ·rcases List.mem_cons.mp z with z | z
   ·exact n2 z
   ·exact n3 z
theorem ao5 {h:Heap} {args:List Value} (hfr:A.frames=some (env :: outer)) (hf:env.frame=some L) (st:base.StaysIn h) (fn:h.FunFrames base (env :: outer)) (hx:Heap.MadeExcOf h s.heap e cls args)
  (hQ:∀ h' T',FlyT base outer e T' cls h'->h.get? T'=none->(∀ b o,h.get? b=some o->b ∉ frs (env :: outer)->h'.get? b=some o)->h.UpToSlots h'->Q () { s with heap:=h' }):wpAny M A (leaving env (.ref e)) Q E s:=by
 refine wpAny_leaves_madeW (base:=PySem.W.hideAll h (frs (env :: outer))) hfr hf (fun b o q=>PySem.W.of_hideAll _ q) (PySem.W.funFrames_hide fn aib) hx fun h' t f _ _ up=>?_
 have up':h.UpToSlots h':=(Heap.UpToSlots.of_keeps hx.keeps).trans up
 obtain ⟨T',y,hT'⟩:=FlyT.of (base:=base) f up' st (fun b hb=>(fn.mem hb).1) fn.2.2 (PySem.W.fresh_of_stays st hx.new)
 refine hQ h' T' y ?_ (fun b o q n=>f.1 b o (PySem.W.hideAll_get _ q n)) up'
 rcases hT' with z | z
 ·exact absurd z (aqr fn up' y)
 ·exact z
end
theorem ObjOk.has {P:Program} {w:World} {H:Hp} {h:Heap} {a:Addr} {o:HO} (x:ObjOk P w H h a o):∃ ob,h.get? a=some ob:=by
 cases o with
 | lst xs=>obtain ⟨_,_,_,_,e⟩:=x;exact ⟨_,e⟩
 | tup xs=>obtain ⟨_,_,_,ob,e,_⟩:=x;exact ⟨_,e⟩
 | dK kvs=>obtain ⟨_,_,_,_,o,_,_,e,_⟩:=x;exact ⟨_,e⟩
 | dT kvs=>obtain ⟨_,_,_,_,o,_,_,e,_⟩:=x;exact ⟨_,e⟩
 | set S n=>obtain ⟨o,_,_,_,e,_⟩:=x;exact ⟨_,e⟩
 | ins C dx fs=>obtain ⟨_,_,_,e,_⟩:=x;exact ⟨_,e⟩
 | own y=>exact x
 | xd fs=>obtain ⟨_,⟨_,_,_,e,_⟩,_⟩:=x;exact ⟨_,e⟩
 | rng lo hi=>obtain ⟨_,_,_,e⟩:=x;exact ⟨_,e⟩
 | frz ob u=>obtain ⟨e,_⟩:=x;exact ⟨_,e⟩
 | tbl ps=>exact ⟨_,show h.get? a=some _ from x⟩
 | met f y=>exact ⟨_,show h.get? a=some _ from x⟩
 | ext φ=>obtain ⟨_,e,_⟩:=x;exact e
theorem HOk.no {P:Program} {w:World} {H:Hp} {h:Heap} {a:Addr} (x:HOk P w H h) (e:h.get? a=none):H a=none:=by
 cases q:H a with
 | none=>rfl
 | some o=>obtain ⟨ob,z⟩:=(x a o q).has;rw [e] at z;cases z
noncomputable def CXE (P:Program) (w:World) (base:Heap):CXT:=fun outer H s E e s'=>∃ ea T C H',e=.ref ea/\s'.os=s.os/\AllBare s'.gens/\Un (frs outer) [] H H' s.heap s'.heap/\HOk P w H' s'.heap /\
 FlyT base outer ea T (.ref C) s'.heap/\s.heap.get? ea=none/\s.heap.get? T=none/\H' ea=none/\H' T=none/\E (.ref C) none H'
section
variable {P:Program} {w:World} {K:PySem.W.Frag} {mg:Str->Option Value} {base:Heap} {N:List Str} {qual:Str} {scope:Scope} {f:Addr} {cd:Value} {A:Around} {outer:List Env} {s0:Shared} {H0:Hp} {E:XK}
theorem Un.back {X:Cx} {pins:List (Addr × Obj)} {σ:St} {H:Hp} {s:Shared} {h':Heap} (I:Inv X pins σ H s) (hx:X.ex=[]) (keep:∀ b o,X.s₀.heap.get? b=some o->s.heap.get? b=some o->b ∉ frs X.stack->h'.get? b=some o)
  (keep':∀ b o o',X.s₀.heap.get? b=some o->s.heap.get? b=some o'->∃ o2,h'.get? b=some o2) (up:s.heap.UpToSlots h'):Un X.fs [] X.H₀ H X.s₀.heap h':=by
 have nl:∀ b o,X.s₀.heap.get? b=some o->b ∉ X.fs->b ∉ frs X.stack:=fun b o q nf m=>by
  rcases List.mem_cons.mp (I.stkSub b m) with z | z
  ·exact absurd (Nat.lt_of_lt_of_le (Heap.lt_size q) (z ▸ I.ok.above)) (Nat.lt_irrefl _)
  ·exact nf z
 have nx:∀ b:Addr,b ∉ X.ex:=fun b z=>by rw [hx] at z;cases z
 refine ⟨fun b o q n hb _=>keep b o q (I.base.keep b o q n hb (nx b)) (nl b o q hb),fun b o q n hb _=>?_,fun b o q n _=>I.base.free b o q n (nx b),fun b o q _=>?_,I.base.tups,I.base.frzs,I.base.tbls⟩
 ·obtain ⟨sl,e⟩:=I.base.slot b o q n hb (nx b)
  obtain ⟨_,o',e',hn⟩:=I.funs.mem hb
  rw [e] at e';cases e'
  obtain ⟨sl',e2⟩:=up b _ e hn
  exact ⟨sl',e2⟩
 ·obtain ⟨o',e⟩:=I.base.there b o q (nx b)
  exact keep' b o o' q e
theorem a0a:agp (CXE P w base) (cxOf (CXE P w base) P w K mg base N qual scope f cd A outer s0 H0 E) E:=by
 intro pins σ H s e s' I h
 obtain ⟨ea,T,C,H',rfl,ho,hg,un,hok,fl,ne,nT,he,hT,hE⟩:=h
 have J:=I.call' ho un hok hg (fun b z=>absurd z (by simp))
 have pre:∀ b o,s0.heap.get? b=some o->∃ o',s.heap.get? b=some o':=fun b o q=>I.base.there b o q (fun z=>absurd (show b∈([]:List Addr) from z) (by simp))
 have n1:∀ b o,s0.heap.get? b=some o->b ≠ ea:=fun b o q z=>by obtain ⟨o',r⟩:=pre b o q;rw [z,ne] at r;cases r
 have n2:∀ b o,s0.heap.get? b=some o->b ≠ T:=fun b o q z=>by obtain ⟨o',r⟩:=pre b o q;rw [z,nT] at r;cases r
 refine asu I.ok.frames rfl fl fun h' T' fl' hT' keep up=>?_
 have U:=Un.back J rfl (h':=h') (fun b o q r m=>keep b o r (n1 b o q) (n2 b o q) m) (fun b o o' q r=>by
  by_cases m:b∈frs (envOfC qual scope s0.heap.objs.size f cd :: outer)
  ·obtain ⟨_,o2,e2,hn⟩:=fl.funs.mem m
   obtain ⟨sl,e3⟩:=up b o2 e2 hn
   exact ⟨_,e3⟩
  ·exact ⟨o',keep b o' r (n1 b o q) (n2 b o q) m⟩) up
 have tr:∀ b u,H' b=some u->∀ v,s'.heap.get? b=some v->h'.get? b=some v:=fun b u q v r=>keep b v r (fun z=>by rw [z,he] at q;cases q) (fun z=>by rw [z,hT] at q;cases q) (fun m=>by rw [J.stkFree b m] at q;cases q)
 refine ⟨ea,T',C,H',rfl,ho.trans I.os,hg,U,fun b u q=>(hok b u q).stay (fun c v hc r=>?_) (fun _ q=>q) (fun _ _ q=>q),fl',?_,?_,he,?_,hE⟩
 ·rcases hc with z | z
  ·rw [z] at r ⊢;exact tr b u q v r
  ·exact tr c _ z v r
 ·cases q:s0.heap.get? ea with
  | none=>rfl
  | some o=>exact absurd rfl (n1 ea o q)
 ·cases q:s0.heap.get? T' with
  | none=>rfl
  | some o =>
   rcases hT' with z | z
   ·exact absurd z (n2 T' o q)
   ·obtain ⟨o',r⟩:=J.base.there T' o q (fun z=>absurd (show T'∈([]:List Addr) from z) (by simp))
    rw [z] at r;cases r
 ·rcases hT' with z | z
  ·rw [z];exact hT
  ·exact hok.no z
theorem av6 {pins:List (Addr × Obj)} {σ:St} {H:Hp} {s:Shared} {h1:Heap} {e C:Addr} {args:List Value} (I:Inv (cxOf (CXE P w base) P w K mg base N qual scope f cd A outer s0 H0 E) pins σ H s) (m:Heap.MadeExcOf s.heap h1 e (.ref C) args)
  (hE:E (.ref C) none H):(cxOf (CXE P w base) P w K mg base N qual scope f cd A outer s0 H0 E).xe (.ref e) { s with heap:=h1 }:=by
 have pre:∀ b o,s0.heap.get? b=some o->∃ o',s.heap.get? b=some o':=fun b o q=>I.base.there b o q (fun z=>absurd (show b∈([]:List Addr) from z) (by simp))
 refine ao5 (s:={ s with heap:=h1 }) I.ok.frames rfl I.bk I.stack m fun h' T' fl' hT' keep up=>?_
 have U:=Un.back I rfl (h':=h') (fun b o q r m=>keep b o r m) (fun b o o' q r=>by
  by_cases m:b∈frs (envOfC qual scope s0.heap.objs.size f cd :: outer)
  ·obtain ⟨_,o2,e2,hn⟩:=I.stack.mem m
   obtain ⟨sl,e3⟩:=up b o2 e2 hn
   exact ⟨_,e3⟩
  ·exact ⟨o',keep b o' r m⟩) up
 have tr:∀ b u,H b=some u->∀ v,s.heap.get? b=some v->h'.get? b=some v:=fun b u q v r=>keep b v r (fun m=>by rw [I.stkFree b m] at q;cases q)
 refine ⟨e,T',C,H,rfl,I.os,I.bare,U,fun b u q=>(I.hok b u q).stay (fun c v hc r=>?_) (fun _ q=>q) (fun _ _ q=>q),fl',?_,?_,I.hok.no m.new,I.hok.no hT',hE⟩
 ·rcases hc with z | z
  ·rw [z] at r ⊢;exact tr b u q v r
  ·exact tr c _ z v r
 ·cases q:s0.heap.get? e with
  | none=>rfl
  | some o=>obtain ⟨o',r⟩:=pre e o q;rw [m.new] at r;cases r
 ·cases q:s0.heap.get? T' with
  | none=>rfl
  | some o=>obtain ⟨o',r⟩:=pre T' o q;rw [hT'] at r;cases r
end
end L2
namespace L2
open PySem PySem.Spec PyProof.Rows
section
variable {M:Model} {A:Around} {E:Value->Shared->Prop}
variable {nm q nm' q':Str} {C N D N':Addr} {bs bm bs' bm':List Value} {hdct hdct':Bool} {sn sn':List Str} {sub sub':List Value} {ab ab':Bool} {col col':Option Bool} {dd dd':Option Addr} {k0 k1 k2 k3 k5 j0 j1 j2 j3 j5:Option Value} {newId newId':String}
theorem ajo {h:Heap} {g:Array GenState} {d:Drawn} {t:Nat} {os:OsState} {e:Addr} {oe:Obj} {Q:Bool->Shared->Prop}
  (hC:h.get? C=some (excClassObj nm q C N bs bm hdct sn sub ab col dd k0 k1 k2 k3 k5 newId)) (hD:h.get? D=some (excClassObj nm' q' D N' bs' bm' hdct' sn' sub' ab' col' dd' j0 j1 j2 j3 j5 newId')) (he:h.get? e=some oe) (hcls:oe.cls=.ref C)
  (hbase:bm'.contains (.type "BaseException")=true) (hin:(Value.ref C :: bm).contains (.ref D)=true) (hq:Q true ⟨h,g,d,t,os⟩):wpAny M A (excMatches (.ref e) (.ref D)) Q E ⟨h,g,d,t,os⟩:=by
 have hcB:(Value.ref D :: bm').contains (.type "BaseException")=true:=by rw [List.contains_cons,hbase,Bool.or_true]
 have f:=tc_notTuple
 unfold excMatches
 repeat (first | (with_reducible refine wpAny_loadPart_at he ?_;rw [hcls]) | with_reducible refine wpAny_loadPart_at hD ?_ | (with_reducible refine wpAny_isSubtype_exc hD ?_;rw [hcB]) | (with_reducible refine wpAny_isSubtype_exc hC ?_;rw [hin]) | wp_step)
 exact hq
end
noncomputable abbrev bmV:List Value:=[.type "ValueError",.type "Exception",.type "BaseException",.type "object"]
abbrev XOk (K:PySem.W.Frag) (mg:Str->Option Value) (x:Str) (C:Addr):Prop:=∀ h:Heap,K.In h->OwnCls x C bmV "ValueError.__new__" mg h
def XSub (K:PySem.W.Frag) (C D:Addr):Prop:=∀ h:Heap,K.In h->∃ nm q N bs bm hdct sn sub ab col dd k0 k1 k2 k3 k5 newId,
 h.get? C=some (excClassObj nm q C N bs bm hdct sn sub ab col dd k0 k1 k2 k3 k5 newId)/\(Value.ref C :: bm).contains (.ref D)=true
section
variable {X:Cx}
theorem asv {x:Str} {C:Addr} {np cpos pos:Pos} {e0:Expr} {es:List Expr} {ta:TA} {W:Hp->Prop} (c:XOk X.K X.mg x C) (hg:Gl X x) (hc:X.calm=true) (ha:PA X (e0 :: es) ta)
  (hx:∀ (pins:List (Addr × Obj)) (σ:St) (H:Hp) (s:Shared) (h1:Heap) (e:Addr) (args:List Value),Inv X pins σ H s->Heap.MadeExcOf s.heap h1 e (.ref C) args->W H->X.xe (.ref e) { s with heap:=h1 })
  (hdb:(x == ("__debug__" : Str))=false:=by decide) (he:starEach (e0 :: es) X.env=(false,eval e0 X.env) :: starEach es X.env:=by rfl) (hpl:(backTo cpos (starEach es X.env)).any (·.1)=false:=by rfl) :
  PS X (.Raise (some (.Call (.Name x np) (e0 :: es) [] cpos)) none pos) (fun _ σ H=>ta σ H fun vs H1=>vs.length<=sizeLine/\W H1):=by
 intro pins s σ H D I h
 obtain ⟨tl,N,nm,q,bs,hdct,sn,sub,ab,col,dd,k0,k1,k2,k3,k5,mN,hC,hN,hni,T⟩:=(c X.base I.mod.kin).obj
 refine wpAny_Raise_call_subT (C:=C) (nm:=nm) (q:=q) (N:=N) (bs:=bs) (bm:=tl) (hdct:=hdct) (sn:=sn) (sub:=sub) (ab:=ab) (col:=col) (dd:=dd) (k0:=k0) (k1:=k1) (k2:=k2) (k3:=k3) (k5:=k5)
  PySem.F.excBase_ValueError (mN:=mN) (T.hasType PySem.F.excBase_ValueError.hasBase) (I.ok.hd hc) (by rw [he];show (false || (backTo cpos (starEach es X.env)).any (·.1))=false;rw [hpl];rfl) hni (ae6 I hg (c X.base I.mod.kin).bound ⟨rfl,?_⟩ hdb)
 have hh:=ha cpos pins s σ H _ I h
 rw [he] at hh ⊢
 refine Calls.evalArgs_plain (thn hh fun us s2 z=>?_)
 obtain ⟨vs,H1,I1,r,hl,w⟩:=z
 exact ⟨rfl,by rw [← r.length];exact hl,I1.bk _ _ hC,hN.keeps I1.bk,T.keeps I1.bk,fun h' e m=>hx pins σ H1 s2 h' e us I1 m w⟩
def afo (X:Cx) (pins:List (Addr × Obj)) (b:Addr):Prop:=X.s₀.heap.get? b=none/\b ≠ X.env.locals/\(∀ x c,X.env.cells.lookup x=some c->c ≠ b)/\∀ p∈X.pn ++ pins,p.1 ≠ b
theorem at5 {pins:List (Addr × Obj)} {σ:St} {H:Hp} {s:Shared} (I:Inv X pins σ H s) (hx:X.ex=[]) {b:Addr} (e:s.heap.get? b=none):afo X pins b:=by
 refine ⟨?_,fun z=>?_,fun x c hc z=>?_,fun p hp z=>?_⟩
 ·cases q:X.s₀.heap.get? b with
  | none=>rfl
  | some o=>obtain ⟨o',r⟩:=I.base.there b o q (by rw [hx];simp);rw [e] at r;cases r
 ·obtain ⟨m,⟨o,_,_,ho,_⟩,_⟩:=I.loc
  rw [← z,e] at ho;cases ho
 ·obtain ⟨v,o,ho,_⟩:=I.cell x c hc
  rw [z,e] at ho;cases ho
 ·have:=(I.pin p hp).1
  rw [z,e] at this;cases this
theorem Inv.flew {pins:List (Addr × Obj)} {σ:St} {H:Hp} {s:Shared} {h':Heap} {e T:Addr} (J:Inv X pins σ H s) (hx:X.ex=[]) (ne:afo X pins e) (nT:afo X pins T) (he:H e=none) (hT:H T=none)
  (keep:∀ b o,s.heap.get? b=some o->b ≠ e->b ≠ T->b ∉ frs X.stack->h'.get? b=some o) (up:s.heap.UpToSlots h'):Inv X pins σ H { s with heap:=h' }:=by
 have n1:∀ b o,X.s₀.heap.get? b=some o->b ≠ e:=fun b o q z=>by rw [z,ne.1] at q;cases q
 have n2:∀ b o,X.s₀.heap.get? b=some o->b ≠ T:=fun b o q z=>by rw [z,nT.1] at q;cases q
 have U:=Un.back J hx (h':=h') (fun b o q r m=>keep b o r (n1 b o q) (n2 b o q) m) (fun b o o' q r=>by
  by_cases m:b∈frs X.stack
  ·obtain ⟨_,o2,e2,hn⟩:=J.stack.mem m
   obtain ⟨sl,e3⟩:=up b o2 e2 hn
   exact ⟨_,e3⟩
  ·exact ⟨o',keep b o' r (n1 b o q) (n2 b o q) m⟩) up
 have tr:∀ b u,H b=some u->∀ v,s.heap.get? b=some v->h'.get? b=some v:=fun b u q v r=>keep b v r (fun z=>by rw [z,he] at q;cases q) (fun z=>by rw [z,hT] at q;cases q) (fun m=>by rw [J.stkFree b m] at q;cases q)
 have ck:∀ c v,s.heap.IsCell c v->h'.IsCell c v:=fun c v z_=>by
  obtain ⟨o,ho,hd⟩:=z_
  obtain ⟨sl,z⟩:=up c o ho (fun vs q=>by rw [hd] at q;cases q)
  exact ⟨_,z,hd⟩
 refine ⟨J.ok,J.os,J.bare,by rw [hx];exact U,?_,fun x c z=>?_,J.free,J.freeC,fun p hp=>?_,fun b u q=>(J.hok b u q).stay (fun c v hc r=>?_) (fun _ q=>q) (fun _ _ q=>q),J.len⟩
 ·obtain ⟨m,hn,hl⟩:=J.loc
  refine ⟨m,up.ns hn,fun i x v e1 e2 e3=>?_⟩
  obtain ⟨u,r,l⟩:=hl i x v e1 e2 e3
  refine ⟨u,r,?_⟩
  rcases l with l | ⟨k,c,e,z⟩
  ·exact .inl l
  ·exact .inr ⟨k,c,e,ck c _ z⟩
 ·obtain ⟨v,q⟩:=J.cell x c z
  exact ⟨v,ck c v q⟩
 ·obtain ⟨a,b,c,d,f⟩:=J.pin p hp
  refine ⟨keep p.1 p.2 a (ne.2.2.2 p hp) (nT.2.2.2 p hp) (fun m=>?_),b,c,d,f⟩
  rcases List.mem_cons.mp (J.stkSub _ m) with z | z
  ·exact c z
  ·exact d z
 ·rcases hc with z | z
  ·rw [z] at r ⊢;exact tr b u q v r
  ·exact tr c _ z v r
def ExAt (e C:Addr) (h:Heap):Prop:=∃ ob,h.get? e=some ob/\ob.cls=.ref C
theorem Inv.track {pins:List (Addr × Obj)} {σ:St} {H:Hp} {s:Shared} {e C:Addr} (J:Inv X pins σ H s) (hx:X.ex=[]) (ne:afo X pins e) (he:H e=none) (hf:e ∉ X.fs) (x:ExAt e C s.heap):Inv X pins σ (upd H e (.ext (ExAt e C))) s:=by
 have nn:∀ b u,H b=some u->b ≠ e:=fun b u q z=>by rw [z,he] at q;cases q
 have n1:∀ b o,X.s₀.heap.get? b=some o->b ≠ e:=fun b o q z=>by rw [z,ne.1] at q;cases q
 refine ⟨J.ok,J.os,J.bare,⟨J.base.keep,J.base.slot,fun b o q n hb=>?_,J.base.there,fun b xs q=>?_,fun b o u q=>?_,fun b ps q=>?_⟩,J.loc,J.cell,?_,fun y c z=>?_,fun p hp=>?_,fun b u q=>?_,J.len⟩
 ·rw [aaf (n1 b o q)];exact J.base.free b o q n hb
 ·have:=J.base.tups b xs q
  rw [aaf (nn b _ this)];exact this
 ·have:=J.base.frzs b o u q
  rw [aaf (nn b _ this)];exact this
 ·obtain ⟨more,this⟩:=J.base.tbls b ps q
  exact ⟨more,by rw [aaf (nn b _ this)];exact this⟩
 ·rw [aaf (Ne.symm ne.2.1)];exact J.free
 ·rw [aaf (ne.2.2.1 y c z)];exact J.freeC y c z
 ·obtain ⟨a,b,c,d,f⟩:=J.pin p hp
  exact ⟨a,by rw [aaf (ne.2.2.2 p hp)];exact b,c,d,f⟩
 ·by_cases z:b=e
  ·subst z
   rw [aai] at q;cases q
   obtain ⟨ob,e1,e2⟩:=id x
   exact ⟨x,⟨ob,e1⟩,fun h1 h2 ⟨o,a,c⟩ k=>⟨o,k o a,c⟩⟩
  ·rw [aaf z] at q
   exact (J.hok b u q).stay (fun _ _ _ r=>r) (fun c r=>by rw [aaf (nn c _ r)];exact r) (fun c xs r=>by rw [aaf (nn c _ r)];exact r)
theorem afp {M:Model} {A:Around} {E:Value->Shared->Prop} {Q:Unit->Shared->Prop} {pins:List (Addr × Obj)} {σ:St} {H:Hp} {s:Shared} {i:Nat} {n:Str} {pos:Pos} (I:Inv X pins σ H s) (hN:X.N.Nodup) (hi:X.N[i]?=some n) (hk:X.env.kindOf n=some .local)
  (h:∀ s',Inv X pins (σ.set i none) H s'->Q () s'):wpAny M A (do bindName X.env n .none;unbindBehindTheSuite X.env n pos) Q E s:=by
 obtain ⟨m,hn,hl⟩:=id I.loc
 have hcls:(X.env.scope.kind == .class || (X.env.scope.kind == .module && X.env.locals != X.env.globals))=false:=by rw [I.ok.kind];rfl
 have hiσ:i < σ.length:=by rw [I.len];exact (List.getElem?_eq_some_iff.mp hi).1
 refine wpAny_nameGoes_keeps hk hn hcls fun h' v hn' hs=>h _ ?_
 have neL:∀ b o,X.s₀.heap.get? b=some o->b ≠ X.env.locals:=fun b o e=>Nat.ne_of_lt (Nat.lt_of_lt_of_le (Heap.lt_size e) I.ok.above)
 refine ⟨I.ok,I.os,I.bare,⟨fun b o e n hb hx=>(hs.2 b (neL b o e)).trans (I.base.keep b o e n hb hx),fun b o e n hb hx=>?_,I.base.free,fun b o e hx=>?_,I.base.tups,I.base.frzs,I.base.tbls⟩,⟨_,hn',fun j y u e1 e2 e3=>?_⟩,fun y c e=>?_,I.free,I.freeC,fun p hp=>?_,fun b u q=>(I.hok b u q).stay (fun c w hc r=>(hs.2 c (fun z=>?_)).trans r) (fun _ q=>q) (fun _ _ q=>q),by simpa using I.len⟩
 ·obtain ⟨sl,e1⟩:=I.base.slot b o e n hb hx
  exact ⟨sl,(hs.2 b (neL b o e)).trans e1⟩
 ·obtain ⟨o',e1⟩:=I.base.there b o e hx
  exact ⟨o',(hs.2 b (neL b o e)).trans e1⟩
 ·by_cases hj:j=i
  ·subst hj
   rw [List.getElem?_set_self hiσ] at e2;cases e2
  ·rw [List.getElem?_set_ne (Ne.symm hj)] at e2
   obtain ⟨u',r',q⟩:=hl j y u e1 e2 e3
   refine ⟨u',r',?_⟩
   rcases q with ⟨k,e⟩ | ⟨k,c,e,z⟩
   ·refine .inl ⟨k,?_⟩
    have:y ≠ n:=fun e=>hj (nodup_ix hN e1 (e ▸ hi))
    simp [this,e]
   ·exact .inr ⟨k,c,e,z.sameBut hs (I.cne y c e)⟩
 ·obtain ⟨w',z⟩:=I.cell y c e
  exact ⟨w',z.sameBut hs (I.cne y c e)⟩
 ·obtain ⟨e,n,ne,nf,d⟩:=I.pin p hp
  exact ⟨(hs.2 p.1 ne).trans e,n,ne,nf,d⟩
 ·rcases hc with y | y
  ·rw [← y,z,I.free] at q;cases q
  ·rw [z,I.free] at y;cases y
noncomputable abbrev Cx.marked (X:Cx) (ea:Addr):Cx:={ X with A:=X.A.mark (some (.ref ea)),calm:=false }
theorem Inv.mark {pins:List (Addr × Obj)} {σ:St} {H:Hp} {s:Shared} (I:Inv X pins σ H s) (ea:Addr):Inv (X.marked ea) pins σ H s :=
 ⟨⟨I.ok.mod,I.ok.kind,I.ok.glob,I.ok.blt,I.ok.above,I.ok.inj,I.ok.has,I.ok.cab,fun z=>(by cases z),I.ok.frames,I.ok.stk,I.ok.exf,I.ok.bs,I.ok.bsz,I.ok.noex,I.ok.exfs,I.ok.funs,I.ok.frf⟩,I.os,I.bare,I.base,I.loc,I.cell,I.free,I.freeC,I.pin,I.hok,I.len⟩
theorem Inv.unmark {pins:List (Addr × Obj)} {σ:St} {H:Hp} {s:Shared} {ea:Addr} (ok:X.Ok) (I:Inv (X.marked ea) pins σ H s):Inv X pins σ H s :=
 ⟨ok,I.os,I.bare,I.base,I.loc,I.cell,I.free,I.freeC,I.pin,I.hok,I.len⟩
noncomputable abbrev XW:=Value->St->Hp->Prop
def XP (X:Cx) (pins:List (Addr × Obj)) (W:XW) (e:Value) (s':Shared):Prop:=∃ σ ea T C H',e=.ref ea/\Inv X pins σ H' s'/\FlyT X.base X.stack ea T (.ref C) s'.heap/\afo X pins ea/\afo X pins T/\H' ea=none/\H' T=none/\W (.ref C) σ H'
def PXs (X:Cx) (st:List Stmt) (t:XW->TS):Prop :=
 ∀ (pins:List (Addr × Obj)) (s:Shared) (σ:St) (H:Hp) (D:Ends) (W:XW),Inv X pins σ H s->t W D σ H->wpAny (model X.prog X.w) X.A (execs st X.env) (SP X pins D) (XP X pins W) s
theorem at6 {c:Expr} {a b:List Stmt} {tc:TT} {t u:XW->TS} {pos:Pos} (hc:PT X.nox c tc) (ha:PXs X a t) (hb:PXs X b u):PXs X [.If c a b pos] (fun W D σ H=>tc σ H fun v H1=>if v=true then t W D σ H1 else u W D σ H1):=by
 intro pins s σ H D W I h
 refine wpAny_execs_cons (thn (Q:=SP X pins D) (wpAny_If (wpAny_mono (hc pins s σ H _ (I.wish _) h) (fun d s1 ⟨H1,I1,q1⟩=>?_) fun _ _ z=>False.elim z)) fun f s1 q=>?_)
 ·cases d with
  | true=>exact ha pins s1 σ H1 D W I1.unwish q1
  | false=>exact hb pins s1 σ H1 D W I1.unwish q1
 ·cases f with
  | next=>exact wpAny_execs_nil q
  | ret v=>exact q
  | brk=>exact q
  | cont=>exact q
theorem av7 {k:Nat} {f:Addr} {fd:FuncData} {ps:List Str} {sp:Sp} {x:Str} {p pos ep:Pos} {e:Expr} {es:List Expr} {ta:TA} (F:FnOk X.prog X.w X.K X.mg X.base (CXE X.prog X.w X.base) k f fd ps sp) (hr:Room k X.A) (hx:X.ex=[]) (hg:Gl X x) (hm:X.mg x=some (.ref f)) (hk:PySem.W.keepIn X.K (.ref f)=true)
  (hb:Binds X.K fd ps []) (ha:PA X.nox (e :: es) ta) (hdb:(x == ("__debug__" : Str))=false:=by decide) (he:starEach (e :: es) X.env=(false,eval e X.env) :: starEach es X.env:=by rfl) (hpl:(backTo pos (starEach es X.env)).any (·.1)=false:=by rfl)
  (hs:swapsWith (.Call (.Name x p) (e :: es) [] pos) none ep.line X.env=pure false:=by rfl) :
  PXs X [.Expr (.Call (.Name x p) (e :: es) [] pos) ep] (fun W D σ H=>ta σ H fun vs H1=>sp vs H1 (fun _ H2=>D.nx σ H2) (fun c _ H2=>W c σ H2)):=by
 intro pins s σ H D W I h
 refine wpAny_execs_cons (thn (Q:=SP X pins D) (wpAny_Expr_any (Q:=SP X pins D) ?_ I.quiet hs) fun f s1 q=>?_)
 ·refine wpAny_Call_Name_kw (ae6 I hg hm ?_ hdb)
  refine PySem.W.callWith_K (h₀:=X.base) I.ok.mod.kin hk (wpAny_mono (ha pos pins s σ H _ (I.wish _) h) (fun us s1 ⟨vs,H1,I1,r,q⟩=>⟨I1.kIn,?_⟩) fun _ _ z=>False.elim z) he hpl
  have I1:=I1.unwish
  have hl:us.length=ps.length:=by rw [← r.length];exact F.len _ _ _ _ q
  refine wpAny_call (codeAny_mono (F.run X.A X.stack s1 H1 ⟨us,[]⟩ us vs _ _ hr I1.env0 (by have:=hb s1 us I1.kIn (by simpa using hl);simpa using this) r q) fun r s' hq=>?_)
  cases r with
  | error e =>
   obtain ⟨ea,T,C,H',rfl,ho,hg,un,hok,fl,ne,nT,he,hT,hE⟩:=hq
   exact ⟨σ,ea,T,C,H',rfl,I1.call' ho un hok hg (fun b z=>absurd z (by simp)),fl,at5 I1 hx ne,at5 I1 hx nT,he,hT,hE⟩
  | ok fl =>
   cases fl with
   | ret u =>
    obtain ⟨v,H2,J,_,q⟩:=I1.after hq
    exact ⟨σ,H2,J,q⟩
   | next=>exact False.elim hq
   | brk=>exact False.elim hq
   | cont=>exact False.elim hq
 ·cases f with
  | next=>exact wpAny_execs_nil q
  | ret v=>exact q
  | brk=>exact q
  | cont=>exact q
def tTry (K:PySem.W.Frag) (D0:Addr) (i:Nat) (tb:XW->TS) (ts:TS):TS:=fun D σ H=>tb (fun cls σ1 H1=>∃ C,cls=.ref C/\XSub K C D0/\∀ ea,H1 ea=none ->
 ts { nx:=fun σ2 H2=>D.nx (σ2.set i none) H2,rt:=D.rt,bk:=fun σ2 H2=>D.bk (σ2.set i none) H2,ct:=fun σ2 H2=>D.ct (σ2.set i none) H2 } (σ1.set i (some (.ref ea))) (upd H1 ea (.ext (ExAt ea C)))) D σ H
theorem ayz {body suite:List Stmt} {b0:Stmt} {x n:Str} {D0:Addr} {i:Nat} {tb:XW->TS} {ts:TS} {np hpos pos:Pos} (hst:X.stack=X.env :: X.outer/\X.env.frame=some X.env.locals) (hx:X.ex=[]) (c:XOk X.K X.mg x D0) (hg:Gl X x) (hN:X.N.Nodup) (hi:X.N[i]?=some n) (hk:X.env.kindOf n=some .local)
  (hb:PXs X body tb) (hs:∀ ea,PSs (X.marked ea).nox (b0 :: suite) ts) (hdb:(x == ("__debug__" : Str))=false:=by decide) :
  PS X (.Try body [.ExceptHandler (some (.Name x np)) (some n) (b0 :: suite) hpos] [] [] pos) (tTry X.K D0 i tb ts):=by
 intro pins s σ H D I h
 refine wpAny_Try_except (wpAny_mono (hb pins s σ H D _ I h) (fun f s1 q=>?_) fun e s1 q=>?_)
 ·cases f with
  | next=>exact wpAny_execs_nil q
  | ret v=>exact q
  | brk=>exact q
  | cont=>exact q
 ·obtain ⟨σ1,ea,T,C,H1,rfl,J,fl,nwE,nwT,he,hT,C',hC',hsub,hts⟩:=q
  cases hC'
  obtain ⟨oe,vs,oT,ts',a0,g1,g2,g3,g4,g5,g6,g7,g8⟩:=id fl.tr
  have hfr:X.A.frames=some (X.env :: X.outer):=J.ok.frames.trans (congrArg some hst.1)
  have fw:Heap.FlyingW (PySem.W.hideAll s1.heap (ea :: T :: frs X.stack)) (X.env :: X.outer) ea (.ref C) a0 s1.heap:=by
   rw [← hst.1]
   exact ⟨fun b o q=>PySem.W.of_hideAll _ q,PySem.W.hideAll_none _ (.head _),PySem.W.funFrames_hide fl.funs fun en hn a ha => .tail _ (.tail _ (aib en hn a ha)),oe,vs,T,oT,ts',g1,g2,g3,g4,PySem.W.hideAll_none _ (.tail _ (.head _)),g5,g6,g7,g8⟩
  have kp:∀ {h':Heap},(PySem.W.hideAll s1.heap (ea :: T :: frs X.stack)).StaysIn h'->∀ b o,s1.heap.get? b=some o->b ≠ ea->b ≠ T->b ∉ frs X.stack->h'.get? b=some o:=fun {h'} k b o q n1 n2 n3=>k b o (PySem.W.hideAll_get _ q fun z=>by
   rcases List.mem_cons.mp z with z | z
   ·exact n1 z
   ·rcases List.mem_cons.mp z with z | z
    ·exact n2 z
    ·exact n3 z)
  have bs:∀ {h':Heap},(PySem.W.hideAll s1.heap (ea :: T :: frs X.stack)).StaysIn h'->∀ b o,X.base.get? b=some o->h'.get? b=some o:=fun {h'} k b o q=>kp k b o (J.bk b o q) (fun z=>by rw [z,fl.new] at q;cases q) (fun z=>by rw [z,fl.newT] at q;cases q) (fun z=>by rw [(fl.funs.mem z).1] at q;cases q)
  refine wpAny_looks_onW hfr hst.2 fw fun h4 f4 up4=>?_
  refine wpAny_landsW f4 fun h5 f5 up5=>?_
  obtain ⟨nm,q,N,bs',bm,hdct,sn,sub,ab,col,dd,k0,k1,k2,k3,k5,newId,hC,hin⟩:=hsub h5 (J.mod.kin.keeps (bs f5.1))
  obtain ⟨tl,N',nm',q',bs2,hdct',sn',sub',ab',col',dd',j0,j1,j2,j3,j5,mN,hD,hN',hni,Tl⟩:=(c h5 (J.mod.kin.keeps (bs f5.1))).obj
  obtain ⟨ob,hob,hobc⟩:=f5.there
  refine wpAny_handleBy_cons (codeAny_handlers_test ?_) (by intro q;cases q)
  refine Calls.Name_function_global J.ok.kind hg (Calls.loadGlobal_global (by rw [J.ok.glob];exact J.mod.glob.keeps (bs f5.1)) (c h5 (J.mod.kin.keeps (bs f5.1))).bound ?_) hdb
  refine ajo hC hD hob hobc (Tl.hasType PySem.F.excBase_ValueError.hasBase) hin ?_
  refine codeAny_handlers_suite_as ?_
  refine lands_againW f5 fun h6 f6 up6=>?_
  have J6:Inv X pins σ1 H1 { s1 with heap:=h6 }:=J.flew hx nwE nwT he hT (kp f6.1) ((up4.trans up5).trans up6)
  have J7:=J6.track hx nwE he (fun z=>?nf) f6.there
  case nf =>
   obtain ⟨_,o,ho,hn⟩:=J.funs.mem z
   rw [g1] at ho;cases ho
   exact hn vs g3
  refine af1 J7 hN hi (.inl hk) (show RelV (.ref ea) (.ref ea) from rfl) (fun s7 I7=>?_) (.inr hk)
  refine wpAny_mono (hs ea pins s7 _ _ _ ((I7.mark ea).wish _) (hts ea he)) (fun f s8 q=>?_) fun _ _ z=>False.elim z
  have ok:=I.ok
  cases f with
  | next =>
   obtain ⟨σ',H',K,q⟩:=q
   exact afp (Inv.unmark ok K.unwish) hN hi hk fun s9 K9=>⟨_,_,K9,q⟩
  | brk =>
   obtain ⟨σ',H',K,q⟩:=q
   exact afp (Inv.unmark ok K.unwish) hN hi hk fun s9 K9=>⟨_,_,K9,q⟩
  | cont =>
   obtain ⟨σ',H',K,q⟩:=q
   exact afp (Inv.unmark ok K.unwish) hN hi hk fun s9 K9=>⟨_,_,K9,q⟩
  | ret u =>
   obtain ⟨v,σ',H',K,r,q⟩:=q
   exact afp (Inv.unmark ok K.unwish) hN hi hk fun s9 K9=>⟨v,_,_,K9,r,q⟩
end
end L2
namespace VL
open PySem PySem.Spec L2
noncomputable abbrev VPX:=List Sl->(Sl->Prop)->(Addr->Prop)->Prop
def spX (K:PySem.W.Frag) (f:VPX):Sp:=fun vs H Q E=>∃ G ss Q' R',Same G H/\FT G H/\ArgsOk K G vs ss/\f ss Q' R'/\(∀ s,Q' s->∀ v G' H' Fv,Out G H v G' H' s Fv->Q v H') /\
 ∀ C,R' C->∀ G' H',Out G H .non G' H' (.st .none) (fun _=>False)->E (.ref C) none H'
theorem lenX {K:PySem.W.Frag} {f:VPX} {vs:List V} {H:Hp} {Q:VK} {E:XK} {n:Nat} (h:spX K f vs H Q E) (hl:∀ ss Q' R',f ss Q' R'->ss.length=n):vs.length=n:=by
 obtain ⟨G,ss,Q',R',_,_,ao,hf,_⟩:=h
 rw [ao.length];exact hl ss Q' R' hf
def EvE (B:Bs) (E:XK) (R:Addr->Prop):Prop:=∀ C,R C->∀ (σ:St) (G H:Hp) (F:Nat->Addr->Prop) (env:En),VI B G H σ env F->E (.ref C) none H
theorem aj0 {K:PySem.W.Frag} {f:VPX} {ts:TS} {N:List Str} {vs:List V} {H:Hp} {Q:VK} {E:XK} (h:spX K f vs H Q E)
  (hb:∀ ss Q' R',f ss Q' R'->∀ B,B.K=K->EvE B E R'->EvS B ts { nx:=fun _=>Q' (.st .none),rt:=fun s _=>Q' s } (ss.map some ++ List.replicate (N.length - ss.length) none)):ts { nx:=fun _ H'=>Q .non H',rt:=Q } (L2.start N vs) H:=by
 obtain ⟨G,ss,Q',R',gh,ft,ao,hf,hQ,hR⟩:=h
 have fin:∀ {σ G' H' F env v Fv s},VI (bsP K G H vs) G' H' σ env F->RsX (bsP K G H vs) G' H' v Fv s F->Out G H v G' H' s Fv:=fun I r =>
  ⟨I.g0,I.gh,I.rs,I.gn,r.fb,r.fg,r.fo,r.ok,fun _=>I.ft⟩
 refine hb ss _ _ hf (bsP K G H vs) rfl (fun C hC σ G' H' F env I=>hR C hC G' H' (fin I (acf .non))) (L2.start N vs) G H noF _ ?_ ⟨fun σ G' H' F env I g q=>hQ _ q _ _ _ _ (fin I (acf .non)),fun σ G' H' F env v Fv s I g r q=>hQ _ q v G' H' Fv (fin I r),fun _ _ _ _ _ _ _ q=>q,fun _ _ _ _ _ _ _ q=>q⟩
 refine ⟨gh,Same.refl _,fun a o e => .inl e,Same.refl _,Same.refl _,fun a o e=>⟨o,e⟩,fun i a z=>z.elim,fun i a z=>z.elim,fun i j a z=>z.elim,fun i a z=>z.elim,fun i s e=>?_,?_,ft⟩
 ·obtain ⟨v,hv,q⟩:=ao.get (ah3 e)
  refine ⟨v,by unfold L2.start;exact ah4 hv,?_⟩
  cases s with
  | st d=>exact ⟨q,fun a z=>z⟩
  | scr ns=>exact ⟨q,fun a z=>z⟩
  | own A=>exact q.elim
  | io A=>exact q.elim
 ·unfold L2.start;simp [ao.length]
section
variable {B:Bs} {env:En} {Q':PyData->En->Prop} {QO:Sl->En->Prop} {K:PySem.W.Frag} {E:XK} {R:Addr->Prop} {D':VEnds}
theorem ae3 {f:VPX} {t:TA} (hE:EvE B E R) (h:EvA B t env fun ds e1=>f (ds.map Sl.st) (fun s=>QO s e1) R):EvO B (abk (spX K f) [] E t) env QO:=fun σ G H F Q I k=>by
 unfold abk
 simp only [List.append_nil]
 exact h σ G H F _ I fun vs G1 H1 F1 ds e1 I1 g1 r1 q1=>⟨G1,_,_,R,I1.gh,I1.ft,ArgsOk.of r1,q1,fun s q v G' H' Fv o=>k v G' H' F1 Fv s e1 (I1.out o).1 (g1.trans o.gg) (I1.out o).2 q,fun C hC G' H' o=>hE C hC σ G' H' F1 e1 (I1.out o).1⟩
theorem aqs {ta:TA} {C:Addr} (hE:EvE B E R) (hC:R C) (h:EvA B ta env fun ds _=>ds.length<=1000):EvS B (fun _ σ H=>ta σ H fun vs H1=>vs.length<=sizeLine/\E (.ref C) none H1) D' env:=fun σ G H F D I r =>
 h σ G H F _ I fun vs G1 H1 F1 ds e1 I1 g1 r1 q=>⟨by rw [r1.length];exact Nat.le_of_lt (big (Nat.le_trans q (by decide))),hE C hC σ G1 H1 F1 e1 I1⟩
end
noncomputable def OE (C:Addr):Own where
 P:=fun G H v F=>∃ a,v=.ref a/\H a=some (.ext (ExAt a C))/\∀ b,F b ↔ b=a
 mono:=fun ⟨a,e,h,f⟩ g hh=>⟨a,e,hh a _ ((f a).mpr rfl) h,f⟩
 dom:=fun ⟨a,e,h,f⟩ b z=>by rw [(f b).mp z];exact ⟨_,h⟩
def EvXs (B:Bs) (tb:XW->TS) (D':VEnds) (RX:Addr->En->Prop) (env:En):Prop:=∀ (σ:St) (G H:Hp) (F:Nat->Addr->Prop) (D:Ends) (W:XW),VI B G H σ env F->RelE B G D D' ->
 (∀ C σ' G' H' F' env',VI B G' H' σ' env' F'->Same G G'->RX C env'->W (.ref C) σ' H')->tb W D σ H
section
variable {B:Bs} {env:En} {K:PySem.W.Frag} {D':VEnds} {RX:Addr->En->Prop}
theorem aqt {tc:TT} {t u:XW->TS} (h:EvT B tc env fun b e1=>if b=true then EvXs B t D' RX e1 else EvXs B u D' RX e1):EvXs B (fun W D σ H=>tc σ H fun v H1=>if v=true then t W D σ H1 else u W D σ H1) D' RX env:=fun σ G H F D W I r w =>
 h σ G H F _ I fun b G1 H1 F1 e1 I1 g1 q=>by
  cases b with
  | true=>exact q σ G1 H1 F1 D W I1 (r.later g1) fun C σ' G' H' F' env' I' g' q'=>w C σ' G' H' F' env' I' (g1.trans g') q'
  | false=>exact q σ G1 H1 F1 D W I1 (r.later g1) fun C σ' G' H' F' env' I' g' q'=>w C σ' G' H' F' env' I' (g1.trans g') q'
theorem agb {f:VPX} {ta:TA} (h:EvA B ta env fun ds e1=>f (ds.map Sl.st) (fun _=>D'.nx e1) (fun C=>RX C e1)):EvXs B (fun W D σ H=>ta σ H fun vs H1=>spX K f vs H1 (fun _ H2=>D.nx σ H2) (fun c _ H2=>W c σ H2)) D' RX env:=fun σ G H F D W I r w =>
 h σ G H F _ I fun vs G1 H1 F1 ds e1 I1 g1 r1 q1=>⟨G1,_,_,_,I1.gh,I1.ft,ArgsOk.of r1,q1,fun s q v G' H' Fv o=>r.nx σ G' H' F1 e1 (I1.out o).1 (g1.trans o.gg) q,fun C hC G' H' o=>w C σ G' H' F1 e1 (I1.out o).1 (g1.trans o.gg) hC⟩
theorem av8 {D0:Addr} {i:Nat} {tb:XW->TS} {ts:TS} (h:EvXs B tb D' (fun C e1=>XSub K C D0/\EvS B ts { nx:=fun e=>D'.nx (e.set i none),rt:=D'.rt,bk:=fun e=>D'.bk (e.set i none),ct:=fun e=>D'.ct (e.set i none) } (e1.set i (some (.own (OE C))))) env):EvS B (tTry K D0 i tb ts) D' env:=fun σ G H F D I r=>by
 refine h σ G H F D _ I r fun C σ' G' H' F' env' I' g' q=>⟨C,rfl,q.1,fun ea he=>?_⟩
 have nG:G' ea=none:=I'.no_g he
 have I1:VI B G' (upd H' ea (.ext (ExAt ea C))) σ' env' F':=I'.grow (Same.refl _) (I'.gh.trans (abf he)) (abf he) (fun a o e => .inl e) (fun a ks e=>by
  by_cases z:a=ea
  ·subst z;rw [aai] at e;cases e
  ·rw [aaf z] at e;exact I'.ft a ks e)
 have X1:RsX B G' (upd H' ea (.ext (ExAt ea C))) (.ref ea) (fun a=>a=ea) (.own (OE C)) F':=⟨⟨ea,rfl,aai,fun b=>Iff.rfl⟩,fun a z=>z ▸ I'.no_b he,fun a z=>z ▸ nG,fun a z=>⟨.ext (ExAt ea C),by rw [z];exact aai⟩,fun j a z y=>I'.no_f (z ▸ he) j y⟩
 have I2:=I1.store X1 i
 have dn:∀ {σ2:St} {G2 H2:Hp} {F2:Nat->Addr->Prop} {e2:En},VI B G2 H2 σ2 e2 F2->VI B G2 H2 (σ2.set i none) (e2.set i none) (putF F2 i fun _=>False):=fun J=>J.slot (Fv:=fun _=>False) i none none (fun a z=>z.elim) (fun a z=>z.elim) (fun a z=>z.elim) (fun j a _ z=>z.elim) (fun s e=>by cases e)
 refine q.2 (σ'.set i (some (.ref ea))) G' _ _ _ I2 ⟨fun σ2 G2 H2 F2 e2 J g q2=>r.nx _ G2 H2 _ _ (dn J) (g'.trans g) q2,fun σ2 G2 H2 F2 e2 v Fv s J g x q2=>r.rt σ2 G2 H2 F2 e2 v Fv s J (g'.trans g) x q2,fun σ2 G2 H2 F2 e2 J g q2=>r.bk _ G2 H2 _ _ (dn J) (g'.trans g) q2,fun σ2 G2 H2 F2 e2 J g q2=>r.ct _ G2 H2 _ _ (dn J) (g'.trans g) q2⟩
end
end VL
namespace L2
open PySem PySem.Spec PyProof.Rows
section
open PySem PySem.Calls PyProof.Rows Builtin Builtin.ObjectAttr Builtin.Getset_descriptor
variable {prog:Program} {w:World} {A:Around} {E:Value->Shared->Prop} {K:PySem.W.Frag} {h:Heap} {g:Array GenState} {d:Drawn} {t:Nat} {os:OsState} {x C:Addr} {o:Obj}
theorem aic {M:Model} (hx:h.get? x=some o) (hc:o.cls=.ref C):PySem.W.Looks M h (typeOf (.ref x)) (.ref C):=hc ▸ (PySem.W.Looks.ld hx).andThen .now
structure XIn (K:PySem.W.Frag) (C:Addr):Prop where
 cl:(PySem.W.clsIn K C).isSome=true
 ga:PySem.W.findIn K (.ref C) "__getattribute__" = some (some (.builtin "BaseException.__getattribute__"))
 gn:PySem.W.findIn K (.ref C) "__getattr__" = some none
 cs:PySem.W.findIn K (.ref C) "__class__" = some (some (.builtin "object.__class__"))
 mo:PySem.W.mroIn K C (.type "object")=some true
 mb:PySem.W.mroIn K C (.type "BaseException")=some true
theorem ay0 {R:Result->Shared->Prop} {tp:Value} (X:K.In h) (c:XIn K C) (hx:h.get? x=some o) (hc:o.cls=.ref C) (hq:R (.ok (.ret (.ref C))) ⟨h,g,d,t,os⟩) :
  codeAny (model prog w) A (.call (.builtin "getset_descriptor.__get__") ⟨[.builtin "object.__class__",.ref x,tp],[]⟩) R ⟨h,g,d,t,os⟩:=by
 have L0:=aic (M:=model prog w) hx hc
 have L1:=PySem.W.looks_mroIn (M:=model prog w) X c.mo
 refine codeAny_call_builtin PySem.W.KF.slot_gs.plain PySem.W.KF.entry_gs (PySem.W.KF.slot_gs.check _ _ _ _ _ _ _ _ PySem.W.KF.type_class (PySem.W.KF.args_gs _ _ _) ?_)
 unfold Builtin.«getset_descriptor.__get__» descrGet
 rw [PySem.W.dga_obj]
 refine wpAny_bind (wpAny_pure ?_)
 unfold descrGetter descrCheckInstance descrNameAndClass isInstance
 simp only [PySem.W.KF.owner_class]
 repeat (first | (with_reducible refine L0.at ?_) | (with_reducible refine L1.at ?_) | wp_step)
 refine ⟨Code.quiet_builtin _ (by decide +kernel),codeAny_builtin PySem.W.KF.entry_class ?_⟩
 unfold Builtin.«object.__class__» shownTypeOf
 repeat (first | (with_reducible refine L0.at ?_) | (with_reducible refine L1.at ?_) | wp_step)
 exact hq
theorem asw {M:Model} {nameV:Value} {Q:Unit->Shared->Prop} (X:K.In h) (c:XIn K C) (hx:h.get? x=some o) (hc:o.cls=.ref C) (hq:Q () ⟨h,g,d,t,os⟩):wpAny M A (checkBuiltinCall "BaseException.__getattribute__" ⟨[.ref x,nameV],[]⟩) Q E ⟨h,g,d,t,os⟩:=by
 have hk:builtinKind "BaseException.__getattribute__" = some .slot:=by decide +kernel
 have hsplit:splitId "BaseException.__getattribute__" = some ("BaseException","__getattribute__"):=by decide +kernel
 have ha:=F.args_bexc_ga (.ref x) nameV
 have L0:=aic (M:=M) hx hc
 have L1:=PySem.W.looks_mroIn (M:=M) X c.mb
 simp only [checkBuiltinCall,hk,hsplit]
 refine wpAny_bind ?_
 ·unfold isInstance
  refine wpAny_bind (L0.at (L1.at ?_))
  repeat (first | wp_step)
  exact hq
theorem asx {tk:Tok} {Q:Fin->Shared->Prop} (X:K.In h) (c:XIn K C) (hx:h.get? x=some o) (hc:o.cls=.ref C) (hq:Q (.done (.ret (.ref C))) ⟨h,g,d,t,os⟩) :
  wpAny (model prog w) A (Builtin.«object.__getattribute__» ⟨[.ref x,.str "__class__" tk],[]⟩) Q E ⟨h,g,d,t,os⟩:=by
 have L2:=PySem.W.looks_findIn (M:=model prog w) X c.cs
 have f5:typeOf (.builtin "object.__class__")=pure (.type "getset_descriptor"):=PySem.W.KF.type_class
 have f6:=F.slot_gs_get.lookup
 have f7:=F.slot_gs_set.lookup
 repeat (any_goals (first | assumption | (with_reducible refine wpAny_loadPart_at hx ?_;rw [hc]) | with_reducible refine L2.at ?_ | wp_step))
 refine ay0 X c hx hc ?_
 repeat (any_goals (first | assumption | wp_step))
theorem av9 {tk:Tok} {R:Result->Shared->Prop} (X:K.In h) (c:XIn K C) (hx:h.get? x=some o) (hc:o.cls=.ref C) (hq:R (.ok (.ret (.ref C))) ⟨h,g,d,t,os⟩) :
  codeAny (model prog w) A (.call (.builtin "BaseException.__getattribute__") ⟨[.ref x,.str "__class__" tk],[]⟩) R ⟨h,g,d,t,os⟩ :=
 codeAny_call_builtin PySem.F.attrBase_ValueError.ga.plain F.entry_bexc_ga (asw X c hx hc (asx X c hx hc hq))
theorem awa {Q:Option Value->Shared->Prop} (X:K.In h) (c:XIn K C) (hx:h.get? x=some o) (hc:o.cls=.ref C) (hq:Q (some (.ref C)) ⟨h,g,d,t+1,os⟩) :
  wpAny (model prog w) A (getAttr? (.ref x) "__class__") Q E ⟨h,g,d,t,os⟩:=by
 have f3:=PySem.F.attrBase_ValueError.ga.bind (.ref x)
 have hx2:(Value.builtin "BaseException.__getattribute__" == Value.builtin "object.__getattribute__")=false:=by decide +kernel
 have hx1:(onTheHeap (Value.ref C) && Value.builtin "BaseException.__getattribute__" == Value.builtin "object.__getattribute__")=false:=by rw [hx2];rfl
 have L1:=PySem.W.looks_findIn (M:=model prog w) X c.ga
 have L2:=PySem.W.looks_findIn (M:=model prog w) X c.gn
 unfold getAttr? getAttrBy? getAttrBy
 repeat (any_goals (first | assumption | (with_reducible refine wpAny_loadPart_at hx ?_;rw [hc]) | with_reducible refine L1.at ?_ | with_reducible refine L2.at ?_ | wp_step))
 refine av9 X c hx hc ?_
 repeat (any_goals (first | assumption | wp_step))
end
theorem alp {K:PySem.W.Frag} {x C:Addr} (c:XIn K C):PySem.W.KitX K (.ref x) (.ref C) (ExAt x C) where
 ty:=fun M h _ ⟨o,h1,h2⟩=>aic h1 h2
 it:=fun _ _ X _=>by
  obtain ⟨cdD,hcD⟩:=Option.isSome_iff_exists.mp c.cl
  unfold PySem.W.clsIn at hcD
  split at hcD
  ·rename_i c' d' cd' sl' ho
   intro A' Q' E' s' k q
   unfold isType loadHead
   exact wpAny_bind (wpAny_loadPart (k _ _ (X _ _ ho)) (wpAny_pure q))
  ·cases hcD
 ne:=fun h tp dd its n sl X htp=>by
  obtain ⟨cdD,hcD⟩:=Option.isSome_iff_exists.mp c.cl
  refine Bool.eq_false_iff.mpr fun q=>?_
  have e:C=tp:=Value.ref.inj (beq_iff_eq.mp q)
  subst e
  unfold PySem.W.clsIn at hcD
  split at hcD
  ·rename_i c' d' cd' sl' ho
   have z:=(X _ _ ho).symm.trans htp
   cases z
  ·cases hcD
 ca:=fun {prog w A E Q s} X p k=>by
  obtain ⟨h,g,d,t,os⟩:=s
  obtain ⟨o,h1,h2⟩:=p
  exact awa X c h1 h2 k
section
variable {X:Cx}
def ao6 (K:PySem.W.Frag):List V->Hp->VK->Prop:=fun xs H Q=>∃ (a C:Addr) (y:V) (u:Value) (b:Bool),xs=[.ref a,y]/\((∃ D,y=.ref D/\u=.ref D)\/∃ T,y=.ty T/\u=.type T)/\H a=some (.ext (ExAt a C))/\XIn K C/\PySem.W.kitOne K (.ref C) u=some b/\Q (.bl b) H
theorem ade:aa9 X (.builtin "isinstance") (ao6 X.K):=by
 intro pins s σ H xs us Q I r h
 obtain ⟨a,C,y,u,b,rfl,hy,ha,c,e,q⟩:=h
 obtain ⟨u1,u2,rfl,r1,r2⟩:=ae9 r
 cases (show u1=Value.ref a from r1)
 have hu:u2=u:=by
  rcases hy with ⟨D,rfl,rfl⟩ | ⟨T,rfl,rfl⟩
  ·exact r2
  ·exact r2
 subst hu
 exact PySem.W.kia_one (alp c) I.kIn (show ExAt a C s.heap from (I.hok a _ ha).1) e (fun z=>nomatch z) fun tk=>⟨.bl b,H,I.tok _,rfl,q⟩
end
end L2
namespace L2
open PySem PySem.Spec PyProof.Rows
section
variable {P:Program} {w:World} {K:PySem.W.Frag} {mg:Str->Option Value} {base:Heap} {x:Str} {k:Nat} {ps:List Str} {sp:Sp}
def CanX (P:Program) (w:World) (K:PySem.W.Frag) (mg:Str->Option Value) (base:Heap) (x:Str) (k:Nat) (ps:List Str) (sp:Sp):Prop :=
 ∃ f fd,FnOk P w K mg base (CXE P w base) k f fd ps sp/\mg x=some (.ref f)/\PySem.W.keepIn K (.ref f)=true/\Binds K fd ps []
theorem DefAt.canX {st:Stmt} {f:Addr} {fd:FuncData} (D:DefAt K mg x st ps f fd) (ok:FnOk P w K mg base (CXE P w base) k f fd ps sp):CanX P w K mg base x k ps sp:=⟨f,fd,ok,D.mgx,D.fn.kp,D.bd⟩
theorem Fun.okX {qual:Str} {st:Stmt} {f:Addr} {fd:FuncData} {N:List Str} (F:Fun K x qual st f fd) (S:FnScope N ps (aad st)) (len:∀ vs H Q E,sp vs H Q E->vs.length=ps.length)
  (hbody:∀ (cdv:Value) (A:Around) (outer:List Env) (s:Shared) (H:Hp) (vs:List V) (Q:VK) (E:XK),Room k (A.deeper (envOfC qual (aad st) s.heap.objs.size f cdv))->sp vs H Q E ->
   ∃ t,PSs (cxOf (CXE P w base) P w K mg base N qual (aad st) f cdv A outer s H E) (aao st) t/\t { nx:=fun _ H'=>Q .non H',rt:=Q } (start N vs) H):FnOk P w K mg base (CXE P w base) (k+1) f fd ps sp:=by
 obtain ⟨oc,od,kV,doc,pm,an,cdv,ct,osl,rfl,lk,hcd⟩:=F.ex
 exact atn lk hcd S len fun A outer s H vs Q E hr hsp=>hbody cdv A outer s H vs Q E hr hsp
variable {N:List Str} {qual:Str} {scope:Scope} {f:Addr} {cd:Value} {A:Around} {outer:List Env} {s0:Shared} {H0:Hp} {E:XK} {j:Nat} {p pos ep np cpos:Pos} {e:Expr} {es:List Expr} {t:TA}
theorem agc (F:CanX P w K mg base x k ps sp) (hr:Room j (cxOf (CXE P w base) P w K mg base N qual scope f cd A outer s0 H0 E).A) (ha:PA (cxOf (CXE P w base) P w K mg base N qual scope f cd A outer s0 H0 E) (e :: es) t) (hj:k<=j:=by decide)
  (hg:Gl (cxOf (CXE P w base) P w K mg base N qual scope f cd A outer s0 H0 E) x:=by rfl) (hdb:(x == ("__debug__" : Str))=false:=by decide)
  (he:starEach (e :: es) (cxOf (CXE P w base) P w K mg base N qual scope f cd A outer s0 H0 E).env=(false,eval e (cxOf (CXE P w base) P w K mg base N qual scope f cd A outer s0 H0 E).env) :: starEach es (cxOf (CXE P w base) P w K mg base N qual scope f cd A outer s0 H0 E).env:=by rfl)
  (hpl:(backTo pos (starEach es (cxOf (CXE P w base) P w K mg base N qual scope f cd A outer s0 H0 E).env)).any (·.1)=false:=by rfl) :
  PE (cxOf (CXE P w base) P w K mg base N qual scope f cd A outer s0 H0 E) (.Call (.Name x p) (e :: es) [] pos) (abk sp [] E t):=by
 obtain ⟨f',fd,c1,c2,c3,c4⟩:=F
 exact amo c1 (hr.mono hj) hg c2 c3 c4 .nil a0a ha hdb he hpl
theorem aqu {C:Addr} {m:Str} {j:Nat} (c:XOk K mg x C) (hg:Gl (cxOf (CXE P w base) P w K mg base N qual scope f cd A outer s0 H0 E) x:=by rfl) (hdb:(x == ("__debug__" : Str))=false:=by decide) :
  PS (cxOf (CXE P w base) P w K mg base N qual scope f cd A outer s0 H0 E) (.Raise (some (.Call (.Name x np) [.Constant (.str m) j ep] [] cpos)) none pos) (fun _ σ H=>aa4 (tC (.str m)) tNil σ H fun vs H1=>vs.length<=sizeLine/\E (.ref C) none H1) :=
 asv (W:=fun H=>E (.ref C) none H) c hg rfl (aaa abt aab) (fun pins σ H s h1 e args I m w=>av6 I m w) hdb
variable {X:Cx}
theorem agd (F:CanX X.prog X.w X.K X.mg X.base x k ps sp) (hr:Room j X.A) (ha:PA X.nox (e :: es) t) (hx:X.ex=[]:=by rfl) (hj:k<=j:=by decide) (hg:Gl X x:=by rfl) (hdb:(x == ("__debug__" : Str))=false:=by decide)
  (he:starEach (e :: es) X.env=(false,eval e X.env) :: starEach es X.env:=by rfl) (hpl:(backTo pos (starEach es X.env)).any (·.1)=false:=by rfl)
  (hs:swapsWith (.Call (.Name x p) (e :: es) [] pos) none ep.line X.env=pure false:=by rfl) :
  PXs X [.Expr (.Call (.Name x p) (e :: es) [] pos) ep] (fun W D σ H=>t σ H fun vs H1=>sp vs H1 (fun _ H2=>D.nx σ H2) (fun c _ H2=>W c σ H2)):=by
 obtain ⟨f',fd,c1,c2,c3,c4⟩:=F
 exact av7 c1 (hr.mono hj) hx hg c2 c3 c4 ha hdb he hpl hs
end
end L2
namespace VL
open PySem PySem.Spec L2
section
variable {B:Bs} {env:En} {QO:Sl->En->Prop} {Q':PyData->En->Prop} {QT:Bool->En->Prop} {K:PySem.W.Frag} {i:Nat} {C:Addr}
theorem acl {D:Addr} {b:Bool} (hA:Has env i (OE C)) (c:XIn K C) (e:PySem.W.kitOne K (.ref C) (.ref D)=some b) (q:Q' (.bool b) env):Ev B (tCB (ao6 K) (aa4 (tVar i) (aa4 (tC (.ref D)) tNil))) env Q':=fun σ G H F Q I k=>by
 obtain ⟨v,hv,a,rfl,ha,f⟩:=I.has hA
 exact ⟨_,hv,a,C,_,_,b,rfl,.inl ⟨D,rfl,rfl⟩,ha,c,e,k _ G H F _ env I (Same.refl _) (.bl _) q⟩
theorem alq {T:String} {b:Bool} (hA:Has env i (OE C)) (c:XIn K C) (e:PySem.W.kitOne K (.ref C) (.type T)=some b) (q:Q' (.bool b) env):Ev B (tCB (ao6 K) (aa4 (tVar i) (aa4 (tC (.ty T)) tNil))) env Q':=fun σ G H F Q I k=>by
 obtain ⟨v,hv,a,rfl,ha,f⟩:=I.has hA
 exact ⟨_,hv,a,C,_,_,b,rfl,.inr ⟨T,rfl,rfl⟩,ha,c,e,k _ G H F _ env I (Same.refl _) (.bl _) q⟩
theorem aid (hA:Has env i (OE C)) (q:Q' (.bool false) env):Ev B (tOp rIsN (tVar i) (tC .non)) env Q':=fun σ G H F Q I k=>by
 obtain ⟨v,hv,a,rfl,ha,f⟩:=I.has hA
 exact ⟨_,hv,rfl,k _ G H F _ env I (Same.refl _) (.bl _) q⟩
end
end VL
namespace L2
open PySem PySem.Spec PyProof.Rows
theorem alr {K:PySem.W.Frag} {C:Addr} {bmB:List Value} {newId:String} (q:PySem.W.excIn K C bmB newId=true):∃ bm N nm qn bs hdct sn sub ab col dd k0 k1 k2 k3 k5,
  K.lookup C=some (excClassObj nm qn C N bs bm hdct sn sub ab col dd k0 k1 k2 k3 k5 newId)/\PySem.W.tailIn K bmB bm=true/\PySem.W.nsOkIn K N=true/\PySem.W.nsIn K N "__init__" = some none:=by
 unfold PySem.W.excIn at q
 split at q
 ·rename_i dd cd sl ho
  split at q
  ·rename_i C' bm k0 k1 k2 k3 n k5 hm hs
   simp only [Bool.and_eq_true,beq_iff_eq,Bool.not_eq_true'] at q
   obtain ⟨⟨⟨⟨⟨rfl,rfl⟩,hdel⟩,ht⟩,hok⟩,hni⟩:=q
   obtain ⟨nm,bs,mro,ns,qn,hd,sn,sub,ab,col,del⟩:=cd
   dsimp only at hm hdel hok hni
   subst hm hdel
   have hsl:sl = #[k0,k1,k2,k3,some (.builtin n),k5]:=by
    obtain ⟨l⟩:=sl
    simp only at hs
    rw [hs]
   subst hsl
   exact ⟨bm,ns,nm,qn,bs,hd,sn,sub,ab,col,dd,k0,k1,k2,k3,k5,ho,ht,hok,hni⟩
  ·cases q
 ·cases q
theorem ay1 {K:PySem.W.Frag} {mg:Str->Option Value} {x:Str} {C:Addr} (m:mg x=some (.ref C)) (q:PySem.W.excIn K C bmV "ValueError.__new__" = true):XOk K mg x C:=fun h X=>by
 obtain ⟨bm,N,nm,qn,bs,hdct,sn,sub,ab,col,dd,k0,k1,k2,k3,k5,hl,ht,hok,hni⟩:=alr q
 exact ⟨m,bm,N,nm,qn,bs,hdct,sn,sub,ab,col,dd,k0,k1,k2,k3,k5,_,X _ _ hl,.of_isNs (PySem.W.isNs_of_in X hok),PySem.W.nsMap_none_of_in X hok hni,PySem.W.tail_of_in X ht⟩
theorem awb {K:PySem.W.Frag} {C D:Addr} (q:PySem.W.excIn K C bmV "ValueError.__new__" = true) (m:PySem.W.mroIn K C (.ref D)=some true):XSub K C D:=fun h X=>by
 obtain ⟨bm,N,nm,qn,bs,hdct,sn,sub,ab,col,dd,k0,k1,k2,k3,k5,hl,ht,hok,hni⟩:=alr q
 refine ⟨nm,qn,N,bs,bm,hdct,sn,sub,ab,col,dd,k0,k1,k2,k3,k5,_,X _ _ hl,?_⟩
 unfold PySem.W.mroIn PySem.W.clsIn at m
 rw [hl] at m
 simpa [excClassObj] using m
theorem cl_of {K:PySem.W.Frag} {C:Addr} {bmB:List Value} {newId:String} (q:PySem.W.excIn K C bmB newId=true):(PySem.W.clsIn K C).isSome=true:=by
 obtain ⟨bm,N,nm,qn,bs,hdct,sn,sub,ab,col,dd,k0,k1,k2,k3,k5,hl,ht,hok,hni⟩:=alr q
 unfold PySem.W.clsIn
 rw [hl]
 rfl
structure XCls (K:PySem.W.Frag) (mg:Str->Option Value) (x:Str) (C:Addr):Prop where
 mgx:mg x=some (.ref C)
 exc:PySem.W.excIn K C bmV "ValueError.__new__" = true
 xin:XIn K C
theorem XCls.ok {K:PySem.W.Frag} {mg:Str->Option Value} {x:Str} {C:Addr} (c:XCls K mg x C):XOk K mg x C:=ay1 c.mgx c.exc
end L2
namespace L2
open PySem PySem.Spec PyProof.Rows
noncomputable def isB (k:Bool):Value->Bool
 | .bool a=>a == k
 | _=>false
theorem age:∀ {bs:List Bool} {us:List Value},Vals (bs.map V.bl) us->us=bs.map Value.bool
 | [],_,.nil=>rfl
 | b :: bs,_,.cons r t=>by
  rw [List.map_cons,← age t,show _=Value.bool b from r]
theorem als:∀ {ds:List Addr} {us:List Value},Vals (ds.map V.ref) us->us=ds.map Value.ref
 | [],_,.nil=>rfl
 | b :: bs,_,.cons r t=>by
  rw [List.map_cons,← als t,show _=Value.ref b from r]
section
variable {X:Cx}
def anr:V->List V->Hp->VK->Prop:=fun x vs H Q=>∃ (l:Addr) (bs:List Bool) (k:Bool) (j:Nat),x=.ref l/\vs=[.bl k]/\H l=some (.lst (bs.map V.bl))/\bs[j]?=some k/\(∀ m,m < j->bs[m]? ≠ some k)/\Q (.int j) H
theorem aqv:MtM X "list.index" anr:=by
 intro pins s σ H x vs v us Q I rx rv h
 obtain ⟨l,bs,k,j,rfl,rfl,hH,hj,hno,q⟩:=h
 cases rx
 obtain ⟨u,rfl,ru⟩:=rv.one
 cases (show u=Value.bool k from ru)
 obtain ⟨z,its,n,r,hl,e⟩:=I.lstM hH
 have hi:=age r
 subst hi
 rw [List.length_map] at hl z
 obtain ⟨hj1,hj2⟩:=List.getElem?_eq_some_iff.mp hj
 have hz:sizeLine < 2 ^ 62:=by decide
 refine call_meets F.slot_list_index ⟨_,e,rfl⟩ F.entry_list_index (F.args_list_index_2 _ _)
  (SeqAt.list_indexAt l (bs.map Value.bool).toArray n none #[] (.bool k) (isB k) j (by simp;row_cond lo) (by row_cond lo) ?_ (fun m hm hlt=>?_)) ⟨e,fun y hy=>?_,?_⟩
 ·rw [List.getElem_toArray,List.getElem_map]
  simp [isB,hj2]
 ·have hm':m < bs.length:=by row_cond lo
  rw [List.getElem_toArray,List.getElem_map]
  have:=hno m hlt
  rw [List.getElem?_eq_getElem hm'] at this
  simp only [isB,beq_eq_false_iff_ne,ne_eq]
  exact fun e=>this (by rw [e])
 ·obtain ⟨b,_,rfl⟩:=List.mem_map.mp (List.mem_toArray.mp hy)
  exact SeqAt.EqAt.bool_bool b k
 ·exact ⟨.int j,H,I.tok _,⟨_,rfl⟩,q⟩
def ans:V->List V->Hp->VK->Prop:=fun x vs H Q=>∃ (l:Addr) (bs:List Bool) (k:Bool),x=.ref l/\vs=[.bl k]/\H l=some (.lst (bs.map V.bl))/\Q (.int (bs.count k:Nat)) H
theorem aqw:MtM X "list.count" ans:=by
 intro pins s σ H x vs v us Q I rx rv h
 obtain ⟨l,bs,k,rfl,rfl,hH,q⟩:=h
 cases rx
 obtain ⟨u,rfl,ru⟩:=rv.one
 cases (show u=Value.bool k from ru)
 obtain ⟨z,its,n,r,hl,e⟩:=I.lstM hH
 have hi:=age r
 subst hi
 refine call_meets F.slot_list_count ⟨_,e,rfl⟩ F.entry_list_count (F.args_list_count_2 _ _)
  (SeqAt.list_countAt l (bs.map Value.bool).toArray n none #[] (.bool k) (isB k)) ⟨e,fun y hy=>?_,?_⟩
 ·obtain ⟨b,_,rfl⟩:=List.mem_map.mp (List.mem_toArray.mp hy)
  exact SeqAt.EqAt.bool_bool b k
 ·have hc:((bs.map Value.bool).toArray.toList.countP (isB k):Nat)=bs.count k:=by
   rw [show (bs.map Value.bool).toArray.toList=bs.map Value.bool from rfl,List.countP_map]
   rfl
  rw [hc]
  exact ⟨.int (bs.count k:Nat),H,I.tok _,⟨_,rfl⟩,q⟩
def aqx (K:PySem.W.Frag):List V->Hp->VK->Prop:=fun xs H Q=>∃ (a C tp:Addr) (Ds:List Addr) (b:Bool),xs=[.ref a,.ref tp]/\H tp=some (.tup (Ds.map V.ref))/\H a=some (.ext (ExAt a C))/\XIn K C/\PySem.W.kitAny K (.ref C) (Ds.map Value.ref)=some b/\Q (.bl b) H
theorem ao7:aa9 X (.builtin "isinstance") (aqx X.K):=by
 intro pins s σ H xs us Q I r h
 obtain ⟨a,C,tp,Ds,b,rfl,htp,ha,c,e,q⟩:=h
 obtain ⟨u1,u2,rfl,r1,r2⟩:=ae9 r
 cases (show u1=Value.ref a from r1)
 cases (show u2=Value.ref tp from r2)
 obtain ⟨_,its,rv,o,e1,e2,n,e3⟩:=(show ObjOk X.prog X.w H s.heap tp (.tup (Ds.map V.ref)) from I.hok tp _ htp)
 have:=als rv
 subst this
 obtain ⟨oc,od,dt,sl⟩:=o
 simp only at e2 e3
 subst e2 e3
 exact PySem.W.kia_tup (alp c) I.kIn (show ExAt a C s.heap from (I.hok a _ ha).1) e1 e (fun z=>nomatch z) fun tk=>⟨.bl b,H,I.tok _,rfl,q⟩
end
end L2
namespace VL
open PySem PySem.Spec L2
section
variable {B:Bs} {env:En} {Q':PyData->En->Prop} {K:PySem.W.Frag} {i:Nat} {C:Addr} {tl te:TE}
theorem Rps.bls_inv {G:Hp}:∀ {bs:List Bool} {vs:List V},Rps G vs (bs.map PyData.bool)->vs=bs.map V.bl
 | [],_,.nil=>rfl
 | n :: ns,_,.cons r t=>by
  cases r
  rw [Rps.bls_inv t];rfl
theorem ai3 {bs:List Bool} {k:Bool} {j:Nat} (h:Ev B tl env fun x e1=>x=.list (bs.map .bool)/\bs[j]?=some k/\(∀ m,m < j->bs[m]? ≠ some k)/\Q' (.int j) e1):Ev B (tBM K "list" anr tl (aa4 (tC (.bl k)) tNil)) env Q':=fun σ G H F Q I kq =>
 h σ G H F _ I fun v G1 H1 F1 d e1 I1 g1 r1 z_=>by
  obtain ⟨ed,h1,h2,q⟩:=z_
  subst ed
  cases r1 with
  | @lst a vs _ ha rs =>
   have ev:vs=bs.map V.bl:=rs.bls_inv
   subst ev
   exact ⟨.inl ⟨rfl,_,SqL.of (I1.gh _ _ ha)⟩,a,bs,k,j,rfl,rfl,I1.gh _ _ ha,h1,h2,kq _ G1 H1 F1 _ e1 I1 g1 (.int _) q⟩
theorem ai4 {bs:List Bool} {k:Bool} (h:Ev B tl env fun x e1=>x=.list (bs.map .bool)/\Q' (.int (bs.count k:Nat)) e1):Ev B (tBM K "list" ans tl (aa4 (tC (.bl k)) tNil)) env Q':=fun σ G H F Q I kq =>
 h σ G H F _ I fun v G1 H1 F1 d e1 I1 g1 r1 z_=>by
  obtain ⟨ed,q⟩:=z_
  subst ed
  cases r1 with
  | @lst a vs _ ha rs =>
   have ev:vs=bs.map V.bl:=rs.bls_inv
   subst ev
   exact ⟨.inl ⟨rfl,_,SqL.of (I1.gh _ _ ha)⟩,a,bs,k,rfl,rfl,I1.gh _ _ ha,kq _ G1 H1 F1 _ e1 I1 g1 (.int _) q⟩
noncomputable def tCs:List Addr->TA
 | []=>tNil
 | D :: r=>aa4 (tC (.ref D)) (tCs r)
theorem ant {σ:St} {H:Hp}:∀ {Ds:List Addr} {Q:List V->Hp->Prop},Q (Ds.map V.ref) H->tCs Ds σ H Q
 | [],Q,h=>h
 | D :: r,Q,h=>ant (Ds:=r) h
theorem alt {D:Addr} {Ds:List Addr} {b:Bool} (hA:Has env i (OE C)) (hl:(D :: Ds).length<=1000) (c:XIn K C) (e:PySem.W.kitAny K (.ref C) ((D :: Ds).map Value.ref)=some b) (q:Q' (.bool b) env):Ev B (tCB (aqx K) (aa4 (tVar i) (aa4 (tTup (tCs (D :: Ds))) tNil))) env Q':=fun σ G H F Q I k=>by
 obtain ⟨v,hv,a,rfl,ha,f⟩:=I.has hA
 refine ⟨_,hv,ant ⟨by rw [List.length_map];exact Nat.le_of_lt (adt hl),fun p hp=>?_⟩⟩
 have nx:a ≠ p:=fun z=>by subst z;rw [ha] at hp;cases hp
 refine ⟨a,C,p,D :: Ds,b,rfl,aai,by rw [aaf nx];exact ha,c,e,?_⟩
 refine k _ G _ F _ env (I.grow (Same.refl _) (I.gh.trans (abf hp)) (abf hp) (fun a o e => .inl e) fun a ks e=>?_) (Same.refl _) (.bl _) q
 by_cases z:a=p
 ·subst z
  rw [aai] at e
  cases ks with
  | nil=>simp at e
  | cons x xs =>
   have:=(List.cons.inj (HO.tup.inj (Option.some.inj e))).1
   cases x <;> cases this
 ·rw [aaf z] at e
  exact I.ft a ks e
end
end VL
namespace G
open PySem L2 VL
noncomputable def top (i:Nat):Stmt:=PySem.Challenge.pw_fewties_k38_no_trees.main.body.getD i (.Pass ⟨0,0,0,0⟩)
noncomputable abbrev s_is_whole:Stmt:=top 11
noncomputable abbrev s_is_between:Stmt:=top 12
noncomputable abbrev s_is_place:Stmt:=top 13
noncomputable abbrev s_tied_places:Stmt:=top 14
noncomputable abbrev s_far_from:Stmt:=top 15
noncomputable abbrev s_need_place:Stmt:=top 16
noncomputable abbrev s_all_far:Stmt:=top 17
noncomputable abbrev s_is_joined:Stmt:=top 18
noncomputable abbrev s_short_way:Stmt:=top 19
noncomputable abbrev s_need_joined:Stmt:=top 21
noncomputable abbrev s_far_rows:Stmt:=top 22
noncomputable abbrev s_most_far:Stmt:=top 23
noncomputable abbrev s_farthest_two:Stmt:=top 24
noncomputable abbrev s_is_tree:Stmt:=top 26
noncomputable abbrev s_need_tree:Stmt:=top 27
noncomputable abbrev s_far_way:Stmt:=top 28
noncomputable abbrev s_far_ends:Stmt:=top 29
noncomputable abbrev s_parting_tie:Stmt:=top 30
noncomputable abbrev s_parted_far:Stmt:=top 31
noncomputable abbrev s_law_cell:Stmt:=top 33
noncomputable abbrev s_law_store:Stmt:=top 34
noncomputable abbrev s_law_take:Stmt:=top 35
noncomputable abbrev s_law_tree_ties:Stmt:=top 36
noncomputable abbrev s_law_renumbered:Stmt:=top 37
noncomputable abbrev s_law_tree:Stmt:=top 38
noncomputable abbrev s_law_kind:Stmt:=top 41
noncomputable abbrev s_law_word:Stmt:=top 42
noncomputable abbrev s_law_no_tree:Stmt:=top 43
noncomputable abbrev s_law:Stmt:=top 44
structure Txt (K:PySem.W.Frag) (mg:Str->Option Value):Prop where
 b_ValueError:mg "ValueError" = none
 b_max:mg "max" = none
 b_min:mg "min" = none
 b_range:mg "range" = none
 b_list:mg "list" = none
 b_sorted:mg "sorted" = none
 b_isinstance:mg "isinstance" = none
 b_int:mg "int" = none
 b_len:mg "len" = none
 b_set:mg "set" = none
 b_bool:mg "bool" = none
 b_enumerate:mg "enumerate" = none
 b_zip:mg "zip" = none
 d_is_whole:∃ f fd,DefAt K mg "is_whole" s_is_whole ["thing"] f fd
 d_is_between:∃ f fd,DefAt K mg "is_between" s_is_between ["least","most","thing"] f fd
 d_is_place:∃ f fd,DefAt K mg "is_place" s_is_place ["n","thing"] f fd
 d_tied_places:∃ f fd,DefAt K mg "tied_places" s_tied_places ["web"] f fd
 d_far_from:∃ f fd,DefAt K mg "far_from" s_far_from ["tied","start"] f fd
 d_need_place:∃ f fd,DefAt K mg "need_place" s_need_place ["web","thing"] f fd
 d_all_far:∃ f fd,DefAt K mg "all_far" s_all_far ["web","a"] f fd
 d_is_joined:∃ f fd,DefAt K mg "is_joined" s_is_joined ["web"] f fd
 d_short_way:∃ f fd,DefAt K mg "short_way" s_short_way ["web","a","b"] f fd
 d_need_joined:∃ f fd,DefAt K mg "need_joined" s_need_joined ["web"] f fd
 d_far_rows:∃ f fd,DefAt K mg "far_rows" s_far_rows ["web"] f fd
 d_most_far:∃ f fd,DefAt K mg "most_far" s_most_far ["rows"] f fd
 d_farthest_two:∃ f fd,DefAt K mg "farthest_two" s_farthest_two ["web"] f fd
 d_is_tree:∃ f fd,DefAt K mg "is_tree" s_is_tree ["web"] f fd
 d_need_tree:∃ f fd,DefAt K mg "need_tree" s_need_tree ["web"] f fd
 d_far_way:∃ f fd,DefAt K mg "far_way" s_far_way ["web"] f fd
 d_far_ends:∃ f fd,DefAt K mg "far_ends" s_far_ends ["web"] f fd
 d_parting_tie:∃ f fd,DefAt K mg "parting_tie" s_parting_tie ["web"] f fd
 d_parted_far:∃ f fd,DefAt K mg "parted_far" s_parted_far ["rows","tie"] f fd
 d_law_cell:∃ f fd,DefAt K mg "_law_cell" s_law_cell ["script","k"] f fd
 d_law_store:∃ f fd,DefAt K mg "_law_store" s_law_store ["cell"] f fd
 d_law_take:∃ f fd,DefAt K mg "_law_take" s_law_take ["store","many"] f fd
 d_law_tree_ties:∃ f fd,DefAt K mg "_law_tree_ties" s_law_tree_ties ["store","n","kind"] f fd
 d_law_renumbered:∃ f fd,DefAt K mg "_law_renumbered" s_law_renumbered ["store","n","ties"] f fd
 d_law_tree:∃ f fd,DefAt K mg "_law_tree" s_law_tree ["store"] f fd
 d_law_kind:∃ f fd,DefAt K mg "_law_kind" s_law_kind ["caught"] f fd
 d_law_word:∃ f fd,DefAt K mg "_law_word" s_law_word ["way","web"] f fd
 d_law_no_tree:∃ f fd,DefAt K mg "_law_no_tree" s_law_no_tree ["store","web"] f fd
 d_law:∃ f fd,DefAt K mg "law" s_law ["script"] f fd
 x_TieError:∃ C,XCls K mg "TieError" C
 x_NoPlace:∃ C,XCls K mg "NoPlace" C
 x_NoJoin:∃ C,XCls K mg "NoJoin" C
 x_NoTie:∃ C,XCls K mg "NoTie" C
 x_NoTree:∃ C,XCls K mg "NoTree" C
 x_NoNumber:∃ C,XCls K mg "NoNumber" C
 x_NoText:∃ C,XCls K mg "NoText" C
 x_NoName:∃ C,XCls K mg "NoName" C
 x_NoRow:∃ C,XCls K mg "NoRow" C
 y_NoPlace_TieError:∀ C D,mg "NoPlace" = some (.ref C)->mg "TieError" = some (.ref D)->PySem.W.kitOne K (.ref C) (.ref D)=some true
 y_NoPlace_NoPlace:∀ C D,mg "NoPlace" = some (.ref C)->mg "NoPlace" = some (.ref D)->PySem.W.kitOne K (.ref C) (.ref D)=some true
 y_NoPlace_NoJoin:∀ C D,mg "NoPlace" = some (.ref C)->mg "NoJoin" = some (.ref D)->PySem.W.kitOne K (.ref C) (.ref D)=some false
 y_NoPlace_NoTie:∀ C D,mg "NoPlace" = some (.ref C)->mg "NoTie" = some (.ref D)->PySem.W.kitOne K (.ref C) (.ref D)=some false
 y_NoPlace_NoTree:∀ C D,mg "NoPlace" = some (.ref C)->mg "NoTree" = some (.ref D)->PySem.W.kitOne K (.ref C) (.ref D)=some false
 y_NoPlace_NoNumber:∀ C D,mg "NoPlace" = some (.ref C)->mg "NoNumber" = some (.ref D)->PySem.W.kitOne K (.ref C) (.ref D)=some false
 y_NoPlace_NoText:∀ C D,mg "NoPlace" = some (.ref C)->mg "NoText" = some (.ref D)->PySem.W.kitOne K (.ref C) (.ref D)=some false
 y_NoPlace_NoName:∀ C D,mg "NoPlace" = some (.ref C)->mg "NoName" = some (.ref D)->PySem.W.kitOne K (.ref C) (.ref D)=some false
 y_NoPlace_NoRow:∀ C D,mg "NoPlace" = some (.ref C)->mg "NoRow" = some (.ref D)->PySem.W.kitOne K (.ref C) (.ref D)=some false
 y_NoPlace_ValueError:∀ C,mg "NoPlace" = some (.ref C)->PySem.W.kitOne K (.ref C) (.type "ValueError")=some true
 s_NoPlace_TieError:∀ C D,mg "NoPlace" = some (.ref C)->mg "TieError" = some (.ref D)->PySem.W.mroIn K C (.ref D)=some true
 y_NoJoin_TieError:∀ C D,mg "NoJoin" = some (.ref C)->mg "TieError" = some (.ref D)->PySem.W.kitOne K (.ref C) (.ref D)=some true
 y_NoJoin_NoPlace:∀ C D,mg "NoJoin" = some (.ref C)->mg "NoPlace" = some (.ref D)->PySem.W.kitOne K (.ref C) (.ref D)=some false
 y_NoJoin_NoJoin:∀ C D,mg "NoJoin" = some (.ref C)->mg "NoJoin" = some (.ref D)->PySem.W.kitOne K (.ref C) (.ref D)=some true
 y_NoJoin_NoTie:∀ C D,mg "NoJoin" = some (.ref C)->mg "NoTie" = some (.ref D)->PySem.W.kitOne K (.ref C) (.ref D)=some false
 y_NoJoin_NoTree:∀ C D,mg "NoJoin" = some (.ref C)->mg "NoTree" = some (.ref D)->PySem.W.kitOne K (.ref C) (.ref D)=some false
 y_NoJoin_NoNumber:∀ C D,mg "NoJoin" = some (.ref C)->mg "NoNumber" = some (.ref D)->PySem.W.kitOne K (.ref C) (.ref D)=some false
 y_NoJoin_NoText:∀ C D,mg "NoJoin" = some (.ref C)->mg "NoText" = some (.ref D)->PySem.W.kitOne K (.ref C) (.ref D)=some false
 y_NoJoin_NoName:∀ C D,mg "NoJoin" = some (.ref C)->mg "NoName" = some (.ref D)->PySem.W.kitOne K (.ref C) (.ref D)=some false
 y_NoJoin_NoRow:∀ C D,mg "NoJoin" = some (.ref C)->mg "NoRow" = some (.ref D)->PySem.W.kitOne K (.ref C) (.ref D)=some false
 y_NoJoin_ValueError:∀ C,mg "NoJoin" = some (.ref C)->PySem.W.kitOne K (.ref C) (.type "ValueError")=some true
 s_NoJoin_TieError:∀ C D,mg "NoJoin" = some (.ref C)->mg "TieError" = some (.ref D)->PySem.W.mroIn K C (.ref D)=some true
 y_NoTree_TieError:∀ C D,mg "NoTree" = some (.ref C)->mg "TieError" = some (.ref D)->PySem.W.kitOne K (.ref C) (.ref D)=some true
 y_NoTree_NoPlace:∀ C D,mg "NoTree" = some (.ref C)->mg "NoPlace" = some (.ref D)->PySem.W.kitOne K (.ref C) (.ref D)=some false
 y_NoTree_NoJoin:∀ C D,mg "NoTree" = some (.ref C)->mg "NoJoin" = some (.ref D)->PySem.W.kitOne K (.ref C) (.ref D)=some false
 y_NoTree_NoTie:∀ C D,mg "NoTree" = some (.ref C)->mg "NoTie" = some (.ref D)->PySem.W.kitOne K (.ref C) (.ref D)=some false
 y_NoTree_NoTree:∀ C D,mg "NoTree" = some (.ref C)->mg "NoTree" = some (.ref D)->PySem.W.kitOne K (.ref C) (.ref D)=some true
 y_NoTree_NoNumber:∀ C D,mg "NoTree" = some (.ref C)->mg "NoNumber" = some (.ref D)->PySem.W.kitOne K (.ref C) (.ref D)=some false
 y_NoTree_NoText:∀ C D,mg "NoTree" = some (.ref C)->mg "NoText" = some (.ref D)->PySem.W.kitOne K (.ref C) (.ref D)=some false
 y_NoTree_NoName:∀ C D,mg "NoTree" = some (.ref C)->mg "NoName" = some (.ref D)->PySem.W.kitOne K (.ref C) (.ref D)=some false
 y_NoTree_NoRow:∀ C D,mg "NoTree" = some (.ref C)->mg "NoRow" = some (.ref D)->PySem.W.kitOne K (.ref C) (.ref D)=some false
 y_NoTree_ValueError:∀ C,mg "NoTree" = some (.ref C)->PySem.W.kitOne K (.ref C) (.type "ValueError")=some true
 s_NoTree_TieError:∀ C D,mg "NoTree" = some (.ref C)->mg "TieError" = some (.ref D)->PySem.W.mroIn K C (.ref D)=some true
local macro_rules | `(tactic| row_cond gn) => `(tactic| first | (with_reducible first | refine evg_n0 ?_ | refine ax9 ?_ | refine aya ?_ | refine ayb ?_ | refine ayc ?_ | refine ayd ?_ | refine aye ?_ | refine ayf ?_ | refine ayg ?_ | refine ayh ?_ | refine evg_n10 ?_ | refine evg_n11 ?_ | refine evg_n12 ?_ | refine evg_n13 ?_ | refine evg_n14 ?_ | refine evg_n15 ?_ | refine evg_n16 ?_ | refine evg_n17 ?_ | refine evg_n18 ?_ | refine evg_n19 ?_ | refine evg_n20 ?_ | refine evg_n21 ?_ | refine evg_n22 ?_ | refine evg_n23 ?_ | refine evg_n24 ?_ | refine evg_n25 ?_) | ((with_reducible refine aa1 ?_); dsimp only [List.set_cons_zero, List.set_cons_succ]))
local macro_rules | `(tactic| row_cond dc) => `(tactic| first | assumption | row_cond lo | (with_reducible rfl))
local macro_rules | `(tactic| row_cond ar) => `(tactic| first | assumption | (refine ⟨?_, ?_, ?_⟩ <;> decide) | (constructor <;> first | assumption | row_cond lo) | (show (0 : Int) < _; first | assumption | row_cond lo) | (left; constructor <;> first | assumption | row_cond lo) | (right; constructor <;> first | assumption | row_cond lo))
local macro_rules | `(tactic| row_cond hs) => `(tactic| first | exact Or.inl rfl | exact Or.inr rfl)
local macro_rules | `(tactic| row_cond fz) => `(tactic| first | exact abu | exact frz_OD | exact frz_OT | exact frz_OW | exact afm | assumption)
local macro_rules | `(tactic| row_cond le) => `(tactic| first | exact Nat.le_of_ble_eq_true rfl | assumption | row_cond lo | (simp only [List.length_append, List.length_map, List.length_cons, List.length_nil, List.length_set, List.length_replicate]; row_cond lo))
local macro_rules | `(tactic| row_cond ia) => `(tactic| first | assumption | exact at0 | exact at1 | exact at2 | exact rfl)
local macro_rules | `(tactic| row_cond ty) => `(tactic| first | exact ax6 | exact avf | exact ty_tuple | exact ty_list | exact ty_str | exact ty_dict)
local macro_rules | `(tactic| row_cond sEvS) => `(tactic| first | (with_reducible refine art (fun c_ hc_ => ?_)) | (with_reducible first | refine aff ?_ | refine axw ?_ | refine aro ?_) | ((with_reducible refine' ar8 ?h0 ?_); (case h0 => exact rfl)) | (with_reducible first | refine am8 ?_ | refine auy ?_ | refine af5 ?_) | ((with_reducible refine' auz ?h0 ?_); (case h0 => assumption)))
local macro_rules | `(tactic| row_cond sEvG) => `(tactic| first | row_cond gn | ((with_reducible refine' afg ?h0 ?_); (case h0 => exact rfl)) | ((with_reducible refine' ar7 ?h0 ?_); (case h0 => row_cond hs)) | (with_reducible refine evg_st ?_))
local macro_rules | `(tactic| row_cond sEvGs) => `(tactic| first | (with_reducible first | refine ab3 ?_ | refine aef ?_))
local macro_rules | `(tactic| row_cond sEv) => `(tactic| first | ((with_reducible refine' axo ?h0 ?_); (case h0 => exact rfl)) | (with_reducible refine axp ?_) | ((with_reducible refine' ax3 ?h0 ?_); (case h0 => row_cond hs)) | ((with_reducible refine' ax4 ?h0 ?h1 ?_); (case h0 => exact rfl); (case h1 => assumption)) | (with_reducible refine azl ?_) | ((with_reducible refine' avd ?h0 ?h1 ?_); (case h0 => exact rfl); (case h1 => assumption)) | ((with_reducible refine' ax5 ?h0 ?_); (case h0 => row_cond ty)) | ((with_reducible refine' ax2 ?h0 ?h1 ?_); (case h0 => row_cond hs); (case h1 => row_cond fz)) | ((with_reducible refine' ap5 ?h0 ?_); (case h0 => exact rfl)) | ((with_reducible refine' arv ?h0 ?h1 ?_); (case h0 => exact rfl); (case h1 => assumption)) | (with_reducible refine aru ?_) | ((with_reducible refine' auq ?h0 ?h1 ?_); (case h0 => exact rfl); (case h1 => row_cond fz); dsimp only [List.set_cons_zero, List.set_cons_succ]) | (with_reducible first | refine axt ?_ | refine axu ?_ | refine azk ?_ | refine axq ?_ | refine axr ?_ | refine azm ?_ | refine auv ?_ | refine auw ?_ | refine arn ?_ | refine abv (te:=tCB (agz _) _) ?_ | refine azn ?_) | ((with_reducible refine' aoq ?h0 ?_); (case h0 => row_cond hs)) | ((with_reducible refine' ar6 ?h0 ?_); (case h0 => row_cond hs)) | (with_reducible refine ev_listR ?_) | ((with_reducible refine' azw ?h0 ?_); (case h0 => decide)) | (with_reducible first | refine ar5 ?_ | refine aym ?_ | refine asn ?_))
local macro_rules | `(tactic| row_cond sEvO) => `(tactic| first | (with_reducible first | refine ak2 (r:=rCat) ?_ | refine ak2 (r:=rRep) ?_ | refine abj (te:=tOp _ _ _) ?_ | refine abj (te:=tVar _) ?_ | refine abj (te:=tC _) ?_ | refine am7 ?_) | (with_reducible refine am6 ?_) | ((with_reducible refine' ag4 ?h0 ?_); (case h0 => exact rfl)) | ((with_reducible refine' aos ?h0 ?_); (case h0 => exact rfl)) | ((with_reducible refine' ait ?h0 ?h1 ?_); (case h0 => exact rfl); (case h1 => assumption)) | (with_reducible first | refine ais ?_ | refine avh ?_) | ((with_reducible refine' ap3 ?h0 ?_); (case h0 => decide)) | (with_reducible first | refine anf ?_) | (with_reducible first | refine aiw ?_ | refine aqd ?_ | refine ak3 (r:=ak9 _) ?_ | refine abj (te:=tUn _ _) ?_ | refine abj (te:=anz _ _) ?_ | refine abj (te:=aoa _) ?_ | refine abj (te:=aj7 _ _ _ _ _) ?_ | refine abj (te:=tCB (rLen _) _) ?_ | refine abj (te:=tCB (rIsi _) _) ?_ | refine abj (te:=tCB aju _) ?_ | refine abj (te:=tCB ajv _) ?_ | refine abj (te:=tCB (afc _) _) ?_ | refine abj (te:=tCB (aol _) _) ?_ | refine abj (te:=tBM _ _ _ _ _) ?_))
local macro_rules | `(tactic| row_cond sEvT) => `(tactic| first | (with_reducible first | refine ak4 ?_ | refine azo ?_ | refine aus ?_ | refine axv ?_ | refine aut ?_ | refine afe ?_) | (with_reducible refine auu ?_))
local macro_rules | `(tactic| row_cond sEvA) => `(tactic| first | (with_reducible first | refine arm ?_ | refine aur ?_))
local macro_rules | `(tactic| row_cond sEvI) => `(tactic| first | (with_reducible first | refine arq ?_ | refine ars ?_ | refine evi_down ?_ | refine arp ?_ | refine asg ?_ | refine avo ?_) | (with_reducible refine evi_tup ?_))
local macro_rules | `(tactic| row_cond sEvOp) => `(tactic| first | (with_reducible first | refine ar3 ?_ | refine ar4 ?_))
local macro_rules | `(tactic| row_cond sOp2) => `(tactic| first | (with_reducible first | refine au0 ?_ | refine au1 ?_) | ((with_reducible refine' ax0 ?h0 ?_); (case h0 => row_cond ar)) | (with_reducible first | refine au2 ?_ | refine au3 ?_) | ((with_reducible refine' au7 ?h0 ?_); (case h0 => row_cond ia)) | ((with_reducible refine' au8 ?h0 ?_); (case h0 => row_cond ia)) | (with_reducible first | refine au4 ?_ | refine au5 ?_ | refine ava ?_) | ((with_reducible refine' afk ?h0 ?_); (case h0 => row_cond le)))
local macro_rules | `(tactic| row_cond sOp1) => `(tactic| first | (with_reducible refine ax1 ?_))
local macro_rules | `(tactic| row_cond sOpA) => `(tactic| first | (with_reducible first | refine arz ?_ | refine ar0 ?_ | refine ar1 ?_ | refine ash ?_))
local macro_rules | `(tactic| row_cond sFQ) => `(tactic| first | (with_reducible first | refine azj ?_ | refine afd ?_))
local macro_rules | `(tactic| row_cond sRngA1) => `(tactic| first | ((with_reducible refine' axy ?h0 ?h1 ?_); (case h0 => row_cond lo); (case h1 => row_cond lo)))
local macro_rules | `(tactic| row_cond sRngA2) => `(tactic| first | ((with_reducible refine' axz ?h0 ?_); (case h0 => row_cond lo)))
local macro_rules | `(tactic| row_cond sRest) => `(tactic| first | (with_reducible first | refine x_bl ?_ | refine x_st ?_ | refine axx ?_ | refine azp ?_) | ((with_reducible refine' azt ?h0 ?h1 ?_); (case h0 => row_cond hs); (case h1 => row_cond ia)) | ((with_reducible refine' azu ?h0 ?_); (case h0 => row_cond ia)) | ((with_reducible refine' x_sc ?h0 ?_); (case h0 => exact rfl)) | ((with_reducible refine' azs ?h0 ?_); (case h0 => row_cond le)) | (with_reducible first | refine abo ?_ | refine ab2 ?_ | refine am4 ?_ | refine aul ?_) | ((with_reducible refine' ahr ?h0 ?_); (case h0 => row_cond dc)) | ((with_reducible refine' ahs ?h0 ?_); (case h0 => row_cond dc)) | ((with_reducible refine' arl ?h0 ?_); (case h0 => row_cond dc)) | ((with_reducible refine' azv ?h0 ?_); (case h0 => first | exact rfl | row_cond hs)) | ((with_reducible refine' x_rt ?h0 ?_); (case h0 => exact rfl)) | ((with_reducible refine' ax7 ?h0 ?h1 ?_); (case h0 => exact rfl); (case h1 => row_cond le); dsimp only [List.set_cons_zero, List.set_cons_succ]) | ((with_reducible refine' aor ?h0 ?h1 ?_); (case h0 => exact rfl); (case h1 => first | exact ixN0 | exact ixN1 | exact ixN2 | assumption); dsimp only [List.set_cons_zero, List.set_cons_succ, reS]) | ((with_reducible refine' ax8 ?h0 ?h1 ?_); (case h0 => exact rfl); (case h1 => first | exact ixN0 | exact ixN1 | exact ixN2 | assumption); dsimp only [List.set_cons_zero, List.set_cons_succ, reS]) | (with_reducible first | refine ar9 ?_) | (with_reducible first | refine x_en ?_ | refine azx ?_) | ((with_reducible refine' avp ?h0 ?h1 ?_); (case h0 => row_cond lo); (case h1 => row_cond lo)) | ((with_reducible refine' x_ow ?h0 ?_); (case h0 => exact rfl); dsimp only [List.set_cons_zero, List.set_cons_succ]))
local macro_rules | `(tactic| row_cond st) => `(tactic| first | ((with_reducible refine azy ?_); row_cond sEvS) | ((with_reducible refine azz ?_); row_cond sEvG) | ((with_reducible refine ayk ?_); row_cond sEvGs) | ((with_reducible refine g_Ev ?_); row_cond sEv) | ((with_reducible refine az0 ?_); row_cond sEvO) | ((with_reducible refine az1 ?_); row_cond sEvT) | ((with_reducible refine az2 ?_); row_cond sEvA) | ((with_reducible refine az3 ?_); row_cond sEvI) | ((with_reducible refine ayl ?_); row_cond sEvOp) | ((with_reducible refine az4 ?_); row_cond sOp2) | ((with_reducible refine az5 ?_); row_cond sOp1) | ((with_reducible refine az6 ?_); row_cond sOpA) | ((with_reducible refine g_FQ ?_); row_cond sFQ) | ((with_reducible refine avr ?_); row_cond sRngA1) | ((with_reducible refine avs ?_); row_cond sRngA2) | row_cond sRest)
local macro_rules | `(tactic| row_cond go) => `(tactic| repeat row_cond st)
local macro_rules | `(tactic| row_cond hnx) => `(tactic| first | assumption | (apply Ne.symm; assumption) | exact aap (by assumption) (by assumption) | exact (aap (by assumption) (by assumption)).symm)
local macro_rules | `(tactic| row_cond hhp) => `(tactic| first | assumption | exact aai | (rw [aaf (by row_cond hnx)]; row_cond hhp) | ((refine' Same.at ?ss ?hh); (case ss => assumption); (case hh => row_cond hhp)))
local macro_rules | `(tactic| row_cond hix) => `(tactic| first | assumption | exact at0 | exact at1 | exact at2)
local macro_rules | `(tactic| row_cond hst) => `(tactic| first | (with_reducible first | refine go_seq ?_ | refine go_asg ?_ | refine amx ?_ | refine go_op ?_ | refine go_c ?_ | refine go_I0 ?_ | refine go_U ?_ | refine apq ?_ | refine go_test ?_ | refine go_bl ?_ | refine go_ifS ?_ | refine go_and ?_ | refine go_ret ?_ | refine go_drop ?_ | refine go_next ?_ | refine go_cb ?_ | refine go_cons ?_ | refine apo ?_ | refine go_call ?_ | refine am0 ?_ | refine am1 ?_ | refine go_intB ?_ | refine go_gsub ?_ | refine go_lstW ?_ | refine go_bmL ?_ | refine go_for ?_ | refine go_lc ?_ | refine go_irng1 ?_ | refine apr ?_ | refine abo ?_ | refine ab2 ?_) | ((with_reducible refine' go_var ?hv ?_); (case hv => exact rfl)) | ((with_reducible refine' aed ?ha ?hv ?_); (case ha => row_cond hhp); (case hv => row_cond hix)) | ((with_reducible refine go_I ?hc ?_); (case hc => row_cond ar)) | ((with_reducible refine' amz ?ha ?_); (case ha => row_cond hhp)) | ((with_reducible refine' amy ?ha ?hj ?_); (case ha => row_cond hhp); (case hj => first | exact ixN0 | exact ixN1 | exact ixN2)) | ((with_reducible refine' go_tyL ?ha ?_); (case ha => row_cond hhp)) | ((with_reducible refine' aes ?ha ?hl ?_); (case ha => row_cond hhp); (case hl => exact adt (by simp; row_cond lo))) | ((with_reducible refine' ahr ?hc ?_); (case hc => row_cond dc)) | ((with_reducible refine' ahs ?hc ?_); (case hc => row_cond dc)) | dsimp only [List.set_cons_zero, List.set_cons_succ])
local macro_rules | `(tactic| row_cond hgo) => `(tactic| repeat row_cond hst)
noncomputable def isInt:PyData->Bool
 | .int _=>true
 | _=>false
noncomputable def btwD (a b:Int):PyData->Bool
 | .int i=>decide (a<=i/\i<=b)
 | _=>false
def awc:VP:=fun ss Q=>∃ d,ss=[.st d]/\Q (.st (.bool (isInt d)))
def aqy:VP:=fun ss Q=>∃ (a b:Int) (d:PyData),ss=[.st (.int a),.st (.int b),.st d]/\Q (.st (.bool (btwD a b d)))
def awd:VP:=fun ss Q=>∃ (n:Int) (d:PyData),ss=[.st (.int n),.st d]/\Q (.st (.bool (btwD 0 (n - 1) d)))
section
variable {P:Program} {w:World} {K:PySem.W.Frag} {mg:Str->Option Value} {base:Heap}
theorem sc_is_whole:FnScope ["thing"] ["thing"] (aad s_is_whole):=⟨rfl,rfl,rfl,by decide +kernel,rfl,by decide +kernel,by decide +kernel⟩
theorem alu (T:Txt K mg):Can P w K mg base "is_whole" 1 ["thing"] (spP K (awc)):=by
 obtain ⟨f,fd,D⟩:=T.d_is_whole
 refine D.can (D.fn.ok sc_is_whole (fun vs H Q E h=>lenP h fun ss Q' q=>by obtain ⟨d,rfl,k⟩:=q;rfl) (fun cdv A outer s H vs Q E hr h=>?_))
 have nd:=sc_is_whole.nd
 refine ⟨_,(aah (aas (aj2 (aan akn (by rfl) T.b_isinstance aa8 (aaa (pv 0) (aaa (ahn (v:=.ty "int") rfl T.b_int axl rfl) aab))) (aj1 (aw3 (aan akn (by rfl) T.b_isinstance aa8 (aaa (pv 0) (aaa (ahn (v:=.ty "bool") rfl T.b_bool aui rfl) aab)))))))),?_⟩
 refine abc h fun ss Q' q B hK=>?_
 refine exS1 ss q fun d q1_=>?_
 have k:=q1_
 clear q1_ q
 show EvS B _ _ [some (.st d)]
 row_cond go
 cases d with
 | int i => refine abo ?_; row_cond go; exact k
 | bool b => refine abo ?_; row_cond go; exact k
 | _=>refine ab2 ?_;exact k
theorem sc_is_between:FnScope ["least","most","thing"] ["least","most","thing"] (aad s_is_between):=⟨rfl,rfl,rfl,by decide +kernel,rfl,by decide +kernel,by decide +kernel⟩
theorem aie (T:Txt K mg):Can P w K mg base "is_between" 2 ["least","most","thing"] (spP K (aqy)):=by
 obtain ⟨f,fd,D⟩:=T.d_is_between
 refine D.can (D.fn.ok sc_is_between (fun vs H Q E h=>lenP h fun ss Q' q=>by obtain ⟨a,b,d,rfl,k⟩:=q;rfl) (fun cdv A outer s H vs Q E hr h=>?_))
 have nd:=sc_is_between.nd
 refine ⟨_,(aah (aas (aj2 (aag (alu T) hr (aaa (pv 2) aab)) (aj1 (aq4 atl atl (pv 0) (pv 2) (pv 1)))))),?_⟩
 refine abc h fun ss Q' q B hK=>?_
 refine exS3 ss q fun a b d q1_=>?_
 have k:=q1_
 clear q1_ q
 show EvS B _ _ [some (.st (.int a)),some (.st (.int b)),some (.st d)]
 row_cond go
 refine ⟨d,rfl,?_⟩
 row_cond go
 cases d with
 | int i =>
  refine abo ?_
  row_cond go
  refine abm (fun h1=>?_) (fun h1=>?_)
  ·row_cond go
   have e:decide (i<=b)=btwD a b (.int i):=by
    show _=decide (a<=i/\i<=b)
    rw [Bool.eq_iff_iff];simp [h1]
   rw [e];exact k
  ·have e:false=btwD a b (.int i):=by
    show _=decide (a<=i/\i<=b)
    exact (decide_eq_false (fun z=>h1 z.1)).symm
   rw [e];exact k
 | _=>exact ab2 k
theorem sc_is_place:FnScope ["n","thing"] ["n","thing"] (aad s_is_place):=⟨rfl,rfl,rfl,by decide +kernel,rfl,by decide +kernel,by decide +kernel⟩
theorem alv (T:Txt K mg):Can P w K mg base "is_place" 3 ["n","thing"] (spP K (awd)):=by
 obtain ⟨f,fd,D⟩:=T.d_is_place
 refine D.can (D.fn.ok sc_is_place (fun vs H Q E h=>lenP h fun ss Q' q=>by obtain ⟨n,d,rfl,k⟩:=q;rfl) (fun cdv A outer s H vs Q E hr h=>?_))
 have nd:=sc_is_place.nd
 refine ⟨_,(aah (aas (aag (aie T) hr (aaa aae (aaa (aar ace (pv 0) aae) (aaa (pv 1) aab)))))),?_⟩
 refine abc h fun ss Q' q B hK=>?_
 refine exS2 ss q fun n d q1_=>?_
 have k:=q1_
 clear q1_ q
 show EvS B _ _ [some (.st (.int n)),some (.st d)]
 row_cond go
 exact ⟨_,_,_,rfl,k⟩
def ay2:VP:=fun ss Q=>∃ (n:Int) (es:List (Int × Int)),ss=[.st (webD n es)]/\0<=n/\n<=100/\InN n es/\es.length<=10000/\∀ tl,TiedL n (Tied es) tl->(∀ us∈tl,us.length<=20000)->Q (.own (OLL (tlD tl)))
theorem sc_tied_places:FnScope ["web","n","ties","tied","a","b"] ["web"] (aad s_tied_places):=⟨rfl,rfl,rfl,by decide +kernel,rfl,by decide +kernel,by decide +kernel⟩
theorem acr (T:Txt K mg):Can P w K mg base "tied_places" 1 ["web"] (spP K (ay2)):=by
 obtain ⟨f,fd,D⟩:=T.d_tied_places
 refine D.can (D.fn.ok sc_tied_places (fun vs H Q E h=>lenP h fun ss Q' q=>by obtain ⟨n,es,rfl,n0,n1,hin,hle,k⟩:=q;rfl) (fun cdv A outer s H vs Q E hr h=>?_))
 have nd:=sc_tied_places.nd
 refine ⟨_,(aac (acm (pv 0) (acd rfl (aax (aam (i:=1) nd rfl (Or.inl rfl)) (aax (aam (i:=2) nd rfl (Or.inl rfl)) abw))))
  (aac (aki (i:=3) nd rfl (Or.inl rfl) rfl (N:=["place"]) (src:=[none]) (by exact abn rfl rfl rfl rfl rfl rfl) (ack rfl T.b_range (aaa (pv 1) aab)) (fun _ _ _ _=>(aam (i:=0) (show List.Nodup (["place"]:List Str) by decide +kernel) rfl (Or.inl rfl) (hf:=Or.inr rfl))) (fun _ _ _ _=>ab6) (fun _ _ _ _=>(aa7 aab)))
  (aac (ac0 PassesOwn.never rfl (ab4 (pv 2)) (acd rfl (aax (aam (i:=4) nd rfl (Or.inl rfl)) (aax (aam (i:=5) nd rfl (Or.inl rfl)) abw)))
   (aac (abe (aco PySem.F.plainAttrs_list PySem.F.slot_list_append PySem.F.type_list_append abq (aay aaz (pv 3) (pv 4) (fun _ _=>rfl)) (aaa (pv 5) aab)))
    (aah (abe (aco PySem.F.plainAttrs_list PySem.F.slot_list_append PySem.F.type_list_append abq (aay aaz (pv 3) (pv 5) (fun _ _=>rfl)) (aaa (pv 4) aab))))))
  (aah (aas (pv 3)))))),?_⟩
 refine abc h fun ss Q' q B hK=>?_
 refine exS2 ss q fun n es q1_=>?_
 have n0:=q1_.1
 have n1:=q1_.2.1
 have hin:=q1_.2.2.1
 have hle:=q1_.2.2.2.1
 have k:=q1_.2.2.2.2
 clear q1_ q
 show EvS B _ _ [some (.st (webD n es)),none,none,none,none,none]
 row_cond go
 rw [acg]
 refine ⟨by row_cond lo,?_⟩
 row_cond go
 refine aeh (fun i e=>∃ v4 v5 tl,e=[some (.st (webD n es)),some (.st (.int n)),some (.st (.list (es.map prD))),some (.own (OLL (tlD tl))),v4,v5]/\TiedL n (Tied (es.take i)) tl/\∀ ws∈tl,ws.length<=2 * i)
  ⟨none,none,List.replicate n.toNat [],by simp [tlD],⟨by simp;row_cond lo,fun i ws hi w=>?_⟩,fun ws hw=>?_⟩ ?_ ?_
 ·rw [List.getElem?_replicate] at hi
  split at hi
  ·cases hi;simp [Tied]
  ·cases hi
 ·have:=List.eq_of_mem_replicate hw
  subst this;simp
 ·rintro i ⟨a,b⟩ e hx q0_
  refine exS3 e q0_ fun v4 v5 tl q1_=>?_
  have ht:=q1_.1
  have hlen:=q1_.2
  clear q1_ q0_
  have hi:i < es.length:=(List.getElem?_eq_some_iff.mp hx).1
  obtain ⟨a0,a1,b0,b1⟩:=hin _ (List.mem_of_getElem? hx)
  dsimp only at a0 a1 b0 b1
  row_cond go
  obtain ⟨ws,hws,_⟩:=ht.get a0 a1
  have l1:=hlen ws (List.mem_of_getElem? hws)
  refine ag5 (n:=a.toNat) (ds:=ws.map .int) rfl rfl rfl (by rw [List.length_map];exact ag6 a0 (by rw [ht.1];exact a1)) (afn hws) (by rw [List.length_map];row_cond lo) ?_
  dsimp only [List.set_cons_zero,List.set_cons_succ]
  have t2:=ht.put (q:=b) a0 a1 hws
  rw [show ws.map PyData.int ++ [.int b]=(ws ++ [b]).map .int by simp,anb]
  have hlen2:∀ us∈tl.set a.toNat (ws ++ [b]),us.length<=2 * i+1:=fun us hu=>by
   rcases List.mem_or_eq_of_mem_set hu with h | h
   ·have:=hlen us h;row_cond lo
   ·subst h;simp;row_cond lo
  generalize tl.set a.toNat (ws ++ [b])=tl2 at t2 hlen2
  row_cond go
  obtain ⟨ws,hws,_⟩:=t2.get b0 b1
  have l1:=hlen2 ws (List.mem_of_getElem? hws)
  refine ag5 (n:=b.toNat) (ds:=ws.map .int) rfl rfl rfl (by rw [List.length_map];exact ag6 b0 (by rw [t2.1];exact b1)) (afn hws) (by rw [List.length_map];row_cond lo) ?_
  dsimp only [List.set_cons_zero,List.set_cons_succ]
  rw [show ws.map PyData.int ++ [.int a]=(ws ++ [a]).map .int by simp,anb]
  refine ⟨_,_,_,rfl,(t2.put (q:=a) b0 b1 hws).iff fun u v=>(Tied.snoc hx u v).symm,fun us hu=>?_⟩
  rcases List.mem_or_eq_of_mem_set hu with h | h
  ·have:=hlen2 us h;row_cond lo
  ·subst h;simp;row_cond lo
 ·rintro e q0_
  refine exS3 e q0_ fun v4 v5 tl q1_=>?_
  have ht:=q1_.1
  have hlen:=q1_.2
  clear q1_ q0_
  rw [List.take_length] at ht
  row_cond go
  exact k tl ht fun us hu=>by have:=hlen us hu;row_cond lo
end
@[reducible] noncomputable def tlV (tl:List (List Int)):PyData:=.list ((tlD tl).map .list)
def a0b:VP:=fun ss Q=>∃ (n a:Int) (T:Int->Int->Prop) (tl:List (List Int)),ss=[.st (tlV tl),.st (.int a)]/\n<=100/\TiedL n T tl/\(∀ u v,T u v->0<=v/\v < n)/\0<=a/\a < n/\Q (.own (OL (lab n.toNat (Gr.farO T a))))
section
variable {P:Program} {w:World} {K:PySem.W.Frag} {mg:Str->Option Value} {base:Heap}
theorem sc_far_from:FnScope ["tied","start","far","edge","beyond","place","other"] ["tied","start"] (aad s_far_from):=⟨rfl,rfl,rfl,by decide +kernel,rfl,by decide +kernel,by decide +kernel⟩
theorem adr (T:Txt K mg):Can P w K mg base "far_from" 1 ["tied","start"] (spP K (a0b)):=by
 obtain ⟨f,fd,D⟩:=T.d_far_from
 refine D.can (D.fn.ok sc_far_from (fun vs H Q E h=>lenP h fun ss Q' q=>by obtain ⟨n,a,T,tl,rfl,n1,ht,hT,a0,a1,k⟩:=q;rfl) (fun cdv A outer s H vs Q E hr h=>?_))
 have nd:=sc_far_from.nd
 refine ⟨_,(aac (aak (i:=2) nd rfl (Or.inl rfl) (aar axc (aa7 (aaa acz aab)) (aan ab0 (by rfl) T.b_len adn (aaa (pv 0) aab))))
  (aac (acm aae (agn (pv 2) (pv 1) aeb))
  (aac (aak (i:=3) nd rfl (Or.inl rfl) (aa7 (aaa (pv 1) aab)))
  (aac (aj4 PassesOwn.never (axn (pv 3))
   (aac (aak (i:=4) nd rfl (Or.inl rfl) (aa7 aab))
    (aac (ac0 PassesOwn.never rfl (ab4 (pv 3)) (aam (i:=5) nd rfl (Or.inl rfl))
     (aah (ac0 PassesOwn.never rfl (ab4 (aay aaz (pv 0) (pv 5) (fun _ _=>rfl))) (aam (i:=6) nd rfl (Or.inl rfl))
       (aah (abh (aau ahw (aay aaz (pv 2) (pv 6) (fun _ _=>rfl)) acz (aa0 _))
         (aac (acm (aar abl (aay aaz (pv 2) (pv 5) (fun _ _=>rfl)) aae) (agn (pv 2) (pv 6) aeb))
          (aah (abe (aco PySem.F.plainAttrs_list PySem.F.slot_list_append PySem.F.type_list_append abq (pv 4) (aaa (pv 6) aab)))))
         aa5)))))
    (aah (aak (i:=3) nd rfl (Or.inl rfl) (pv 4))))))
  (aah (aas (pv 2))))))),?_⟩
 refine abc h fun ss Q' q B hK=>?_
 refine exS4 ss q fun n a T tl q1_=>?_
 have n1:=q1_.1
 have ht:=q1_.2.1
 have hT:=q1_.2.2.1
 have a0:=q1_.2.2.2.1
 have a1:=q1_.2.2.2.2.1
 have k:=q1_.2.2.2.2.2
 clear q1_ q
 show EvS B _ _ [some (.st (tlV tl)),some (.st (.int a)),none,none,none,none,none]
 have hl:tl.length=n.toNat:=by have:=ht.1;row_cond lo
 row_cond go
 refine avb (by first | row_cond lo | (simp;done) | (simp;row_cond lo)) (by first | row_cond lo | (simp;done) | (simp;row_cond lo)) (by first | row_cond lo | (simp;done) | (simp;row_cond lo)) ?_
 simp only [List.length_map,hl]
 rw [show ((n.toNat:Nat):Int).toNat=n.toNat by row_cond lo,avj]
 row_cond go
 refine aor (j:=a.toNat) rfl (by rw [aca];exact ag6 a0 (by row_cond lo)) ?_
 dsimp only [List.set_cons_zero,List.set_cons_succ,reS]
 rw [show (PyData.int 0)=.int ((0:Nat):Int) from rfl,ana a0 (by row_cond lo)]
 row_cond go
 refine ave 3 rfl abu ?_
 dsimp only [List.set_cons_zero,List.set_cons_succ]
 refine air (fun m e=>∃ v4 v5 v6 far edge kk,e=[some (.st (tlV tl)),some (.st (.int a)),some (.own (OL (lab n.toNat far))),some (.st (.list (edge.map .int))),v4,v5,v6]/\Gr.Ring T a kk far edge/\(∀ v∈edge,0<=v/\v < n)/\m=2 * cnt far n.toNat+(if edge=[] then 0 else 1))
  ⟨_,none,none,none,_,[a],0,rfl,Gr.Ring.start,fun v hv=>by simp at hv;subst hv;exact ⟨a0,a1⟩,rfl⟩ ?_
 rintro m e q0_
 refine exS6 e q0_ fun v4 v5 v6 far edge kk q1_=>?_
 have hR:=q1_.1
 have hb:=q1_.2.1
 have e2_:=q1_.2.2
 clear q1_ q0_
 subst e2_
 row_cond go
 rw [ama]
 cases hedge:edge with
 | nil =>
  subst hedge
  refine ab2 ?_
  row_cond go
  rw [ap6 (g:=Gr.farO T a) fun v _ _=>hR.fin v]
  exact k
 | cons e0 er =>
  refine abo ?_
  rw [← hedge]
  have hne:edge ≠ []:=by rw [hedge];simp
  row_cond go
  refine aeh (fun i e=>∃ v5 v6 far' beyond,e=[some (.st (tlV tl)),some (.st (.int a)),some (.own (OL (lab n.toNat far'))),some (.st (.list (edge.map .int))),some (.own (OL (beyond.map .int))),v5,v6]/\Gr.Mid T kk far edge (fun u=>u∈edge.take i) far' beyond/\cnt far' n.toNat+beyond.length=cnt far n.toNat/\∀ v∈beyond,0<=v/\v < n)
   ⟨v5,v6,far,[],rfl,Gr.Mid.start.imp fun u hu=>by simp at hu,rfl,fun v hv=>by simp at hv⟩ ?_ ?_
  ·rintro i p e hp q0_
   refine exS4 e q0_ fun v5 v6 far' beyond q1_=>?_
   have hM:=q1_.1
   have hc:=q1_.2.1
   have hbd:=q1_.2.2
   clear q1_ q0_
   have hpe:=List.mem_of_getElem? hp
   obtain ⟨p0,p1⟩:=hb p hpe
   obtain ⟨ws,hws,hw⟩:=ht.get p0 p1
   have hat:atI ((tlD tl).map PyData.list) p=some (.list (ws.map .int)):=ag7 (f:=PyData.list) (ag8 p0 (afn hws))
   row_cond go
   have hfp:far p=some kk:=(hR.lab p kk).mpr ⟨(hR.edg p).mp hpe,Nat.le_refl _⟩
   refine aeh (fun j e=>∃ v6 far' beyond,e=[some (.st (tlV tl)),some (.st (.int a)),some (.own (OL (lab n.toNat far'))),some (.st (.list (edge.map .int))),some (.own (OL (beyond.map .int))),some (.st (.int p)),v6]/\Gr.Mid T kk far edge (fun u=>u∈edge.take i) far' beyond/\cnt far' n.toNat+beyond.length=cnt far n.toNat/\(∀ v∈beyond,0<=v/\v < n)/\∀ x∈ws.take j,far' x ≠ none)
    ⟨v6,far',beyond,rfl,hM,hc,hbd,fun x hx=>by simp at hx⟩ ?_ ?_
   ·rintro j u e hu q0_
    refine exS3 e q0_ fun v6 far' beyond q1_=>?_
    have hM:=q1_.1
    have hc:=q1_.2.1
    have hbd:=q1_.2.2.1
    have hdn:=q1_.2.2.2
    clear q1_ q0_
    have tu:T p u:=(hw u).mp (List.mem_of_getElem? hu)
    obtain ⟨u0,u1⟩:=hT _ _ tu
    have hau:atI (lab n.toNat far') u=some (oD (far' u)):=aez u0 (by row_cond lo)
    have hap:atI (lab n.toNat far') p=some (.int (kk:Int)):=by
     rw [aez p0 (by row_cond lo),hM.old p kk hfp];rfl
    row_cond go
    rw [avi]
    cases hf:far' u with
    | none =>
     refine abo ?_
     row_cond go
     refine aor (j:=u.toNat) rfl (by rw [aca];exact ag6 u0 (by row_cond lo)) ?_
     dsimp only [List.set_cons_zero,List.set_cons_succ,reS]
     rw [show (PyData.int ((kk:Int)+1))=.int ((kk+1:Nat):Int) by simp,ana u0 (by row_cond lo)]
     have hcc:=aix (d:=kk+1) u0 hf (n:=n.toNat) (by row_cond lo)
     have hblen:beyond.length<=cnt far n.toNat:=by row_cond lo
     have hcn:∀ m,cnt far m<=m:=fun m=>by
      induction m with
      | zero=>exact Nat.le_refl _
      | succ m ih => unfold cnt; split <;> row_cond lo
     have:=hcn n.toNat
     row_cond go
     refine ⟨some (.st (.int u)),Gr.label far' u (kk+1),beyond ++ [u],by simp,hM.add hpe tu hf,by simp;row_cond lo,fun v hv=>?_,fun x hx=>?_⟩
     ·rcases List.mem_append.mp hv with h | h
      ·exact hbd v h
      ·have:v=u:=by simpa using h
       subst this;exact ⟨u0,u1⟩
     ·by_cases hx2:x=u
      ·subst hx2;rw [Gr.label_same];simp
      ·rw [Gr.label_ne hx2]
       rcases adf hu hx with h | h
       ·exact hdn x h
       ·exact absurd h hx2
    | some d =>
     refine ab2 ?_
     row_cond go
     refine ⟨_,far',beyond,rfl,hM,hc,hbd,fun x hx=>?_⟩
     rcases adf hu hx with h | h
     ·exact hdn x h
     ·subst h;rw [hf];simp
   ·rintro e q0_
    refine exS3 e q0_ fun v6 far' beyond q1_=>?_
    have hM:=q1_.1
    have hc:=q1_.2.1
    have hbd:=q1_.2.2.1
    have hdn:=q1_.2.2.2
    clear q1_ q0_
    rw [List.take_length] at hdn
    refine ⟨_,_,far',beyond,rfl,?_,hc,hbd⟩
    refine (hM.did (u:=p) fun x tx=>hdn x ((hw x).mpr tx)).imp fun x hx=>?_
    exact adf hp hx
  ·rintro e q0_
   refine exS4 e q0_ fun v5 v6 far' beyond q1_=>?_
   have hM:=q1_.1
   have hc:=q1_.2.1
   have hbd:=q1_.2.2
   clear q1_ q0_
   row_cond go
   refine ⟨_,?_,_,_,_,far',beyond,kk+1,rfl,hR.next hM fun u hu=>by rw [List.take_length];exact hu,hbd,rfl⟩
   rw [if_neg hne]
   cases beyond with
   | nil => rw [if_pos rfl]; simp at hc; row_cond lo
   | cons b0 br => rw [if_neg (by simp)]; simp at hc; row_cond lo
end
def ame:VP:=fun ss Q=>∃ (n a:Int) (es:List (Int × Int)),ss=[.st (webD n es),.st (.int a)]/\0<=a/\a < n/\Q (.st .none)
def asz:VP:=fun ss Q=>∃ (n a:Int) (es:List (Int × Int)),ss=[.st (webD n es),.st (.int a)]/\n<=100/\InN n es/\es.length<=10000/\0<=a/\a < n/\Q (.own (OL (lab n.toNat (Gr.farO (Tied es) a))))
def as0:VP:=fun ss Q=>∃ (n:Int) (es:List (Int × Int)),ss=[.st (webD n es)]/\1<=n/\n<=100/\InN n es/\es.length<=10000/\∀ b:Bool,(b=true ↔ Joined n es)->Q (.st (.bool b))
section
variable {P:Program} {w:World} {K:PySem.W.Frag} {mg:Str->Option Value} {base:Heap}
theorem sc_need_place:FnScope ["web","thing"] ["web","thing"] (aad s_need_place):=⟨rfl,rfl,rfl,by decide +kernel,rfl,by decide +kernel,by decide +kernel⟩
theorem acv (T:Txt K mg):Can P w K mg base "need_place" 4 ["web","thing"] (spP K (ame)):=by
 obtain ⟨f,fd,D⟩:=T.d_need_place
 refine D.can (D.fn.ok sc_need_place (fun vs H Q E h=>lenP h fun ss Q' q=>by obtain ⟨n,a,es,rfl,a0,a1,k⟩:=q;rfl) (fun cdv A outer s H vs Q E hr h=>?_))
 have nd:=sc_need_place.nd
 refine ⟨_,(aah (abh (agm (agj (aag (alv T) hr (aaa (aay aaz (pv 0) aae (fun _ _=>rfl)) (aaa (pv 1) aab)))))
   (aah aj3)
   aa5)),?_⟩
 refine abc h fun ss Q' q B hK=>?_
 refine exS3 ss q fun n a es q1_=>?_
 have a0:=q1_.1
 have a1:=q1_.2.1
 have k:=q1_.2.2
 clear q1_ q
 show EvS B _ _ [some (.st (webD n es)),some (.st (.int a))]
 row_cond go
 refine ⟨_,_,rfl,?_⟩
 row_cond go
 have e:btwD 0 (n - 1) (.int a)=true:=decide_eq_true ⟨a0,by row_cond lo⟩
 rw [e]
 row_cond go
 exact k
theorem sc_all_far:FnScope ["web","a"] ["web","a"] (aad s_all_far):=⟨rfl,rfl,rfl,by decide +kernel,rfl,by decide +kernel,by decide +kernel⟩
theorem amf (T:Txt K mg):Can P w K mg base "all_far" 5 ["web","a"] (spP K (asz)):=by
 obtain ⟨f,fd,D⟩:=T.d_all_far
 refine D.can (D.fn.ok sc_all_far (fun vs H Q E h=>lenP h fun ss Q' q=>by obtain ⟨n,a,es,rfl,n1,hin,hle,a0,a1,k⟩:=q;rfl) (fun cdv A outer s H vs Q E hr h=>?_))
 have nd:=sc_all_far.nd
 refine ⟨_,(aac (abe (aag (acv T) hr (aaa (pv 0) (aaa (pv 1) aab))))
  (aah (aas (aag (adr T) hr (aaa (aag (acr T) hr (aaa (pv 0) aab)) (aaa (pv 1) aab)))))),?_⟩
 refine abc h fun ss Q' q B hK=>?_
 refine exS3 ss q fun n a es q1_=>?_
 have n1:=q1_.1
 have hin:=q1_.2.1
 have hle:=q1_.2.2.1
 have a0:=q1_.2.2.2.1
 have a1:=q1_.2.2.2.2.1
 have k:=q1_.2.2.2.2.2
 clear q1_ q
 show EvS B _ _ [some (.st (webD n es)),some (.st (.int a))]
 row_cond go
 refine ⟨n,a,es,rfl,a0,a1,?_⟩
 row_cond go
 refine ⟨n,es,rfl,by row_cond lo,n1,hin,hle,fun tl ht _=>?_⟩
 refine ayi ?_
 row_cond go
 exact ⟨n,a,Tied es,tl,rfl,n1,ht,fun u v h=>(h.in hin).2,a0,a1,k⟩
theorem sc_is_joined:FnScope ["web"] ["web"] (aad s_is_joined):=⟨rfl,rfl,rfl,by decide +kernel,rfl,by decide +kernel,by decide +kernel⟩
theorem aen (T:Txt K mg):Can P w K mg base "is_joined" 6 ["web"] (spP K (as0)):=by
 obtain ⟨f,fd,D⟩:=T.d_is_joined
 refine D.can (D.fn.ok sc_is_joined (fun vs H Q E h=>lenP h fun ss Q' q=>by obtain ⟨n,es,rfl,n0,n1,hin,hle,k⟩:=q;rfl) (fun cdv A outer s H vs Q E hr h=>?_))
 have nd:=sc_is_joined.nd
 refine ⟨_,(aah (aas (aho (apw hr.units) acz (aag (amf T) hr (aaa (pv 0) (aaa aae aab))) rfl))),?_⟩
 refine abc h fun ss Q' q B hK=>?_
 refine exS2 ss q fun n es q1_=>?_
 have n0:=q1_.1
 have n1:=q1_.2.1
 have hin:=q1_.2.2.1
 have hle:=q1_.2.2.2.1
 have k:=q1_.2.2.2.2
 clear q1_ q
 show EvS B _ _ [some (.st (webD n es))]
 row_cond go
 refine ⟨n,0,es,rfl,n1,hin,hle,by row_cond lo,by row_cond lo,?_⟩
 row_cond go
 refine au6 rfl ap7 (by simp [PyData.depth]) ?_
 row_cond go
 refine k _ ?_
 rw [if_pos rfl,Bool.not_eq_true',← Bool.not_eq_true,avk]
 constructor
 ·intro h v v0 v1
  cases e:Gr.farO (Tied es) 0 v with
  | some d=>exact ⟨d,Gr.farO_some.mp e⟩
  | none => exact absurd ⟨v, v0, by row_cond lo, e⟩ h
 ·rintro h ⟨v,v0,v1,e⟩
  obtain ⟨d,hd⟩:=h v v0 (by row_cond lo)
  exact Gr.farO_none.mp e d hd
end
noncomputable def dsF (es:List (Int × Int)) (u v:Int):Int:=(((Gr.farO (Tied es) u v).getD 0:Nat):Int)
noncomputable def rowD (n:Nat) (r:Int->Int):List PyData:=(List.range n).map fun (i:Nat) => .int (r (i:Int))
noncomputable def matD (n:Nat) (m:Int->Int->Int):List PyData:=(List.range n).map fun (u:Nat) => .list (rowD n (m (u:Int)))
theorem aqz {n:Nat} {r:Int->Int} {x:Int} (h0:0<=x) (h1:x < n):atI (rowD n r) x=some (.int (r x)):=by
 have:=afa (xs:=rowD n r) (j:=x.toNat) (v:=.int (r x)) (by
  unfold rowD
  rw [List.getElem?_map,List.getElem?_eq_getElem (by simp;row_cond lo)]
  simp [Int.max_eq_left h0])
 rwa [show ((x.toNat:Nat):Int)=x by row_cond lo] at this
theorem ay3 {n:Nat} {m:Int->Int->Int} {x:Int} (h0:0<=x) (h1:x < n):atI (matD n m) x=some (.list (rowD n (m x))):=by
 have:=afa (xs:=matD n m) (j:=x.toNat) (v:=.list (rowD n (m x))) (by
  unfold matD
  rw [List.getElem?_map,List.getElem?_eq_getElem (by simp;row_cond lo)]
  simp [Int.max_eq_left h0])
 rwa [show ((x.toNat:Nat):Int)=x by row_cond lo] at this
theorem awe {n:Nat} {m:Int->Int->Int}:(matD n m).length=n:=by simp [matD]
theorem ael {n:Nat} {r:Int->Int}:rowD n r=((List.range n).map fun (i:Nat)=>r (i:Int)).map .int:=by simp [rowD]
theorem ahi {n:Int} {es:List (Int × Int)} (hJ:Joined n es) {u v:Int} (u0:0<=u) (u1:u < n) (v0:0<=v) (v1:v < n):∃ d,Gr.farO (Tied es) u v=some d:=by
 cases e:Gr.farO (Tied es) u v with
 | some d=>exact ⟨d,rfl⟩
 | none =>
  obtain ⟨k,hw⟩:=hJ.conn u v u0 u1 v0 v1
  obtain ⟨d,_,hd⟩:=Gr.Dist.of_walk hw
  exact absurd hd (Gr.farO_none.mp e d)
theorem awf {n:Int} {es:List (Int × Int)} (hJ:Joined n es) {u:Int} (u0:0<=u) (u1:u < n):lab n.toNat (Gr.farO (Tied es) u)=rowD n.toNat (dsF es u):=by
 unfold lab rowD
 refine List.map_congr_left fun i hi=>?_
 obtain ⟨d,e⟩:=ahi hJ u0 u1 (show 0<=(i:Int) by row_cond lo) (by have:=List.mem_range.mp hi;row_cond lo)
 simp only [dsF,e,oD,Option.getD_some]
theorem acw {α:Type} {K:PySem.W.Frag} {src:List (Option Nat)} {e1:En} {te:TE} {R:List PyData->En->Prop} {xs:List α} {f : α->PyData} (g : α->PyData) (hno:noIo (aal src e1)=true) (hl:xs.length<=999999)
  (h:∀ x∈xs,∀ B':Bs,B'.K=K->Ev B' te (some (.st (f x)) :: aal src e1) fun y e4=>y=g x/\e4=some (.st (f x)) :: aal src e1)
  (hR:R (xs.map g) e1):LcV K (none :: src) (aa2 0) tYes te (xs.map f) e1 R:=by
 have hno':noIo (aal (none :: src) e1)=true:=by
  show ((none :: aal src e1).all fun s => !isIo s)=true
  rw [List.all_cons]
  exact (Bool.and_eq_true _ _).mpr ⟨rfl,hno⟩
 refine ⟨fun i ys e=>ys=(xs.take i).map g/\∃ o,e=stO o :: aal src e1,⟨by simp,none,rfl⟩,?_,?_,?_⟩
 ·rintro i ys e ⟨_,o,rfl⟩
  exact ⟨⟨isIo_stO.symm,ada⟩,ad1 ad2⟩
 ·rintro i d ys e hd ⟨rfl,o,rfl⟩ B' hB
  rw [List.getElem?_map] at hd
  cases hx:xs[i]? with
  | none=>rw [hx] at hd;cases hd
  | some x =>
   rw [hx] at hd
   cases hd
   have hi:i < xs.length:=(List.getElem?_eq_some_iff.mp hx).1
   have et:xs.take (i+1)=xs.take i ++ [x]:=by rw [List.take_add_one,hx];rfl
   refine aa1 (afe ?_)
   rw [if_pos rfl]
   intro σ G H F Q I k
   refine h x (List.mem_of_getElem? hx) B' hB σ G H F Q I fun v G' H' F' d' e4 I' g' r' ⟨hy,he4⟩=>k v G' H' F' d' e4 I' g' r' ?_
   subst hy he4
   refine ⟨by simp;row_cond lo,by rw [et];simp,some _,rfl⟩
 ·rintro ys e ⟨rfl,o,rfl⟩
  rw [ah5 hno']
  simpa using hR
theorem agf {ns:List Int} {x y:Int} (h:acy ns x) (g:acy ns y):x=y:=Int.le_antisymm (g.2 x h.1) (h.2 y g.1)
theorem ad9:∀ {ns:List Int},ns ≠ []->∃ x,acy ns x
 | [a],_=>⟨a,by simp [acy]⟩
 | a :: b :: r,_=>by
  obtain ⟨x,hx,hm⟩:=ad9 (ns:=b :: r) (by simp)
  by_cases h:a<=x
  ·exact ⟨x,List.mem_cons_of_mem _ hx,fun y hy=>by
    rcases List.mem_cons.mp hy with rfl | hy
    ·exact h
    ·exact hm y hy⟩
  ·exact ⟨a,List.mem_cons_self,fun y hy=>by
    rcases List.mem_cons.mp hy with rfl | hy
    ·exact Int.le_refl _
    ·have:=hm y hy;row_cond lo⟩
theorem anu {n:Nat} (n0:1<=n) (m:Int->Int->Int):∃ mx:Nat->Int,∀ u:Nat,acy ((List.range n).map fun (i:Nat)=>m (u:Int) (i:Int)) (mx u) :=
 ⟨fun u=>Classical.choose (ad9 (ns:=(List.range n).map fun (i:Nat)=>m (u:Int) (i:Int)) (by simp;row_cond lo)),fun u=>Classical.choose_spec (ad9 (ns:=(List.range n).map fun (i:Nat)=>m (u:Int) (i:Int)) (by simp;row_cond lo))⟩
def alw:VP:=fun ss Q=>∃ (n:Int) (es:List (Int × Int)),ss=[.st (webD n es)]/\1<=n/\n<=100/\InN n es/\es.length<=10000/\Joined n es/\Q (.st .none)
def aq0:VP:=fun ss Q=>∃ (n:Int) (es:List (Int × Int)),ss=[.st (webD n es)]/\1<=n/\n<=100/\InN n es/\es.length<=10000/\Joined n es/\Q (.own (OL (matD n.toNat (dsF es))))
def at7 (n:Nat) (m:Int->Int->Int) (x:Int):Prop:=(∃ u v:Int,0<=u/\u < n/\0<=v/\v < n/\m u v=x)/\∀ u v:Int,0<=u->u < n->0<=v->v < n->m u v<=x
def aq1:VP:=fun ss Q=>∃ (n:Nat) (m:Int->Int->Int),ss=[.st (.list (matD n m))]/\1<=n/\n<=1000/\∀ x,at7 n m x->Q (.st (.int x))
structure FreeAll (n:Int) (es fs:List (Int × Int)):Prop where
 mem:∀ p:Int × Int,p∈fs ↔ (0<=p.1/\p.1 < p.2/\p.2 < n/\p ∉ es)
 rise:Rise fs
theorem FreeAll.len {n:Int} {es fs:List (Int × Int)} (h:FreeAll n es fs) (h1:n<=100):fs.length<=10000:=PsOk.len ⟨h.rise.nodup,fun p hp=>by have:=(h.mem p).mp hp;row_cond lo⟩ h1
section
variable {P:Program} {w:World} {K:PySem.W.Frag} {mg:Str->Option Value} {base:Heap}
theorem sc_need_joined:FnScope ["web"] ["web"] (aad s_need_joined):=⟨rfl,rfl,rfl,by decide +kernel,rfl,by decide +kernel,by decide +kernel⟩
theorem ahj (T:Txt K mg):Can P w K mg base "need_joined" 7 ["web"] (spP K (alw)):=by
 obtain ⟨f,fd,D⟩:=T.d_need_joined
 refine D.can (D.fn.ok sc_need_joined (fun vs H Q E h=>lenP h fun ss Q' q=>by obtain ⟨n,es,rfl,n0,n1,hin,hle,hJ,k⟩:=q;rfl) (fun cdv A outer s H vs Q E hr h=>?_))
 have nd:=sc_need_joined.nd
 refine ⟨_,(aah (abh (agm (agj (aag (aen T) hr (aaa (pv 0) aab))))
   (aah aj3)
   aa5)),?_⟩
 refine abc h fun ss Q' q B hK=>?_
 refine exS2 ss q fun n es q1_=>?_
 have n0:=q1_.1
 have n1:=q1_.2.1
 have hin:=q1_.2.2.1
 have hle:=q1_.2.2.2.1
 have hJ:=q1_.2.2.2.2.1
 have k:=q1_.2.2.2.2.2
 clear q1_ q
 show EvS B _ _ [some (.st (webD n es))]
 row_cond go
 refine ⟨n,es,rfl,n0,n1,hin,hle,fun b hb=>?_⟩
 have:b=true:=hb.mpr hJ
 subst this
 row_cond go
 exact k
theorem sc_far_rows:FnScope ["web","tied"] ["web"] (aad s_far_rows):=⟨rfl,rfl,rfl,by decide +kernel,rfl,by decide +kernel,by decide +kernel⟩
theorem ads (T:Txt K mg):Can P w K mg base "far_rows" 8 ["web"] (spP K (aq0)):=by
 obtain ⟨f,fd,D⟩:=T.d_far_rows
 refine D.can (D.fn.ok sc_far_rows (fun vs H Q E h=>lenP h fun ss Q' q=>by obtain ⟨n,es,rfl,n0,n1,hin,hle,hJ,k⟩:=q;rfl) (fun cdv A outer s H vs Q E hr h=>?_))
 have nd:=sc_far_rows.nd
 refine ⟨_,(aac (abe (aag (ahj T) hr (aaa (pv 0) aab)))
  (aac (aak (i:=1) nd rfl (Or.inr rfl) (aag (acr T) hr (aaa (pv 0) aab)))
  (aah (aas (ady rfl (N:=["place","tied"]) (src:=[none,some 1]) (by exact abn rfl rfl rfl rfl rfl rfl) (ack rfl T.b_range (aaa (aan ab0 (by rfl) T.b_len adn (aaa (pv 1) aab)) aab)) (fun _ _ _ _=>(aam (i:=0) (show List.Nodup (["place","tied"]:List Str) by decide +kernel) rfl (Or.inl rfl) (hf:=Or.inr rfl))) (fun _ _ _ _=>ab6) (fun _ _ _ _=>(aag (adr T) hr (aaa (pv 1) (aaa (pv 0) aab))))))))),?_⟩
 refine abc h fun ss Q' q B hK=>?_
 refine exS2 ss q fun n es q1_=>?_
 have n0:=q1_.1
 have n1:=q1_.2.1
 have hin:=q1_.2.2.1
 have hle:=q1_.2.2.2.1
 have hJ:=q1_.2.2.2.2.1
 have k:=q1_.2.2.2.2.2
 clear q1_ q
 show EvS B _ _ [some (.st (webD n es)),none]
 row_cond go
 refine ⟨n,es,rfl,n0,n1,hin,hle,hJ,?_⟩
 row_cond go
 refine ⟨n,es,rfl,by row_cond lo,n1,hin,hle,fun tl ht _=>?_⟩
 refine abp afm ?_
 have hl:tl.length=n.toNat:=by have:=ht.1;row_cond lo
 have hl2:((tlD tl).map PyData.list).length=n.toNat:=by simp [tlD,hl]
 row_cond go
 rw [hl2,show (((n.toNat:Nat):Int)).toNat=n.toNat by row_cond lo]
 unfold rngD
 refine acw (fun u:Nat => .list (rowD n.toNat (dsF es (u:Int)))) rfl (by simp;row_cond lo) (fun u hu B' hB=>?_) ?_
 ·have hu1:(u:Int) < n:=by have:=List.mem_range.mp hu;row_cond lo
  row_cond go
  refine ⟨n,0+(u:Int),Tied es,tl,rfl,n1,ht,fun u v h=>(h.in hin).2,by row_cond lo,by row_cond lo,afd ⟨?_,rfl⟩⟩
  rw [Int.zero_add,awf hJ (by row_cond lo) hu1]
 ·row_cond go
  exact k
theorem sc_most_far:FnScope ["rows"] ["rows"] (aad s_most_far):=⟨rfl,rfl,rfl,by decide +kernel,rfl,by decide +kernel,by decide +kernel⟩
theorem ae4 (T:Txt K mg):Can P w K mg base "most_far" 1 ["rows"] (spP K (aq1)):=by
 obtain ⟨f,fd,D⟩:=T.d_most_far
 refine D.can (D.fn.ok sc_most_far (fun vs H Q E h=>lenP h fun ss Q' q=>by obtain ⟨n,m,rfl,n0,n1,k⟩:=q;rfl) (fun cdv A outer s H vs Q E hr h=>?_))
 have nd:=sc_most_far.nd
 refine ⟨_,(aah (aas (aan (ac9 rfl) (by rfl) T.b_max ado (aaa (ady rfl (N:=["row"]) (src:=[none]) (by exact abn rfl rfl rfl rfl rfl rfl) (ab4 (pv 0)) (fun _ _ _ _=>(aam (i:=0) (show List.Nodup (["row"]:List Str) by decide +kernel) rfl (Or.inl rfl) (hf:=Or.inr rfl))) (fun _ _ _ _=>ab6) (fun _ _ _ _=>(aan (show aa9 _ (.builtin "max") (afc K) from (ac9 rfl)) (by rfl) T.b_max ado (aaa (pv 0) aab)))) aab)))),?_⟩
 refine abc h fun ss Q' q B hK=>?_
 refine exS2 ss q fun n m q1_=>?_
 have n0:=q1_.1
 have n1:=q1_.2.1
 have k:=q1_.2.2
 clear q1_ q
 show EvS B _ _ [some (.st (.list (matD n m)))]
 obtain ⟨mx,hmx⟩:=anu n0 m
 row_cond go
 unfold matD
 refine acw (fun u:Nat => .int (mx u)) rfl (by simp;row_cond lo) (fun u hu B' hB=>?_) ?_
 ·row_cond go
  rw [ael]
  exact adp (by simp;row_cond lo) fun x hx=>⟨by rw [agf hx (hmx u)],rfl⟩
 ·row_cond go
  rw [show (List.range n).map (fun u:Nat=>PyData.int (mx u))=((List.range n).map mx).map .int by rw [List.map_map];rfl]
  refine adp (by simp;row_cond lo) fun x hx=>?_
  row_cond go
  refine k x ⟨?_,fun u v u0 u1 v0 v1=>?_⟩
  ·obtain ⟨i,hi,e⟩:=List.mem_map.mp hx.1
   obtain ⟨j,hj,e2⟩:=List.mem_map.mp (hmx i).1
   exact ⟨i,j,by row_cond lo,by have:=List.mem_range.mp hi;row_cond lo,by row_cond lo,by have:=List.mem_range.mp hj;row_cond lo,e2.trans e⟩
  ·have h1:=(hmx u.toNat).2 (m ((u.toNat:Nat):Int) ((v.toNat:Nat):Int)) (List.mem_map.mpr ⟨v.toNat,List.mem_range.mpr (by row_cond lo),rfl⟩)
   have h2:=hx.2 (mx u.toNat) (List.mem_map.mpr ⟨u.toNat,List.mem_range.mpr (by row_cond lo),rfl⟩)
   rw [show ((u.toNat:Nat):Int)=u by row_cond lo,show ((v.toNat:Nat):Int)=v by row_cond lo] at h1
   row_cond lo
end
noncomputable def stD (g c t:Int):List PyData:=[.int g,.int c,.int t]
def ay4:VP:=fun ss Q=>∃ (ns:List Int) (k:Int),ss=[.scr ns,.st (.int k)]/\0<=k/\k < 1048576/\∀ c,Q (.st (.int c))
def awg:VP:=fun ss Q=>∃ c:Int,ss=[.st (.int c)]/\∀ g t u,Q (.own (OL (stD g t u)))
def ay5:VIo:=fun A ss Q=>∃ g c t many:Int,A=OL (stD g c t)/\ss=[.st (.int many)]/\0 < many/\many < 1073741824/\∀ r g' c' t':Int,0<=r->r < many->Q (OL (stD g' c' t')) (.st (.int r))
section
variable {P:Program} {w:World} {K:PySem.W.Frag} {mg:Str->Option Value} {base:Heap}
theorem sc_law_cell:FnScope ["script","k"] ["script","k"] (aad s_law_cell):=⟨rfl,rfl,rfl,by decide +kernel,rfl,by decide +kernel,by decide +kernel⟩
theorem alx (T:Txt K mg):Can P w K mg base "_law_cell" 1 ["script","k"] (spP K (ay4)):=by
 obtain ⟨f,fd,D⟩:=T.d_law_cell
 refine D.can (D.fn.ok sc_law_cell (fun vs H Q E h=>lenP h fun ss Q' q=>by obtain ⟨ns,k,rfl,h0,h1,kk⟩:=q;rfl) (fun cdv A outer s H vs Q E hr h=>?_))
 have nd:=sc_law_cell.nd
 refine ⟨_,(aac (abh (aau aoc (pv 1) (aan ab0 (by rfl) T.b_len adn (aaa (pv 0) aab)) (aa0 _))
   (aah (aas (aay aaz (pv 0) (pv 1) (fun _ _=>rfl))))
   aa5)
  (aah (aas (aar abl (aar abl (aar ac1 (aar ac1 aae (pv 1)) (pv 1)) (aar ac1 aae (pv 1))) aae)))),?_⟩
 refine abc h fun ss Q' q B hK=>?_
 refine exS2 ss q fun ns k q1_=>?_
 have h0:=q1_.1
 have h1:=q1_.2.1
 have kk:=q1_.2.2
 clear q1_ q
 show EvS B _ _ [some (.scr ns),some (.st (.int k))]
 row_cond go
 refine abm (fun hk=>?_) (fun hk=>?_)
 ·have hin:k.toNat < ns.length:=by row_cond lo
  have hat:atI ns k=some ns[k.toNat]:=ag8 h0 (List.getElem?_eq_getElem hin)
  row_cond go
  exact kk _
 ·row_cond go
  exact kk _
theorem sc_law_store:FnScope ["cell","great"] ["cell"] (aad s_law_store):=⟨rfl,rfl,rfl,by decide +kernel,rfl,by decide +kernel,by decide +kernel⟩
theorem ajp (T:Txt K mg):Can P w K mg base "_law_store" 1 ["cell"] (spP K (awg)):=by
 obtain ⟨f,fd,D⟩:=T.d_law_store
 refine D.can (D.fn.ok sc_law_store (fun vs H Q E h=>lenP h fun ss Q' q=>by obtain ⟨c,rfl,k⟩:=q;rfl) (fun cdv A outer s H vs Q E hr h=>?_))
 have nd:=sc_law_store.nd
 refine ⟨_,(aac (aak (i:=1) nd rfl (Or.inl rfl) aae)
  (aac (abh (aau azg (pv 0) (auk (n:=1000000000000000000) (by decide) (by refine ⟨by decide,by decide,by decide⟩)) (aa0 _))
   (aah (aak (i:=1) nd rfl (Or.inl rfl) (pv 0)))
   aa5)
  (aah (aas (aa7 (aaa (pv 1) (aaa (aar ad4 (pv 0) aae) (aaa aae aab)))))))),?_⟩
 refine abc h fun ss Q' q B hK=>?_
 refine exS1 ss q fun c q1_=>?_
 have k:=q1_
 clear q1_ q
 show EvS B _ _ [some (.st (.int c)),none]
 row_cond go
 refine abm (fun hk=>?_) (fun hk=>?_)
 ·row_cond go
  exact k _ _ _
 ·row_cond go
  exact k _ _ _
theorem sc_law_take:FnScope ["store","many","told","one"] ["store","many"] (aad s_law_take):=⟨rfl,rfl,rfl,by decide +kernel,rfl,by decide +kernel,by decide +kernel⟩
theorem ajq (T:Txt K mg):Can P w K mg base "_law_take" 1 ["store","many"] (spI K (ay5)):=by
 obtain ⟨f,fd,D⟩:=T.d_law_take
 refine D.can (D.fn.ok sc_law_take (fun vs H Q E h=>lenI h fun A ss Q' q=>by obtain ⟨g,c,t,many,rfl,rfl,h1,h2,k⟩:=q;rfl) (fun cdv A outer s H vs Q E hr h=>?_))
 have nd:=sc_law_take.nd
 refine ⟨_,(aac (abh (aau aod (aay aaz (pv 0) aae (fun _ _=>rfl)) aae (aa0 _))
   (aac (aak (i:=2) nd rfl (Or.inl rfl) (aar ad4 (aay aaz (pv 0) aae (fun _ _=>rfl)) (pv 1)))
    (aac (acm (aar aml (aay aaz (pv 0) aae (fun _ _=>rfl)) (pv 1)) (agn (pv 0) aae aeb))
    (aah (aas (pv 2)))))
   aa5)
  (aac (acm (aar abl (aay aaz (pv 0) aae (fun _ _=>rfl)) aae) (agn (pv 0) aae aeb))
  (aac (aak (i:=3) nd rfl (Or.inl rfl) (aar ad4 (aar ac1 (aar abl (aay aaz (pv 0) aae (fun _ _=>rfl)) (aar ac1 aae (aay aaz (pv 0) aae (fun _ _=>rfl)))) aae) aae))
  (aac (aak (i:=3) nd rfl (Or.inl rfl) (aar ad4 (aar ac1 (pv 3) (pv 3)) aae))
  (aac (aak (i:=3) nd rfl (Or.inl rfl) (aar ad4 (aar ac1 (aar abl (pv 3) (aar ac1 aae (aay aaz (pv 0) aae (fun _ _=>rfl)))) aae) aae))
  (aah (aas (aar ad4 (aar aml (pv 3) aae) (pv 1))))))))),?_⟩
 refine afh h fun A0 ss Q' q B hK=>?_
 obtain ⟨g,c,t,many,rfl,rfl,h1,h2,k⟩:=q
 show EvS B _ _ [some (.io (OL (stD g c t))),some (.st (.int many)),none,none]
 unfold stD at *
 row_cond go
 refine abm (fun hk=>?_) (fun hk=>?_)
 ·row_cond go
  exact k _ _ _ _ (Int.emod_nonneg _ (by row_cond lo)) (Int.emod_lt_of_pos _ h1)
 ·row_cond go
  exact k _ _ _ _ (Int.emod_nonneg _ (by row_cond lo)) (Int.emod_lt_of_pos _ h1)
end
noncomputable def OSt:Own:=exO fun q:Int × Int × Int=>OL (stD q.1 q.2.1 q.2.2)
theorem awh {K:PySem.W.Frag} {f:VIo} {vs:List V} {H:Hp} {Q:VK} {E:XK} (h:spI K (fun A ss Q=>A=OSt/\∀ g c t,f (OL (stD g c t)) ss fun A' s=>(∃ g c t,A'=OL (stD g c t))/\Q OSt s) vs H Q E):spI K f vs H Q E:=by
 obtain ⟨v0,vr,G,R,A,ss,F0,Q',rfl,gh,ft,rh,ap,fg,fr,ao,⟨rfl,hf⟩,hQ⟩:=h
 obtain ⟨⟨g,c,t⟩,ap⟩:=ap
 refine ⟨v0,vr,G,R,OL (stD g c t),ss,F0,_,rfl,gh,ft,rh,ap,fg,fr,ao,hf g c t,fun A' s hq v G' H' F' Fv o=>?_⟩
 obtain ⟨⟨g',c',t',rfl⟩,q⟩:=hq
 exact hQ OSt s q v G' H' F' Fv { o with ap:=⟨(g',c',t'),o.ap⟩ }
theorem as4 {P:Program} {w:World} {K:PySem.W.Frag} {mg:Str->Option Value} {base:Heap} {x:Str} {k:Nat} {ps:List Str} {sp sp':Sp} (c:Can P w K mg base x k ps sp) (h:∀ vs H Q E,sp' vs H Q E->sp vs H Q E):Can P w K mg base x k ps sp':=by
 obtain ⟨f,fd,ok,m,kp,b⟩:=c
 exact ⟨f,fd,ok.imp h,m,kp,b⟩
def awi:VIo:=fun A ss Q=>∃ many:Int,A=OSt/\ss=[.st (.int many)]/\0 < many/\many < 1073741824/\∀ r:Int,0<=r->r < many->Q OSt (.st (.int r))
theorem awj {K:PySem.W.Frag} {f f':VIo} {vs:List V} {H:Hp} {Q:VK} {E:XK} (hf:∀ A ss Q',f A ss Q'->f' A ss Q') (h:spI K f vs H Q E):spI K f' vs H Q E:=by
 obtain ⟨v0,vr,G,R,A,ss,F0,Q',rfl,gh,ft,rh,ap,fg,fr,ao,q,hQ⟩:=h
 exact ⟨v0,vr,G,R,A,ss,F0,Q',rfl,gh,ft,rh,ap,fg,fr,ao,hf _ _ _ q,hQ⟩
theorem as6 {B:Bs} {t:TS} {D':VEnds} {env:En} {g c u:Int} (i:Nat) (e:env[i]?=some (some (.own (OL (stD g c u))))) (q:EvS B t D' (env.set i (some (.own OSt)))):EvS B t D' env:=fun σ G H F D I r=>q σ G H F D (I.weakO e fun _ _ _ _ h=>⟨(g,c,u),h⟩) r
section
variable {P:Program} {w:World} {K:PySem.W.Frag} {mg:Str->Option Value} {base:Heap}
theorem aaw (T:Txt K mg):Can P w K mg base "_law_take" 1 ["store","many"] (spI K (awi)) :=
 as4 (ajq T) fun vs H Q E h=>awh (awj (fun A ss Q' q=>by
  obtain ⟨many,rfl,rfl,h1,h2,k⟩:=q
  exact ⟨rfl,fun g c t=>⟨g,c,t,many,rfl,rfl,h1,h2,fun r g' c' t' r0 r1=>⟨⟨g',c',t',rfl⟩,k r r0 r1⟩⟩⟩) h)
end
structure TreeT (n:Int) (ps:List (Int × Int)):Prop where
 len:(ps.length:Int)=n - 1
 at':∀ (i:Nat) p,ps[i]?=some p->0<=p.1/\p.1 < p.2/\p.2=(i:Int)+1
def awk:VIo:=fun A ss Q=>∃ n kind:Int,A=OSt/\ss=[.st (.int n),.st (.int kind)]/\1<=n/\n<=60/\0<=kind/\kind < 4/\∀ ps,TreeT n ps->Q OSt (.own (OL (ps.map prD)))
section
variable {P:Program} {w:World} {K:PySem.W.Frag} {mg:Str->Option Value} {base:Heap}
theorem sc_law_tree_ties:FnScope ["store","n","kind","ties","b","a"] ["store","n","kind"] (aad s_law_tree_ties):=⟨rfl,rfl,rfl,by decide +kernel,rfl,by decide +kernel,by decide +kernel⟩
theorem afu (T:Txt K mg):Can P w K mg base "_law_tree_ties" 2 ["store","n","kind"] (spI K (awk)):=by
 obtain ⟨f,fd,D⟩:=T.d_law_tree_ties
 refine D.can (D.fn.ok sc_law_tree_ties (fun vs H Q E h=>lenI h fun A ss Q' q=>by obtain ⟨n,kind,rfl,rfl,n0,n1,k0,k1,k⟩:=q;rfl) (fun cdv A outer s H vs Q E hr h=>?_))
 have nd:=sc_law_tree_ties.nd
 refine ⟨_,(aac (aak (i:=3) nd rfl (Or.inl rfl) (aa7 aab))
  (aac (ac0 PassesOwn.never rfl (aii rfl T.b_range (aaa aae (aaa (pv 1) aab))) (aam (i:=4) nd rfl (Or.inl rfl))
   (aac (aak (i:=5) nd rfl (Or.inl rfl) (aay aaz (aa7 (aaa (aag (aaw T) hr (aaa (pv 0) (aaa (pv 4) aab))) (aaa (aar ace (aar ace (pv 4) aae) (aag (aaw T) hr (aaa (pv 0) (aaa (aan (adh rfl) (by rfl) T.b_min aet (aaa (pv 4) (aaa aae aab))) aab)))) (aaa (aag (aaw T) hr (aaa (pv 0) (aaa (aan (adh rfl) (by rfl) T.b_min aet (aaa (pv 4) (aaa aae aab))) aab))) (aaa (aar ace (pv 4) aae) aab))))) (pv 2) (fun _ _=>rfl)))
    (aah (abe (aco PySem.F.plainAttrs_list PySem.F.slot_list_append PySem.F.type_list_append abq (pv 3) (aaa (aba (aaa (pv 5) (aaa (pv 4) aab))) aab))))))
  (aah (aas (pv 3))))),?_⟩
 refine afh h fun A0 ss Q' q B hK=>?_
 obtain ⟨n,kind,rfl,rfl,n0,n1,k0,k1,k⟩:=q
 show EvS B _ _ [some (.io OSt),some (.st (.int n)),some (.st (.int kind)),none,none,none]
 row_cond go
 refine aeg (fun i e=>∃ v4 v5 ps,e=[some (.io OSt),some (.st (.int n)),some (.st (.int kind)),some (.own (OL (List.map prD ps))),v4,v5]/\ps.length=i/\∀ (j:Nat) p,ps[j]?=some p->0<=p.1/\p.1 < p.2/\p.2=(j:Int)+1) ⟨_,_,[],rfl,rfl,fun j p h=>by simp at h⟩ ?_ ?_
 ·rintro i e hi q0_
  refine exS3 e q0_ fun v4 v5 ps q1_=>?_
  have hpl:=q1_.1
  have hps:=q1_.2
  clear q1_ q0_
  have hi2:1+(i:Int) < n:=by row_cond lo
  row_cond go
  refine ⟨1+(i:Int),rfl,rfl,by row_cond lo,by row_cond lo,fun r1 r1a r1b=>?_⟩
  row_cond go
  refine ⟨_,rfl,rfl,by split <;> row_cond lo,by split <;> row_cond lo,fun r2 r2a r2b=>?_⟩
  have r2c:r2 < 1+(i:Int):=by split at r2b <;> row_cond lo
  row_cond go
  refine ⟨_,rfl,rfl,by split <;> row_cond lo,by split <;> row_cond lo,fun r3 r3a r3b=>?_⟩
  have r3c:r3 < 1+(i:Int):=by split at r3b <;> row_cond lo
  obtain ⟨x,hx,x0,x1⟩:∃ x:Int,atI [PyData.int r1,PyData.int (1+(i:Int) - 1 - r2),PyData.int r3,PyData.int (1+(i:Int) - 1)] kind=some (.int x)/\0<=x/\x < 1+(i:Int):=by
   rcases (show kind=0\/kind=1\/kind=2\/kind=3 by row_cond lo) with rfl | rfl | rfl | rfl
   ·exact ⟨r1,rfl,r1a,r1b⟩
   ·exact ⟨_,rfl,by row_cond lo,by row_cond lo⟩
   ·exact ⟨r3,rfl,r3a,r3c⟩
   ·exact ⟨_,rfl,by row_cond lo,by row_cond lo⟩
  row_cond go
  refine ⟨_,_,ps ++ [(x,1+(i:Int))],by rw [List.map_append];rfl,by rw [List.length_append,hpl];rfl,fun j p hp=>?_⟩
  by_cases hj:j < ps.length
  ·rw [List.getElem?_append_left hj] at hp
   exact hps j p hp
  ·have hj2:=(List.getElem?_eq_some_iff.mp hp).1
   simp at hj2
   have:j=ps.length:=by row_cond lo
   subst this
   rw [List.getElem?_append_right (Nat.le_refl _),Nat.sub_self] at hp
   cases hp
   exact ⟨x0,x1,by simp only;row_cond lo⟩
 ·rintro e q0_
  refine exS3 e q0_ fun v4 v5 ps q1_=>?_
  have hpl:=q1_.1
  have hps:=q1_.2
  clear q1_ q0_
  row_cond go
  exact k ps ⟨by row_cond lo,hps⟩
end
theorem ai5 {α β:Type} (f : α->β):∀ (l:List α) (k:Nat),(l.map f).eraseIdx k=(l.eraseIdx k).map f
 | [],_=>rfl
 | _ :: _,0=>rfl
 | a :: l,k+1=>by simp [ai5 f l k]
theorem ay6 {j:Int} {n:Nat} (q0:0<=j) (q1:j < n):seqIndex? j n=some j.toNat:=by unfold seqIndex?;simp;row_cond lo
theorem ay7 {left:List Int} {k:Nat} {y:Int} (hy:left[k]?=some y):(left.map PyData.int)[k]?=some (.int y):=by rw [List.getElem?_map,hy];rfl
theorem ay8 (row:List Int) (p:Int × Int):PyData.tuple [.int (if aa3 row p.2 < aa3 row p.1 then aa3 row p.2 else aa3 row p.1),.int (if aa3 row p.2 > aa3 row p.1 then aa3 row p.2 else aa3 row p.1)]=prD (reP row p):=by
 unfold reP prD
 split <;> split <;> first | rfl | row_cond lo | (simp only [PyData.tuple.injEq,List.cons.injEq,PyData.int.injEq,and_true];row_cond lo)
def awl:VIo:=fun A ss Q=>∃ (n:Int) (ps:List (Int × Int)),A=OSt/\ss=[.st (.int n),.st (.list (ps.map prD))]/\1<=n/\n<=60/\InN n ps/\ps.length < 64 /\
 ∀ (row:List Int) (qs:List (Int × Int)),Order n row->qs.Nodup->(∀ x,x∈qs ↔ x∈ps.map (reP row))->lexS (qs.map p2)->Q OSt (.own (OL (qs.map prD)))
section
variable {P:Program} {w:World} {K:PySem.W.Frag} {mg:Str->Option Value} {base:Heap}
theorem sc_law_renumbered:FnScope ["store","n","ties","left","numbers","found","a","b"] ["store","n","ties"] (aad s_law_renumbered):=⟨rfl,rfl,rfl,by decide +kernel,rfl,by decide +kernel,by decide +kernel⟩
theorem ae5 (T:Txt K mg):Can P w K mg base "_law_renumbered" 2 ["store","n","ties"] (spI K (awl)):=by
 obtain ⟨f,fd,D⟩:=T.d_law_renumbered
 refine D.can (D.fn.ok sc_law_renumbered (fun vs H Q E h=>lenI h fun A ss Q' q=>by obtain ⟨n,ps,rfl,rfl,n0,n1,hin,hle,k⟩:=q;rfl) (fun cdv A outer s H vs Q E hr h=>?_))
 have nd:=sc_law_renumbered.nd
 refine ⟨_,(aac (aak (i:=3) nd rfl (Or.inr rfl) (ase rfl T.b_list rfl T.b_range rfl (aaa (pv 1) aab)))
  (aac (aki (i:=4) nd rfl (Or.inl rfl) rfl (N:=["k","left","store"]) (src:=[none,some 3,some 0]) (by exact abn rfl rfl rfl rfl rfl rfl) (ack rfl T.b_range (aaa (pv 1) aab)) (fun _ _ _ _=>(aam (i:=0) (show List.Nodup (["k","left","store"]:List Str) by decide +kernel) rfl (Or.inl rfl) (hf:=Or.inr rfl))) (fun _ _ _ _=>ab6) (fun _ _ _ _=>(show PE _ _ (tBM K "list" agq _ _) from (aco PySem.F.plainAttrs_list PySem.F.slot_list_pop PySem.F.type_list_pop aq8 (pv 1) (aaa (aag (aaw T) hr (aaa (pv 2) (aaa (aan (show aa9 _ (.builtin "len") (rLen K) from ab0) (by rfl) T.b_len adn (aaa (pv 1) aab)) aab))) aab)))))
  (aac (aak (i:=5) nd rfl (Or.inl rfl) (aa7 aab))
  (aac (ac0 PassesOwn.never rfl (ab4 (pv 2)) (acd rfl (aax (aam (i:=6) nd rfl (Or.inl rfl)) (aax (aam (i:=7) nd rfl (Or.inl rfl)) abw)))
   (aah (abe (aco PySem.F.plainAttrs_list PySem.F.slot_list_append PySem.F.type_list_append abq (pv 5) (aaa (aba (aaa (aan (adh rfl) (by rfl) T.b_min aet (aaa (aay aaz (pv 4) (pv 6) (fun _ _=>rfl)) (aaa (aay aaz (pv 4) (pv 7) (fun _ _=>rfl)) aab))) (aaa (aan (agt rfl) (by rfl) T.b_max ado (aaa (aay aaz (pv 4) (pv 6) (fun _ _=>rfl)) (aaa (aay aaz (pv 4) (pv 7) (fun _ _=>rfl)) aab))) aab))) aab)))))
  (aah (aas (aan (af0 rfl) (by rfl) T.b_sorted adz (aaa (aep (call_setT rfl hr.units) (by rfl) T.b_set aps (aaa (pv 5) aab)) aab)))))))),?_⟩
 refine afh h fun A0 ss Q' q B hK=>?_
 obtain ⟨n,ps,rfl,rfl,n0,n1,hin,hle,k⟩:=q
 show EvS B _ _ [some (.io OSt),some (.st (.int n)),some (.st (.list (ps.map prD))),none,none,none,none,none]
 row_cond go
 refine ⟨fun j ys e=>∃ (o:Option PyData) (row left:List Int),e=[stO o,some (.io (OL (left.map .int))),some (.io OSt)]/\ys=row.map .int/\row.length=j/\Order n (row ++ left),⟨none,[],(List.range n.toNat).map fun (i:Nat)=>(i:Int),by rw [← avt];rfl,rfl,rfl,Order.id n⟩,?_,?_,?_⟩
 ·rintro i ys e q0_
  refine exS3 e q0_ fun o row left q1_=>?_
  have hys:=q1_.1
  have hrl:=q1_.2.1
  have hO:=q1_.2.2
  clear q1_ q0_
  exact ⟨⟨isIo_stO.symm,ada⟩,⟨rfl,rfl⟩,⟨rfl,rfl⟩,True.intro⟩
 ·rintro i d ys e hd ⟨o,row,left,rfl,rfl,hrl,hO⟩ B' hB
  obtain ⟨hi,rfl⟩:=af6 hd
  have hll:left.length=n.toNat - i:=by have:=hO.len;simp at this;row_cond lo
  refine aa1 (afe ?_)
  rw [if_pos rfl]
  show Ev B' _ [some (.st (.int (0+(i:Int)))),some (.io (OL (left.map .int))),some (.io OSt)] _
  row_cond go
  rw [List.length_map]
  refine ⟨(left.length:Int),rfl,rfl,by row_cond lo,by row_cond lo,fun r r0 r1=>?_⟩
  obtain ⟨y,hy⟩:∃ y,left[r.toNat]?=some y:=⟨_,List.getElem?_eq_getElem (show r.toNat < left.length by row_cond lo)⟩
  refine ⟨_,left.map .int,r,r.toNat,.int y,rfl,rfl,.inr rfl,by row_cond lo,by row_cond lo,ay6 r0 (by rw [List.length_map];exact r1),ay7 hy,by rw [List.length_map];row_cond lo,some (.int (0+(i:Int))),row ++ [y],left.eraseIdx r.toNat,?_,by rw [List.map_append];rfl,by rw [List.length_append,hrl];rfl,aow hO hy⟩
  rw [ai5]
  rfl
 ·rintro ys e q0_
  refine exS3 e q0_ fun o row left q1_=>?_
  have e0_:=q1_.1
  have hrl:=q1_.2.1
  have hO:=q1_.2.2
  clear q1_ q0_
  subst e0_
  have hll:left=[]:=by rw [acg] at hrl;have:=hO.len;simp at this;exact List.length_eq_zero_iff.mp (by row_cond lo)
  subst hll
  rw [List.append_nil] at hO
  show EvG B (aa2 4) (.own (OL (row.map .int))) [some (.io OSt),some (.st (.int n)),some (.st (.list (ps.map prD))),some (.own (OL [])),none,none,none,none] _
  refine abp abu ?_
  row_cond go
  refine aeh (fun i e=>∃ v6 v7,e=[some (.io OSt),some (.st (.int n)),some (.st (.list (ps.map prD))),some (.own (OL [])),some (.st (.list (row.map .int))),some (.own (OL (((ps.take i).map (reP row)).map prD))),v6,v7]) ⟨_,_,rfl⟩ ?_ ?_
  ·rintro i p e hp q0_
   refine exE2 e q0_ fun v6 v7=>?_
   clear q0_
   have hq:=hin p (List.mem_of_getElem? hp)
   have r1:=ag7 (f:=PyData.int) (hO.atI (a:=p.1) (by row_cond lo) (by row_cond lo))
   have r2:=ag7 (f:=PyData.int) (hO.atI (a:=p.2) (by row_cond lo) (by row_cond lo))
   row_cond go
   refine ⟨by simp;row_cond lo,some (.st (.int p.1)),some (.st (.int p.2)),?_⟩
   rw [ay8,← List.map_singleton (f:=prD),← List.map_append,← List.map_singleton (f:=reP row),← List.map_append,show ps.take i ++ [p]=ps.take (i+1) by rw [List.take_add_one,hp];rfl]
  ·rintro e q0_
   refine exE2 e q0_ fun v6 v7=>?_
   clear q0_
   rw [List.take_length]
   row_cond go
   refine ahg ?_
   row_cond go
   refine ⟨ps.map (reP row),rfl,by rw [List.length_map];row_cond lo,fun qs nd hm hs=>?_⟩
   exact ⟨_,rfl,k row qs hO nd hm hs⟩
end
structure TreeW (n:Int) (es:List (Int × Int)):Prop where
 web:WebOk n es
 len:(es.length:Int)=n - 1
 conn:Conn n (Tied es)
theorem TreeT.inn {n:Int} {ps:List (Int × Int)} (h:TreeT n ps):InN n ps:=fun p hp=>by
 obtain ⟨i,hi⟩:=List.getElem?_of_mem hp
 have h1:=h.at' i p hi
 have h2:=(List.getElem?_eq_some_iff.mp hi).1
 have:=h.len
 row_cond lo
theorem TreeT.ps {n:Int} {ps:List (Int × Int)} (h:TreeT n ps):PsOk n ps:=by
 refine ⟨?_,fun p hp=>?_⟩
 ·refine List.pairwise_iff_getElem.mpr fun i j hi hj hij e=>?_
  have h1:=(h.at' i _ (List.getElem?_eq_getElem hi)).2.2
  have h2:=(h.at' j _ (List.getElem?_eq_getElem hj)).2.2
  rw [e] at h1
  row_cond lo
 ·obtain ⟨i,hi⟩:=List.getElem?_of_mem hp
  have h1:=h.at' i p hi
  have h2:=(List.getElem?_eq_some_iff.mp hi).1
  have:=h.len
  row_cond lo
theorem TreeT.conn {n:Int} {ps:List (Int × Int)} (h:TreeT n ps):Conn n (Tied ps):=Tr.conn fun k k1 k2=>by
 have hl:(k - 1).toNat < ps.length:=by have:=h.len;row_cond lo
 have h1:=h.at' (k - 1).toNat _ (List.getElem?_eq_getElem hl)
 refine ⟨ps[(k - 1).toNat].1,h1.1,by row_cond lo,?_⟩
 have:(ps[(k - 1).toNat].1,k)=ps[(k - 1).toNat]:=Prod.ext rfl (by simp only;row_cond lo)
 rw [this]
 exact List.getElem_mem hl
theorem TreeW.of {n:Int} {ps qs:List (Int × Int)} (h0:1<=n) (h1:n<=60) (h:PsOk n ps) (hl:(ps.length:Int)=n - 1) (hc:Conn n (Tied ps)) (hp:qs.Perm ps) (hs:lexS (qs.map p2)):TreeW n qs :=
 ⟨asj h0 h1 h hp hs,by rw [hp.length_eq];exact hl,hc.mono fun u v t=>(Tied.perm hp).mpr t⟩
theorem anv {n:Int} {row:List Int} {ps qs:List (Int × Int)} (h:PsOk n ps) (hO:Order n row) (nd:qs.Nodup) (hm:∀ x,x∈qs ↔ x∈ps.map (reP row)):qs.Perm (ps.map (reP row)):=(List.perm_ext_iff_of_nodup nd (h.re hO).nd).mpr hm
theorem TreeW.inn {n:Int} {es:List (Int × Int)} (h:TreeW n es):InN n es:=fun p hp=>by
 have:=h.web.inn p hp
 row_cond lo
def ay9:VIo:=fun A ss Q=>A=OSt/\ss=[]/\∀ (n:Int) (es:List (Int × Int)),TreeW n es->Q OSt (.st (webD n es))
section
variable {P:Program} {w:World} {K:PySem.W.Frag} {mg:Str->Option Value} {base:Heap}
theorem sc_law_tree:FnScope ["store","n","ties"] ["store"] (aad s_law_tree):=⟨rfl,rfl,rfl,by decide +kernel,rfl,by decide +kernel,by decide +kernel⟩
theorem aly (T:Txt K mg):Can P w K mg base "_law_tree" 3 ["store"] (spI K (ay9)):=by
 obtain ⟨f,fd,D⟩:=T.d_law_tree
 refine D.can (D.fn.ok sc_law_tree (fun vs H Q E h=>lenI h fun A ss Q' q=>by obtain ⟨rfl,rfl,k⟩:=q;rfl) (fun cdv A outer s H vs Q E hr h=>?_))
 have nd:=sc_law_tree.nd
 refine ⟨_,(aac (aak (i:=1) nd rfl (Or.inl rfl) (aay aaz (aa7 (aaa (aar abl aae (aag (aaw T) hr (aaa (pv 0) (aaa aae aab)))) (aaa (aar abl aae (aag (aaw T) hr (aaa (pv 0) (aaa aae aab)))) (aaa (aar abl aae (aag (aaw T) hr (aaa (pv 0) (aaa aae aab)))) aab)))) (aag (aaw T) hr (aaa (pv 0) (aaa aae aab))) (fun _ _=>rfl)))
  (aac (aak (i:=2) nd rfl (Or.inl rfl) (aag (afu T) hr (aaa (pv 0) (aaa (pv 1) (aaa (aag (aaw T) hr (aaa (pv 0) (aaa aae aab))) aab)))))
  (aac (abh (aau aod (aag (aaw T) hr (aaa (pv 0) (aaa aae aab))) aae (aa0 _))
   (aah (aak (i:=2) nd rfl (Or.inl rfl) (aag (ae5 T) hr (aaa (pv 0) (aaa (pv 1) (aaa (pv 2) aab))))))
   aa5)
  (aah (aas (aba (aaa (pv 1) (aaa (aan ag0 (by rfl) T.b_sorted adz (aaa (pv 2) aab)) aab)))))))),?_⟩
 refine afh h fun A0 ss Q' q B hK=>?_
 obtain ⟨rfl,rfl,k⟩:=q
 show EvS B _ _ [some (.io OSt),none,none]
 row_cond go
 refine ⟨6,rfl,rfl,by row_cond lo,by row_cond lo,fun r1 r1a r1b=>?_⟩
 row_cond go
 refine ⟨16,rfl,rfl,by row_cond lo,by row_cond lo,fun r2 r2a r2b=>?_⟩
 row_cond go
 refine ⟨60,rfl,rfl,by row_cond lo,by row_cond lo,fun r3 r3a r3b=>?_⟩
 row_cond go
 refine ⟨3,rfl,rfl,by row_cond lo,by row_cond lo,fun r4 r4a r4b=>?_⟩
 obtain ⟨n,hn,n0,n1⟩:∃ n:Int,atI [PyData.int (1+r1),PyData.int (1+r2),PyData.int (1+r3)] r4=some (.int n)/\1<=n/\n<=60:=by
  rcases (show r4=0\/r4=1\/r4=2 by row_cond lo) with rfl | rfl | rfl <;> exact ⟨_,rfl,by row_cond lo,by row_cond lo⟩
 row_cond go
 refine ⟨4,rfl,rfl,by row_cond lo,by row_cond lo,fun r5 r5a r5b=>?_⟩
 row_cond go
 refine ⟨n,r5,rfl,rfl,n0,n1,r5a,r5b,fun ps hT=>abp abu ?_⟩
 have hin:=hT.inn
 have hle:ps.length<=60:=by have:=hT.len;row_cond lo
 row_cond go
 refine ⟨3,rfl,rfl,by row_cond lo,by row_cond lo,fun r6 r6a r6b=>?_⟩
 row_cond go
 refine abm (fun h=>?_) (fun h=>?_)
 ·row_cond go
  refine ⟨n,ps,rfl,rfl,n0,n1,hin,by row_cond lo,fun row qs hO nd hm hs=>abp abu ?_⟩
  row_cond go
  refine ae0 (ps:=qs) (by rw [(anv hT.ps hO nd hm).length_eq,List.length_map];row_cond lo) ?_
  row_cond go
  intro qs2 hp hl
  row_cond go
  have hq:=anv hT.ps hO nd hm
  exact k n qs2 (TreeW.of n0 n1 (hT.ps.re hO) (by rw [List.length_map];exact hT.len) (hT.conn.re hO) (hp.trans hq) hl)
 ·row_cond go
  refine ae0 (ps:=ps) (by row_cond lo) ?_
  row_cond go
  intro qs2 hp hl
  row_cond go
  exact k n qs2 (TreeW.of n0 n1 hT.ps hT.len hT.conn hp hl)
end
noncomputable def kM (M:List (Int × List Int)):List (Int × List PyData):=M.map fun p=>(p.1,p.2.map .int)
structure KT (T:Int->Int->Prop) (M:List (Int × List Int)):Prop where
 nd:(M.map (·.1)).Nodup
 iff:∀ k w,T k w ↔ ∃ ws,(k,ws)∈M/\w∈ws
theorem aza {M:List (Int × List Int)} {n:Nat} {k y:Int} {ws:List Int}:(kM M).set n (k,ws.map .int ++ [.int y])=kM (M.set n (k,ws ++ [y])):=by
 unfold kM
 rw [List.map_set]
 simp
theorem KT.set {T T':Int->Int->Prop} {M:List (Int × List Int)} {n:Nat} {k y:Int} {ws:List Int} (h:KT T M) (hn:M[n]?=some (k,ws)) (hT:∀ u v,T' u v ↔ T u v\/(u=k/\v=y)):KT T' (M.set n (k,ws ++ [y])):=by
 have hm:=List.mem_of_getElem? hn
 obtain ⟨hl,he⟩:=List.getElem?_eq_some_iff.mp hn
 refine ⟨?_,fun u v=>?_⟩
 ·rw [List.map_set,show (k,ws ++ [y]).1=(M.map (·.1))[n]'(by simpa using hl) by simp [he],List.set_getElem_self]
  exact h.nd
 rw [hT,h.iff]
 constructor
 ·rintro (⟨us,h1,h2⟩ | ⟨rfl,rfl⟩)
  ·obtain ⟨j,hj,ej⟩:=List.mem_iff_getElem.mp h1
   by_cases e:j=n
   ·subst e
    rw [he] at ej
    cases ej
    exact ⟨ws ++ [y],List.mem_iff_getElem.mpr ⟨j,by simpa using hl,by simp⟩,List.mem_append.mpr (.inl h2)⟩
   ·exact ⟨us,List.mem_iff_getElem.mpr ⟨j,by simpa using hj,by rw [List.getElem_set_ne (Ne.symm e)];exact ej⟩,h2⟩
  ·exact ⟨ws ++ [v],List.mem_iff_getElem.mpr ⟨n,by simpa using hl,by simp⟩,List.mem_append.mpr (.inr (List.mem_singleton.mpr rfl))⟩
 ·rintro ⟨us,h1,h2⟩
  rcases List.mem_or_eq_of_mem_set h1 with q | q
  ·exact .inl ⟨us,q,h2⟩
  ·cases q
   rcases List.mem_append.mp h2 with h2 | h2
   ·exact .inl ⟨ws,hm,h2⟩
   ·exact .inr ⟨rfl,List.mem_singleton.mp h2⟩
structure KTB (T:Int->Int->Prop) (M:List (Int × List Int)) (m:Nat):Prop extends KT T M where
 lenM:M.length<=m
 lenW:∀ p∈kM M,p.2.length<=m
theorem KTB.set {T T':Int->Int->Prop} {M:List (Int × List Int)} {m n:Nat} {k y:Int} {ws:List Int} (h:KTB T M m) (hn:M[n]?=some (k,ws)) (hT:∀ u v,T' u v ↔ T u v\/(u=k/\v=y)):KTB T' (M.set n (k,ws ++ [y])) (m+1):=by
 refine ⟨h.toKT.set hn hT,by rw [List.length_set];have:=h.lenM;row_cond lo,fun p hp=>?_⟩
 rw [← aza] at hp
 rcases List.mem_or_eq_of_mem_set hp with q | q
 ·have:=h.lenW p q;row_cond lo
 ·subst q
  have:=h.lenW (k,ws.map .int) (List.mem_map.mpr ⟨_,List.mem_of_getElem? hn,rfl⟩)
  simp at this ⊢
  exact this
structure FarL (far:Int->Option Nat) (line:List Int) (ds:List Nat):Prop where
 at':∀ (i:Nat) v d,line[i]?=some v->ds[i]?=some d->far v=some d
 no:∀ v,v ∉ line->far v=none
theorem FarL.start (a:Int):FarL (Gr.label (fun _=>none) a 0) [a] [0]:=⟨fun i v d h1 h2=>by
 cases i with
 | zero=>simp at h1 h2;subst h1 h2;exact Gr.label_same
 | succ i=>simp at h1,fun v hv=>by rw [Gr.label_ne (by simpa using hv)]⟩
theorem FarL.add {far:Int->Option Nat} {line:List Int} {ds:List Nat} {w:Int} {d:Nat} (h:FarL far line ds) (hl:ds.length=line.length) (hw:w ∉ line):FarL (Gr.label far w d) (line ++ [w]) (ds ++ [d]):=by
 refine ⟨fun i v e h1 h2=>?_,fun v hv=>?_⟩
 ·by_cases hi:i < line.length
  ·rw [List.getElem?_append_left hi] at h1
   rw [List.getElem?_append_left (by row_cond lo)] at h2
   have hne:v ≠ w:=fun e=>hw (e ▸ List.mem_of_getElem? h1)
   rw [Gr.label_ne hne]
   exact h.at' i v e h1 h2
  ·have hi2:=(List.getElem?_eq_some_iff.mp h1).1
   simp at hi2
   have:i=line.length:=by row_cond lo
   subst this
   rw [List.getElem?_append_right (Nat.le_refl _),Nat.sub_self] at h1
   rw [← hl,List.getElem?_append_right (Nat.le_refl _),Nat.sub_self] at h2
   cases h1
   cases h2
   exact Gr.label_same
 ·have h1:v ∉ line:=fun q=>hv (List.mem_append.mpr (.inl q))
  have h2:v ≠ w:=fun q=>hv (List.mem_append.mpr (.inr (List.mem_singleton.mpr q)))
  rw [Gr.label_ne h2]
  exact h.no v h1
theorem FarL.fin {T:Int->Int->Prop} {a:Int} {far:Int->Option Nat} {line:List Int} {ds:List Nat} (h:FarL far line ds) (b:Gr.Bfs T a line ds line.length) (v:Int):far v=Gr.farO T a v:=by
 by_cases hv:v∈line
 ·obtain ⟨i,hi⟩:=List.getElem?_of_mem hv
  have hil:=(List.getElem?_eq_some_iff.mp hi).1
  obtain ⟨d,hd⟩:∃ d,ds[i]?=some d:=⟨_,List.getElem?_eq_getElem (by rw [b.len];exact hil)⟩
  rw [h.at' i v d hi hd,Gr.farO_some.mpr (b.dist i v d hi hd)]
 ·rw [h.no v hv]
  cases e:Gr.farO T a v with
  | none=>rfl
  | some d =>
   exact absurd (b.fin d v (Gr.farO_some.mp e).1) hv
section
variable {P:Program} {w:World} {K:PySem.W.Frag} {mg:Str->Option Value} {base:Heap}
end
def as7:VP:=fun ss Q=>∃ (n:Int) (es:List (Int × Int)),ss=[.st (webD n es)]/\1<=n/\n<=100/\InN n es/\es.length<=10000/\∀ b:Bool,(b=true ↔ (es.length:Int)=n - 1/\Joined n es)->Q (.st (.bool b))
section
variable {P:Program} {w:World} {K:PySem.W.Frag} {mg:Str->Option Value} {base:Heap}
theorem sc_is_tree:FnScope ["web","n","ties"] ["web"] (aad s_is_tree):=⟨rfl,rfl,rfl,by decide +kernel,rfl,by decide +kernel,by decide +kernel⟩
theorem amg (T:Txt K mg):Can P w K mg base "is_tree" 7 ["web"] (spP K (as7)):=by
 obtain ⟨f,fd,D⟩:=T.d_is_tree
 refine D.can (D.fn.ok sc_is_tree (fun vs H Q E h=>lenP h fun ss Q' q=>by obtain ⟨n,es,rfl,n0,n1,hin,hle,k⟩:=q;rfl) (fun cdv A outer s H vs Q E hr h=>?_))
 have nd:=sc_is_tree.nd
 refine ⟨_,(aac (acm (pv 0) (acd rfl (aax (aam (i:=1) nd rfl (Or.inl rfl)) (aax (aam (i:=2) nd rfl (Or.inl rfl)) abw))))
  (aah (aas (aj2 (aho adg (aan ab0 (by rfl) T.b_len adn (aaa (pv 2) aab)) (aar ace (pv 1) aae) (aa0 _)) (aj1 (aag (aen T) hr (aaa (pv 0) aab))))))),?_⟩
 refine abc h fun ss Q' q B hK=>?_
 refine exS2 ss q fun n es q1_=>?_
 have n0:=q1_.1
 have n1:=q1_.2.1
 have hin:=q1_.2.2.1
 have hle:=q1_.2.2.2.1
 have k:=q1_.2.2.2.2
 clear q1_ q
 show EvS B _ _ [some (.st (webD n es)),none,none]
 row_cond go
 rw [List.length_map]
 refine abm (fun h=>?_) (fun h=>?_)
 ·row_cond go
  refine ⟨n,es,rfl,n0,n1,hin,hle,fun b hb=>?_⟩
  row_cond go
  exact k b (hb.trans ⟨fun q=>⟨h,q⟩,fun q=>q.2⟩)
 ·row_cond go
  exact k false ⟨fun q=>(by cases q),fun q=>absurd q.1 h⟩
end
structure FarOk (n:Int) (es:List (Int × Int)) (x a b:Int):Prop where
 top:at7 n.toNat (dsF es) x
 a0:0<=a
 a1:a < n
 b0:0<=b
 b1:b < n
 eq:dsF es a b=x
 fst:∀ u v:Int,0<=u->u < n->0<=v->v < n->dsF es u v=x->a < u\/(a=u/\b<=v)
def ao8:VP:=fun ss Q=>∃ (n:Int) (es:List (Int × Int)),ss=[.st (webD n es)]/\1<=n/\n<=100/\InN n es/\es.length<=10000/\Joined n es/\∀ x a b,FarOk n es x a b->Q (.st (.tuple [.int x,.int a,.int b]))
theorem alz {ns:List Int} {k:Int} (h:k∈ns):∃ j:Nat,ns[j]?=some k/\∀ m:Nat,m < j->ns[m]? ≠ some k:=by
 induction ns with
 | nil=>simp at h
 | cons n ns ih =>
  by_cases e:n=k
  ·exact ⟨0,by rw [e];rfl,fun m hm=>by row_cond lo⟩
  ·obtain ⟨j,h1,h2⟩:=ih ((List.mem_cons.mp h).resolve_left fun z=>e z.symm)
   refine ⟨j+1,h1,fun m hm=>?_⟩
   cases m with
   | zero=>simpa using e
   | succ m => exact h2 m (by row_cond lo)
section
variable {P:Program} {w:World} {K:PySem.W.Frag} {mg:Str->Option Value} {base:Heap}
theorem sc_farthest_two:FnScope ["web","rows","far","a"] ["web"] (aad s_farthest_two):=⟨rfl,rfl,rfl,by decide +kernel,rfl,by decide +kernel,by decide +kernel⟩
theorem agg (T:Txt K mg):Can P w K mg base "farthest_two" 9 ["web"] (spP K (ao8)):=by
 obtain ⟨f,fd,D⟩:=T.d_farthest_two
 refine D.can (D.fn.ok sc_farthest_two (fun vs H Q E h=>lenP h fun ss Q' q=>by obtain ⟨n,es,rfl,n0,n1,hin,hle,hJ,k⟩:=q;rfl) (fun cdv A outer s H vs Q E hr h=>?_))
 have nd:=sc_farthest_two.nd
 refine ⟨_,(aac (aak (i:=1) nd rfl (Or.inl rfl) (aag (ads T) hr (aaa (pv 0) aab)))
  (aac (aak (i:=2) nd rfl (Or.inl rfl) (aag (ae4 T) hr (aaa (pv 1) aab)))
  (aac (aak (i:=3) nd rfl (Or.inl rfl) (aco PySem.F.plainAttrs_list PySem.F.slot_list_index PySem.F.type_list_index alb (ady rfl (N:=["row"]) (src:=[none]) (by exact abn rfl rfl rfl rfl rfl rfl) (ab4 (pv 1)) (fun _ _ _ _=>(aam (i:=0) (show List.Nodup (["row"]:List Str) by decide +kernel) rfl (Or.inl rfl) (hf:=Or.inr rfl))) (fun _ _ _ _=>ab6) (fun _ _ _ _=>(aan (show aa9 _ (.builtin "max") (afc K) from (ac9 rfl)) (by rfl) T.b_max ado (aaa (pv 0) aab)))) (aaa (pv 2) aab)))
  (aah (aas (aba (aaa (pv 2) (aaa (pv 3) (aaa (aco PySem.F.plainAttrs_list PySem.F.slot_list_index PySem.F.type_list_index alb (aay aaz (pv 1) (pv 3) (fun _ _=>rfl)) (aaa (pv 2) aab)) aab))))))))),?_⟩
 refine abc h fun ss Q' q B hK=>?_
 refine exS2 ss q fun n es q1_=>?_
 have n0:=q1_.1
 have n1:=q1_.2.1
 have hin:=q1_.2.2.1
 have hle:=q1_.2.2.2.1
 have hJ:=q1_.2.2.2.2.1
 have k:=q1_.2.2.2.2.2
 clear q1_ q
 show EvS B _ _ [some (.st (webD n es)),none,none,none]
 have hn:1<=n.toNat:=by row_cond lo
 obtain ⟨mx,hmx⟩:=anu hn (dsF es)
 row_cond go
 refine ⟨n,es,rfl,n0,n1,hin,hle,hJ,abp abu ?_⟩
 row_cond go
 refine ⟨n.toNat,dsF es,rfl,hn,by row_cond lo,fun x hx=>?_⟩
 have hxm:x∈(List.range n.toNat).map mx:=by
  obtain ⟨⟨u,v,u0,u1,v0,v1,e⟩,g⟩:=hx
  refine List.mem_map.mpr ⟨u.toNat,List.mem_range.mpr (by row_cond lo),?_⟩
  have h1:=(hmx u.toNat).2 (dsF es ((u.toNat:Nat):Int) ((v.toNat:Nat):Int)) (List.mem_map.mpr ⟨v.toNat,List.mem_range.mpr (by row_cond lo),rfl⟩)
  rw [show ((u.toNat:Nat):Int)=u by row_cond lo,show ((v.toNat:Nat):Int)=v by row_cond lo,e] at h1
  obtain ⟨j,hj,e2⟩:=List.mem_map.mp (hmx u.toNat).1
  have:=g u j u0 u1 (by row_cond lo) (by have:=List.mem_range.mp hj;row_cond lo)
  rw [show ((u.toNat:Nat):Int)=u by row_cond lo] at e2
  row_cond lo
 obtain ⟨a,ha,hfa⟩:=alz hxm
 have hal:a < n.toNat:=by have:=(List.getElem?_eq_some_iff.mp ha).1;simpa using this
 have hax:mx a=x:=by
  rw [List.getElem?_map,List.getElem?_range hal] at ha
  simpa using ha
 have hbm:x∈(List.range n.toNat).map fun (i:Nat)=>dsF es (a:Int) (i:Int):=by rw [← hax];exact (hmx a).1
 obtain ⟨b,hb,hfb⟩:=alz hbm
 have hbl:b < n.toNat:=by have:=(List.getElem?_eq_some_iff.mp hb).1;simpa using this
 have hbx:dsF es (a:Int) (b:Int)=x:=by
  rw [List.getElem?_map,List.getElem?_range hbl] at hb
  simpa using hb
 have hrow:atI (matD n.toNat (dsF es)) (a:Int)=some (.list (rowD n.toNat (dsF es (a:Int)))):=ay3 (by row_cond lo) (by row_cond lo)
 row_cond go
 unfold matD
 refine acw (fun u:Nat => .int (mx u)) rfl (by simp;row_cond lo) (fun u hu B' hB=>?_) ?_
 ·row_cond go
  rw [ael]
  exact adp (by simp;row_cond lo) fun x hx=>⟨by rw [agf hx (hmx u)],rfl⟩
 ·refine ⟨(List.range n.toNat).map mx,by rw [List.map_map];rfl,?_⟩
  row_cond go
  refine ⟨x,a,rfl,ha,hfa,?_⟩
  row_cond go
  refine ⟨(List.range n.toNat).map fun (i:Nat)=>dsF es (a:Int) (i:Int),by rw [ael],?_⟩
  row_cond go
  refine ⟨x,b,rfl,hb,hfb,?_⟩
  row_cond go
  refine k x a b ⟨hx,by row_cond lo,by row_cond lo,by row_cond lo,by row_cond lo,hbx,fun u v u0 u1 v0 v1 e=>?_⟩
  have hu:(a:Int)<=u:=by
   apply Classical.byContradiction
   intro hlt
   refine hfa u.toNat (by row_cond lo) ?_
   rw [List.getElem?_map,List.getElem?_range (by row_cond lo)]
   have h1:=(hmx u.toNat).2 (dsF es ((u.toNat:Nat):Int) ((v.toNat:Nat):Int)) (List.mem_map.mpr ⟨v.toNat,List.mem_range.mpr (by row_cond lo),rfl⟩)
   rw [show ((u.toNat:Nat):Int)=u by row_cond lo,show ((v.toNat:Nat):Int)=v by row_cond lo,e] at h1
   obtain ⟨j,hj,e2⟩:=List.mem_map.mp (hmx u.toNat).1
   have:=hx.2 u j u0 (by row_cond lo) (by row_cond lo) (by have:=List.mem_range.mp hj;row_cond lo)
   rw [show ((u.toNat:Nat):Int)=u by row_cond lo] at e2
   simp only [Option.map_some,Option.some.injEq]
   row_cond lo
  by_cases hau:(a:Int) < u
  ·exact .inl hau
  ·refine .inr ⟨by row_cond lo,?_⟩
   apply Classical.byContradiction
   intro hlt
   refine hfb v.toNat (by row_cond lo) ?_
   rw [List.getElem?_map,List.getElem?_range (by row_cond lo)]
   simp only [Option.map_some,Option.some.injEq]
   rw [show ((v.toNat:Nat):Int)=v by row_cond lo,show (a:Int)=u by row_cond lo]
   exact e
end
def awm:VP:=fun ss Q=>∃ (n a b:Int) (es:List (Int × Int)) (d:Nat),ss=[.st (webD n es),.st (.int a),.st (.int b)]/\n<=100/\InN n es/\es.length<=10000/\0<=a/\a < n/\0<=b/\b < n/\Gr.Dist (Tied es) b a d/\∀ ws,WayTo (Tied es) a b d ws->Q (.own (OL (ws.map .int)))
theorem awn {α:Type} (xs:List α) (x : α):atI (xs ++ [x]) (-1)=some x:=by
 unfold atI ixN
 rw [if_neg (by row_cond lo),if_pos (by simp;row_cond lo)]
 show (xs ++ [x])[(-1+((xs ++ [x]).length:Int)).toNat]?=some x
 rw [show (-1+((xs ++ [x]).length:Int)).toNat=xs.length by simp;row_cond lo,List.getElem?_append_right (Nat.le_refl _),Nat.sub_self]
 rfl
structure WayAt (T:Int->Int->Prop) (a b:Int) (d:Nat) (pre:List Int) (here:Int):Prop where
 len:pre.length<=d
 fst:(pre ++ [here])[0]?=some a
 far:∀ (i:Nat) x,(pre ++ [here])[i]?=some x->Gr.Dist T b x (d - i)
 tie:∀ (i:Nat) x y,(pre ++ [here])[i]?=some x->(pre ++ [here])[i+1]?=some y->T x y
theorem WayAt.start {T:Int->Int->Prop} {a b:Int} {d:Nat} (h:Gr.Dist T b a d):WayAt T a b d [] a:=by
 refine ⟨Nat.zero_le _,rfl,fun i x e=>?_,fun i x y _ e=>by simp at e⟩
 have hi:=(List.getElem?_eq_some_iff.mp e).1
 have:i=0:=by simp at hi;exact hi
 subst this
 simp at e
 subst e
 exact h
theorem WayAt.here {T:Int->Int->Prop} {a b:Int} {d:Nat} {pre:List Int} {here:Int} (h:WayAt T a b d pre here):Gr.Dist T b here (d - pre.length):=h.far pre.length here (by rw [List.getElem?_append_right (Nat.le_refl _),Nat.sub_self];rfl)
theorem WayAt.more {T:Int->Int->Prop} {a b:Int} {d:Nat} {pre:List Int} {here p:Int} (h:WayAt T a b d pre here) (hlt:pre.length < d) (t:T here p) (hp:Gr.Dist T b p (d - (pre.length+1))):WayAt T a b d (pre ++ [here]) p:=by
 have hlen:(pre ++ [here]).length=pre.length+1:=by simp
 have get:∀ (i:Nat) x,((pre ++ [here]) ++ [p])[i]?=some x->(pre ++ [here])[i]?=some x\/(i=pre.length+1/\x=p):=fun i x e=>by
  by_cases hi:i < (pre ++ [here]).length
  ·rw [List.getElem?_append_left hi] at e;exact .inl e
  ·have h2:=(List.getElem?_eq_some_iff.mp e).1
   rw [List.length_append,List.length_singleton] at h2
   have:i=(pre ++ [here]).length:=by row_cond lo
   subst this
   rw [List.getElem?_append_right (Nat.le_refl _),Nat.sub_self] at e
   exact .inr ⟨hlen,by simpa using e.symm⟩
 refine ⟨by row_cond lo,by rw [List.getElem?_append_left (by row_cond lo)];exact h.fst,fun i x e=>?_,fun i x y e1 e2=>?_⟩
 ·rcases get i x e with e | ⟨rfl,rfl⟩
  ·exact h.far i x e
  ·exact hp
 ·rcases get (i+1) y e2 with e2 | ⟨hi,rfl⟩
  ·rcases get i x e1 with e1 | ⟨hi,_⟩
   ·exact h.tie i x y e1 e2
   ·have:=(List.getElem?_eq_some_iff.mp e2).1;row_cond lo
  ·rcases get i x e1 with e1 | ⟨hi2,_⟩
   ·have:i=pre.length:=by row_cond lo
    subst this
    rw [List.getElem?_append_right (Nat.le_refl _),Nat.sub_self] at e1
    have:x=here:=by simpa using e1.symm
    rw [this];exact t
   ·row_cond lo
theorem WayAt.fin {T:Int->Int->Prop} {a b:Int} {d:Nat} {pre:List Int} (h:WayAt T a b d pre b):WayTo T a b d (pre ++ [b]):=by
 have:=h.here.uniq (Gr.Dist.self T b)
 have:=h.len
 exact ⟨by simp;row_cond lo,h.fst,h.far,h.tie⟩
theorem WayAt.not {T:Int->Int->Prop} {a b:Int} {d:Nat} {pre:List Int} {here:Int} (h:WayAt T a b d pre here) (hb:here ≠ b):pre.length < d:=by
 have:=h.len
 apply Classical.byContradiction
 intro hn
 have hh:=h.here
 rw [show d - pre.length=0 by row_cond lo] at hh
 cases hh.1
 exact hb rfl
section
variable {P:Program} {w:World} {K:PySem.W.Frag} {mg:Str->Option Value} {base:Heap}
theorem sc_short_way:FnScope ["web","a","b","tied","far","way","here"] ["web","a","b"] (aad s_short_way):=⟨rfl,rfl,rfl,by decide +kernel,rfl,by decide +kernel,by decide +kernel⟩
theorem ajr (T:Txt K mg):Can P w K mg base "short_way" 5 ["web","a","b"] (spP K (awm)):=by
 obtain ⟨f,fd,D⟩:=T.d_short_way
 refine D.can (D.fn.ok sc_short_way (fun vs H Q E h=>lenP h fun ss Q' q=>by obtain ⟨n,a,b,es,d,rfl,n1,hin,hle,a0,a1,b0,b1,hd,k⟩:=q;rfl) (fun cdv A outer s H vs Q E hr h=>?_))
 have nd:=sc_short_way.nd
 refine ⟨_,(aac (abe (aag (acv T) hr (aaa (pv 0) (aaa (pv 1) aab))))
  (aac (abe (aag (acv T) hr (aaa (pv 0) (aaa (pv 2) aab))))
  (aac (aak (i:=3) nd rfl (Or.inl rfl) (aag (acr T) hr (aaa (pv 0) aab)))
  (aac (aak (i:=4) nd rfl (Or.inr rfl) (aag (adr T) hr (aaa (pv 3) (aaa (pv 2) aab))))
  (aac (abh (aau ahw (aay aaz (pv 4) (pv 1) (fun _ _=>rfl)) acz (aa0 _))
   (aah (aas acz))
   aa5)
  (aac (aak (i:=5) nd rfl (Or.inl rfl) (aa7 (aaa (pv 1) aab)))
  (aac (aj4 PassesOwn.never (aau ae8 (aay aaz (pv 5) (atk ape aae) (fun _ _=>rfl)) (pv 2) (aa0 _))
   (aac (aak (i:=6) nd rfl (Or.inr rfl) (aay aaz (pv 5) (atk ape aae) (fun _ _=>rfl)))
    (aah (abe (aco PySem.F.plainAttrs_list PySem.F.slot_list_append PySem.F.type_list_append abq (pv 5) (aaa (aan (apx rfl) (by rfl) T.b_min aet (aaa (ady rfl (N:=["place","far","here"]) (src:=[none,some 4,some 6]) (by exact abn rfl rfl rfl rfl rfl rfl) (ab4 (aay aaz (pv 3) (pv 6) (fun _ _=>rfl))) (fun _ _ _ _=>(aam (i:=0) (show List.Nodup (["place","far","here"]:List Str) by decide +kernel) rfl (Or.inl rfl) (hf:=Or.inr rfl))) (fun _ _ _ _=>ahp (aau adg (aay (show IxR _ (ab8 K) from aaz) (pv 1) (pv 0) (fun _ _=>rfl)) (aar ace (aay (show IxR _ (ab8 K) from aaz) (pv 1) (pv 2) (fun _ _=>rfl)) aae) (aa0 _))) (fun _ _ _ _=>(pv 0))) aab)) aab))))))
  (aah (aas (pv 5)))))))))),?_⟩
 refine abc h fun ss Q' q B hK=>?_
 refine exS5 ss q fun n a b es d q1_=>?_
 have n1:=q1_.1
 have hin:=q1_.2.1
 have hle:=q1_.2.2.1
 have a0:=q1_.2.2.2.1
 have a1:=q1_.2.2.2.2.1
 have b0:=q1_.2.2.2.2.2.1
 have b1:=q1_.2.2.2.2.2.2.1
 have hd:=q1_.2.2.2.2.2.2.2.1
 have k:=q1_.2.2.2.2.2.2.2.2
 clear q1_ q
 show EvS B _ _ [some (.st (webD n es)),some (.st (.int a)),some (.st (.int b)),none,none,none,none]
 have hs:∀ u v,Tied es u v->Tied es v u:=fun _ _ t=>t.symm
 have hdn:d < 101:=by
  have:=hd.lt (n:=100) (fun u v h=>by have:=(h.in hin).2;row_cond lo) (by row_cond lo)
  row_cond lo
 row_cond go
 refine ⟨n,a,es,rfl,a0,a1,?_⟩
 row_cond go
 refine ⟨n,b,es,rfl,b0,b1,?_⟩
 row_cond go
 refine ⟨n,es,rfl,by row_cond lo,n1,hin,hle,fun tl ht hu=>abp afm ?_⟩
 row_cond go
 refine ⟨n,b,Tied es,tl,rfl,n1,ht,fun u v h=>(h.in hin).2,b0,b1,abp abu ?_⟩
 have ha:atI (lab n.toNat (Gr.farO (Tied es) b)) a=some (.int (d:Int)):=by rw [aez a0 (by row_cond lo),Gr.farO_some.mpr hd];rfl
 row_cond go
 refine ab2 ?_
 row_cond go
 refine air (fun mm e=>∃ v6 pre here,e=[some (.st (webD n es)),some (.st (.int a)),some (.st (.int b)),some (.st (tlV tl)),some (.st (.list (lab n.toNat (Gr.farO (Tied es) b)))),some (.own (OL (List.map PyData.int (pre ++ [here])))),v6]/\WayAt (Tied es) a b d pre here/\0<=here/\here < n/\mm=d - pre.length) ⟨_,_,[],a,rfl,WayAt.start hd,a0,a1,rfl⟩ ?_
 rintro mm e q0_
 refine exS3 e q0_ fun v6 pre here q1_=>?_
 have hW:=q1_.1
 have h0:=q1_.2.1
 have h1:=q1_.2.2.1
 have e3_:=q1_.2.2.2
 clear q1_ q0_
 subst e3_
 rw [List.map_append]
 have hal:=awn (pre.map PyData.int) (PyData.int here)
 have hlen:=hW.len
 row_cond go
 by_cases hb:here=b
 ·subst hb
  rw [decide_eq_true rfl]
  refine ab2 ?_
  row_cond go
  have:=k _ hW.fin
  rw [List.map_append] at this
  exact this
 ·have hlt:=hW.not hb
  have hh:=hW.here
  obtain ⟨us,hus,hw⟩:=ht.get h0 h1
  have hat:atI ((tlD tl).map PyData.list) here=some (.list (us.map .int)):=ag7 (f:=PyData.list) (ag8 h0 (afn hus))
  have hfh:atI (lab n.toNat (Gr.farO (Tied es) b)) here=some (.int ((d - pre.length:Nat):Int)):=by rw [aez h0 (by row_cond lo),Gr.farO_some.mpr hh];rfl
  have husl:us.length<=999999:=by have:=hu us (List.mem_of_getElem? hus);row_cond lo
  rw [decide_eq_false hb]
  refine abo ?_
  row_cond go
  refine aqh (xs:=us) (f:=PyData.int) PyData.int (fun v=>decide (Gr.farO (Tied es) b v=some (d - (pre.length+1)))) rfl husl (fun v hv B' hB=>?_) ?_
  ·have hv':=(hw v).mp hv
   have hvr:=(hv'.in hin).2
   obtain ⟨e,_,he⟩:=hh.next hv'
   have hfv:atI (lab n.toNat (Gr.farO (Tied es) b)) v=some (.int (e:Int)):=by rw [aez hvr.1 (by row_cond lo),Gr.farO_some.mpr he];rfl
   row_cond go
   refine ⟨?_,rfl,fun _=>?_⟩
   ·rw [Gr.farO_some.mpr he,Bool.eq_iff_iff,decide_eq_true_iff,decide_eq_true_iff,Option.some.injEq]
    row_cond lo
   ·row_cond go
    exact rfl
  ·row_cond go
   refine ar2 ?_ fun p hp=>?_
   ·intro e0
    obtain ⟨u,t,hu2⟩:=(show Gr.Dist (Tied es) b here (d - (pre.length+1)+1) by rw [show d - (pre.length+1)+1=d - pre.length by row_cond lo];exact hh).pred
    have:u∈us.filter fun v=>decide (Gr.farO (Tied es) b v=some (d - (pre.length+1))):=List.mem_filter.mpr ⟨(hw u).mpr (hs _ _ t),decide_eq_true (Gr.farO_some.mpr hu2)⟩
    rw [e0] at this
    cases this
   ·obtain ⟨hp1,hp2⟩:=List.mem_filter.mp hp.1
    have tp:=(hw p).mp hp1
    have dp:=Gr.farO_some.mp (of_decide_eq_true hp2)
    have hpr:=(tp.in hin).2
    row_cond go
    exact ⟨d - (pre.length+1),by row_cond lo,_,pre ++ [here],p,by rw [List.map_append,List.map_append];rfl,hW.more hlt tp dp,hpr.1,hpr.2,by simp⟩
end
noncomputable def afq (n:Nat) (r:Int->Int):List Int:=(List.range n).map fun (i:Nat)=>r (i:Int)
theorem as8 {n:Nat} {r:Int->Int}:rowD n r=(afq n r).map .int:=ael
theorem as9 (n:Nat) (r:Int->Int):(afq n r).length=n:=by simp [afq]
theorem anw {n:Nat} (hn:1<=n) (r:Int->Int):afq n r ≠ []:=fun e=>by have:=as9 n r;rw [e] at this;simp at this;row_cond lo
noncomputable def mxF (n:Nat) (r:Int->Int):Int:=open Classical in if h:∃ x,acy (afq n r) x then Classical.choose h else 0
theorem azb {n:Nat} (hn:1<=n) (r:Int->Int):acy (afq n r) (mxF n r):=by
 unfold mxF
 have h:=ad9 (anw hn r)
 rw [dif_pos h]
 exact Classical.choose_spec h
theorem azc (n:Nat) (m:Int->Int->Int):enD (matD n m)=(List.range n).map fun (i:Nat) => .tuple [.int (i:Int),.list (rowD n (m (i:Int)))]:=by
 unfold enD
 rw [awe]
 refine List.map_congr_left fun i hi=>?_
 have hi:=List.mem_range.mp hi
 have:(matD n m).getD i .none=.list (rowD n (m (i:Int))):=by
  unfold matD
  rw [List.getD_eq_getElem?_getD,List.getElem?_map,List.getElem?_range hi]
  rfl
 rw [this]
theorem amh {n:Int} {es:List (Int × Int)} (hJ:Joined n es) {u v:Int} (u0:0<=u) (u1:u < n) (v0:0<=v) (v1:v < n):∃ d:Nat,Gr.Dist (Tied es) u v d/\dsF es u v=(d:Int):=by
 obtain ⟨d,e⟩:=ahi hJ u0 u1 v0 v1
 exact ⟨d,Gr.farO_some.mp e,by simp only [dsF,e,Option.getD_some]⟩
def IsPt (n:Nat) (m:Int->Int->Int) (a b x:Int):Prop:=(∃ u v:Int,0<=u/\u < n/\0<=v/\v < n/\(m u a < m u b ↔ m v a < m v b)/\m u v=x)/\∀ u v:Int,0<=u->u < n->0<=v->v < n->(m u a < m u b ↔ m v a < m v b)->m u v<=x
def ami:VP:=fun ss Q=>∃ (n:Nat) (m:Int->Int->Int) (a b:Int),ss=[.st (.list (matD n m)),.st (prD (a,b))]/\1<=n/\n<=100/\0<=a/\a < n/\0<=b/\b < n/\∀ x,IsPt n m a b x->Q (.st (.int x))
noncomputable def sdF (m:Int->Int->Int) (a b:Int) (u:Nat):Bool:=decide (m (u:Int) a < m (u:Int) b)
theorem azd {m:Int->Int->Int} {a b:Int} {u v:Nat}:sdF m a b u=sdF m a b v ↔ (m (u:Int) a < m (u:Int) b ↔ m (v:Int) a < m (v:Int) b):=by
 unfold sdF
 rw [Bool.eq_iff_iff]
 simp
theorem awo {n:Nat} {m:Int->Int->Int} {g:Nat->Bool}:zipD (matD n m) ((List.range n).map fun u => .bool (g u))=(List.range n).map fun (u:Nat) => .tuple [.list (rowD n (m (u:Int))),.bool (g u)]:=by
 unfold zipD matD
 rw [List.zip_map',List.map_map]
 rfl
theorem ata {n:Nat} {r:Int->Int} {g:Nat->Bool}:zipD (rowD n r) ((List.range n).map fun u => .bool (g u))=(List.range n).map fun (v:Nat) => .tuple [.int (r (v:Int)),.bool (g v)]:=by
 unfold zipD rowD
 rw [List.zip_map',List.map_map]
 rfl
noncomputable def ptF (n:Nat) (m:Int->Int->Int) (g:Nat->Bool):List Int:=(List.range n).flatMap fun u=>((List.range n).filter fun v=>g u == g v).map fun (v:Nat)=>m (u:Int) (v:Int)
theorem at8 (n:Nat) (m:Int->Int->Int) (g:Nat->Bool):((List.range n).flatMap fun u=>((List.range n).filter fun v=>g u == g v).map fun (v:Nat)=>PyData.int (m (u:Int) (v:Int)))=(ptF n m g).map .int:=by
 unfold ptF
 rw [List.map_flatMap]
 congr 1
 funext x
 rw [List.map_map]
 rfl
theorem al0 {α:Type} {n:Nat} {f:Nat->List α}:∀ (l:List Nat),(∀ u∈l,(f u).length<=n)->(l.flatMap f).length<=l.length * n
 | [],_=>by simp
 | u :: l,h=>by
  have h1:=h u List.mem_cons_self
  have h2:=al0 l fun v hv=>h v (List.mem_cons_of_mem _ hv)
  rw [List.flatMap_cons,List.length_append,List.length_cons,Nat.add_mul]
  row_cond lo
theorem awp {n:Nat} (h:n<=100) (m:Int->Int->Int) (g:Nat->Bool):(ptF n m g).length<=10000:=by
 have:=al0 (n:=n) (f:=fun u=>((List.range n).filter fun v=>g u == g v).map fun (v:Nat)=>m (u:Int) (v:Int)) (List.range n) fun u _=>by
  rw [List.length_map]
  exact Nat.le_trans (List.length_filter_le _ _) (by simp)
 rw [List.length_range] at this
 exact Nat.le_trans this (Nat.mul_le_mul h h)
theorem ptF_mem {n:Nat} {m:Int->Int->Int} {a b x:Int}:x∈ptF n m (sdF m a b) ↔ ∃ u v:Int,0<=u/\u < n/\0<=v/\v < n/\(m u a < m u b ↔ m v a < m v b)/\m u v=x:=by
 unfold ptF
 simp only [List.mem_flatMap,List.mem_range,List.mem_map,List.mem_filter,beq_iff_eq,azd]
 constructor
 ·rintro ⟨u,hu,v,⟨hv,q⟩,rfl⟩
  exact ⟨u,v,by row_cond lo,by row_cond lo,by row_cond lo,by row_cond lo,q,rfl⟩
 ·rintro ⟨u,v,u0,u1,v0,v1,q,rfl⟩
  refine ⟨u.toNat,by row_cond lo,v.toNat,⟨by row_cond lo,?_⟩,?_⟩
  ·rw [show ((u.toNat:Nat):Int)=u by row_cond lo,show ((v.toNat:Nat):Int)=v by row_cond lo];exact q
  ·rw [show ((u.toNat:Nat):Int)=u by row_cond lo,show ((v.toNat:Nat):Int)=v by row_cond lo]
theorem at9 {n:Nat} {m:Int->Int->Int} {a b x:Int} (h:acy (ptF n m (sdF m a b)) x):IsPt n m a b x :=
 ⟨ptF_mem.mp h.1,fun u v u0 u1 v0 v1 q=>h.2 _ (ptF_mem.mpr ⟨u,v,u0,u1,v0,v1,q,rfl⟩)⟩
theorem aq2 {n:Nat} (hn:1<=n) (m:Int->Int->Int) (a b:Int):∃ x,IsPt n m a b x:=by
 obtain ⟨x,hx⟩:=ad9 (ns:=ptF n m (sdF m a b)) fun e=>by
  have:m 0 0∈ptF n m (sdF m a b):=ptF_mem.mpr ⟨0,0,by row_cond lo,by row_cond lo,by row_cond lo,by row_cond lo,Iff.rfl,rfl⟩
  rw [e] at this
  cases this
 exact ⟨x,at9 hx⟩
theorem awq {n:Nat} {m:Int->Int->Int} {a b x y:Int} (h:IsPt n m a b x) (g:IsPt n m a b y):x=y:=by
 obtain ⟨u,v,u0,u1,v0,v1,q,rfl⟩:=h.1
 obtain ⟨u',v',u0',u1',v0',v1',q',rfl⟩:=g.1
 have h1:=g.2 u v u0 u1 v0 v1 q
 have h2:=h.2 u' v' u0' u1' v0' v1' q'
 row_cond lo
def IsTr (n:Int) (es:List (Int × Int)):Prop:=(es.length:Int)=n - 1/\Joined n es
noncomputable def amj (mg:Str->Option Value):VPX:=fun ss Q R=>∃ (n:Int) (es:List (Int × Int)),ss=[.st (webD n es)]/\1<=n/\n<=100/\InN n es/\es.length<=10000/\(IsTr n es->Q (.st .none))/\(¬ IsTr n es->∀ C,mg "NoTree" = some (.ref C)->R C)
noncomputable def aif (mg:Str->Option Value):VPX:=fun ss Q R=>∃ (n:Int) (es:List (Int × Int)),ss=[.st (webD n es)]/\1<=n/\n<=100/\InN n es/\es.length<=10000/\(IsTr n es->∀ s,Q s)/\(¬ IsTr n es->∀ C,mg "NoTree" = some (.ref C)->R C)
section
variable {P:Program} {w:World} {K:PySem.W.Frag} {mg:Str->Option Value} {base:Heap}
theorem scX_need_tree:FnScope ["web"] ["web"] (aad s_need_tree):=⟨rfl,rfl,rfl,by decide +kernel,rfl,by decide +kernel,by decide +kernel⟩
theorem acx (T:Txt K mg):CanX P w K mg base "need_tree" 8 ["web"] (spX K (amj mg)):=by
 obtain ⟨f,fd,D⟩:=T.d_need_tree
 obtain ⟨cNoTree,xNoTree⟩:=T.x_NoTree
 refine D.canX (D.fn.okX scX_need_tree (fun vs H Q E h=>lenX h fun ss Q' R' q=>by obtain ⟨n,es,rfl,n0,n1,hin,hle,k1,k2⟩:=q;rfl) (fun cdv A outer s H vs Q E hr h=>?_))
 have nd:=scX_need_tree.nd
 refine ⟨_,(aah (abh (agm (agj (aag (amg T) hr (aaa (pv 0) aab))))
   (aah (aqu xNoTree.ok))
   aa5)),?_⟩
 refine aj0 h fun ss Q' R' q B hK hE=>?_
 obtain ⟨n,es,rfl,n0,n1,hin,hle,k1,k2⟩:=q
 show EvS B _ _ [some (.st (webD n es))]
 row_cond go
 refine ⟨n,es,rfl,n0,n1,hin,hle,fun b hb=>?_⟩
 cases b with
 | true =>
  row_cond go
  exact k1 (hb.mp rfl)
 | false =>
  row_cond go
  refine aqs hE (k2 (fun z=>by have:=hb.mpr z;cases this) _ xNoTree.mgx) ?_
  row_cond go
  exact Nat.le_of_ble_eq_true rfl
theorem sc_parted_far:FnScope ["rows","tie","a","b","sides"] ["rows","tie"] (aad s_parted_far):=⟨rfl,rfl,rfl,by decide +kernel,rfl,by decide +kernel,by decide +kernel⟩
theorem aig (T:Txt K mg):Can P w K mg base "parted_far" 1 ["rows","tie"] (spP K (ami)):=by
 obtain ⟨f,fd,D⟩:=T.d_parted_far
 refine D.can (D.fn.ok sc_parted_far (fun vs H Q E h=>lenP h fun ss Q' q=>by obtain ⟨n,m,a,b,rfl,n0,n1,a0,a1,b0,b1,k⟩:=q;rfl) (fun cdv A outer s H vs Q E hr h=>?_))
 have nd:=sc_parted_far.nd
 refine ⟨_,(aac (acm (pv 1) (acd rfl (aax (aam (i:=2) nd rfl (Or.inr rfl)) (aax (aam (i:=3) nd rfl (Or.inr rfl)) abw))))
  (aac (aak (i:=4) nd rfl (Or.inr rfl) (ady rfl (N:=["row","a","b"]) (src:=[none,some 2,some 3]) (by exact abn rfl rfl rfl rfl rfl rfl) (ab4 (pv 0)) (fun _ _ _ _=>(aam (i:=0) (show List.Nodup (["row","a","b"]:List Str) by decide +kernel) rfl (Or.inl rfl) (hf:=Or.inr rfl))) (fun _ _ _ _=>ab6) (fun _ _ _ _=>(aho aoc (aay (show IxR _ (ab8 K) from aaz) (pv 0) (pv 1) (fun _ _=>rfl)) (aay (show IxR _ (ab8 K) from aaz) (pv 0) (pv 2) (fun _ _=>rfl)) (aa0 _)))))
  (aah (aas (aan (ac9 rfl) (by rfl) T.b_max ado (aaa (axd rfl (N:=["row","side","far","other","sides"]) (src:=[none,none,none,none,some 4]) (by exact abn rfl rfl rfl rfl rfl rfl) (ap9 rfl T.b_zip (aaa (pv 0) (aaa (pv 4) aab))) (fun _ _ _ _=>(show PG _ _ (gTup K 2 (aby (aa2 0) (aby (aa2 1) gNil))) from (acd rfl (aax (aam (i:=0) (show List.Nodup (["row","side","far","other","sides"]:List Str) by decide +kernel) rfl (Or.inl rfl) (hf:=Or.inr rfl)) (aax (aam (i:=1) (show List.Nodup (["row","side","far","other","sides"]:List Str) by decide +kernel) rfl (Or.inl rfl) (hf:=Or.inr rfl)) abw))))) (fun _ _ _ _=>ab6) (fun _ _ _ _=>(show PI _ _ _ (iZip K _) from ap9 (by rfl) T.b_zip (aaa (pv 0) (aaa (pv 4) aab)))) (fun _ _ _ _=>(show PG _ _ (gTup K 2 (aby (aa2 2) (aby (aa2 3) gNil))) from (acd rfl (aax (aam (i:=2) (show List.Nodup (["row","side","far","other","sides"]:List Str) by decide +kernel) rfl (Or.inl rfl) (hf:=Or.inr rfl)) (aax (aam (i:=3) (show List.Nodup (["row","side","far","other","sides"]:List Str) by decide +kernel) rfl (Or.inl rfl) (hf:=Or.inr rfl)) abw))))) (fun _ _ _ _=>ahp (aau adg (pv 1) (pv 3) (aa0 _))) (fun _ _ _ _=>(pv 2))) aab)))))),?_⟩
 refine abc h fun ss Q' q B hK=>?_
 refine exS4 ss q fun n m a b q1_=>?_
 have n0:=q1_.1
 have n1:=q1_.2.1
 have a0:=q1_.2.2.1
 have a1:=q1_.2.2.2.1
 have b0:=q1_.2.2.2.2.1
 have b1:=q1_.2.2.2.2.2.1
 have k:=q1_.2.2.2.2.2.2
 clear q1_ q
 show EvS B _ _ [some (.st (.list (matD n m))),some (.st (prD (a,b))),none,none,none]
 row_cond go
 unfold matD
 refine acw (fun u:Nat => .bool (sdF m a b u)) rfl (by simp;row_cond lo) (fun u hu B' hB=>?_) ?_
 ·have ra:=aqz (r:=m (u:Int)) a0 a1
  have rb:=aqz (r:=m (u:Int)) b0 b1
  row_cond go
  exact rfl
 ·row_cond go
  rw [show ((List.range n).map fun (u:Nat)=>PyData.list (rowD n (m (u:Int))))=matD n m from rfl,awo]
  refine ao4 (xs:=List.range n) (fun _=>List.range n) (fun u v => .int (m (u:Int) (v:Int))) (fun _ v => .bool (sdF m a b v)) (fun u v => .int (m (u:Int) (v:Int))) (fun u v=>sdF m a b u == sdF m a b v) (aqf rfl) ?_ ?_ ?_ ?_
  ·rw [at8,List.length_map]
   have:=awp n1 m (sdF m a b)
   row_cond lo
  ·intro u hu B' hB o o'
   row_cond go
   rw [ata]
   exact ⟨rfl,rfl⟩
  ·intro u hu v hv B' hB
   row_cond go
   intro _
   row_cond go
   exact rfl
  ·rw [at8]
   row_cond go
   refine adp ?_ fun x hx=>?_
   ·intro e
    have:m 0 0∈ptF n m (sdF m a b):=ptF_mem.mpr ⟨0,0,by row_cond lo,by row_cond lo,by row_cond lo,by row_cond lo,Iff.rfl,rfl⟩
    rw [e] at this
    cases this
   ·row_cond go
    exact k x (at9 hx)
theorem scX_far_way:FnScope ["web","far","a","b"] ["web"] (aad s_far_way):=⟨rfl,rfl,rfl,by decide +kernel,rfl,by decide +kernel,by decide +kernel⟩
theorem al1 (T:Txt K mg):CanX P w K mg base "far_way" 10 ["web"] (spX K (aif mg)):=by
 obtain ⟨f,fd,D⟩:=T.d_far_way
 refine D.canX (D.fn.okX scX_far_way (fun vs H Q E h=>lenX h fun ss Q' R' q=>by obtain ⟨n,es,rfl,n0,n1,hin,hle,k1,k2⟩:=q;rfl) (fun cdv A outer s H vs Q E hr h=>?_))
 have nd:=scX_far_way.nd
 refine ⟨_,(aac (abe (agc (acx T) hr (aaa (pv 0) aab)))
  (aac (acm (aag (agg T) hr (aaa (pv 0) aab)) (acd rfl (aax (aam (i:=1) nd rfl (Or.inl rfl)) (aax (aam (i:=2) nd rfl (Or.inl rfl)) (aax (aam (i:=3) nd rfl (Or.inl rfl)) abw)))))
  (aah (aas (aag (ajr T) hr (aaa (pv 0) (aaa (pv 2) (aaa (pv 3) aab)))))))),?_⟩
 refine aj0 h fun ss Q' R' q B hK hE=>?_
 obtain ⟨n,es,rfl,n0,n1,hin,hle,k1,k2⟩:=q
 show EvS B _ _ [some (.st (webD n es)),none,none,none]
 row_cond go
 refine ae3 hE ?_
 row_cond go
 refine ⟨n,es,rfl,n0,n1,hin,hle,fun hJ=>?_,k2⟩
 row_cond go
 refine ⟨n,es,rfl,n0,n1,hin,hle,hJ.2,fun x a b hF=>?_⟩
 obtain ⟨d,hd,_⟩:=amh hJ.2 hF.b0 hF.b1 hF.a0 hF.a1
 row_cond go
 refine ⟨n,a,b,es,d,rfl,n1,hin,hle,hF.a0,hF.a1,hF.b0,hF.b1,hd,fun ws hw=>?_⟩
 exact k1 hJ _
theorem scX_far_ends:FnScope ["web","rows","far"] ["web"] (aad s_far_ends):=⟨rfl,rfl,rfl,by decide +kernel,rfl,by decide +kernel,by decide +kernel⟩
theorem ajs (T:Txt K mg):CanX P w K mg base "far_ends" 9 ["web"] (spX K (aif mg)):=by
 obtain ⟨f,fd,D⟩:=T.d_far_ends
 refine D.canX (D.fn.okX scX_far_ends (fun vs H Q E h=>lenX h fun ss Q' R' q=>by obtain ⟨n,es,rfl,n0,n1,hin,hle,k1,k2⟩:=q;rfl) (fun cdv A outer s H vs Q E hr h=>?_))
 have nd:=scX_far_ends.nd
 refine ⟨_,(aac (abe (agc (acx T) hr (aaa (pv 0) aab)))
  (aac (aak (i:=1) nd rfl (Or.inl rfl) (aag (ads T) hr (aaa (pv 0) aab)))
  (aac (aak (i:=2) nd rfl (Or.inr rfl) (aag (ae4 T) hr (aaa (pv 1) aab)))
  (aah (aas (ady rfl (N:=["place","row","far"]) (src:=[none,none,some 2]) (by exact abn rfl rfl rfl rfl rfl rfl) (avm rfl T.b_enumerate (aaa (pv 1) aab)) (fun _ _ _ _=>(show PG _ _ (gTup K 2 (aby (aa2 0) (aby (aa2 1) gNil))) from (acd rfl (aax (aam (i:=0) (show List.Nodup (["place","row","far"]:List Str) by decide +kernel) rfl (Or.inl rfl) (hf:=Or.inr rfl)) (aax (aam (i:=1) (show List.Nodup (["place","row","far"]:List Str) by decide +kernel) rfl (Or.inl rfl) (hf:=Or.inr rfl)) abw))))) (fun _ _ _ _=>ahp (aau adg (aan (show aa9 _ (.builtin "max") (afc K) from (ac9 rfl)) (by rfl) T.b_max ado (aaa (pv 1) aab)) (pv 2) (aa0 _))) (fun _ _ _ _=>(pv 0)))))))),?_⟩
 refine aj0 h fun ss Q' R' q B hK hE=>?_
 obtain ⟨n,es,rfl,n0,n1,hin,hle,k1,k2⟩:=q
 show EvS B _ _ [some (.st (webD n es)),none,none]
 have hn:1<=n.toNat:=by row_cond lo
 row_cond go
 refine ae3 hE ?_
 row_cond go
 refine ⟨n,es,rfl,n0,n1,hin,hle,fun hJ=>?_,k2⟩
 row_cond go
 refine ⟨n,es,rfl,n0,n1,hin,hle,hJ.2,abp abu ?_⟩
 row_cond go
 refine ⟨n.toNat,dsF es,rfl,hn,by row_cond lo,fun x hx=>?_⟩
 row_cond go
 rw [azc]
 refine arx (xs:=List.range n.toNat) (fa:=fun i:Nat => .int (i:Int)) (fb:=fun i:Nat => .list (rowD n.toNat (dsF es (i:Int)))) (fun i:Nat => .int (i:Int)) (fun (i:Nat)=>decide (mxF n.toNat (dsF es (i:Int))=x)) rfl (by simp;row_cond lo) (fun i hi B' hB=>?_) ?_
 ·row_cond go
  rw [as8]
  refine adp (anw hn _) fun y hy=>?_
  obtain rfl:=agf hy (azb hn _)
  row_cond go
  intro _
  row_cond go
  exact rfl
 ·row_cond go
  exact k1 hJ _
theorem scX_parting_tie:FnScope ["web","rows"] ["web"] (aad s_parting_tie):=⟨rfl,rfl,rfl,by decide +kernel,rfl,by decide +kernel,by decide +kernel⟩
theorem agh (T:Txt K mg):CanX P w K mg base "parting_tie" 9 ["web"] (spX K (aif mg)):=by
 obtain ⟨f,fd,D⟩:=T.d_parting_tie
 refine D.canX (D.fn.okX scX_parting_tie (fun vs H Q E h=>lenX h fun ss Q' R' q=>by obtain ⟨n,es,rfl,n0,n1,hin,hle,k1,k2⟩:=q;rfl) (fun cdv A outer s H vs Q E hr h=>?_))
 have nd:=scX_parting_tie.nd
 refine ⟨_,(aac (abe (agc (acx T) hr (aaa (pv 0) aab)))
  (aac (aak (i:=1) nd rfl (Or.inr rfl) (aag (ads T) hr (aaa (pv 0) aab)))
  (aah (aas (auo hr.units rfl (by rfl) T.b_min (aaa (ady rfl (N:=["tie","rows"]) (src:=[none,some 1]) (by exact abn rfl rfl rfl rfl rfl rfl) (ab4 (aay aaz (pv 0) aae (fun _ _=>rfl))) (fun _ _ _ _=>(aam (i:=0) (show List.Nodup (["tie","rows"]:List Str) by decide +kernel) rfl (Or.inl rfl) (hf:=Or.inr rfl))) (fun _ _ _ _=>ab6) (fun _ _ _ _=>(aba (aaa (aag (aig T) hr (aaa (pv 1) (aaa (pv 0) aab))) (aaa (pv 0) aab))))) aab) acz))))),?_⟩
 refine aj0 h fun ss Q' R' q B hK hE=>?_
 obtain ⟨n,es,rfl,n0,n1,hin,hle,k1,k2⟩:=q
 show EvS B _ _ [some (.st (webD n es)),none]
 row_cond go
 refine ae3 hE ?_
 row_cond go
 refine ⟨n,es,rfl,n0,n1,hin,hle,fun hJ=>?_,k2⟩
 row_cond go
 refine ⟨n,es,rfl,n0,n1,hin,hle,hJ.2,abp abu ?_⟩
 row_cond go
 obtain ⟨pf,hpf⟩:∃ pf:Int × Int->Int,∀ t,IsPt n.toNat (dsF es) t.1 t.2 (pf t):=⟨fun t=>Classical.choose (aq2 (n:=n.toNat) (by row_cond lo) (dsF es) t.1 t.2),fun t=>Classical.choose_spec (aq2 (n:=n.toNat) (by row_cond lo) (dsF es) t.1 t.2)⟩
 refine ak3 ?_
 row_cond go
 refine acw (xs:=es) (fun t:Int × Int=>z3D (pf t,t)) rfl (by row_cond lo) (fun t ht B' hB=>?_) ?_
 ·have hq:=hin t ht
  row_cond go
  refine ⟨n.toNat,dsF es,t.1,t.2,rfl,by row_cond lo,by row_cond lo,by row_cond lo,by row_cond lo,by row_cond lo,by row_cond lo,fun x hx=>?_⟩
  row_cond go
  rw [awq hx (hpf t)]
  exact ⟨rfl,rfl⟩
 ·row_cond go
  rw [show es.map (fun t:Int × Int=>z3D (pf t,t))=(es.map fun t=>((pf t,t):Z3)).map z3D by rw [List.map_map];rfl]
  refine asm (fun e=>?_) fun z hz hm=>?_
  ·row_cond go
   exact k1 hJ _
  ·row_cond go
   exact k1 hJ _
end
theorem ajt:bootBuiltins "ValueError" = some (.type "ValueError"):=by decide +kernel
def awr (mg:Str->Option Value):VIo:=fun A ss Q=>∃ C,A=OE C/\ss=[]/\mg "NoTree" = some (.ref C)/\Q (OE C) (.st (.str "NoTree"))
def aws:VP:=fun ss Q=>∃ (way n:Int) (es:List (Int × Int)),ss=[.st (.int way),.st (webD n es)]/\1<=n/\n<=100/\InN n es/\es.length<=10000/\(¬ IsTr n es->Q (.st (.str "NoTree")))/\(IsTr n es->Q (.st (.str "")))
section
variable {P:Program} {w:World} {K:PySem.W.Frag} {mg:Str->Option Value} {base:Heap}
theorem sc_law_kind:FnScope ["caught","kinds"] ["caught"] (aad s_law_kind):=⟨rfl,rfl,rfl,by decide +kernel,rfl,by decide +kernel,by decide +kernel⟩
theorem al2 (T:Txt K mg):Can P w K mg base "_law_kind" 1 ["caught"] (spI K (awr mg)):=by
 obtain ⟨f,fd,D⟩:=T.d_law_kind
 obtain ⟨cNoJoin,xNoJoin⟩:=T.x_NoJoin
 obtain ⟨cNoNumber,xNoNumber⟩:=T.x_NoNumber
 obtain ⟨cNoTie,xNoTie⟩:=T.x_NoTie
 obtain ⟨cNoTree,xNoTree⟩:=T.x_NoTree
 obtain ⟨cNoName,xNoName⟩:=T.x_NoName
 obtain ⟨cNoPlace,xNoPlace⟩:=T.x_NoPlace
 obtain ⟨cNoRow,xNoRow⟩:=T.x_NoRow
 obtain ⟨cNoText,xNoText⟩:=T.x_NoText
 refine D.can (D.fn.ok sc_law_kind (fun vs H Q E h=>lenI h fun A ss Q' q=>by obtain ⟨C,rfl,rfl,hC,kk⟩:=q;rfl) (fun cdv A outer s H vs Q E hr h=>?_))
 have nd:=sc_law_kind.nd
 refine ⟨_,(aac (aak (i:=1) nd rfl (Or.inl rfl) (aa7 (aaa (aan ade (by rfl) T.b_isinstance aa8 (aaa (pv 0) (aaa (acj (v:=.ref cNoJoin) rfl xNoJoin.mgx rfl) aab))) (aaa (aan ade (by rfl) T.b_isinstance aa8 (aaa (pv 0) (aaa (acj (v:=.ref cNoNumber) rfl xNoNumber.mgx rfl) aab))) aab))))
  (aac (aak (i:=1) nd rfl (Or.inl rfl) (aar aeq (pv 1) (aa7 (aaa (aan ade (by rfl) T.b_isinstance aa8 (aaa (pv 0) (aaa (acj (v:=.ref cNoTie) rfl xNoTie.mgx rfl) aab))) (aaa (aan ade (by rfl) T.b_isinstance aa8 (aaa (pv 0) (aaa (acj (v:=.ref cNoTree) rfl xNoTree.mgx rfl) aab))) aab)))))
  (aac (aak (i:=1) nd rfl (Or.inl rfl) (aar aeq (pv 1) (aa7 (aaa (aan ao7 (by rfl) T.b_isinstance aa8 (aaa (pv 0) (aaa (aba (aaa (acj (v:=.ref cNoName) rfl xNoName.mgx rfl) (aaa (acj (v:=.ref cNoPlace) rfl xNoPlace.mgx rfl) (aaa (acj (v:=.ref cNoRow) rfl xNoRow.mgx rfl) (aaa (acj (v:=.ref cNoText) rfl xNoText.mgx rfl) aab))))) aab))) aab))))
  (aac (abh (PW.pt (agl (aau ae8 (aco PySem.F.plainAttrs_list PySem.F.slot_list_count PySem.F.type_list_count aqw (pv 1) (aaa agi aab)) aae (aa0 _)) (agk (agm (agj (aan ade (by rfl) T.b_isinstance aa8 (aaa (pv 0) (aaa (ahn (v:=.ty "ValueError") rfl T.b_ValueError ajt rfl) aab))))))))
   (aah (aas abt))
   aa5)
  (aah (aas (aay aaz (aa7 (aaa abt (aaa abt (aaa abt (aaa abt (aaa abt aab)))))) (aco PySem.F.plainAttrs_list PySem.F.slot_list_index PySem.F.type_list_index aqv (pv 1) (aaa agi aab)) (fun _ _=>rfl)))))))),?_⟩
 refine afh h fun A0 ss Q' q B hK=>?_
 obtain ⟨C,rfl,rfl,hC,kk⟩:=q
 show EvS B _ _ [some (.io (OE C)),none]
 obtain rfl:cNoTree=C:=by have:=xNoTree.mgx.symm.trans hC;cases this;rfl
 have hany:PySem.W.kitAny K (.ref cNoTree) ((cNoName :: [cNoPlace,cNoRow,cNoText]).map Value.ref)=some false:=by
  simp only [List.map_cons,List.map_nil,PySem.W.kitAny,T.y_NoTree_NoName _ _ xNoTree.mgx xNoName.mgx,T.y_NoTree_NoPlace _ _ xNoTree.mgx xNoPlace.mgx,T.y_NoTree_NoRow _ _ xNoTree.mgx xNoRow.mgx,T.y_NoTree_NoText _ _ xNoTree.mgx xNoText.mgx]
 repeat (first
  | (refine acl (.inr rfl) xNoTree.xin (T.y_NoTree_NoJoin _ _ xNoTree.mgx xNoJoin.mgx) ?_)
  | (refine acl (.inr rfl) xNoTree.xin (T.y_NoTree_NoNumber _ _ xNoTree.mgx xNoNumber.mgx) ?_)
  | (refine acl (.inr rfl) xNoTree.xin (T.y_NoTree_NoTie _ _ xNoTree.mgx xNoTie.mgx) ?_)
  | (refine acl (.inr rfl) xNoTree.xin (T.y_NoTree_NoTree _ _ xNoTree.mgx xNoTree.mgx) ?_)
  | (refine alt (Ds:=[cNoPlace,cNoRow,cNoText]) (.inr rfl) (by simp) xNoTree.xin hany ?_)
  | (refine alq (.inr rfl) xNoTree.xin (T.y_NoTree_ValueError _ xNoTree.mgx) ?_)
  | (refine ai4 (bs:=[false,false,false,true,false]) ?_)
  | (refine ai3 (bs:=[false,false,false,true,false]) (j:=3) ?_)
  | row_cond st)
 rw [show (!decide (((List.count true [false,false,false,true,false]:Nat):Int)=1))=false by decide]
 refine ab2 ?_
 repeat (first
  | (refine acl (.inr rfl) xNoTree.xin (T.y_NoTree_NoJoin _ _ xNoTree.mgx xNoJoin.mgx) ?_)
  | (refine acl (.inr rfl) xNoTree.xin (T.y_NoTree_NoNumber _ _ xNoTree.mgx xNoNumber.mgx) ?_)
  | (refine acl (.inr rfl) xNoTree.xin (T.y_NoTree_NoTie _ _ xNoTree.mgx xNoTie.mgx) ?_)
  | (refine acl (.inr rfl) xNoTree.xin (T.y_NoTree_NoTree _ _ xNoTree.mgx xNoTree.mgx) ?_)
  | (refine alt (Ds:=[cNoPlace,cNoRow,cNoText]) (.inr rfl) (by simp) xNoTree.xin hany ?_)
  | (refine alq (.inr rfl) xNoTree.xin (T.y_NoTree_ValueError _ xNoTree.mgx) ?_)
  | (refine ai4 (bs:=[false,false,false,true,false]) ?_)
  | (refine ai3 (bs:=[false,false,false,true,false]) (j:=3) ?_)
  | row_cond st)
 refine ⟨by decide,?_⟩
 row_cond go
 exact kk
theorem sc_law_word:FnScope ["way","web","e","caught"] ["way","web"] (aad s_law_word):=⟨rfl,rfl,rfl,by decide +kernel,rfl,by decide +kernel,by decide +kernel⟩
theorem acs (T:Txt K mg):Can P w K mg base "_law_word" 11 ["way","web"] (spP K (aws)):=by
 obtain ⟨f,fd,D⟩:=T.d_law_word
 obtain ⟨cTieError,xTieError⟩:=T.x_TieError
 refine D.can (D.fn.ok sc_law_word (fun vs H Q E h=>lenP h fun ss Q' q=>by obtain ⟨way,n,es,rfl,n0,n1,hin,hle,k1,k2⟩:=q;rfl) (fun cdv A outer s H vs Q E hr h=>?_))
 have nd:=sc_law_word.nd
 refine ⟨_,(aac (aak (i:=3) nd rfl (Or.inl rfl) acz)
  (aac (ayz (i:=2) ⟨rfl,rfl⟩ rfl xTieError.ok rfl nd rfl rfl (at6 (aau adg (pv 0) aae (aa0 _))
    (agd (al1 T) hr (aaa (pv 1) aab))
    (at6 (aau adg (pv 0) aae (aa0 _))
     (agd (ajs T) hr (aaa (pv 1) aab))
     (agd (agh T) hr (aaa (pv 1) aab))))
   (fun ea=>(aah (aak (i:=3) nd rfl (Or.inl rfl) (pv 2)))))
  (aac (abh (aau ahw (pv 3) acz (aa0 _))
   (aah (aas abt))
   aa5)
  (aah (aas (aag (al2 T) hr (aaa (pv 3) aab))))))),?_⟩
 refine abc h fun ss Q' q B hK=>?_
 refine exS3 ss q fun way n es q1_=>?_
 have n0:=q1_.1
 have n1:=q1_.2.1
 have hin:=q1_.2.2.1
 have hle:=q1_.2.2.2.1
 have k1:=q1_.2.2.2.2.1
 have k2:=q1_.2.2.2.2.2
 clear q1_ q
 show EvS B _ _ [some (.st (.int way)),some (.st (webD n es)),none,none]
 obtain ⟨cNoTree,xNoTree⟩:=T.x_NoTree
 have hsub:XSub K cNoTree cTieError:=awb xNoTree.exc (T.s_NoTree_TieError _ _ xNoTree.mgx xTieError.mgx)
 row_cond go
 refine av8 ?_
 refine aqt ?_
 row_cond go
 refine abm (fun hw=>?_) (fun hw0=>?_)
 ·refine agb ?_
  row_cond go
  refine ⟨n,es,rfl,n0,n1,hin,hle,fun hT s=>?_,fun hT C hC=>?_⟩
  ·row_cond go
   refine abo ?_
   row_cond go
   exact k2 hT
  ·obtain rfl:cNoTree=C:=by have:=xNoTree.mgx.symm.trans hC;cases this;rfl
   refine ⟨hsub,?_⟩
   dsimp only [List.set_cons_zero,List.set_cons_succ]
   refine aff (aee rfl ?_)
   dsimp only [List.set_cons_zero,List.set_cons_succ]
   repeat (first | (refine aid (.inl rfl) ?_) | row_cond st | (dsimp only [List.set_cons_zero,List.set_cons_succ];row_cond st))
   exact ⟨cNoTree,rfl,rfl,xNoTree.mgx,k1 hT⟩
 refine aqt ?_
 row_cond go
 refine abm (fun hw=>?_) (fun hw1=>?_)
 ·refine agb ?_
  row_cond go
  refine ⟨n,es,rfl,n0,n1,hin,hle,fun hT s=>?_,fun hT C hC=>?_⟩
  ·row_cond go
   refine abo ?_
   row_cond go
   exact k2 hT
  ·obtain rfl:cNoTree=C:=by have:=xNoTree.mgx.symm.trans hC;cases this;rfl
   refine ⟨hsub,?_⟩
   dsimp only [List.set_cons_zero,List.set_cons_succ]
   refine aff (aee rfl ?_)
   dsimp only [List.set_cons_zero,List.set_cons_succ]
   repeat (first | (refine aid (.inl rfl) ?_) | row_cond st | (dsimp only [List.set_cons_zero,List.set_cons_succ];row_cond st))
   exact ⟨cNoTree,rfl,rfl,xNoTree.mgx,k1 hT⟩
 ·refine agb ?_
  row_cond go
  refine ⟨n,es,rfl,n0,n1,hin,hle,fun hT s=>?_,fun hT C hC=>?_⟩
  ·row_cond go
   refine abo ?_
   row_cond go
   exact k2 hT
  ·obtain rfl:cNoTree=C:=by have:=xNoTree.mgx.symm.trans hC;cases this;rfl
   refine ⟨hsub,?_⟩
   dsimp only [List.set_cons_zero,List.set_cons_succ]
   refine aff (aee rfl ?_)
   dsimp only [List.set_cons_zero,List.set_cons_succ]
   repeat (first | (refine aid (.inl rfl) ?_) | row_cond st | (dsimp only [List.set_cons_zero,List.set_cons_succ];row_cond st))
   exact ⟨cNoTree,rfl,rfl,xNoTree.mgx,k1 hT⟩
end
def ao9 (K:PySem.W.Frag):Sp:=fun vs H Q _=>∃ (a:Addr) (ns:List Int),vs=[.ref a]/\SqL K H a (ns.map V.int)/\ns.length<=63/\∀ H',Q (.bl true) H'
def aua:VP:=fun ss Q=>∃ ns:List Int,ss=[.scr ns]/\ns.length<=63/\Q (.st (.bool true))
theorem atb {K:PySem.W.Frag} {vs:List V} {H:Hp} {Q:VK} {E:XK} (h:ao9 K vs H Q E):spP K aua vs H Q E:=by
 obtain ⟨a,ns,rfl,hS,hl,k⟩:=h
 refine ⟨H,[.scr ns],fun s=>s=.st (.bool true),Same.refl _,fun a ks h=>h,.cons ⟨a,rfl,hS⟩ .nil,⟨ns,rfl,hl,rfl⟩,fun s e v G' H' Fv o=>?_⟩
 subst e
 have r:=o.ok.1
 cases r
 exact k _
theorem webP (n:Int) (es:List (Int × Int)):aaj (webD n es)=true:=by
 have:=ahb es
 simp only [webD,aaj,plainDs,this,Bool.and_self]
theorem a0c (n:Int) (es:List (Int × Int)):(webD n es).depth<=60:=by
 have h:PyData.depthAll (es.map prD)<=1:=afy fun d hd=>by
  obtain ⟨p,_,rfl⟩:=List.mem_map.mp hd
  exact aiz p
 simp only [webD,PyData.depth,PyData.depthAll]
 row_cond lo
theorem prsP (es:List (Int × Int)):aaj (.list (es.map prD))=true:=by
 rw [aaj];exact ahb es
theorem a0d (es:List (Int × Int)):(PyData.list (es.map prD)).depth<=60:=by
 have h:PyData.depthAll (es.map prD)<=1:=afy fun d hd=>by
  obtain ⟨p,_,rfl⟩:=List.mem_map.mp hd
  exact aiz p
 simp only [PyData.depth]
 row_cond lo
theorem eqv_prs {as bs:List (Int × Int)}:PyData.eqv (.list (as.map prD)) (.list (bs.map prD))=true ↔ as=bs:=by
 rw [aev _ _ (prsP as) (prsP bs)]
 constructor
 ·intro h
  have h:=PyData.list.inj h
  exact (List.map_inj_right (f:=prD) fun x y e=>by
   obtain ⟨a,b⟩:=x
   obtain ⟨c,d⟩:=y
   simp only [prD,PyData.tuple.injEq,List.cons.injEq,PyData.int.injEq,and_true] at e
   rw [e.1,e.2]).mp h
 ·rintro rfl;rfl
noncomputable def cutP (xs:List (Int × Int)) (lo hi:Option Int):List (Int × Int):=(xs.drop (HT.sIx xs.length 0 lo)).take (HT.sIx xs.length xs.length hi - HT.sIx xs.length 0 lo)
theorem ahk (xs:List (Int × Int)) (lo hi:Option Int):cutD (xs.map prD) lo hi=(cutP xs lo hi).map prD:=by
 unfold cutD cutP
 rw [List.length_map,List.map_take,List.map_drop]
theorem al3 {xs:List (Int × Int)} {lo hi:Option Int} {p:Int × Int} (h:p∈cutP xs lo hi):p∈xs:=List.mem_of_mem_drop (List.mem_of_mem_take h)
theorem awt {n:Int} {es:List (Int × Int)} {a b c d:Option Int} (h:InN n es):InN n (cutP es a b ++ cutP es c d):=fun p hp=>by
 rcases List.mem_append.mp hp with q | q
 ·exact h p (al3 q)
 ·exact h p (al3 q)
theorem awu {es:List (Int × Int)} {k:Int} (k0:0<=k) (k1:k < es.length):(cutP es none (some k) ++ cutP es (some (k+1)) none).length+1=es.length:=by
 have e1:HT.sIx es.length es.length (some k)=k.toNat:=by show (if k < 0 then _ else _)=_;rw [if_neg (by row_cond lo)];row_cond lo
 have e2:HT.sIx es.length 0 (some (k+1))=(k+1).toNat:=by show (if k+1 < 0 then _ else _)=_;rw [if_neg (by row_cond lo)];row_cond lo
 have e3:HT.sIx es.length 0 none=0:=rfl
 have e4:HT.sIx es.length es.length none=es.length:=rfl
 unfold cutP
 rw [e1,e2,e3,e4]
 simp
 row_cond lo
theorem awv (ds:List (Int × Int)) (x y:Int):ds.map prD ++ [PyData.tuple [.int x,.int y]]=(ds ++ [(x,y)]).map prD:=by simp [prD]
theorem adi {n:Int} {es:List (Int × Int)} (h:(es.length:Int) ≠ n - 1):¬ IsTr n es:=fun z=>h z.1
noncomputable def adj (n:Int):List (Int × Int):=[(0,1),(0,2),(1,2)] ++ (List.range (n - 1 - 3).toNat).map fun (u:Nat)=>(3+(u:Int),3+(u:Int)+1)
theorem amk {n:Int} (hn:4<=n) {qs:List (Int × Int)} (hp:qs.Perm (adj n)):¬ Joined n qs:=fun hJ=>by
 obtain ⟨d,hd⟩:=hJ 3 (by row_cond lo) (by row_cond lo)
 have key:∀ {j:Nat} {v:Int},Gr.Walk (Tied qs) 0 j v->v<=2:=by
  intro j v hw
  induction hw with
  | refl => row_cond lo
  | step _ ht ih =>
   have hm:∀ {x y:Int},(x,y)∈qs->(x<=2/\y<=2)\/(3<=x/\3<=y):=fun {x y} h=>by
    have:=hp.mem_iff.mp h
    simp only [adj,List.mem_append,List.mem_cons,List.not_mem_nil,or_false,Prod.mk.injEq,List.mem_map] at this
    rcases this with (⟨rfl,rfl⟩ | ⟨rfl,rfl⟩ | ⟨rfl,rfl⟩) | ⟨u,_,rfl,rfl⟩ <;> row_cond lo
   rcases ht with ht | ht <;> have:=hm ht <;> row_cond lo
 have:=key hd.1
 row_cond lo
def atc:VIo:=fun A ss Q=>∃ (n:Int) (es:List (Int × Int)),A=OSt/\ss=[.st (webD n es)]/\2<=n/\TreeW n es/\∀ fs,InN n fs->fs.length<=200->¬ IsTr n fs->Q OSt (.st (webD n fs))
section
variable {P:Program} {w:World} {K:PySem.W.Frag} {mg:Str->Option Value} {base:Heap}
theorem sc_law_no_tree:FnScope ["store","web","n","ties","at","kind","a","b","more","ring"] ["store","web"] (aad s_law_no_tree):=⟨rfl,rfl,rfl,by decide +kernel,rfl,by decide +kernel,by decide +kernel⟩
theorem ahl (T:Txt K mg):Can P w K mg base "_law_no_tree" 3 ["store","web"] (spI K (atc)):=by
 obtain ⟨f,fd,D⟩:=T.d_law_no_tree
 refine D.can (D.fn.ok sc_law_no_tree (fun vs H Q E h=>lenI h fun A ss Q' q=>by obtain ⟨n,es,rfl,rfl,n2,hW,k⟩:=q;rfl) (fun cdv A outer s H vs Q E hr h=>?_))
 have nd:=sc_law_no_tree.nd
 refine ⟨_,(aac (acm (pv 1) (acd rfl (aax (aam (i:=2) nd rfl (Or.inl rfl)) (aax (aam (i:=3) nd rfl (Or.inl rfl)) abw))))
  (aac (aak (i:=4) nd rfl (Or.inl rfl) (aag (aaw T) hr (aaa (pv 0) (aaa (aan ab0 (by rfl) T.b_len adn (aaa (pv 3) aab)) aab))))
  (aac (aak (i:=5) nd rfl (Or.inl rfl) (aag (aaw T) hr (aaa (pv 0) (aaa aae aab))))
  (aac (abh (PW.pt (agl (aau adg (pv 5) aae (aa0 _)) (agk (aau aoc (pv 2) aae (aa0 _)))))
   (aah (aas (aba (aaa (pv 2) (aaa (aar aeq (aj9 amu (pv 3) amq (amr (pv 4))) (aj9 amu (pv 3) (amr (aar abl (pv 4) aae)) amq)) aab)))))
   aa5)
  (aac (abh (aau adg (pv 5) aae (aa0 _))
   (aah (aas (aba (aaa (pv 2) (aaa (aa7 aab) aab)))))
   aa5)
  (aac (aak (i:=6) nd rfl (Or.inl rfl) (aag (aaw T) hr (aaa (pv 0) (aaa (aar ace (pv 2) aae) aab))))
  (aac (aak (i:=7) nd rfl (Or.inl rfl) (aar abl (aar abl (pv 6) aae) (aag (aaw T) hr (aaa (pv 0) (aaa (aar ace (aar ace (pv 2) aae) (pv 6)) aab)))))
  (aac (aak (i:=8) nd rfl (Or.inl rfl) (aan (af0 rfl) (by rfl) T.b_sorted adz (aaa (aep (call_setT rfl hr.units) (by rfl) T.b_set aps (aaa (aar aeq (pv 3) (aa7 (aaa (aba (aaa (pv 6) (aaa (pv 7) aab))) aab))) aab)) aab)))
  (aac (abh (PW.pt (aw2 (aau adg (pv 5) aae (aa0 _)) (aud (aau (apv hr.units) (pv 8) (pv 3) (aa0 _)))))
   (aah (aas (aba (aaa (pv 2) (aaa (pv 8) aab)))))
   aa5)
  (aac (aak (i:=9) nd rfl (Or.inl rfl) (aar aeq (aa7 (aaa (aba (aaa aae (aaa aae aab))) (aaa (aba (aaa aae (aaa aae aab))) (aaa (aba (aaa aae (aaa aae aab))) aab)))) (ady rfl (N:=["k"]) (src:=[none]) (by exact abn rfl rfl rfl rfl rfl rfl) (aii rfl T.b_range (aaa aae (aaa (aar ace (pv 2) aae) aab))) (fun _ _ _ _=>(aam (i:=0) (show List.Nodup (["k"]:List Str) by decide +kernel) rfl (Or.inl rfl) (hf:=Or.inr rfl))) (fun _ _ _ _=>ab6) (fun _ _ _ _=>(aba (aaa (pv 0) (aaa (aar abl (pv 0) aae) aab)))))))
  (aah (aas (aba (aaa (pv 2) (aaa (aan ag0 (by rfl) T.b_sorted adz (aaa (pv 9) aab)) aab))))))))))))))),?_⟩
 refine afh h fun A0 ss Q' q B hK=>?_
 obtain ⟨n,es,rfl,rfl,n2,hW,k⟩:=q
 show EvS B _ _ [some (.io OSt),some (.st (webD n es)),none,none,none,none,none,none,none,none]
 have hn6:=hW.web.hi
 have hlen:=hW.len
 have hin:=hW.inn
 row_cond go
 rw [List.length_map]
 refine ⟨_,rfl,rfl,by row_cond lo,by row_cond lo,fun at_ at0 at1=>?_⟩
 row_cond go
 refine ⟨4,rfl,rfl,by row_cond lo,by row_cond lo,fun kind d0 d1=>?_⟩
 have hcut:=awu (es:=es) at0 (by row_cond lo)
 have c1:InN n (cutP es none (some at_) ++ cutP es (some (at_+1)) none):=awt hin
 have c2:(cutP es none (some at_) ++ cutP es (some (at_+1)) none).length<=200:=by row_cond lo
 have c3:¬ IsTr n (cutP es none (some at_) ++ cutP es (some (at_+1)) none):=adi (by row_cond lo)
 have c4:(cutP es none (some at_)).length+(cutP es (some (at_+1)) none).length<=200:=by rw [List.length_append] at c2;exact c2
 row_cond go
 refine abm (fun h0=>?_) (fun h0=>?_)
 ·row_cond go
  rw [ahk,ahk]
  refine afk (by rw [List.length_map,List.length_map];row_cond lo) ?_
  row_cond go
  rw [← List.map_append]
  exact k _ c1 c2 c3
 row_cond go
 refine abm (fun h3=>?_) (fun h3=>?_)
 ·row_cond go
  rw [ahk,ahk]
  refine afk (by rw [List.length_map,List.length_map];row_cond lo) ?_
  row_cond go
  rw [← List.map_append]
  exact k _ c1 c2 c3
 row_cond go
 refine abm (fun h1=>?_) (fun h1=>?_)
 ·row_cond go
  exact k [] (fun p hp=>by cases hp) (by simp) (adi (by simp;row_cond lo))
 row_cond go
 refine ⟨n - 1,rfl,rfl,by row_cond lo,by row_cond lo,fun a a0 a1=>?_⟩
 row_cond go
 refine ⟨n - 1 - a,rfl,rfl,by row_cond lo,by row_cond lo,fun b b0 b1=>?_⟩
 repeat (first | (refine ahg ?_) | row_cond st)
 rw [awv]
 refine ⟨es ++ [(a,a+1+b)],rfl,by rw [List.length_append];simp;row_cond lo,fun qs nd hm hs=>abp abu ?_⟩
 have hql:qs.length<=60:=by
  have:=List.Nodup.length_le_of_subset nd fun p hp=>(hm p).mp hp
  rw [List.length_append] at this;simp at this;row_cond lo
 have hqi:InN n qs:=fun p hp=>by
  rcases List.mem_append.mp ((hm p).mp hp) with q | q
  ·exact hin p q
  ·cases List.mem_singleton.mp q
   exact ⟨a0,by simp only;row_cond lo,by simp only;row_cond lo,by simp only;row_cond lo⟩
 have hmore:qs ≠ es->¬ IsTr n qs:=fun hne=>by
  refine adi fun hl=>hne ?_
  have hin2:(a,a+1+b)∈es:=Classical.byContradiction fun hno=>by
   have h1:es.length+1<=qs.length:=by
    have nd2:(es ++ [(a,a+1+b)]).Nodup:=List.nodup_append.mpr ⟨hW.web.rise.nodup,by simp,fun x hx y hy e=>by
     have:y=(a,a+1+b):=by simpa using hy
     subst this;subst e;exact hno hx⟩
    have:=List.Nodup.length_le_of_subset nd2 fun p hp=>(hm p).mpr hp
    simpa using this
   row_cond lo
  refine (ane (List.Perm.refl _) nd hs).eq hW.web.rise fun p=>?_
  rw [hm p,List.mem_append]
  constructor
  ·rintro (q | q)
   ·exact q
   ·cases List.mem_singleton.mp q;exact hin2
  ·exact .inl
 row_cond go
 refine' cutR (R:=EvS B ?c1 ?d1 [some (.io OSt),some (.st (webD n es)),some (.st (.int n)),some (.st (.list (es.map prD))),some (.st (.int at_)),some (.st (.int kind)),some (.st (.int a)),some (.st (.int (a+1+b))),some (.st (.list (qs.map prD))),none]) (fun R=>?K1) ?K2
 case K1 =>
  refine abm (fun h2=>?_) (fun h2=>?_)
  ·row_cond go
   refine am9 (prsP qs) (prsP es) (a0d qs) ?_
   row_cond go
   cases e:PyData.eqv (.list (qs.map prD)) (.list (es.map prD)) with
   | true =>
    refine ab2 ?_
    refine af5 ?_
    exact R
   | false =>
    refine abo ?_
    row_cond go
    exact k qs hqi (by row_cond lo) (hmore fun z=>by rw [eqv_prs.mpr z] at e;cases e)
  ·refine ab2 ?_
   refine af5 ?_
   exact R
 case K2 =>
  row_cond go
  unfold rngD
  refine acw (fun u:Nat=>prD (3+(u:Int),3+(u:Int)+1)) rfl (by simp;row_cond lo) (fun u hu B' hB=>?_) ?_
  ·row_cond go
   exact rfl
  ·row_cond go
   refine afk (by simp;row_cond lo) ?_
   rw [show [PyData.tuple [.int 0,.int 1],.tuple [.int 0,.int 2],.tuple [.int 1,.int 2]] ++ (List.range (n - 1 - 3).toNat).map (fun u:Nat=>prD (3+(u:Int),3+(u:Int)+1))=(adj n).map prD by unfold adj;rw [List.map_append,List.map_map];rfl]
   refine abp abu ?_
   row_cond go
   refine ae0 (ps:=adj n) (by simp [adj];row_cond lo) ?_
   row_cond go
   intro rs hp hs
   row_cond go
   have hrl:(adj n).length=3+(n - 1 - 3).toNat:=by simp [adj];row_cond lo
   refine k rs (fun p hq=>?_) (by rw [hp.length_eq];row_cond lo) fun hT=>?_
   ·have:=hp.mem_iff.mp hq
    simp only [adj,List.mem_append,List.mem_cons,List.not_mem_nil,or_false,List.mem_map,List.mem_range] at this
    rcases this with (rfl | rfl | rfl) | ⟨u,hu,rfl⟩ <;> exact ⟨by simp only;row_cond lo,by simp only;row_cond lo,by simp only;row_cond lo,by simp only;row_cond lo⟩
   ·by_cases h4:4<=n
    ·exact amk h4 hp hT.2
    ·have:=hT.1
     rw [hp.length_eq] at this
     row_cond lo
theorem TreeW.tr {n:Int} {es:List (Int × Int)} (h:TreeW n es):IsTr n es:=⟨h.len,h.conn.joined (by have:=h.web.lo;row_cond lo)⟩
theorem aze:¬ IsTr 2 []:=adi (by decide)
theorem tr1:IsTr 1 []:=⟨rfl,fun v v0 v1=>by
 have e:v=0:=by row_cond lo
 rw [e]
 exact ⟨0,Gr.Dist.self _ _⟩⟩
theorem anx (n:Int):InN n []:=fun p hp=>by cases hp
theorem sc_law:FnScope ["script","at","store","web","bad","kept","way"] ["script"] (aad s_law):=⟨rfl,rfl,rfl,by decide +kernel,rfl,by decide +kernel,by decide +kernel⟩
theorem aww (T:Txt K mg) {f:Addr} {fd:FuncData} (D:DefAt K mg "law" s_law ["script"] f fd):FnOk P w K mg base CX0 12 f fd ["script"] (spP K (aua)):=by
 refine D.fn.ok sc_law (fun vs H Q E h=>lenP h fun ss Q' q=>by obtain ⟨ns,rfl,hns,kk⟩:=q;rfl) (fun cdv A outer s H vs Q E hr h=>?_)
 have nd:=sc_law.nd
 refine ⟨_,(aac (ac0 PassesOwn.never rfl (ack rfl T.b_range (aaa (aan (adh rfl) (by rfl) T.b_min aet (aaa (aan (agt rfl) (by rfl) T.b_max ado (aaa (aan ab0 (by rfl) T.b_len adn (aaa (pv 0) aab)) (aaa aae aab))) (aaa aae aab))) aab)) (aam (i:=1) nd rfl (Or.inl rfl))
   (aac (aak (i:=2) nd rfl (Or.inl rfl) (aag (ajp T) hr (aaa (aag (alx T) hr (aaa (pv 0) (aaa (pv 1) aab))) aab)))
    (aac (aak (i:=3) nd rfl (Or.inl rfl) (aag (aly T) hr (aaa (pv 2) aab)))
    (aah (abh (aau aod (aay aaz (pv 3) aae (fun _ _=>rfl)) aae (aa0 _))
     (aac (aak (i:=4) nd rfl (Or.inl rfl) (aag (ahl T) hr (aaa (pv 2) (aaa (pv 3) aab))))
      (aac (aak (i:=5) nd rfl (Or.inl rfl) (aba (aaa (aay aaz (pv 4) aae (fun _ _=>rfl)) (aaa (aep aot (by rfl) T.b_list am2 (aaa (aay aaz (pv 4) aae (fun _ _=>rfl)) aab)) aab))))
      (aah (ac0 PassesOwn.never rfl (ack rfl T.b_range (aaa aae aab)) (aam (i:=6) nd rfl (Or.inl rfl))
       (aah (abh (PW.pt (agl (aau ae8 (aag (acs T) hr (aaa (pv 6) (aaa (pv 4) aab))) abt (aa0 _)) (agl (aau ae8 (aag (acs T) hr (aaa (pv 6) (aaa (pv 3) aab))) abt (aa0 _)) (agk (aau (apv hr.units) (pv 4) (pv 5) (aa0 _))))))
         (aah (aas agi))
         aa5))))))
     aa5)))))
  (aac (ac0 PassesOwn.never rfl (ack rfl T.b_range (aaa aae aab)) (aam (i:=6) nd rfl (Or.inl rfl))
   (aah (abh (PW.pt (agl (aau ae8 (aag (acs T) hr (aaa (pv 6) (aaa (aba (aaa aae (aaa (aa7 aab) aab))) aab))) abt (aa0 _)) (agk (aau ae8 (aag (acs T) hr (aaa (pv 6) (aaa (aba (aaa aae (aaa (aa7 aab) aab))) aab))) abt (aa0 _)))))
     (aah (aas agi))
     aa5)))
  (aah (aas agi)))),?_⟩
 refine abc h fun ss Q' q B hK=>?_
 refine exS1 ss q fun ns q1_=>?_
 have hns:=q1_.1
 have kk:=q1_.2
 clear q1_ q
 show EvS B _ _ [some (.scr ns),none,none,none,none,none,none]
 row_cond go
 refine aeg (fun i e=>∃ v1 v2 v3 v4 v5 v6,e=[some (.scr ns),v1,v2,v3,v4,v5,v6]) ⟨_,_,_,_,_,_,rfl⟩ ?_ ?_
 ·rintro i e hi q0_
  refine exE6 e q0_ fun v1 v2 v3 v4 v5 v6=>?_
  clear q0_
  have hi20:(i:Int) < 20:=by
   revert hi
   split <;> split <;> row_cond lo
  row_cond go
  refine ⟨ns,0+(i:Int),rfl,by row_cond lo,by row_cond lo,fun c=>?_⟩
  row_cond go
  refine ⟨c,rfl,fun g t u=>?_⟩
  repeat (first | (refine as6 2 rfl ?_) | row_cond st)
  refine ⟨rfl,rfl,fun n es hW=>?_⟩
  have hn6:=hW.web.hi
  have hlen:=hW.len
  have hn1:=hW.web.lo
  row_cond go
  refine abm (fun h=>?_) (fun h=>?_)
  ·row_cond go
   refine ⟨n,es,rfl,rfl,by row_cond lo,hW,fun fs f1 f2 f3=>?_⟩
   row_cond go
   refine aeg (fun j e=>∃ v6,e=[some (.scr ns),some (.st (.int (0+(i:Int)))),some (.own OSt),some (.st (webD n es)),some (.st (webD n fs)),some (.st (webD n fs)),v6]) ⟨_,rfl⟩ ?_ ?_
   ·rintro j e hj q0_
    refine exE1 e q0_ fun v6=>?_
    clear q0_
    row_cond go
    refine ⟨_,n,fs,rfl,by row_cond lo,by row_cond lo,f1,by row_cond lo,fun _=>?_,fun z=>absurd z f3⟩
    row_cond go
    refine ⟨_,n,es,rfl,by row_cond lo,by row_cond lo,hW.inn,by row_cond lo,fun z=>absurd hW.tr z,fun _=>?_⟩
    row_cond go
    refine am9 (webP n fs) (webP n fs) (a0c n fs) ?_
    rw [asi (webP n fs)]
    row_cond go
    exact ⟨_,rfl⟩
   ·rintro e q0_
    refine exE1 e q0_ fun v6=>?_
    clear q0_
    exact ⟨_,_,_,_,_,_,rfl⟩
  ·row_cond go
   exact ⟨_,_,_,_,_,_,rfl⟩
 ·rintro e q0_
  refine exE6 e q0_ fun v1 v2 v3 v4 v5 v6=>?_
  clear q0_
  row_cond go
  refine aeg (fun j e=>∃ v6,e=[some (.scr ns),v1,v2,v3,v4,v5,v6]) ⟨_,rfl⟩ ?_ ?_
  ·rintro j e hj q0_
   refine exE1 e q0_ fun v6=>?_
   clear q0_
   row_cond go
   refine ⟨_,2,[],rfl,by row_cond lo,by row_cond lo,anx 2,by decide,fun _=>?_,fun z=>absurd z aze⟩
   row_cond go
   refine ⟨_,1,[],rfl,by row_cond lo,by row_cond lo,anx 1,by decide,fun z=>absurd tr1 z,fun _=>?_⟩
   row_cond go
   exact ⟨_,rfl⟩
  ·rintro e q0_
   refine exE1 e q0_ fun v6=>?_
   clear q0_
   row_cond go
   exact kk
theorem azf (T:Txt K mg) {f:Addr} {fd:FuncData} (D:DefAt K mg "law" s_law ["script"] f fd):FnOk P w K mg base CX0 12 f fd ["script"] (ao9 K):=(aww T D).imp fun _ _ _ _ h=>atb h
end
theorem len0 {α:Type} {us:List α} (h:us.length=0):us=[]:=List.eq_nil_of_length_eq_zero h
theorem len1 {α:Type} {us:List α} (h:us.length=1):∃ a0,us=[a0]:=by
 cases us with
 | nil=>cases h
 | cons a us=>exact ⟨a,by rw [len0 (Nat.succ.inj h)]⟩
theorem len2 {α:Type} {us:List α} (h:us.length=2):∃ a0 a1,us=[a0,a1]:=by
 cases us with
 | nil=>cases h
 | cons a us=>obtain ⟨a1,e⟩:=len1 (Nat.succ.inj h);exact ⟨a,a1,by rw [e]⟩
theorem len3 {α:Type} {us:List α} (h:us.length=3):∃ a0 a1 a2,us=[a0,a1,a2]:=by
 cases us with
 | nil=>cases h
 | cons a us=>obtain ⟨a1,a2,e⟩:=len2 (Nat.succ.inj h);exact ⟨a,a1,a2,by rw [e]⟩
theorem txt_mk {K:PySem.W.Frag} {h:Heap} {mg:Str->Option Value} (X:K.In h) (G:h.Ns mainGlobals mg)
  {f0:Addr} {od0 an0:Option Addr} {sl0:Array (Option Value)} {oc0 kV0 dc0 pm0 cd0 ct0:Value}
  {f1:Addr} {od1 an1:Option Addr} {sl1:Array (Option Value)} {oc1 kV1 dc1 pm1 cd1 ct1:Value}
  {f2:Addr} {od2 an2:Option Addr} {sl2:Array (Option Value)} {oc2 kV2 dc2 pm2 cd2 ct2:Value}
  {f3:Addr} {od3 an3:Option Addr} {sl3:Array (Option Value)} {oc3 kV3 dc3 pm3 cd3 ct3:Value}
  {f4:Addr} {od4 an4:Option Addr} {sl4:Array (Option Value)} {oc4 kV4 dc4 pm4 cd4 ct4:Value}
  {f5:Addr} {od5 an5:Option Addr} {sl5:Array (Option Value)} {oc5 kV5 dc5 pm5 cd5 ct5:Value}
  {f6:Addr} {od6 an6:Option Addr} {sl6:Array (Option Value)} {oc6 kV6 dc6 pm6 cd6 ct6:Value}
  {f7:Addr} {od7 an7:Option Addr} {sl7:Array (Option Value)} {oc7 kV7 dc7 pm7 cd7 ct7:Value}
  {f8:Addr} {od8 an8:Option Addr} {sl8:Array (Option Value)} {oc8 kV8 dc8 pm8 cd8 ct8:Value}
  {f9:Addr} {od9 an9:Option Addr} {sl9:Array (Option Value)} {oc9 kV9 dc9 pm9 cd9 ct9:Value}
  {f10:Addr} {od10 an10:Option Addr} {sl10:Array (Option Value)} {oc10 kV10 dc10 pm10 cd10 ct10:Value}
  {f11:Addr} {od11 an11:Option Addr} {sl11:Array (Option Value)} {oc11 kV11 dc11 pm11 cd11 ct11:Value}
  {f12:Addr} {od12 an12:Option Addr} {sl12:Array (Option Value)} {oc12 kV12 dc12 pm12 cd12 ct12:Value}
  {f13:Addr} {od13 an13:Option Addr} {sl13:Array (Option Value)} {oc13 kV13 dc13 pm13 cd13 ct13:Value}
  {f14:Addr} {od14 an14:Option Addr} {sl14:Array (Option Value)} {oc14 kV14 dc14 pm14 cd14 ct14:Value}
  {f15:Addr} {od15 an15:Option Addr} {sl15:Array (Option Value)} {oc15 kV15 dc15 pm15 cd15 ct15:Value}
  {f16:Addr} {od16 an16:Option Addr} {sl16:Array (Option Value)} {oc16 kV16 dc16 pm16 cd16 ct16:Value}
  {f17:Addr} {od17 an17:Option Addr} {sl17:Array (Option Value)} {oc17 kV17 dc17 pm17 cd17 ct17:Value}
  {f18:Addr} {od18 an18:Option Addr} {sl18:Array (Option Value)} {oc18 kV18 dc18 pm18 cd18 ct18:Value}
  {f19:Addr} {od19 an19:Option Addr} {sl19:Array (Option Value)} {oc19 kV19 dc19 pm19 cd19 ct19:Value}
  {f20:Addr} {od20 an20:Option Addr} {sl20:Array (Option Value)} {oc20 kV20 dc20 pm20 cd20 ct20:Value}
  {f21:Addr} {od21 an21:Option Addr} {sl21:Array (Option Value)} {oc21 kV21 dc21 pm21 cd21 ct21:Value}
  {f22:Addr} {od22 an22:Option Addr} {sl22:Array (Option Value)} {oc22 kV22 dc22 pm22 cd22 ct22:Value}
  {f23:Addr} {od23 an23:Option Addr} {sl23:Array (Option Value)} {oc23 kV23 dc23 pm23 cd23 ct23:Value}
  {f24:Addr} {od24 an24:Option Addr} {sl24:Array (Option Value)} {oc24 kV24 dc24 pm24 cd24 ct24:Value}
  {f25:Addr} {od25 an25:Option Addr} {sl25:Array (Option Value)} {oc25 kV25 dc25 pm25 cd25 ct25:Value}
  {f26:Addr} {od26 an26:Option Addr} {sl26:Array (Option Value)} {oc26 kV26 dc26 pm26 cd26 ct26:Value}
  {f27:Addr} {od27 an27:Option Addr} {sl27:Array (Option Value)} {oc27 kV27 dc27 pm27 cd27 ct27:Value}
  {f28:Addr} {od28 an28:Option Addr} {sl28:Array (Option Value)} {oc28 kV28 dc28 pm28 cd28 ct28:Value}
  {C_TieError:Addr} {C_NoPlace:Addr} {C_NoJoin:Addr} {C_NoTie:Addr} {C_NoTree:Addr} {C_NoNumber:Addr} {C_NoText:Addr} {C_NoName:Addr} {C_NoRow:Addr} 
  (a0:PySem.W.nsIn K mainGlobals "is_whole" = some (some (.ref f0))) (l0:K.lookup f0=some ⟨oc0,od0,.func (PySem.W.fnOf "is_whole" "is_whole" (aaq s_is_whole) (aao s_is_whole) (aad s_is_whole) .none kV0 dc0 pm0 an0 cd0 ct0),sl0⟩) (c0:PySem.W.codeIn K cd0 "is_whole" = true) (k0:PySem.W.keepIn K (.ref f0)=true)
  (a1:PySem.W.nsIn K mainGlobals "is_between" = some (some (.ref f1))) (l1:K.lookup f1=some ⟨oc1,od1,.func (PySem.W.fnOf "is_between" "is_between" (aaq s_is_between) (aao s_is_between) (aad s_is_between) .none kV1 dc1 pm1 an1 cd1 ct1),sl1⟩) (c1:PySem.W.codeIn K cd1 "is_between" = true) (k1:PySem.W.keepIn K (.ref f1)=true)
  (a2:PySem.W.nsIn K mainGlobals "is_place" = some (some (.ref f2))) (l2:K.lookup f2=some ⟨oc2,od2,.func (PySem.W.fnOf "is_place" "is_place" (aaq s_is_place) (aao s_is_place) (aad s_is_place) .none kV2 dc2 pm2 an2 cd2 ct2),sl2⟩) (c2:PySem.W.codeIn K cd2 "is_place" = true) (k2:PySem.W.keepIn K (.ref f2)=true)
  (a3:PySem.W.nsIn K mainGlobals "tied_places" = some (some (.ref f3))) (l3:K.lookup f3=some ⟨oc3,od3,.func (PySem.W.fnOf "tied_places" "tied_places" (aaq s_tied_places) (aao s_tied_places) (aad s_tied_places) .none kV3 dc3 pm3 an3 cd3 ct3),sl3⟩) (c3:PySem.W.codeIn K cd3 "tied_places" = true) (k3:PySem.W.keepIn K (.ref f3)=true)
  (a4:PySem.W.nsIn K mainGlobals "far_from" = some (some (.ref f4))) (l4:K.lookup f4=some ⟨oc4,od4,.func (PySem.W.fnOf "far_from" "far_from" (aaq s_far_from) (aao s_far_from) (aad s_far_from) .none kV4 dc4 pm4 an4 cd4 ct4),sl4⟩) (c4:PySem.W.codeIn K cd4 "far_from" = true) (k4:PySem.W.keepIn K (.ref f4)=true)
  (a5:PySem.W.nsIn K mainGlobals "need_place" = some (some (.ref f5))) (l5:K.lookup f5=some ⟨oc5,od5,.func (PySem.W.fnOf "need_place" "need_place" (aaq s_need_place) (aao s_need_place) (aad s_need_place) .none kV5 dc5 pm5 an5 cd5 ct5),sl5⟩) (c5:PySem.W.codeIn K cd5 "need_place" = true) (k5:PySem.W.keepIn K (.ref f5)=true)
  (a6:PySem.W.nsIn K mainGlobals "all_far" = some (some (.ref f6))) (l6:K.lookup f6=some ⟨oc6,od6,.func (PySem.W.fnOf "all_far" "all_far" (aaq s_all_far) (aao s_all_far) (aad s_all_far) .none kV6 dc6 pm6 an6 cd6 ct6),sl6⟩) (c6:PySem.W.codeIn K cd6 "all_far" = true) (k6:PySem.W.keepIn K (.ref f6)=true)
  (a7:PySem.W.nsIn K mainGlobals "is_joined" = some (some (.ref f7))) (l7:K.lookup f7=some ⟨oc7,od7,.func (PySem.W.fnOf "is_joined" "is_joined" (aaq s_is_joined) (aao s_is_joined) (aad s_is_joined) .none kV7 dc7 pm7 an7 cd7 ct7),sl7⟩) (c7:PySem.W.codeIn K cd7 "is_joined" = true) (k7:PySem.W.keepIn K (.ref f7)=true)
  (a8:PySem.W.nsIn K mainGlobals "short_way" = some (some (.ref f8))) (l8:K.lookup f8=some ⟨oc8,od8,.func (PySem.W.fnOf "short_way" "short_way" (aaq s_short_way) (aao s_short_way) (aad s_short_way) .none kV8 dc8 pm8 an8 cd8 ct8),sl8⟩) (c8:PySem.W.codeIn K cd8 "short_way" = true) (k8:PySem.W.keepIn K (.ref f8)=true)
  (a9:PySem.W.nsIn K mainGlobals "need_joined" = some (some (.ref f9))) (l9:K.lookup f9=some ⟨oc9,od9,.func (PySem.W.fnOf "need_joined" "need_joined" (aaq s_need_joined) (aao s_need_joined) (aad s_need_joined) .none kV9 dc9 pm9 an9 cd9 ct9),sl9⟩) (c9:PySem.W.codeIn K cd9 "need_joined" = true) (k9:PySem.W.keepIn K (.ref f9)=true)
  (a10:PySem.W.nsIn K mainGlobals "far_rows" = some (some (.ref f10))) (l10:K.lookup f10=some ⟨oc10,od10,.func (PySem.W.fnOf "far_rows" "far_rows" (aaq s_far_rows) (aao s_far_rows) (aad s_far_rows) .none kV10 dc10 pm10 an10 cd10 ct10),sl10⟩) (c10:PySem.W.codeIn K cd10 "far_rows" = true) (k10:PySem.W.keepIn K (.ref f10)=true)
  (a11:PySem.W.nsIn K mainGlobals "most_far" = some (some (.ref f11))) (l11:K.lookup f11=some ⟨oc11,od11,.func (PySem.W.fnOf "most_far" "most_far" (aaq s_most_far) (aao s_most_far) (aad s_most_far) .none kV11 dc11 pm11 an11 cd11 ct11),sl11⟩) (c11:PySem.W.codeIn K cd11 "most_far" = true) (k11:PySem.W.keepIn K (.ref f11)=true)
  (a12:PySem.W.nsIn K mainGlobals "farthest_two" = some (some (.ref f12))) (l12:K.lookup f12=some ⟨oc12,od12,.func (PySem.W.fnOf "farthest_two" "farthest_two" (aaq s_farthest_two) (aao s_farthest_two) (aad s_farthest_two) .none kV12 dc12 pm12 an12 cd12 ct12),sl12⟩) (c12:PySem.W.codeIn K cd12 "farthest_two" = true) (k12:PySem.W.keepIn K (.ref f12)=true)
  (a13:PySem.W.nsIn K mainGlobals "is_tree" = some (some (.ref f13))) (l13:K.lookup f13=some ⟨oc13,od13,.func (PySem.W.fnOf "is_tree" "is_tree" (aaq s_is_tree) (aao s_is_tree) (aad s_is_tree) .none kV13 dc13 pm13 an13 cd13 ct13),sl13⟩) (c13:PySem.W.codeIn K cd13 "is_tree" = true) (k13:PySem.W.keepIn K (.ref f13)=true)
  (a14:PySem.W.nsIn K mainGlobals "need_tree" = some (some (.ref f14))) (l14:K.lookup f14=some ⟨oc14,od14,.func (PySem.W.fnOf "need_tree" "need_tree" (aaq s_need_tree) (aao s_need_tree) (aad s_need_tree) .none kV14 dc14 pm14 an14 cd14 ct14),sl14⟩) (c14:PySem.W.codeIn K cd14 "need_tree" = true) (k14:PySem.W.keepIn K (.ref f14)=true)
  (a15:PySem.W.nsIn K mainGlobals "far_way" = some (some (.ref f15))) (l15:K.lookup f15=some ⟨oc15,od15,.func (PySem.W.fnOf "far_way" "far_way" (aaq s_far_way) (aao s_far_way) (aad s_far_way) .none kV15 dc15 pm15 an15 cd15 ct15),sl15⟩) (c15:PySem.W.codeIn K cd15 "far_way" = true) (k15:PySem.W.keepIn K (.ref f15)=true)
  (a16:PySem.W.nsIn K mainGlobals "far_ends" = some (some (.ref f16))) (l16:K.lookup f16=some ⟨oc16,od16,.func (PySem.W.fnOf "far_ends" "far_ends" (aaq s_far_ends) (aao s_far_ends) (aad s_far_ends) .none kV16 dc16 pm16 an16 cd16 ct16),sl16⟩) (c16:PySem.W.codeIn K cd16 "far_ends" = true) (k16:PySem.W.keepIn K (.ref f16)=true)
  (a17:PySem.W.nsIn K mainGlobals "parting_tie" = some (some (.ref f17))) (l17:K.lookup f17=some ⟨oc17,od17,.func (PySem.W.fnOf "parting_tie" "parting_tie" (aaq s_parting_tie) (aao s_parting_tie) (aad s_parting_tie) .none kV17 dc17 pm17 an17 cd17 ct17),sl17⟩) (c17:PySem.W.codeIn K cd17 "parting_tie" = true) (k17:PySem.W.keepIn K (.ref f17)=true)
  (a18:PySem.W.nsIn K mainGlobals "parted_far" = some (some (.ref f18))) (l18:K.lookup f18=some ⟨oc18,od18,.func (PySem.W.fnOf "parted_far" "parted_far" (aaq s_parted_far) (aao s_parted_far) (aad s_parted_far) .none kV18 dc18 pm18 an18 cd18 ct18),sl18⟩) (c18:PySem.W.codeIn K cd18 "parted_far" = true) (k18:PySem.W.keepIn K (.ref f18)=true)
  (a19:PySem.W.nsIn K mainGlobals "_law_cell" = some (some (.ref f19))) (l19:K.lookup f19=some ⟨oc19,od19,.func (PySem.W.fnOf "_law_cell" "_law_cell" (aaq s_law_cell) (aao s_law_cell) (aad s_law_cell) .none kV19 dc19 pm19 an19 cd19 ct19),sl19⟩) (c19:PySem.W.codeIn K cd19 "_law_cell" = true) (k19:PySem.W.keepIn K (.ref f19)=true)
  (a20:PySem.W.nsIn K mainGlobals "_law_store" = some (some (.ref f20))) (l20:K.lookup f20=some ⟨oc20,od20,.func (PySem.W.fnOf "_law_store" "_law_store" (aaq s_law_store) (aao s_law_store) (aad s_law_store) .none kV20 dc20 pm20 an20 cd20 ct20),sl20⟩) (c20:PySem.W.codeIn K cd20 "_law_store" = true) (k20:PySem.W.keepIn K (.ref f20)=true)
  (a21:PySem.W.nsIn K mainGlobals "_law_take" = some (some (.ref f21))) (l21:K.lookup f21=some ⟨oc21,od21,.func (PySem.W.fnOf "_law_take" "_law_take" (aaq s_law_take) (aao s_law_take) (aad s_law_take) .none kV21 dc21 pm21 an21 cd21 ct21),sl21⟩) (c21:PySem.W.codeIn K cd21 "_law_take" = true) (k21:PySem.W.keepIn K (.ref f21)=true)
  (a22:PySem.W.nsIn K mainGlobals "_law_tree_ties" = some (some (.ref f22))) (l22:K.lookup f22=some ⟨oc22,od22,.func (PySem.W.fnOf "_law_tree_ties" "_law_tree_ties" (aaq s_law_tree_ties) (aao s_law_tree_ties) (aad s_law_tree_ties) .none kV22 dc22 pm22 an22 cd22 ct22),sl22⟩) (c22:PySem.W.codeIn K cd22 "_law_tree_ties" = true) (k22:PySem.W.keepIn K (.ref f22)=true)
  (a23:PySem.W.nsIn K mainGlobals "_law_renumbered" = some (some (.ref f23))) (l23:K.lookup f23=some ⟨oc23,od23,.func (PySem.W.fnOf "_law_renumbered" "_law_renumbered" (aaq s_law_renumbered) (aao s_law_renumbered) (aad s_law_renumbered) .none kV23 dc23 pm23 an23 cd23 ct23),sl23⟩) (c23:PySem.W.codeIn K cd23 "_law_renumbered" = true) (k23:PySem.W.keepIn K (.ref f23)=true)
  (a24:PySem.W.nsIn K mainGlobals "_law_tree" = some (some (.ref f24))) (l24:K.lookup f24=some ⟨oc24,od24,.func (PySem.W.fnOf "_law_tree" "_law_tree" (aaq s_law_tree) (aao s_law_tree) (aad s_law_tree) .none kV24 dc24 pm24 an24 cd24 ct24),sl24⟩) (c24:PySem.W.codeIn K cd24 "_law_tree" = true) (k24:PySem.W.keepIn K (.ref f24)=true)
  (a25:PySem.W.nsIn K mainGlobals "_law_kind" = some (some (.ref f25))) (l25:K.lookup f25=some ⟨oc25,od25,.func (PySem.W.fnOf "_law_kind" "_law_kind" (aaq s_law_kind) (aao s_law_kind) (aad s_law_kind) .none kV25 dc25 pm25 an25 cd25 ct25),sl25⟩) (c25:PySem.W.codeIn K cd25 "_law_kind" = true) (k25:PySem.W.keepIn K (.ref f25)=true)
  (a26:PySem.W.nsIn K mainGlobals "_law_word" = some (some (.ref f26))) (l26:K.lookup f26=some ⟨oc26,od26,.func (PySem.W.fnOf "_law_word" "_law_word" (aaq s_law_word) (aao s_law_word) (aad s_law_word) .none kV26 dc26 pm26 an26 cd26 ct26),sl26⟩) (c26:PySem.W.codeIn K cd26 "_law_word" = true) (k26:PySem.W.keepIn K (.ref f26)=true)
  (a27:PySem.W.nsIn K mainGlobals "_law_no_tree" = some (some (.ref f27))) (l27:K.lookup f27=some ⟨oc27,od27,.func (PySem.W.fnOf "_law_no_tree" "_law_no_tree" (aaq s_law_no_tree) (aao s_law_no_tree) (aad s_law_no_tree) .none kV27 dc27 pm27 an27 cd27 ct27),sl27⟩) (c27:PySem.W.codeIn K cd27 "_law_no_tree" = true) (k27:PySem.W.keepIn K (.ref f27)=true)
  (a28:PySem.W.nsIn K mainGlobals "law" = some (some (.ref f28))) (l28:K.lookup f28=some ⟨oc28,od28,.func (PySem.W.fnOf "law" "law" (aaq s_law) (aao s_law) (aad s_law) .none kV28 dc28 pm28 an28 cd28 ct28),sl28⟩) (c28:PySem.W.codeIn K cd28 "law" = true) (k28:PySem.W.keepIn K (.ref f28)=true)
  (z_ValueError:PySem.W.nsIn K mainGlobals "ValueError" = some none)
  (z_max:PySem.W.nsIn K mainGlobals "max" = some none)
  (z_min:PySem.W.nsIn K mainGlobals "min" = some none)
  (z_range:PySem.W.nsIn K mainGlobals "range" = some none)
  (z_list:PySem.W.nsIn K mainGlobals "list" = some none)
  (z_sorted:PySem.W.nsIn K mainGlobals "sorted" = some none)
  (z_isinstance:PySem.W.nsIn K mainGlobals "isinstance" = some none)
  (z_int:PySem.W.nsIn K mainGlobals "int" = some none)
  (z_len:PySem.W.nsIn K mainGlobals "len" = some none)
  (z_set:PySem.W.nsIn K mainGlobals "set" = some none)
  (z_bool:PySem.W.nsIn K mainGlobals "bool" = some none)
  (z_enumerate:PySem.W.nsIn K mainGlobals "enumerate" = some none)
  (z_zip:PySem.W.nsIn K mainGlobals "zip" = some none)
  (xa_TieError:PySem.W.nsIn K mainGlobals "TieError" = some (some (.ref C_TieError))) (xe_TieError:PySem.W.excIn K C_TieError [.type "ValueError",.type "Exception",.type "BaseException",.type "object"] "ValueError.__new__" = true) (xi_TieError:XIn K C_TieError)
  (xa_NoPlace:PySem.W.nsIn K mainGlobals "NoPlace" = some (some (.ref C_NoPlace))) (xe_NoPlace:PySem.W.excIn K C_NoPlace [.type "ValueError",.type "Exception",.type "BaseException",.type "object"] "ValueError.__new__" = true) (xi_NoPlace:XIn K C_NoPlace)
  (xa_NoJoin:PySem.W.nsIn K mainGlobals "NoJoin" = some (some (.ref C_NoJoin))) (xe_NoJoin:PySem.W.excIn K C_NoJoin [.type "ValueError",.type "Exception",.type "BaseException",.type "object"] "ValueError.__new__" = true) (xi_NoJoin:XIn K C_NoJoin)
  (xa_NoTie:PySem.W.nsIn K mainGlobals "NoTie" = some (some (.ref C_NoTie))) (xe_NoTie:PySem.W.excIn K C_NoTie [.type "ValueError",.type "Exception",.type "BaseException",.type "object"] "ValueError.__new__" = true) (xi_NoTie:XIn K C_NoTie)
  (xa_NoTree:PySem.W.nsIn K mainGlobals "NoTree" = some (some (.ref C_NoTree))) (xe_NoTree:PySem.W.excIn K C_NoTree [.type "ValueError",.type "Exception",.type "BaseException",.type "object"] "ValueError.__new__" = true) (xi_NoTree:XIn K C_NoTree)
  (xa_NoNumber:PySem.W.nsIn K mainGlobals "NoNumber" = some (some (.ref C_NoNumber))) (xe_NoNumber:PySem.W.excIn K C_NoNumber [.type "ValueError",.type "Exception",.type "BaseException",.type "object"] "ValueError.__new__" = true) (xi_NoNumber:XIn K C_NoNumber)
  (xa_NoText:PySem.W.nsIn K mainGlobals "NoText" = some (some (.ref C_NoText))) (xe_NoText:PySem.W.excIn K C_NoText [.type "ValueError",.type "Exception",.type "BaseException",.type "object"] "ValueError.__new__" = true) (xi_NoText:XIn K C_NoText)
  (xa_NoName:PySem.W.nsIn K mainGlobals "NoName" = some (some (.ref C_NoName))) (xe_NoName:PySem.W.excIn K C_NoName [.type "ValueError",.type "Exception",.type "BaseException",.type "object"] "ValueError.__new__" = true) (xi_NoName:XIn K C_NoName)
  (xa_NoRow:PySem.W.nsIn K mainGlobals "NoRow" = some (some (.ref C_NoRow))) (xe_NoRow:PySem.W.excIn K C_NoRow [.type "ValueError",.type "Exception",.type "BaseException",.type "object"] "ValueError.__new__" = true) (xi_NoRow:XIn K C_NoRow)
  (y_NoPlace_TieError:PySem.W.kitOne K (.ref C_NoPlace) (.ref C_TieError)=some true)
  (y_NoPlace_NoPlace:PySem.W.kitOne K (.ref C_NoPlace) (.ref C_NoPlace)=some true)
  (y_NoPlace_NoJoin:PySem.W.kitOne K (.ref C_NoPlace) (.ref C_NoJoin)=some false)
  (y_NoPlace_NoTie:PySem.W.kitOne K (.ref C_NoPlace) (.ref C_NoTie)=some false)
  (y_NoPlace_NoTree:PySem.W.kitOne K (.ref C_NoPlace) (.ref C_NoTree)=some false)
  (y_NoPlace_NoNumber:PySem.W.kitOne K (.ref C_NoPlace) (.ref C_NoNumber)=some false)
  (y_NoPlace_NoText:PySem.W.kitOne K (.ref C_NoPlace) (.ref C_NoText)=some false)
  (y_NoPlace_NoName:PySem.W.kitOne K (.ref C_NoPlace) (.ref C_NoName)=some false)
  (y_NoPlace_NoRow:PySem.W.kitOne K (.ref C_NoPlace) (.ref C_NoRow)=some false)
  (y_NoPlace_ValueError:PySem.W.kitOne K (.ref C_NoPlace) (.type "ValueError")=some true)
  (s_NoPlace_TieError:PySem.W.mroIn K C_NoPlace (.ref C_TieError)=some true)
  (y_NoJoin_TieError:PySem.W.kitOne K (.ref C_NoJoin) (.ref C_TieError)=some true)
  (y_NoJoin_NoPlace:PySem.W.kitOne K (.ref C_NoJoin) (.ref C_NoPlace)=some false)
  (y_NoJoin_NoJoin:PySem.W.kitOne K (.ref C_NoJoin) (.ref C_NoJoin)=some true)
  (y_NoJoin_NoTie:PySem.W.kitOne K (.ref C_NoJoin) (.ref C_NoTie)=some false)
  (y_NoJoin_NoTree:PySem.W.kitOne K (.ref C_NoJoin) (.ref C_NoTree)=some false)
  (y_NoJoin_NoNumber:PySem.W.kitOne K (.ref C_NoJoin) (.ref C_NoNumber)=some false)
  (y_NoJoin_NoText:PySem.W.kitOne K (.ref C_NoJoin) (.ref C_NoText)=some false)
  (y_NoJoin_NoName:PySem.W.kitOne K (.ref C_NoJoin) (.ref C_NoName)=some false)
  (y_NoJoin_NoRow:PySem.W.kitOne K (.ref C_NoJoin) (.ref C_NoRow)=some false)
  (y_NoJoin_ValueError:PySem.W.kitOne K (.ref C_NoJoin) (.type "ValueError")=some true)
  (s_NoJoin_TieError:PySem.W.mroIn K C_NoJoin (.ref C_TieError)=some true)
  (y_NoTree_TieError:PySem.W.kitOne K (.ref C_NoTree) (.ref C_TieError)=some true)
  (y_NoTree_NoPlace:PySem.W.kitOne K (.ref C_NoTree) (.ref C_NoPlace)=some false)
  (y_NoTree_NoJoin:PySem.W.kitOne K (.ref C_NoTree) (.ref C_NoJoin)=some false)
  (y_NoTree_NoTie:PySem.W.kitOne K (.ref C_NoTree) (.ref C_NoTie)=some false)
  (y_NoTree_NoTree:PySem.W.kitOne K (.ref C_NoTree) (.ref C_NoTree)=some true)
  (y_NoTree_NoNumber:PySem.W.kitOne K (.ref C_NoTree) (.ref C_NoNumber)=some false)
  (y_NoTree_NoText:PySem.W.kitOne K (.ref C_NoTree) (.ref C_NoText)=some false)
  (y_NoTree_NoName:PySem.W.kitOne K (.ref C_NoTree) (.ref C_NoName)=some false)
  (y_NoTree_NoRow:PySem.W.kitOne K (.ref C_NoTree) (.ref C_NoRow)=some false)
  (y_NoTree_ValueError:PySem.W.kitOne K (.ref C_NoTree) (.type "ValueError")=some true)
  (s_NoTree_TieError:PySem.W.mroIn K C_NoTree (.ref C_TieError)=some true)
  : Txt K mg where
  x_TieError:=⟨_,PySem.W.mg_of X G xa_TieError,xe_TieError,xi_TieError⟩
  x_NoPlace:=⟨_,PySem.W.mg_of X G xa_NoPlace,xe_NoPlace,xi_NoPlace⟩
  x_NoJoin:=⟨_,PySem.W.mg_of X G xa_NoJoin,xe_NoJoin,xi_NoJoin⟩
  x_NoTie:=⟨_,PySem.W.mg_of X G xa_NoTie,xe_NoTie,xi_NoTie⟩
  x_NoTree:=⟨_,PySem.W.mg_of X G xa_NoTree,xe_NoTree,xi_NoTree⟩
  x_NoNumber:=⟨_,PySem.W.mg_of X G xa_NoNumber,xe_NoNumber,xi_NoNumber⟩
  x_NoText:=⟨_,PySem.W.mg_of X G xa_NoText,xe_NoText,xi_NoText⟩
  x_NoName:=⟨_,PySem.W.mg_of X G xa_NoName,xe_NoName,xi_NoName⟩
  x_NoRow:=⟨_,PySem.W.mg_of X G xa_NoRow,xe_NoRow,xi_NoRow⟩
  y_NoPlace_TieError:=fun C D e1 e2=>by rw [PySem.W.mg_of X G xa_NoPlace] at e1;rw [PySem.W.mg_of X G xa_TieError] at e2;cases e1;cases e2;exact y_NoPlace_TieError
  y_NoPlace_NoPlace:=fun C D e1 e2=>by rw [PySem.W.mg_of X G xa_NoPlace] at e1;rw [PySem.W.mg_of X G xa_NoPlace] at e2;cases e1;cases e2;exact y_NoPlace_NoPlace
  y_NoPlace_NoJoin:=fun C D e1 e2=>by rw [PySem.W.mg_of X G xa_NoPlace] at e1;rw [PySem.W.mg_of X G xa_NoJoin] at e2;cases e1;cases e2;exact y_NoPlace_NoJoin
  y_NoPlace_NoTie:=fun C D e1 e2=>by rw [PySem.W.mg_of X G xa_NoPlace] at e1;rw [PySem.W.mg_of X G xa_NoTie] at e2;cases e1;cases e2;exact y_NoPlace_NoTie
  y_NoPlace_NoTree:=fun C D e1 e2=>by rw [PySem.W.mg_of X G xa_NoPlace] at e1;rw [PySem.W.mg_of X G xa_NoTree] at e2;cases e1;cases e2;exact y_NoPlace_NoTree
  y_NoPlace_NoNumber:=fun C D e1 e2=>by rw [PySem.W.mg_of X G xa_NoPlace] at e1;rw [PySem.W.mg_of X G xa_NoNumber] at e2;cases e1;cases e2;exact y_NoPlace_NoNumber
  y_NoPlace_NoText:=fun C D e1 e2=>by rw [PySem.W.mg_of X G xa_NoPlace] at e1;rw [PySem.W.mg_of X G xa_NoText] at e2;cases e1;cases e2;exact y_NoPlace_NoText
  y_NoPlace_NoName:=fun C D e1 e2=>by rw [PySem.W.mg_of X G xa_NoPlace] at e1;rw [PySem.W.mg_of X G xa_NoName] at e2;cases e1;cases e2;exact y_NoPlace_NoName
  y_NoPlace_NoRow:=fun C D e1 e2=>by rw [PySem.W.mg_of X G xa_NoPlace] at e1;rw [PySem.W.mg_of X G xa_NoRow] at e2;cases e1;cases e2;exact y_NoPlace_NoRow
  y_NoPlace_ValueError:=fun C e1=>by rw [PySem.W.mg_of X G xa_NoPlace] at e1;cases e1;exact y_NoPlace_ValueError
  s_NoPlace_TieError:=fun C D e1 e2=>by rw [PySem.W.mg_of X G xa_NoPlace] at e1;rw [PySem.W.mg_of X G xa_TieError] at e2;cases e1;cases e2;exact s_NoPlace_TieError
  y_NoJoin_TieError:=fun C D e1 e2=>by rw [PySem.W.mg_of X G xa_NoJoin] at e1;rw [PySem.W.mg_of X G xa_TieError] at e2;cases e1;cases e2;exact y_NoJoin_TieError
  y_NoJoin_NoPlace:=fun C D e1 e2=>by rw [PySem.W.mg_of X G xa_NoJoin] at e1;rw [PySem.W.mg_of X G xa_NoPlace] at e2;cases e1;cases e2;exact y_NoJoin_NoPlace
  y_NoJoin_NoJoin:=fun C D e1 e2=>by rw [PySem.W.mg_of X G xa_NoJoin] at e1;rw [PySem.W.mg_of X G xa_NoJoin] at e2;cases e1;cases e2;exact y_NoJoin_NoJoin
  y_NoJoin_NoTie:=fun C D e1 e2=>by rw [PySem.W.mg_of X G xa_NoJoin] at e1;rw [PySem.W.mg_of X G xa_NoTie] at e2;cases e1;cases e2;exact y_NoJoin_NoTie
  y_NoJoin_NoTree:=fun C D e1 e2=>by rw [PySem.W.mg_of X G xa_NoJoin] at e1;rw [PySem.W.mg_of X G xa_NoTree] at e2;cases e1;cases e2;exact y_NoJoin_NoTree
  y_NoJoin_NoNumber:=fun C D e1 e2=>by rw [PySem.W.mg_of X G xa_NoJoin] at e1;rw [PySem.W.mg_of X G xa_NoNumber] at e2;cases e1;cases e2;exact y_NoJoin_NoNumber
  y_NoJoin_NoText:=fun C D e1 e2=>by rw [PySem.W.mg_of X G xa_NoJoin] at e1;rw [PySem.W.mg_of X G xa_NoText] at e2;cases e1;cases e2;exact y_NoJoin_NoText
  y_NoJoin_NoName:=fun C D e1 e2=>by rw [PySem.W.mg_of X G xa_NoJoin] at e1;rw [PySem.W.mg_of X G xa_NoName] at e2;cases e1;cases e2;exact y_NoJoin_NoName
  y_NoJoin_NoRow:=fun C D e1 e2=>by rw [PySem.W.mg_of X G xa_NoJoin] at e1;rw [PySem.W.mg_of X G xa_NoRow] at e2;cases e1;cases e2;exact y_NoJoin_NoRow
  y_NoJoin_ValueError:=fun C e1=>by rw [PySem.W.mg_of X G xa_NoJoin] at e1;cases e1;exact y_NoJoin_ValueError
  s_NoJoin_TieError:=fun C D e1 e2=>by rw [PySem.W.mg_of X G xa_NoJoin] at e1;rw [PySem.W.mg_of X G xa_TieError] at e2;cases e1;cases e2;exact s_NoJoin_TieError
  y_NoTree_TieError:=fun C D e1 e2=>by rw [PySem.W.mg_of X G xa_NoTree] at e1;rw [PySem.W.mg_of X G xa_TieError] at e2;cases e1;cases e2;exact y_NoTree_TieError
  y_NoTree_NoPlace:=fun C D e1 e2=>by rw [PySem.W.mg_of X G xa_NoTree] at e1;rw [PySem.W.mg_of X G xa_NoPlace] at e2;cases e1;cases e2;exact y_NoTree_NoPlace
  y_NoTree_NoJoin:=fun C D e1 e2=>by rw [PySem.W.mg_of X G xa_NoTree] at e1;rw [PySem.W.mg_of X G xa_NoJoin] at e2;cases e1;cases e2;exact y_NoTree_NoJoin
  y_NoTree_NoTie:=fun C D e1 e2=>by rw [PySem.W.mg_of X G xa_NoTree] at e1;rw [PySem.W.mg_of X G xa_NoTie] at e2;cases e1;cases e2;exact y_NoTree_NoTie
  y_NoTree_NoTree:=fun C D e1 e2=>by rw [PySem.W.mg_of X G xa_NoTree] at e1;rw [PySem.W.mg_of X G xa_NoTree] at e2;cases e1;cases e2;exact y_NoTree_NoTree
  y_NoTree_NoNumber:=fun C D e1 e2=>by rw [PySem.W.mg_of X G xa_NoTree] at e1;rw [PySem.W.mg_of X G xa_NoNumber] at e2;cases e1;cases e2;exact y_NoTree_NoNumber
  y_NoTree_NoText:=fun C D e1 e2=>by rw [PySem.W.mg_of X G xa_NoTree] at e1;rw [PySem.W.mg_of X G xa_NoText] at e2;cases e1;cases e2;exact y_NoTree_NoText
  y_NoTree_NoName:=fun C D e1 e2=>by rw [PySem.W.mg_of X G xa_NoTree] at e1;rw [PySem.W.mg_of X G xa_NoName] at e2;cases e1;cases e2;exact y_NoTree_NoName
  y_NoTree_NoRow:=fun C D e1 e2=>by rw [PySem.W.mg_of X G xa_NoTree] at e1;rw [PySem.W.mg_of X G xa_NoRow] at e2;cases e1;cases e2;exact y_NoTree_NoRow
  y_NoTree_ValueError:=fun C e1=>by rw [PySem.W.mg_of X G xa_NoTree] at e1;cases e1;exact y_NoTree_ValueError
  s_NoTree_TieError:=fun C D e1 e2=>by rw [PySem.W.mg_of X G xa_NoTree] at e1;rw [PySem.W.mg_of X G xa_TieError] at e2;cases e1;cases e2;exact s_NoTree_TieError
  b_ValueError:=PySem.W.mg_none_of X G z_ValueError
  b_max:=PySem.W.mg_none_of X G z_max
  b_min:=PySem.W.mg_none_of X G z_min
  b_range:=PySem.W.mg_none_of X G z_range
  b_list:=PySem.W.mg_none_of X G z_list
  b_sorted:=PySem.W.mg_none_of X G z_sorted
  b_isinstance:=PySem.W.mg_none_of X G z_isinstance
  b_int:=PySem.W.mg_none_of X G z_int
  b_len:=PySem.W.mg_none_of X G z_len
  b_set:=PySem.W.mg_none_of X G z_set
  b_bool:=PySem.W.mg_none_of X G z_bool
  b_enumerate:=PySem.W.mg_none_of X G z_enumerate
  b_zip:=PySem.W.mg_none_of X G z_zip
  d_is_whole:=⟨_,_,have F:=aav (st:=s_is_whole) l0 c0 k0;⟨F,PySem.W.mg_of X G a0,F.binds (ps:=["thing"]) fun _ _ _ _ _ _ us hl=>by obtain ⟨_,rfl⟩:=len1 hl;rfl⟩⟩
  d_is_between:=⟨_,_,have F:=aav (st:=s_is_between) l1 c1 k1;⟨F,PySem.W.mg_of X G a1,F.binds (ps:=["least","most","thing"]) fun _ _ _ _ _ _ us hl=>by obtain ⟨_,_,_,rfl⟩:=len3 hl;rfl⟩⟩
  d_is_place:=⟨_,_,have F:=aav (st:=s_is_place) l2 c2 k2;⟨F,PySem.W.mg_of X G a2,F.binds (ps:=["n","thing"]) fun _ _ _ _ _ _ us hl=>by obtain ⟨_,_,rfl⟩:=len2 hl;rfl⟩⟩
  d_tied_places:=⟨_,_,have F:=aav (st:=s_tied_places) l3 c3 k3;⟨F,PySem.W.mg_of X G a3,F.binds (ps:=["web"]) fun _ _ _ _ _ _ us hl=>by obtain ⟨_,rfl⟩:=len1 hl;rfl⟩⟩
  d_far_from:=⟨_,_,have F:=aav (st:=s_far_from) l4 c4 k4;⟨F,PySem.W.mg_of X G a4,F.binds (ps:=["tied","start"]) fun _ _ _ _ _ _ us hl=>by obtain ⟨_,_,rfl⟩:=len2 hl;rfl⟩⟩
  d_need_place:=⟨_,_,have F:=aav (st:=s_need_place) l5 c5 k5;⟨F,PySem.W.mg_of X G a5,F.binds (ps:=["web","thing"]) fun _ _ _ _ _ _ us hl=>by obtain ⟨_,_,rfl⟩:=len2 hl;rfl⟩⟩
  d_all_far:=⟨_,_,have F:=aav (st:=s_all_far) l6 c6 k6;⟨F,PySem.W.mg_of X G a6,F.binds (ps:=["web","a"]) fun _ _ _ _ _ _ us hl=>by obtain ⟨_,_,rfl⟩:=len2 hl;rfl⟩⟩
  d_is_joined:=⟨_,_,have F:=aav (st:=s_is_joined) l7 c7 k7;⟨F,PySem.W.mg_of X G a7,F.binds (ps:=["web"]) fun _ _ _ _ _ _ us hl=>by obtain ⟨_,rfl⟩:=len1 hl;rfl⟩⟩
  d_short_way:=⟨_,_,have F:=aav (st:=s_short_way) l8 c8 k8;⟨F,PySem.W.mg_of X G a8,F.binds (ps:=["web","a","b"]) fun _ _ _ _ _ _ us hl=>by obtain ⟨_,_,_,rfl⟩:=len3 hl;rfl⟩⟩
  d_need_joined:=⟨_,_,have F:=aav (st:=s_need_joined) l9 c9 k9;⟨F,PySem.W.mg_of X G a9,F.binds (ps:=["web"]) fun _ _ _ _ _ _ us hl=>by obtain ⟨_,rfl⟩:=len1 hl;rfl⟩⟩
  d_far_rows:=⟨_,_,have F:=aav (st:=s_far_rows) l10 c10 k10;⟨F,PySem.W.mg_of X G a10,F.binds (ps:=["web"]) fun _ _ _ _ _ _ us hl=>by obtain ⟨_,rfl⟩:=len1 hl;rfl⟩⟩
  d_most_far:=⟨_,_,have F:=aav (st:=s_most_far) l11 c11 k11;⟨F,PySem.W.mg_of X G a11,F.binds (ps:=["rows"]) fun _ _ _ _ _ _ us hl=>by obtain ⟨_,rfl⟩:=len1 hl;rfl⟩⟩
  d_farthest_two:=⟨_,_,have F:=aav (st:=s_farthest_two) l12 c12 k12;⟨F,PySem.W.mg_of X G a12,F.binds (ps:=["web"]) fun _ _ _ _ _ _ us hl=>by obtain ⟨_,rfl⟩:=len1 hl;rfl⟩⟩
  d_is_tree:=⟨_,_,have F:=aav (st:=s_is_tree) l13 c13 k13;⟨F,PySem.W.mg_of X G a13,F.binds (ps:=["web"]) fun _ _ _ _ _ _ us hl=>by obtain ⟨_,rfl⟩:=len1 hl;rfl⟩⟩
  d_need_tree:=⟨_,_,have F:=aav (st:=s_need_tree) l14 c14 k14;⟨F,PySem.W.mg_of X G a14,F.binds (ps:=["web"]) fun _ _ _ _ _ _ us hl=>by obtain ⟨_,rfl⟩:=len1 hl;rfl⟩⟩
  d_far_way:=⟨_,_,have F:=aav (st:=s_far_way) l15 c15 k15;⟨F,PySem.W.mg_of X G a15,F.binds (ps:=["web"]) fun _ _ _ _ _ _ us hl=>by obtain ⟨_,rfl⟩:=len1 hl;rfl⟩⟩
  d_far_ends:=⟨_,_,have F:=aav (st:=s_far_ends) l16 c16 k16;⟨F,PySem.W.mg_of X G a16,F.binds (ps:=["web"]) fun _ _ _ _ _ _ us hl=>by obtain ⟨_,rfl⟩:=len1 hl;rfl⟩⟩
  d_parting_tie:=⟨_,_,have F:=aav (st:=s_parting_tie) l17 c17 k17;⟨F,PySem.W.mg_of X G a17,F.binds (ps:=["web"]) fun _ _ _ _ _ _ us hl=>by obtain ⟨_,rfl⟩:=len1 hl;rfl⟩⟩
  d_parted_far:=⟨_,_,have F:=aav (st:=s_parted_far) l18 c18 k18;⟨F,PySem.W.mg_of X G a18,F.binds (ps:=["rows","tie"]) fun _ _ _ _ _ _ us hl=>by obtain ⟨_,_,rfl⟩:=len2 hl;rfl⟩⟩
  d_law_cell:=⟨_,_,have F:=aav (st:=s_law_cell) l19 c19 k19;⟨F,PySem.W.mg_of X G a19,F.binds (ps:=["script","k"]) fun _ _ _ _ _ _ us hl=>by obtain ⟨_,_,rfl⟩:=len2 hl;rfl⟩⟩
  d_law_store:=⟨_,_,have F:=aav (st:=s_law_store) l20 c20 k20;⟨F,PySem.W.mg_of X G a20,F.binds (ps:=["cell"]) fun _ _ _ _ _ _ us hl=>by obtain ⟨_,rfl⟩:=len1 hl;rfl⟩⟩
  d_law_take:=⟨_,_,have F:=aav (st:=s_law_take) l21 c21 k21;⟨F,PySem.W.mg_of X G a21,F.binds (ps:=["store","many"]) fun _ _ _ _ _ _ us hl=>by obtain ⟨_,_,rfl⟩:=len2 hl;rfl⟩⟩
  d_law_tree_ties:=⟨_,_,have F:=aav (st:=s_law_tree_ties) l22 c22 k22;⟨F,PySem.W.mg_of X G a22,F.binds (ps:=["store","n","kind"]) fun _ _ _ _ _ _ us hl=>by obtain ⟨_,_,_,rfl⟩:=len3 hl;rfl⟩⟩
  d_law_renumbered:=⟨_,_,have F:=aav (st:=s_law_renumbered) l23 c23 k23;⟨F,PySem.W.mg_of X G a23,F.binds (ps:=["store","n","ties"]) fun _ _ _ _ _ _ us hl=>by obtain ⟨_,_,_,rfl⟩:=len3 hl;rfl⟩⟩
  d_law_tree:=⟨_,_,have F:=aav (st:=s_law_tree) l24 c24 k24;⟨F,PySem.W.mg_of X G a24,F.binds (ps:=["store"]) fun _ _ _ _ _ _ us hl=>by obtain ⟨_,rfl⟩:=len1 hl;rfl⟩⟩
  d_law_kind:=⟨_,_,have F:=aav (st:=s_law_kind) l25 c25 k25;⟨F,PySem.W.mg_of X G a25,F.binds (ps:=["caught"]) fun _ _ _ _ _ _ us hl=>by obtain ⟨_,rfl⟩:=len1 hl;rfl⟩⟩
  d_law_word:=⟨_,_,have F:=aav (st:=s_law_word) l26 c26 k26;⟨F,PySem.W.mg_of X G a26,F.binds (ps:=["way","web"]) fun _ _ _ _ _ _ us hl=>by obtain ⟨_,_,rfl⟩:=len2 hl;rfl⟩⟩
  d_law_no_tree:=⟨_,_,have F:=aav (st:=s_law_no_tree) l27 c27 k27;⟨F,PySem.W.mg_of X G a27,F.binds (ps:=["store","web"]) fun _ _ _ _ _ _ us hl=>by obtain ⟨_,_,rfl⟩:=len2 hl;rfl⟩⟩
  d_law:=⟨_,_,have F:=aav (st:=s_law) l28 c28 k28;⟨F,PySem.W.mg_of X G a28,F.binds (ps:=["script"]) fun _ _ _ _ _ _ us hl=>by obtain ⟨_,rfl⟩:=len1 hl;rfl⟩⟩
theorem walk {l:PySem.W.OpenLaw} {q:Program} {loose:List Str} {XP:(Str->Option Value)->Heap->Prop} {YP:World->Heap->Prop} {d:DefRec} {K:Params->PySem.W.Frag} (hn:l.most=some 63) (hdf:d.params.defaults=[]) (hnm:d.name = "law")
  (hY:∀ (w:World) (h:Heap),YP w h->(K w.params).In h)
  (F:∀ (w:World) (mg:Str->Option Value) (h:Heap),(K w.params).In h->h.Ns mainGlobals mg->Txt (K w.params) mg) :
  PySem.W.WalkO q loose XP YP l.row.toRowW d [] (fun f vs=>PySem.call f vs):=by
 refine L2.walk_of (n:=63) (k:=12) (x:="script") (CX:=fun _=>CX0) (sp:=fun w=>ao9 (K w.params)) hn (by decide) hdf ⟨rfl,by decide,by decide⟩ hY (fun w mg fa h X G e=>?_) (fun _ _ a ns hl _ hS=>⟨a,ns,rfl,hS,hl,fun _=>rfl⟩) fun _ _ _ _ _ z=>z
 have T:=F w mg h X G
 rw [hnm] at e
 obtain ⟨f1,fd1,D⟩:=T.d_law
 have e1:=e.symm.trans D.mgx
 cases e1
 refine ⟨fd1,fun s u=>?_,fun base _ _=>?_⟩
 ·obtain ⟨oc,od,kV,doc,pm,an,cdv,ct,osl,rfl,lk,hcd⟩:=D.fn.ex
  exact .of_eq rfl
 ·exact azf T D
end G
theorem PySem.W.Fast.tw5507383016625246625 : True := trivial
theorem PySem.W.Fast.tw13850402344355819267 : True := trivial
theorem PySem.W.Fast.tw17003240079246446478 : True := trivial
theorem PySem.W.Fast.tw1385502882596282063 : True := trivial
theorem PySem.W.Fast.tw14697035901954001723 : True := trivial
theorem PySem.W.Fast.tw17605427097260742961 : True := trivial
theorem PySem.W.Fast.tw17504787146664254596 : True := trivial
theorem PySem.W.Fast.tw16069570161264823108 : True := trivial
theorem PySem.W.Fast.tw6825108432059816502 : True := trivial
theorem PySem.W.Fast.tw16975593520039455411 : True := trivial
theorem PySem.W.Fast.tw14292541795692881360 : True := trivial
theorem PySem.W.Fast.tw6460428689906013408 : True := trivial
open PySem PySem.W PyProof.Rows
set_option maxRecDepth 100000 in
set_option maxHeartbeats 0 in
theorem PySem.Challenge.cw_fewties_k38_no_trees_holds : PySem.Challenge.rw_fewties_k38_no_trees.Holds := by
 w_on;o_law;k_head;(case hw=>w_witness2)
 k_fill
 refine G.walk (l:=PySem.Challenge.rw_fewties_k38_no_trees) rfl rfl rfl (fun w h Y=>PySem.W.kIn_of Y) ?F
 case F =>
  intro w mg h KX GG
  refine' G.txt_mk KX GG ?a0 ?l0 ?c0 ?k0 ?a1 ?l1 ?c1 ?k1 ?a2 ?l2 ?c2 ?k2 ?a3 ?l3 ?c3 ?k3 ?a4 ?l4 ?c4 ?k4 ?a5 ?l5 ?c5 ?k5 ?a6 ?l6 ?c6 ?k6 ?a7 ?l7 ?c7 ?k7 ?a8 ?l8 ?c8 ?k8 ?a9 ?l9 ?c9 ?k9 ?a10 ?l10 ?c10 ?k10 ?a11 ?l11 ?c11 ?k11 ?a12 ?l12 ?c12 ?k12 ?a13 ?l13 ?c13 ?k13 ?a14 ?l14 ?c14 ?k14 ?a15 ?l15 ?c15 ?k15 ?a16 ?l16 ?c16 ?k16 ?a17 ?l17 ?c17 ?k17 ?a18 ?l18 ?c18 ?k18 ?a19 ?l19 ?c19 ?k19 ?a20 ?l20 ?c20 ?k20 ?a21 ?l21 ?c21 ?k21 ?a22 ?l22 ?c22 ?k22 ?a23 ?l23 ?c23 ?k23 ?a24 ?l24 ?c24 ?k24 ?a25 ?l25 ?c25 ?k25 ?a26 ?l26 ?c26 ?k26 ?a27 ?l27 ?c27 ?k27 ?a28 ?l28 ?c28 ?k28 ?z_ValueError ?z_max ?z_min ?z_range ?z_list ?z_sorted ?z_isinstance ?z_int ?z_len ?z_set ?z_bool ?z_enumerate ?z_zip ?xa_TieError ?xe_TieError ?xi_TieError ?xa_NoPlace ?xe_NoPlace ?xi_NoPlace ?xa_NoJoin ?xe_NoJoin ?xi_NoJoin ?xa_NoTie ?xe_NoTie ?xi_NoTie ?xa_NoTree ?xe_NoTree ?xi_NoTree ?xa_NoNumber ?xe_NoNumber ?xi_NoNumber ?xa_NoText ?xe_NoText ?xi_NoText ?xa_NoName ?xe_NoName ?xi_NoName ?xa_NoRow ?xe_NoRow ?xi_NoRow ?y_NoPlace_TieError ?y_NoPlace_NoPlace ?y_NoPlace_NoJoin ?y_NoPlace_NoTie ?y_NoPlace_NoTree ?y_NoPlace_NoNumber ?y_NoPlace_NoText ?y_NoPlace_NoName ?y_NoPlace_NoRow ?y_NoPlace_ValueError ?s_NoPlace_TieError ?y_NoJoin_TieError ?y_NoJoin_NoPlace ?y_NoJoin_NoJoin ?y_NoJoin_NoTie ?y_NoJoin_NoTree ?y_NoJoin_NoNumber ?y_NoJoin_NoText ?y_NoJoin_NoName ?y_NoJoin_NoRow ?y_NoJoin_ValueError ?s_NoJoin_TieError ?y_NoTree_TieError ?y_NoTree_NoPlace ?y_NoTree_NoJoin ?y_NoTree_NoTie ?y_NoTree_NoTree ?y_NoTree_NoNumber ?y_NoTree_NoText ?y_NoTree_NoName ?y_NoTree_NoRow ?y_NoTree_ValueError ?s_NoTree_TieError
  (case a0=>k_is);(case l0=>k_is);(case c0=>k_is);(case k0=>k_is)
  (case a1=>k_is);(case l1=>k_is);(case c1=>k_is);(case k1=>k_is)
  (case a2=>k_is);(case l2=>k_is);(case c2=>k_is);(case k2=>k_is)
  (case a3=>k_is);(case l3=>k_is);(case c3=>k_is);(case k3=>k_is)
  (case a4=>k_is);(case l4=>k_is);(case c4=>k_is);(case k4=>k_is)
  (case a5=>k_is);(case l5=>k_is);(case c5=>k_is);(case k5=>k_is)
  (case a6=>k_is);(case l6=>k_is);(case c6=>k_is);(case k6=>k_is)
  (case a7=>k_is);(case l7=>k_is);(case c7=>k_is);(case k7=>k_is)
  (case a8=>k_is);(case l8=>k_is);(case c8=>k_is);(case k8=>k_is)
  (case a9=>k_is);(case l9=>k_is);(case c9=>k_is);(case k9=>k_is)
  (case a10=>k_is);(case l10=>k_is);(case c10=>k_is);(case k10=>k_is)
  (case a11=>k_is);(case l11=>k_is);(case c11=>k_is);(case k11=>k_is)
  (case a12=>k_is);(case l12=>k_is);(case c12=>k_is);(case k12=>k_is)
  (case a13=>k_is);(case l13=>k_is);(case c13=>k_is);(case k13=>k_is)
  (case a14=>k_is);(case l14=>k_is);(case c14=>k_is);(case k14=>k_is)
  (case a15=>k_is);(case l15=>k_is);(case c15=>k_is);(case k15=>k_is)
  (case a16=>k_is);(case l16=>k_is);(case c16=>k_is);(case k16=>k_is)
  (case a17=>k_is);(case l17=>k_is);(case c17=>k_is);(case k17=>k_is)
  (case a18=>k_is);(case l18=>k_is);(case c18=>k_is);(case k18=>k_is)
  (case a19=>k_is);(case l19=>k_is);(case c19=>k_is);(case k19=>k_is)
  (case a20=>k_is);(case l20=>k_is);(case c20=>k_is);(case k20=>k_is)
  (case a21=>k_is);(case l21=>k_is);(case c21=>k_is);(case k21=>k_is)
  (case a22=>k_is);(case l22=>k_is);(case c22=>k_is);(case k22=>k_is)
  (case a23=>k_is);(case l23=>k_is);(case c23=>k_is);(case k23=>k_is)
  (case a24=>k_is);(case l24=>k_is);(case c24=>k_is);(case k24=>k_is)
  (case a25=>k_is);(case l25=>k_is);(case c25=>k_is);(case k25=>k_is)
  (case a26=>k_is);(case l26=>k_is);(case c26=>k_is);(case k26=>k_is)
  (case a27=>k_is);(case l27=>k_is);(case c27=>k_is);(case k27=>k_is)
  (case a28=>k_is);(case l28=>k_is);(case c28=>k_is);(case k28=>k_is)
  (case z_ValueError=>k_is)
  (case z_max=>k_is)
  (case z_min=>k_is)
  (case z_range=>k_is)
  (case z_list=>k_is)
  (case z_sorted=>k_is)
  (case z_isinstance=>k_is)
  (case z_int=>k_is)
  (case z_len=>k_is)
  (case z_set=>k_is)
  (case z_bool=>k_is)
  (case z_enumerate=>k_is)
  (case z_zip=>k_is)
  (case xa_TieError=>k_is);(case xe_TieError=>k_exc);(case xi_TieError=>exact ⟨L2.cl_of (bmB:=[.type "ValueError",.type "Exception",.type "BaseException",.type "object"]) (newId:="ValueError.__new__") (by k_exc),by k_is,by k_is,by k_is,by k_is,by k_is⟩)
  (case xa_NoPlace=>k_is);(case xe_NoPlace=>k_exc);(case xi_NoPlace=>exact ⟨L2.cl_of (bmB:=[.type "ValueError",.type "Exception",.type "BaseException",.type "object"]) (newId:="ValueError.__new__") (by k_exc),by k_is,by k_is,by k_is,by k_is,by k_is⟩)
  (case xa_NoJoin=>k_is);(case xe_NoJoin=>k_exc);(case xi_NoJoin=>exact ⟨L2.cl_of (bmB:=[.type "ValueError",.type "Exception",.type "BaseException",.type "object"]) (newId:="ValueError.__new__") (by k_exc),by k_is,by k_is,by k_is,by k_is,by k_is⟩)
  (case xa_NoTie=>k_is);(case xe_NoTie=>k_exc);(case xi_NoTie=>exact ⟨L2.cl_of (bmB:=[.type "ValueError",.type "Exception",.type "BaseException",.type "object"]) (newId:="ValueError.__new__") (by k_exc),by k_is,by k_is,by k_is,by k_is,by k_is⟩)
  (case xa_NoTree=>k_is);(case xe_NoTree=>k_exc);(case xi_NoTree=>exact ⟨L2.cl_of (bmB:=[.type "ValueError",.type "Exception",.type "BaseException",.type "object"]) (newId:="ValueError.__new__") (by k_exc),by k_is,by k_is,by k_is,by k_is,by k_is⟩)
  (case xa_NoNumber=>k_is);(case xe_NoNumber=>k_exc);(case xi_NoNumber=>exact ⟨L2.cl_of (bmB:=[.type "ValueError",.type "Exception",.type "BaseException",.type "object"]) (newId:="ValueError.__new__") (by k_exc),by k_is,by k_is,by k_is,by k_is,by k_is⟩)
  (case xa_NoText=>k_is);(case xe_NoText=>k_exc);(case xi_NoText=>exact ⟨L2.cl_of (bmB:=[.type "ValueError",.type "Exception",.type "BaseException",.type "object"]) (newId:="ValueError.__new__") (by k_exc),by k_is,by k_is,by k_is,by k_is,by k_is⟩)
  (case xa_NoName=>k_is);(case xe_NoName=>k_exc);(case xi_NoName=>exact ⟨L2.cl_of (bmB:=[.type "ValueError",.type "Exception",.type "BaseException",.type "object"]) (newId:="ValueError.__new__") (by k_exc),by k_is,by k_is,by k_is,by k_is,by k_is⟩)
  (case xa_NoRow=>k_is);(case xe_NoRow=>k_exc);(case xi_NoRow=>exact ⟨L2.cl_of (bmB:=[.type "ValueError",.type "Exception",.type "BaseException",.type "object"]) (newId:="ValueError.__new__") (by k_exc),by k_is,by k_is,by k_is,by k_is,by k_is⟩)
  (case y_NoPlace_TieError=>kit_is)
  (case y_NoPlace_NoPlace=>kit_is)
  (case y_NoPlace_NoJoin=>kit_is)
  (case y_NoPlace_NoTie=>kit_is)
  (case y_NoPlace_NoTree=>kit_is)
  (case y_NoPlace_NoNumber=>kit_is)
  (case y_NoPlace_NoText=>kit_is)
  (case y_NoPlace_NoName=>kit_is)
  (case y_NoPlace_NoRow=>kit_is)
  (case y_NoPlace_ValueError=>kit_is)
  (case s_NoPlace_TieError=>k_is)
  (case y_NoJoin_TieError=>kit_is)
  (case y_NoJoin_NoPlace=>kit_is)
  (case y_NoJoin_NoJoin=>kit_is)
  (case y_NoJoin_NoTie=>kit_is)
  (case y_NoJoin_NoTree=>kit_is)
  (case y_NoJoin_NoNumber=>kit_is)
  (case y_NoJoin_NoText=>kit_is)
  (case y_NoJoin_NoName=>kit_is)
  (case y_NoJoin_NoRow=>kit_is)
  (case y_NoJoin_ValueError=>kit_is)
  (case s_NoJoin_TieError=>k_is)
  (case y_NoTree_TieError=>kit_is)
  (case y_NoTree_NoPlace=>kit_is)
  (case y_NoTree_NoJoin=>kit_is)
  (case y_NoTree_NoTie=>kit_is)
  (case y_NoTree_NoTree=>kit_is)
  (case y_NoTree_NoNumber=>kit_is)
  (case y_NoTree_NoText=>kit_is)
  (case y_NoTree_NoName=>kit_is)
  (case y_NoTree_NoRow=>kit_is)
  (case y_NoTree_ValueError=>kit_is)
  (case s_NoTree_TieError=>k_is)
#print axioms PySem.Challenge.cw_fewties_k38_no_trees_holds
