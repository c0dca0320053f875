import PyProof.Rows.All
import Wide.All
import OpenK.AllK
import Wide.FinOn
import PyProof.EqAt
import PyProof.EqKinds
import PyProof.TupleCall
import PyProof.Rows.SortRuns
import PyProof.NeData
import PyProof.P3In
import PyProof.WalkInts
import PyProof.Rows.SortWalk
import PyProof.SumWalkG
import PyProof.Rows.CallKwBuiltin
import KE.KDictList
import PyProof.WalksEnum
import PyProof.ZipIter
import PyProof.ConsumeWalk
import PyProof.ListRange
import PyProof.TupleOfSeq
import PyProof.Rows.RuleN_abs
import KE.KDictOf
import PyProof.AttrMissHeap
import PyProof.Rows.SetFrom
import KE.KDictLaws
import PySem.Challenge.RW_fewties_k40_whole_ways_and_middles
open PySem.W (Frag kitOne mg_of nsIn mg_none_of excIn fnOf mroIn keepIn codeIn)
set_option Elab.async false
set_option linter.all false
set_option compiler.extract_closed false
set_option maxRecDepth 100000
set_option maxHeartbeats 4000000
namespace L2
open PySem PySem.Spec PyProof.Rows
noncomputable abbrev Key:=Sum Int Str
noncomputable def atx:Key->Value->Bool
 | .inl k,v=>Value.isInt k v
 | .inr x,v=>Value.isStrOf x v
noncomputable def keyH (w:World):Key->Int
 | .inl k=>hashInt k
 | .inr x=>hashStr w x
theorem abd:∀ {k:Key} {v:Value},atx k v=true->(∃ i t,k=Sum.inl i/\v=Value.int i t)\/(∃ x t,k=Sum.inr x/\v=Value.str x t)
 | .inl i,v,h=>by
  obtain ⟨t,e⟩:=Value.isInt_shape (k:=i) (v:=v) h
  exact .inl ⟨i,t,rfl,e⟩
 | .inr x,v,h=>by
  obtain ⟨t,e⟩:=Value.isStrOf_shape (x:=x) (v:=v) h
  exact .inr ⟨x,t,rfl,e⟩
theorem awx (a b:Int):decide ((Sum.inl a:Key)=Sum.inl b)=(a == b):=by
 by_cases e:a=b
 ·subst e;simp
 ·have h:¬ (Sum.inl a:Key)=Sum.inl b:=fun q=>e (Sum.inl.inj q)
  rw [decide_eq_false h]
  exact (beq_eq_false_iff_ne.mpr e).symm
theorem awy (a b:Str):decide ((Sum.inr a:Key)=Sum.inr b)=decide (a=b):=by
 by_cases e:a=b
 ·subst e;simp
 ·have h:¬ (Sum.inr a:Key)=Sum.inr b:=fun q=>e (Sum.inr.inj q)
  rw [decide_eq_false h,decide_eq_false e]
theorem awz (a:Int) (b:Str):decide ((Sum.inl a:Key)=Sum.inr b)=false:=decide_eq_false (fun q=>nomatch q)
theorem aw0 (a:Str) (b:Int):decide ((Sum.inr a:Key)=Sum.inl b)=false:=decide_eq_false (fun q=>nomatch q)
noncomputable def ah2 (prog:Program) (w:World):PySem.KeyKind prog w Key where
 is:=atx
 hash:=keyH w
 inj:=fun v a b ha hb=>by
  rcases abd ha with ⟨i,t,rfl,rfl⟩ | ⟨x,t,rfl,rfl⟩
  ·rcases abd hb with ⟨j,u,rfl,e⟩ | ⟨y,u,rfl,e⟩
   ·injection e with e1 _;rw [e1]
   ·exact nomatch e
  ·rcases abd hb with ⟨j,u,rfl,e⟩ | ⟨y,u,rfl,e⟩
   ·exact nomatch e
   ·injection e with e1 _;rw [e1]
 byValue:=fun k v h=>by
  rcases abd h with ⟨i,t,rfl,rfl⟩ | ⟨x,t,rfl,rfl⟩ <;> rfl
 pyHash:=fun hv h=>by
  rcases abd hv with ⟨i,t,rfl,rfl⟩ | ⟨x,t,rfl,rfl⟩
  ·exact wpAny_pyHash_int h
  ·exact wpAny_pyHash_str h
 eqBool:=fun hu hv h=>by
  rcases abd hu with ⟨i,t,rfl,rfl⟩ | ⟨x,t,rfl,rfl⟩
  ·rcases abd hv with ⟨j,u,rfl,rfl⟩ | ⟨y,u,rfl,rfl⟩
   ·rw [awx] at h;exact wpAny_eqBool_int h
   ·rw [awz] at h;exact SeqAt.EqAt.int_str i t y u _ _ _ _ h
  ·rcases abd hv with ⟨j,u,rfl,rfl⟩ | ⟨y,u,rfl,rfl⟩
   ·rw [aw0] at h;exact SeqAt.EqAt.str_int x t j u _ _ _ _ h
   ·rw [awy] at h;exact wpAny_eqBool_str h
 «strs»:=fun k x t v h=>by
  rcases abd h with ⟨i,u,rfl,e⟩ | ⟨y,u,rfl,e⟩
  ·exact nomatch e
  ·injection e with e1 _
   subst e1
   cases v <;> rfl
inductive V where
 | non | bl (b:Bool) | int (i:Int) | str (x:Str) | byt (b:Array UInt8) | flt (b:UInt64) | ref (a:Addr) | ty (n:String)
 deriving DecidableEq
noncomputable def RelV:V->Value->Prop
 | .non,u=>u=Value.none
 | .bl b,u=>u=Value.bool b
 | .int i,u=>∃ t,u=Value.int i t
 | .str x,u=>∃ t,u=Value.str x t
 | .byt b,u=>∃ t,u=Value.bytes b t
 | .flt b,u=>∃ t,u=Value.float b t
 | .ref a,u=>u=Value.ref a
 | .ty n,u=>u=Value.type n
abbrev Vals:List V->List Value->Prop:=Paired RelV
theorem Vals.length {xs:List V} {us:List Value} (r:Vals xs us):xs.length=us.length:=Paired.length r
theorem Vals.get:∀ {xs:List V} {us:List Value} {i:Nat} {x:V},Vals xs us->xs[i]?=some x->∃ u,us[i]?=some u/\RelV x u
 | _,_,_,_,.nil,e=>by simp at e
 | _,_,0,_,.cons r _,e=>by simp at e;subst e;exact ⟨_,rfl,r⟩
 | _,_,i+1,x,.cons _ t,e=>by
  obtain ⟨u,h1,h2⟩:=Vals.get (i:=i) (x:=x) t (by simpa using e)
  exact ⟨u,by simpa using h1,h2⟩
theorem Vals.set {x:V} {u:Value} (r:RelV x u):∀ {xs:List V} {us:List Value} (i:Nat),Vals xs us->Vals (xs.set i x) (us.set i u)
 | _,_,_,.nil => .nil
 | _,_,0,.cons _ t => .cons r t
 | _,_,i+1,.cons q t => .cons q (Vals.set r i t)
theorem Vals.append:∀ {xs ys:List V} {us ws:List Value},Vals xs us->Vals ys ws->Vals (xs ++ ys) (us ++ ws)
 | _,_,_,_,.nil,s=>s
 | _,_,_,_,.cons r t,s => .cons r (Vals.append t s)
theorem Vals.take:∀ {xs:List V} {us:List Value} (n:Nat),Vals xs us->Vals (xs.take n) (us.take n)
 | _,_,0,_ => .nil
 | _,_,_+1,.nil => .nil
 | _,_,n+1,.cons r t => .cons r (Vals.take n t)
theorem Vals.drop:∀ {xs:List V} {us:List Value} (n:Nat),Vals xs us->Vals (xs.drop n) (us.drop n)
 | _,_,0,r=>r
 | _,_,_+1,.nil => .nil
 | _,_,n+1,.cons _ t=>Vals.drop n t
noncomputable def RelO:Option V->Option Value->Prop
 | some v,some u=>RelV v u
 | none,none=>True
 | _,_=>False
def KV {κ:Type}:List (κ × V)->List (κ × Value)->Prop:=Paired fun (p : κ × V) (q : κ × Value)=>p.1=q.1/\RelV p.2 q.2
noncomputable def kV:Key->V
 | .inl i => .int i
 | .inr x => .str x
inductive HO where
 /-- a list -/
 | lst (xs:List V)
 /-- a tuple (never changes) -/
 | tup (xs:List V)
 /-- a dict whose keys are ints and texts; one whose keys are tuples of ints and texts (the empty one is both) -/
 | dK (kvs:List (Key × V)) | dT (kvs:List (List Key × V))
 /-- a set of ints: its members, its size -/
 | set (S:Int->Bool) (n:Nat)
 /-- an instance of the class at C, its dict at dx, its attributes -/
 | ins (C dx:Addr) (fs:List (Str × V))
 /-- the dict of the instance at x -/
 | own (x:Addr)
 /-- the dict of an exception -/
 | xd (fs:List (Str × V))
 /-- a bound method, f of x -/
 | met (f x:Addr)
 /-- a range object lo, lo + 1, .. below hi -/
 | rng (lo hi:Int)
 /-- a thing that is known to the object (the script; a dict while a loop walks it): read, never written while it is so -/
 | frz (o:Obj) (u:HO)
 /-- a code object's table -/
 | tbl (ps:Array Value)
 /-- any other thing, by what is true of its one object (a def of one's own: SetO a S n:=HO.ext fun h => ..) -/
 | ext (φ:Heap->Prop)
noncomputable abbrev Hp:=Addr->Option HO
noncomputable def upd (H:Hp) (a:Addr) (o:HO):Hp:=fun b=>if b=a then some o else H b
theorem aam {H:Hp} {a:Addr} {o:HO}:upd H a o a=some o:=by unfold upd;rw [if_pos rfl]
theorem aag {H:Hp} {a b:Addr} {o:HO} (h:b ≠ a):upd H a o b=H b:=by unfold upd;rw [if_neg h]
theorem aap {H:Hp} {a b:Addr} {o:HO} (h:H a=some o) (h':H b=none):a ≠ b:=by
 intro e;subst e;rw [h] at h';cases h'
section
variable (P:Program) (w:World)
noncomputable def ObjOk (H:Hp) (h:Heap) (a:Addr):HO->Prop
 | .lst xs=>xs.length<=sizeLine/\∃ (its:List Value) (n:Nat),Vals xs its/\h.get? a=some { cls:=.type "list",data:=.seq its.toArray n }
 | .tup xs=>xs.length<=sizeLine/\∃ its:List Value,Vals xs its/\IsTup h a its.toArray
 | .dK kvs=>kvs.length<=sizeLine/\(a == sysModules)=false/\∃ vs,KV kvs vs/\h.DictOf (ah2 P w) a vs
 | .dT kvs=>kvs.length<=sizeLine/\(a == sysModules)=false/\∃ xs:List (List Key × Addr × Value),
   Paired (fun (p:List Key × V) (q:List Key × Addr × Value)=>p.1=q.1/\H q.2.1=some (.tup (p.1.map kV))/\RelV p.2 q.2.2) kvs xs /\
   ∃ o es ep,h.get? a=some o/\o.ExactDict/\o.data=.dict es ep/\es.toList=xs.map (entryOfKey (tupleKind (ah2 P w)))/\(xs.map (·.1)).Nodup
 | .set S n=>h.SetOf (intKind P w) a S n
 | .ins C dx fs=>H dx=some (.own a)/\fs.length<=1000/\dx ≠ a/\h.get? a=some (PySem.W.instObj C dx) /\
   ∃ mA,h.Ns1 dx mA/\(∀ f,RelO (fs.lookup f) (mA f))/\PySem.Within mA (fs.map (·.1))
 | .own _=>∃ o,h.get? a=some o
 | .xd fs=>∃ mA,h.Ns1 a mA/\∀ f,RelO (fs.lookup f) (mA f)
 | .rng lo hi=>∃ t u v,h.get? a=some { cls:=.type "range",data:=.fields #[.int lo t,.int hi u,.int 1 v] }
 | .frz o u=>h.get? a=some o/\ObjOk H h a u
 | .tbl ps=>h.get? a=some { cls:=.none,data:=.fields ps }
 | .met f x=>h.get? a=some (PySem.W.methodObj (.ref f) (.ref x))
 | .ext φ => φ h/\(∃ o,h.get? a=some o)/\∀ h1 h2:Heap,φ h1->(∀ o,h1.get? a=some o->h2.get? a=some o)->φ h2
def HOk (H:Hp) (h:Heap):Prop:=∀ a o,H a=some o->ObjOk P w H h a o
end
section
variable {P:Program} {w:World} {H H':Hp} {h h':Heap} {a:Addr} {o:HO}
theorem ObjOk.lt (x:ObjOk P w H h a o):a < h.objs.size:=by
 cases o with
 | lst xs=>obtain ⟨_,_,_,_,e⟩:=x;exact Heap.lt_size e
 | tup xs=>obtain ⟨_,_,_,p⟩:=x;exact p.lt
 | dK kvs=>obtain ⟨_,_,_,_,o,_,_,e,_⟩:=x;exact Heap.lt_size e
 | dT kvs=>obtain ⟨_,_,_,_,o,_,_,e,_⟩:=x;exact Heap.lt_size e
 | set S n=>obtain ⟨o,_,_,_,e,_⟩:=x;exact Heap.lt_size e
 | ins C dx fs=>obtain ⟨_,_,_,e,_⟩:=x;exact Heap.lt_size e
 | own y=>obtain ⟨_,e⟩:=x;exact Heap.lt_size e
 | xd fs=>obtain ⟨_,⟨_,_,_,e,_⟩,_⟩:=x;exact Heap.lt_size e
 | rng lo hi=>obtain ⟨_,_,_,e⟩:=x;exact Heap.lt_size e
 | frz ob u=>obtain ⟨e,_⟩:=x;exact Heap.lt_size e
 | tbl ps=>exact Heap.lt_size (show h.get? a=some _ from x)
 | met f y=>exact Heap.lt_size (show h.get? a=some _ from x)
 | ext φ=>obtain ⟨_,⟨_,e⟩,_⟩:=x;exact Heap.lt_size e
theorem Paired.mapP {α β:Type} {F G : α->β->Prop}:∀ {l₁:List α} {l₂:List β},Paired F l₁ l₂->(∀ a b,F a b->G a b)->Paired G l₁ l₂
 | _,_,.nil,_ => .nil
 | _,_,.cons r t,f => .cons (f _ _ r) (Paired.mapP t f)
theorem ObjOk.stay (x:ObjOk P w H h a o) (k:∀ b u,(b=a\/H b=some (.own a))->h.get? b=some u->h'.get? b=some u)
  (ho:∀ b,H b=some (.own a)->H' b=some (.own a)) (ht:∀ b xs,H b=some (.tup xs)->H' b=some (.tup xs)):ObjOk P w H' h' a o:=by
 induction o with
 | lst xs=>obtain ⟨z,its,n,r,e⟩:=x;exact ⟨z,its,n,r,k _ _ (.inl rfl) e⟩
 | tup xs=>obtain ⟨z,its,r,ob,e,c⟩:=x;exact ⟨z,its,r,ob,k _ _ (.inl rfl) e,c⟩
 | dK kvs=>obtain ⟨z,y,vs,r,ob,es,ep,e,c⟩:=x;exact ⟨z,y,vs,r,ob,es,ep,k _ _ (.inl rfl) e,c⟩
 | dT kvs =>
  obtain ⟨z,y,xs,r,ob,es,ep,e,c⟩:=x
  exact ⟨z,y,xs,Paired.mapP r fun p q z=>⟨z.1,ht _ _ z.2.1,z.2.2⟩,ob,es,ep,k _ _ (.inl rfl) e,c⟩
 | set S n=>obtain ⟨ob,es,ep,t,e,c⟩:=x;exact ⟨ob,es,ep,t,k _ _ (.inl rfl) e,c⟩
 | ins C dx fs =>
  obtain ⟨d,z,ne,e,mA,⟨od,es,ep,e2,c⟩,r⟩:=x
  exact ⟨ho _ d,z,ne,k _ _ (.inl rfl) e,mA,⟨od,es,ep,k _ _ (.inr d) e2,c⟩,r⟩
 | own y=>obtain ⟨ob,e⟩:=x;exact ⟨ob,k _ _ (.inl rfl) e⟩
 | xd fs=>obtain ⟨mA,⟨od,es,ep,e,c⟩,r⟩:=x;exact ⟨mA,⟨od,es,ep,k _ _ (.inl rfl) e,c⟩,r⟩
 | rng lo hi=>obtain ⟨t,u,v,e⟩:=x;exact ⟨t,u,v,k _ _ (.inl rfl) e⟩
 | frz ob u ih=>obtain ⟨e,q⟩:=x;exact ⟨k _ _ (.inl rfl) e,ih q⟩
 | tbl ps =>
  have e:h.get? a=some { cls:=.none,data:=.fields ps }:=x
  show h'.get? a=some { cls:=.none,data:=.fields ps }
  exact k a _ (.inl rfl) e
 | met f y =>
  have e:h.get? a=some (PySem.W.methodObj (.ref f) (.ref y)):=x
  show h'.get? a=some (PySem.W.methodObj (.ref f) (.ref y))
  exact k a _ (.inl rfl) e
 | ext φ=>obtain ⟨p,⟨o,e⟩,st⟩:=x;exact ⟨st _ _ p fun o q=>k _ _ (.inl rfl) q,⟨o,k _ _ (.inl rfl) e⟩,st⟩
theorem HOk.lt (x:HOk P w H h) (e:H a=some o):a < h.objs.size:=(x a o e).lt
theorem HOk.fresh (x:HOk P w H h) (e:h.objs.size<=a):H a=none:=by
 cases q:H a with
 | none=>rfl
 | some u=>exact absurd (Nat.lt_of_lt_of_le (x.lt q) e) (Nat.lt_irrefl _)
theorem HOk.kept (x:HOk P w H h) (k:∀ b u,h.get? b=some u->h'.get? b=some u):HOk P w H h':=fun a o e =>
 (x a o e).stay (fun b u _ q=>k b u q) (fun _ q=>q) fun _ _ q=>q
theorem HOk.laid (x:HOk P w H h) (k:∀ b u,h.get? b=some u->h'.get? b=some u) (hp:h.objs.size<=a) (new:ObjOk P w (upd H a o) h' a o):HOk P w (upd H a o) h':=fun b u e=>by
 have hn:=x.fresh hp
 by_cases hb:b=a
 ·subst hb;rw [aam] at e;cases e;exact new
 ·rw [aag hb] at e
  exact (x b u e).stay (fun c v _ q=>k c v q) (fun c q=>by rw [aag (aap q hn)];exact q) fun c xs q=>by rw [aag (aap q hn)];exact q
end
def Rd (H:Hp) (a:Addr) (u:HO):Prop:=H a=some u\/∃ o,H a=some (.frz o u)
theorem Rd.of {H:Hp} {a:Addr} {u:HO} (h:H a=some u):Rd H a u:=.inl h
theorem Rd.ok {P:Program} {w:World} {H:Hp} {h:Heap} {a:Addr} {u:HO} (r:Rd H a u) (x:HOk P w H h):ObjOk P w H h a u:=by
 rcases r with r | ⟨o,r⟩
 ·exact x a u r
 ·obtain ⟨_,q⟩:=x a _ r
  exact q
noncomputable def Mut:Option HO->Prop
 | some (.lst _)=>True
 | some (.dK _)=>True
 | some (.dT _)=>True
 | some (.set _ _)=>True
 | some (.ins _ _ _)=>True
 | some (.ext _)=>True
 | _=>False
section
variable {P:Program} {w:World} {H:Hp} {h h':Heap} {x e:Addr} {o':HO}
theorem HOk.write (ok:HOk P w H h) (mu:Mut (H x)) (he:e=x\/H e=some (.own x)) (k:∀ b u,b ≠ e->h.get? b=some u->h'.get? b=some u) (heo:∃ u,h'.get? e=some u)
  (new:ObjOk P w (upd H x o') h' x o'):HOk P w (upd H x o') h':=fun b u q=>by
 have nown:∀ c y,H c=some (.own y)->c ≠ x:=fun c y r z=>by subst z;rw [r] at mu;exact mu
 have ntup:∀ c xs,H c=some (.tup xs)->c ≠ x:=fun c xs r z=>by subst z;rw [r] at mu;exact mu
 by_cases hb:b=x
 ·subst hb;rw [aam] at q;cases q;exact new
 ·rw [aag hb] at q
  by_cases hbe:b=e
  ·have q':H b=some (.own x):=by
    rcases he with z | z
    ·exact absurd (hbe.trans z) hb
    ·rw [hbe];exact z
   rw [q] at q';cases q'
   obtain ⟨v,hv⟩:=heo
   exact ⟨v,by rw [hbe];exact hv⟩
  ·refine (ok b u q).stay (fun c v hc r=>k c v ?_ r) (fun c r=>by rw [aag (nown c b r)];exact r) fun c xs r=>by rw [aag (ntup c xs r)];exact r
   rcases hc with rfl | hc
   ·exact hbe
   ·rintro rfl
    rcases he with z | z
    ·exact nown c b hc z
    ·rw [hc] at z;cases z;exact hb rfl
end
structure Un (fs ex:List Addr) (H H':Hp) (h h':Heap):Prop where
 keep:∀ b o,h.get? b=some o->H b=none->b ∉ fs->b ∉ ex->h'.get? b=some o
 slot:∀ b o,h.get? b=some o->H b=none->b∈fs->b ∉ ex->∃ sl,h'.get? b=some { o with slots:=sl }
 free:∀ b o,h.get? b=some o->H b=none->b ∉ ex->H' b=none
 there:∀ b o,h.get? b=some o->b ∉ ex->∃ o',h'.get? b=some o'
 tups:∀ b xs,H b=some (.tup xs)->H' b=some (.tup xs)
 frzs:∀ b o u,H b=some (.frz o u)->H' b=some (.frz o u)
 tbls:∀ b ps,H b=some (.tbl ps)->∃ more,H' b=some (.tbl (ps ++ more))
section
variable {fs fs' ex ex':List Addr} {H H1 H2:Hp} {h h1 h2 h':Heap} {a x e:Addr} {o:HO}
theorem Un.any (u:Un fs ex H H1 h h1) {b:Addr} {ob:Obj} (q:h.get? b=some ob) (n:H b=none) (hx:b ∉ ex):∃ sl,h1.get? b=some { ob with slots:=sl }:=by
 by_cases hb:b∈fs
 ·exact u.slot b ob q n hb hx
 ·exact ⟨ob.slots,u.keep b ob q n hb hx⟩
theorem Un.trans (a:Un fs ex H H1 h h1) (b:Un fs ex H1 H2 h1 h2):Un fs ex H H2 h h2 where
 keep:=fun c ob q n hc hx=>b.keep c ob (a.keep c ob q n hc hx) (a.free c ob q n hx) hc hx
 slot:=fun c ob q n hc hx=>by
  obtain ⟨sl,e1⟩:=a.slot c ob q n hc hx
  obtain ⟨sl',e2⟩:=b.slot c _ e1 (a.free c ob q n hx) hc hx
  exact ⟨sl',e2⟩
 free:=fun c ob q n hx=>by
  obtain ⟨o',e1⟩:=a.there c ob q hx
  exact b.free c o' e1 (a.free c ob q n hx) hx
 there:=fun c ob q hx=>by
  obtain ⟨o',e1⟩:=a.there c ob q hx
  exact b.there c o' e1 hx
 tups:=fun c xs q=>b.tups c xs (a.tups c xs q)
 frzs:=fun c ob xs q=>b.frzs c ob xs (a.frzs c ob xs q)
 tbls:=fun c ps q=>by
  obtain ⟨m1,e1⟩:=a.tbls c ps q
  obtain ⟨m2,e2⟩:=b.tbls c _ e1
  exact ⟨m1 ++ m2,by rw [e2,Array.append_assoc]⟩
theorem Un.kept (k:∀ b u,h.get? b=some u->h'.get? b=some u):Un fs ex H H h h' :=
 ⟨fun b ob q _ _ _=>k b ob q,fun b ob q _ _ _=>⟨ob.slots,k b ob q⟩,fun _ _ _ n _=>n,fun b ob q _=>⟨ob,k b ob q⟩,fun _ _ q=>q,fun _ _ _ q=>q,fun _ ps q=>⟨#[],by rw [q];simp⟩⟩
theorem Un.refl:Un fs ex H H h h:=Un.kept fun _ _ q=>q
theorem Un.laid (k:∀ b u,h.get? b=some u->h'.get? b=some u) (hp:h.objs.size<=a) (hn:H a=none):Un fs ex H (upd H a o) h h' where
 keep:=fun b u q _ _ _=>k b u q
 slot:=fun b u q _ _ _=>⟨u.slots,k b u q⟩
 free:=fun b u q n _=>by rw [aag (Nat.ne_of_lt (Nat.lt_of_lt_of_le (Heap.lt_size q) hp))];exact n
 there:=fun b u q _=>⟨u,k b u q⟩
 tups:=fun b xs q=>by rw [aag (aap q hn)];exact q
 frzs:=fun b u xs q=>by rw [aag (aap q hn)];exact q
 tbls:=fun b ps q=>⟨#[],by rw [aag (aap q hn),q];simp⟩
theorem Un.write (mu:Mut (H x)) (he:e=x\/H e=some (.own x)) (k:∀ b u,b ≠ e->h.get? b=some u->h'.get? b=some u) (heo:∃ u,h'.get? e=some u):Un fs ex H (upd H x o) h h':=by
 have hx:∀ b,H b=none->b ≠ x:=fun b n z=>by subst z;rw [n] at mu;exact mu
 have hb:∀ b,H b=none->b ≠ e:=fun b n z=>by
  subst z
  rcases he with r | r
  ·exact hx b n r
  ·rw [n] at r;cases r
 have hm:∀ b u,H b=some u->¬ Mut (some u)->b ≠ x:=fun b u q nm z=>by subst z;rw [q] at mu;exact nm mu
 refine ⟨fun b u q n _ _=>k b u (hb b n) q,fun b u q n _ _=>⟨u.slots,k b u (hb b n) q⟩,fun b u q n _=>by rw [aag (hx b n)];exact n,fun b u q _=>?_,
  fun b xs q=>by rw [aag (hm b _ q fun z=>z)];exact q,fun b u xs q=>by rw [aag (hm b _ q fun z=>z)];exact q,fun b ps q=>⟨#[],by rw [aag (hm b _ q fun z=>z),q];simp⟩⟩
 by_cases hbe:b=e
 ·subst hbe;exact heo
 ·exact ⟨u,k b u hbe q⟩
theorem Un.mono (u:Un fs ex H H1 h h1) (hs:∀ b∈fs,b∈fs') (hx:∀ b∈ex,b∈ex'):Un fs' ex' H H1 h h1 :=
 ⟨fun b ob q n hb he=>u.keep b ob q n (fun z=>hb (hs b z)) fun z=>he (hx b z),fun _ _ q n _ he=>u.any q n fun z=>he (hx _ z),fun b ob q n he=>u.free b ob q n fun z=>he (hx b z),fun b ob q he=>u.there b ob q fun z=>he (hx b z),u.tups,u.frzs,u.tbls⟩
end
noncomputable def trk (h:Heap) (H:Hp):List Addr:=(List.range h.objs.size).filter fun a=>(H a).isSome
noncomputable def hidT (h:Heap) (H:Hp):Heap:=PySem.W.hideAll h (trk h H)
theorem apt (h:Heap) (H:Hp):(hidT h H).objs.size=h.objs.size:=PySem.W.hideAll_size _ _
theorem ark {h:Heap} {H:Hp} {b:Addr} {o:Obj} (e:h.get? b=some o) (n:H b=none):(hidT h H).get? b=some o :=
 PySem.W.hideAll_get _ e fun hm=>by
  have q:(H b).isSome=true:=(List.mem_filter.mp hm).2
  rw [n] at q;simp at q
theorem aup {h:Heap} {H:Hp} {b:Addr} {o:Obj} (e:(hidT h H).get? b=some o):h.get? b=some o/\H b=none:=by
 have e':h.get? b=some o:=PySem.W.of_hideAll (trk h H) e
 refine ⟨e',?_⟩
 cases q:H b with
 | none=>rfl
 | some x =>
  have hm:b∈trk h H:=List.mem_filter.mpr ⟨List.mem_range.mpr (Heap.lt_size e'),by simp [q]⟩
  have z:(hidT h H).get? b=none:=PySem.W.hideAll_none (trk h H) hm
  rw [z] at e;cases e
noncomputable def auq (g h:Heap) (L:Addr):List (Addr × Obj):=(List.range h.objs.size).filterMap fun a=>if a=L\/(g.get? a).isSome=true then none else (h.get? a).map fun o=>(a,o)
noncomputable def rest (g h:Heap) (L d:Addr):List (Addr × Obj):=(auq g h L).filter fun p=>decide (p.1 ≠ d)
structure Mod (K:Frag) (mg:Str->Option Value) (base:Heap):Prop where
 kin:K.In base
 glob:base.Ns mainGlobals mg
 blt:∃ mb,base.Ns builtinsNs mb/\∀ x:Str,x ≠ "__name__"->mb x=bootBuiltins x
 nolimit:base.NoLimit
/-- the context: a def's body (or a comprehension's block) running. base: fixed through the whole law; s₀, H₀: the entry; outer: the frames whose slots others may change (a def's callers); stack: all frames that run;
  ex: iterators that were made ahead of the entry and are walked here (a comprehension's);fn: the names whose cells were made at the entry (a def: all;a comprehension's block: its own);calm: not within an except suite;pn: pins that every state bears;xe: what is wanted of an exception that leaves the code -/
structure Cx where
 prog:Program
 w:World
 K:Frag
 mg:Str->Option Value
 base:Heap
 A:Around
 N:List Str
 s₀:Shared
 H₀:Hp
 env:Env
 outer:List Env
 stack:List Env
 ex:List Addr
 fn:Str->Bool
 calm:Bool
 pn:List (Addr × Obj)
 xe:Value->Shared->Prop
noncomputable def frs (l:List Env):List Addr:=l.filterMap (·.frame)
noncomputable abbrev Cx.fs (X:Cx):List Addr:=frs X.outer
def Vis (sc:Scope) (x:Str):Prop:=sc.names.lookup x=some .local\/sc.names.lookup x=some .cell\/sc.names.lookup x=some .free
def Loc (sc:Scope) (x:Str):Prop:=sc.names.lookup x=some .local\/sc.names.lookup x=some .cell
def Look (env:Env) (h:Heap) (m:Str->Option Value) (x:Str) (u:Value):Prop :=
 (env.kindOf x=some .local/\m x=some u)\/((env.kindOf x=some .cell\/env.kindOf x=some .free)/\∃ c,env.cells.lookup x=some c/\h.IsCell c (some u))
structure Cx.Ok (X:Cx):Prop where
 mod:Mod X.K X.mg X.base
 kind:X.env.scope.kind=.function
 glob:X.env.globals=mainGlobals
 blt:X.env.builtins=builtinsNs
 above:X.s₀.heap.objs.size<=X.env.locals
 inj:∀ x y c,X.env.cells.lookup x=some c->X.env.cells.lookup y=some c->x=y
 has:∀ x,(X.env.kindOf x=some .cell\/X.env.kindOf x=some .free)->∃ c,X.env.cells.lookup x=some c
 cab:∀ x c,X.fn x=true->X.env.cells.lookup x=some c->X.s₀.heap.objs.size<=c
 hd:X.calm=true->X.A.handled=none
 frames:X.A.frames=some X.stack
 stk:X.stack=X.outer\/(X.stack=X.env :: X.outer/\X.env.frame=some X.env.locals)
 exf:∀ b∈X.ex,b ≠ X.env.locals/\∀ x c,X.env.cells.lookup x=some c->c ≠ b
 bs:∀ b o,X.base.get? b=some o->X.s₀.heap.get? b=some o/\X.H₀ b=none
 bsz:X.base.objs.size<=X.s₀.heap.objs.size
 noex:∀ b o,X.base.get? b=some o->b ∉ X.ex
 exfs:∀ b∈X.ex,b ∉ X.fs
 funs:X.s₀.heap.FunFrames X.base X.outer
 frf:∀ b∈X.fs,X.H₀ b=none
structure Inv (X:Cx) (pins:List (Addr × Obj)) (σ:List (Option V)) (H:Hp) (s:Shared):Prop where
 ok:X.Ok
 os:s.os=X.s₀.os
 bare:AllBare s.gens
 base:Un X.fs X.ex X.H₀ H X.s₀.heap s.heap
 loc:∃ m,s.heap.Ns X.env.locals m/\∀ (i:Nat) (x:Str) (v:V),X.N[i]?=some x->σ[i]?=some (some v)->Vis X.env.scope x->∃ u,RelV v u/\Look X.env s.heap m x u
 cell:∀ x c,X.env.cells.lookup x=some c->∃ v,s.heap.IsCell c v
 free:H X.env.locals=none
 freeC:∀ x c,X.env.cells.lookup x=some c->H c=none
 pin:∀ p∈X.pn ++ pins,s.heap.get? p.1=some p.2/\H p.1=none/\p.1 ≠ X.env.locals/\p.1 ∉ X.fs/\∀ v,p.2.data ≠ .cell v
 hok:HOk X.prog X.w H s.heap
 len : σ.length=X.N.length
section
variable {X:Cx} {pins:List (Addr × Obj)} {σ:List (Option V)} {H H':Hp} {s:Shared} {h':Heap}
theorem Cx.Ok.nofr (ok:X.Ok) {b:Addr} {o:Obj} (e:X.base.get? b=some o):b ∉ X.fs:=fun hb=>by
 have:=(ok.funs.mem hb).1
 rw [e] at this;cases this
theorem Inv.bs (I:Inv X pins σ H s):∀ b o,X.base.get? b=some o->s.heap.get? b=some o/\H b=none:=fun b o e =>
 ⟨I.base.keep b o (I.ok.bs b o e).1 (I.ok.bs b o e).2 (I.ok.nofr e) (I.ok.noex b o e),I.base.free b o (I.ok.bs b o e).1 (I.ok.bs b o e).2 (I.ok.noex b o e)⟩
theorem Inv.bk (I:Inv X pins σ H s):∀ b o,X.base.get? b=some o->s.heap.get? b=some o:=fun b o e=>(I.bs b o e).1
theorem Inv.mod (I:Inv X pins σ H s):Mod X.K X.mg X.base:=I.ok.mod
theorem Inv.kIn (I:Inv X pins σ H s):X.K.In s.heap:=I.ok.mod.kin.keeps I.bk
theorem Inv.fr (I:Inv X pins σ H s):∃ m,Fr X.base X.env.locals s.heap m :=
 let ⟨m,hn,_⟩:=I.loc
 ⟨m,hn,I.bk,Nat.le_trans I.ok.bsz I.ok.above⟩
theorem Inv.lt (I:Inv X pins σ H s):X.env.locals < s.heap.objs.size:=let ⟨_,hn,_⟩:=I.loc;hn.lt
theorem Inv.sz (I:Inv X pins σ H s):X.s₀.heap.objs.size<=s.heap.objs.size:=Nat.le_trans I.ok.above (Nat.le_of_lt I.lt)
theorem Inv.nofs (I:Inv X pins σ H s) {a:Addr} (h:s.heap.objs.size<=a):a ∉ X.fs:=fun hb=>by
 obtain ⟨_,o,ho,_⟩:=I.ok.funs.mem hb
 exact absurd (Nat.lt_of_lt_of_le (Heap.lt_size ho) (Nat.le_trans I.sz h)) (Nat.lt_irrefl _)
theorem Inv.cne (I:Inv X pins σ H s):∀ x c,X.env.cells.lookup x=some c->c ≠ X.env.locals:=fun x c e z=>by
 obtain ⟨v,o,ho,hd⟩:=I.cell x c e
 obtain ⟨m,⟨o',es,ep,ho',hd',_⟩,_⟩:=I.loc
 rw [z,ho'] at ho;cases ho;rw [hd'] at hd;cases hd
theorem Inv.funs (I:Inv X pins σ H s):s.heap.FunFrames X.base X.outer:=by
 have all:∀ (l:List Env),(∀ b∈frs l,b∈X.fs)->X.s₀.heap.FunFrames X.base l->s.heap.FunFrames X.base l:=by
  intro l
  induction l with
  | nil=>intro _ _;trivial
  | cons env r ih =>
   intro hs hl
   obtain ⟨hk,⟨L,o,hf,hn,ho,hd⟩,hr⟩:=hl
   have hL:L∈X.fs:=hs L (by unfold frs;rw [List.filterMap_cons,hf];exact List.mem_cons_self)
   obtain ⟨sl,e⟩:=I.base.slot L o ho (I.ok.frf L hL) hL fun z=>I.ok.exfs L z hL
   exact ⟨hk,⟨L,_,hf,hn,e,hd⟩,ih (fun b hb=>hs b (by unfold frs;rw [List.filterMap_cons,hf];exact List.mem_cons_of_mem _ hb)) hr⟩
 exact all X.outer (fun _ hb=>hb) I.ok.funs
theorem Inv.stack (I:Inv X pins σ H s):s.heap.FunFrames X.base X.stack:=by
 rcases I.ok.stk with e | ⟨e,hf⟩
 ·rw [e];exact I.funs
 ·rw [e]
  obtain ⟨m,hn,_⟩:=I.loc
  refine .cons (by rw [I.ok.kind];decide) hf hn ?_ I.funs
  exact Heap.get?_none_of_le (Nat.le_trans I.ok.bsz I.ok.above)
theorem Inv.stkSub (I:Inv X pins σ H s):∀ b∈frs X.stack,b∈X.env.locals :: X.fs:=fun b hb=>by
 rcases I.ok.stk with e | ⟨e,hf⟩
 ·rw [e] at hb;exact List.mem_cons_of_mem _ hb
 ·rw [e] at hb
  unfold frs at hb
  rw [List.filterMap_cons,hf] at hb
  exact hb
theorem Inv.stkFree (I:Inv X pins σ H s):∀ b∈frs X.stack,H b=none:=fun b hb=>by
 rcases List.mem_cons.mp (I.stkSub b hb) with e | hb
 ·rw [e];exact I.free
 ·obtain ⟨_,o,ho,_⟩:=I.ok.funs.mem hb
  exact I.base.free b o ho (I.ok.frf b hb) fun z=>I.ok.exfs b z hb
theorem Inv.step {g':Array GenState} {t':Nat} {d':Drawn} {ch:List Addr} (I:Inv X pins σ H s)
  (hch:∀ b∈ch,(b∈X.ex\/X.s₀.heap.objs.size<=b)/\b ≠ X.env.locals/\(∀ x c,X.env.cells.lookup x=some c->c ≠ b)/\∀ p∈X.pn ++ pins,p.1 ≠ b)
  (keep:∀ b o,b ≠ X.env.locals->b ∉ X.fs->b ∉ ch->s.heap.get? b=some o->H b=none->h'.get? b=some o)
  (slot:∀ b o,b ≠ X.env.locals->b∈X.fs->b ∉ ch->s.heap.get? b=some o->H b=none->∃ sl,h'.get? b=some { o with slots:=sl }) (free:∀ b o,b ∉ ch->s.heap.get? b=some o->H b=none->H' b=none)
  (there:∀ b o,b ∉ ch->s.heap.get? b=some o->∃ o',h'.get? b=some o')
  (tups:∀ b xs,H b=some (.tup xs)->H' b=some (.tup xs)) (frzs:∀ b o u,H b=some (.frz o u)->H' b=some (.frz o u)) (tbls:∀ b ps,H b=some (.tbl ps)->∃ more,H' b=some (.tbl (ps ++ more)))
  (ns:∀ m,s.heap.Ns X.env.locals m->h'.Ns X.env.locals m) (hok:HOk X.prog X.w H' h') (hg:AllBare g') :
  Inv X pins σ H' { s with heap:=h',gens:=g',drawn:=d',toks:=t' }:=by
 have neL:∀ b o,X.s₀.heap.get? b=some o->b ≠ X.env.locals:=fun b o e=>Nat.ne_of_lt (Nat.lt_of_lt_of_le (Heap.lt_size e) I.ok.above)
 have neC:∀ b o,X.s₀.heap.get? b=some o->b ∉ X.ex->b ∉ ch:=fun b o e hx hb=>by
  rcases (hch b hb).1 with z | z
  ·exact hx z
  ·exact absurd (Nat.lt_of_lt_of_le (Heap.lt_size e) z) (Nat.lt_irrefl _)
 have cellK:∀ x c,X.env.cells.lookup x=some c->∀ v,s.heap.IsCell c v->h'.IsCell c v:=fun x c e v z_=>by
  obtain ⟨o,ho,hd⟩:=z_
  have nch:c ∉ ch:=fun z=>(hch c z).2.2.1 x c e rfl
  by_cases hc:c∈X.fs
  ·obtain ⟨sl,q⟩:=slot c o (I.cne x c e) hc nch ho (I.freeC x c e)
   exact ⟨_,q,hd⟩
  ·exact ⟨o,keep c o (I.cne x c e) hc nch ho (I.freeC x c e),hd⟩
 refine ⟨I.ok,I.os,hg,⟨fun b o e n hb hx=>?_,fun b o e n hb hx=>?_,fun b o e n hx=>?_,fun b o e hx=>?_,fun b xs e=>tups b xs (I.base.tups b xs e),fun b o xs e=>frzs b o xs (I.base.frzs b o xs e),fun b ps e=>?_⟩,?_,fun x c e=>?_,?_,fun x c e=>?_,fun p hp=>?_,hok,I.len⟩
 ·exact keep b o (neL b o e) hb (neC b o e hx) (I.base.keep b o e n hb hx) (I.base.free b o e n hx)
 ·obtain ⟨sl,e1⟩:=I.base.slot b o e n hb hx
  obtain ⟨sl',e2⟩:=slot b _ (neL b o e) hb (neC b o e hx) e1 (I.base.free b o e n hx)
  exact ⟨sl',e2⟩
 ·obtain ⟨o',e1⟩:=I.base.there b o e hx
  exact free b o' (neC b o e hx) e1 (I.base.free b o e n hx)
 ·obtain ⟨o',e1⟩:=I.base.there b o e hx
  exact there b o' (neC b o e hx) e1
 ·obtain ⟨m1,e1⟩:=I.base.tbls b ps e
  obtain ⟨m2,e2⟩:=tbls b _ e1
  exact ⟨m1 ++ m2,by rw [e2,Array.append_assoc]⟩
 ·obtain ⟨m,hn,hl⟩:=I.loc
  refine ⟨m,ns m hn,fun i x v e1 e2 e3=>?_⟩
  obtain ⟨u,r,l⟩:=hl i x v e1 e2 e3
  refine ⟨u,r,?_⟩
  rcases l with l | ⟨k,c,e,z⟩
  ·exact .inl l
  ·exact .inr ⟨k,c,e,cellK x c e _ z⟩
 ·obtain ⟨v,z⟩:=I.cell x c e
  exact ⟨v,cellK x c e v z⟩
 ·obtain ⟨m,⟨o,_,_,ho,_⟩,_⟩:=I.loc
  exact free _ o (fun z=>(hch _ z).2.1 rfl) ho I.free
 ·obtain ⟨v,o,ho,hd⟩:=I.cell x c e
  exact free c o (fun z=>(hch c z).2.2.1 x c e rfl) ho (I.freeC x c e)
 ·obtain ⟨e,n,ne,nf,d⟩:=I.pin p hp
  have nch:p.1 ∉ ch:=fun z=>(hch p.1 z).2.2.2 p hp rfl
  exact ⟨keep p.1 p.2 ne nf nch e n,free p.1 p.2 nch e n,ne,nf,d⟩
theorem Inv.un {t':Nat} (I:Inv X pins σ H s) (u:Un X.fs [] H H' s.heap h') (hok:HOk X.prog X.w H' h'):Inv X pins σ H' { s with heap:=h',toks:=t' }:=by
 obtain ⟨m,⟨o,es,ep,ho,r⟩,_⟩:=id I.loc
 obtain ⟨sl,hL⟩:=u.any ho I.free (by simp)
 exact I.step (g':=s.gens) (d':=s.drawn) (ch:=[]) (fun _ z=>nomatch z) (fun b o _ hb _ e n=>u.keep b o e n hb (by simp)) (fun b o _ hb _ e n=>u.slot b o e n hb (by simp)) (fun b o _ e n=>u.free b o e n (by simp)) (fun b o _ e=>u.there b o e (by simp)) u.tups u.frzs u.tbls (fun m' hm=>by
  obtain ⟨o',es',ep',ho',r'⟩:=hm
  rw [ho] at ho';cases ho'
  exact ⟨_,es',ep',hL,r'⟩) hok I.bare
theorem Inv.call {g':Array GenState} {t':Nat} {d':Drawn} {ch:List Addr} (I:Inv X pins σ H s) (u:Un (frs X.stack) ch H H' s.heap h') (hok:HOk X.prog X.w H' h') (hg:AllBare g')
  (hch:∀ b∈ch,(b∈X.ex\/X.s₀.heap.objs.size<=b)/\b ≠ X.env.locals/\(∀ x c,X.env.cells.lookup x=some c->c ≠ b)/\∀ p∈X.pn ++ pins,p.1 ≠ b) :
  Inv X pins σ H' { s with heap:=h',gens:=g',drawn:=d',toks:=t' }:=by
 obtain ⟨m,⟨o,es,ep,ho,r⟩,_⟩:=id I.loc
 obtain ⟨sl,hL⟩:=u.any ho I.free fun z=>(hch _ z).2.1 rfl
 exact I.step (ch:=ch) hch (fun b o hL hb hc e n=>u.keep b o e n (fun z=>(List.mem_cons.mp (I.stkSub b z)).elim hL hb) hc) (fun b o _ _ hc e n=>u.any e n hc) (fun b o hc e n=>u.free b o e n hc) (fun b o hc e=>u.there b o e hc) u.tups u.frzs u.tbls (fun m' hm=>by
  obtain ⟨o',es',ep',ho',r'⟩:=hm
  rw [ho] at ho';cases ho'
  exact ⟨_,es',ep',hL,r'⟩) hok hg
theorem Inv.turned {t':Nat} {it:Addr} (I:Inv X pins σ H s) (k:∀ b o,b ≠ it->s.heap.get? b=some o->h'.get? b=some o) (hn:H it=none) (hL:it ≠ X.env.locals)
  (h1:it∈X.ex\/X.s₀.heap.objs.size<=it) (h2:∀ x c,X.env.cells.lookup x=some c->c ≠ it) (h3:∀ p∈X.pn ++ pins,p.1 ≠ it):Inv X pins σ H { s with heap:=h',toks:=t' }:=by
 have nit:∀ b u,H b=some u->b ≠ it:=fun b u e z=>by rw [z,hn] at e;cases e
 refine I.step (g':=s.gens) (d':=s.drawn) (ch:=[it]) (fun b hb=>?_) (fun b o _ _ hc e _=>k b o (fun z=>hc (by simp [z])) e) (fun b o _ _ hc e _=>⟨o.slots,k b o (fun z=>hc (by simp [z])) e⟩) (fun _ _ _ _ n=>n)
  (fun b o hc e=>⟨o,k b o (fun z=>hc (by simp [z])) e⟩) (fun _ _ e=>e) (fun _ _ _ e=>e) (fun b ps e=>⟨#[],by rw [e];simp⟩) (fun m hm=>?_) (fun b u e=>?_) I.bare
 ·have e:b=it:=by simpa using hb
  subst e
  exact ⟨h1,hL,h2,h3⟩
 ·obtain ⟨o,es,ep,ho,r⟩:=hm
  exact ⟨o,es,ep,k _ o (Ne.symm hL) ho,r⟩
 ·refine (I.hok b u e).stay (fun c v hc q=>k c v ?_ q) (fun _ q=>q) fun _ _ q=>q
  rcases hc with z | z
  ·rw [z];exact nit b u e
  ·exact nit c _ z
theorem Inv.tok (I:Inv X pins σ H s) (t:Nat):Inv X pins σ H { s with toks:=t }:=I.un (h':=s.heap) (t':=t) Un.refl I.hok
theorem Inv.kept {t':Nat} (I:Inv X pins σ H s) (k:∀ b u,s.heap.get? b=some u->h'.get? b=some u):Inv X pins σ H { s with heap:=h',toks:=t' }:=I.un (Un.kept k) (I.hok.kept k)
theorem Inv.laid {a:Addr} {o:HO} {t':Nat} (I:Inv X pins σ H s) (k:∀ b u,s.heap.get? b=some u->h'.get? b=some u) (hp:s.heap.objs.size<=a) (new:ObjOk X.prog X.w (upd H a o) h' a o) :
  Inv X pins σ (upd H a o) { s with heap:=h',toks:=t' }:=I.un (Un.laid k hp (I.hok.fresh hp)) (I.hok.laid k hp new)
theorem Inv.write {x e:Addr} {o:HO} {t':Nat} (I:Inv X pins σ H s) (mu:Mut (H x)) (he:e=x\/H e=some (.own x)) (k:∀ b u,b ≠ e->s.heap.get? b=some u->h'.get? b=some u) (heo:∃ u,h'.get? e=some u)
  (new:ObjOk X.prog X.w (upd H x o) h' x o):Inv X pins σ (upd H x o) { s with heap:=h',toks:=t' }:=I.un (Un.write mu he k heo) (I.hok.write mu he k heo new)
theorem Inv.pins_of {pins':List (Addr × Obj)} (I:Inv X pins σ H s) (h:∀ p∈pins',s.heap.get? p.1=some p.2/\H p.1=none/\p.1 ≠ X.env.locals/\p.1 ∉ X.fs/\∀ v,p.2.data ≠ .cell v):Inv X pins' σ H s :=
 ⟨I.ok,I.os,I.bare,I.base,I.loc,I.cell,I.free,I.freeC,fun p hp=>(List.mem_append.mp hp).elim (fun z=>I.pin p (List.mem_append_left _ z)) (h p),I.hok,I.len⟩
theorem nodup_ix {N:List Str} (hN:N.Nodup) {i j:Nat} {x:Str} (a:N[i]?=some x) (b:N[j]?=some x):i=j:=by
 obtain ⟨h1,e1⟩:=List.getElem?_eq_some_iff.mp a
 obtain ⟨h2,e2⟩:=List.getElem?_eq_some_iff.mp b
 exact (List.getElem_inj hN).mp (e1.trans e2.symm)
theorem ait {M:Model} {A:Around} {E:Value->Shared->Prop} {i:Nat} {x:Str} {v:V} {u:Value} {Q:Unit->Shared->Prop} (I:Inv X pins σ H s) (hN:X.N.Nodup) (hi:X.N[i]?=some x) (hx:Loc X.env.scope x) (r:RelV v u)
  (h:∀ s',Inv X pins (σ.set i (some v)) H s'->(∃ a,Heap.SameBut a s.heap s'.heap/\(a=X.env.locals\/X.env.cells.lookup x=some a))->Q () s') (hf:X.fn x=true\/X.env.scope.names.lookup x=some .local:=by first | exact .inl rfl | exact .inr rfl | assumption):wpAny M A (storeName X.env x u) Q E s:=by
 obtain ⟨m,hn,hl⟩:=id I.loc
 have hcls:(X.env.scope.kind == .class || (X.env.scope.kind == .module && X.env.locals != X.env.globals))=false:=by rw [I.ok.kind];rfl
 have hiσ:i < σ.length:=by rw [I.len];exact (List.getElem?_eq_some_iff.mp hi).1
 have cne:=I.cne
 have tracked:∀ {a:Addr} {h':Heap},(∃ o,s.heap.get? a=some o/\H a=none)->Heap.SameBut a s.heap h'->HOk X.prog X.w H h':=fun {a h'} ha hs b ob e=>by
  obtain ⟨_,_,hfree⟩:=ha
  refine (I.hok b ob e).stay (fun c w' hc q=>(hs.2 c ?_).trans q) (fun _ q=>q) fun _ _ q=>q
  rintro rfl
  rcases hc with rfl | hc
  ·rw [hfree] at e;cases e
  ·rw [hfree] at hc;cases hc
 rcases hx with hk | hk
 ·refine wpAny_storeName_local hk hn (fun h' hn' hs=>?_) hcls
  obtain ⟨oL,_,_,hoL,_⟩:=id hn
  refine h _ ⟨I.ok,I.os,I.bare,⟨fun b o e n hb hx=>?_,fun b o e n hb hx=>?_,I.base.free,fun b o e hx=>?_,I.base.tups,I.base.frzs,I.base.tbls⟩,⟨_,hn',fun j y v' e1 e2 e3=>?_⟩,fun y c e=>?_,I.free,I.freeC,fun p hp=>?_,tracked ⟨oL,hoL,I.free⟩ hs,by simpa using I.len⟩ ⟨_,hs,.inl rfl⟩
  ·exact (hs.2 b (Nat.ne_of_lt (Nat.lt_of_lt_of_le (Heap.lt_size e) I.ok.above))).trans (I.base.keep b o e n hb hx)
  ·obtain ⟨sl,e1⟩:=I.base.slot b o e n hb hx
   exact ⟨sl,(hs.2 b (Nat.ne_of_lt (Nat.lt_of_lt_of_le (Heap.lt_size e) I.ok.above))).trans e1⟩
  ·obtain ⟨o',e1⟩:=I.base.there b o e hx
   exact ⟨o',(hs.2 b (Nat.ne_of_lt (Nat.lt_of_lt_of_le (Heap.lt_size e) I.ok.above))).trans e1⟩
  ·by_cases hj:j=i
   ·subst hj
    rw [hi] at e1;cases e1
    rw [List.getElem?_set_self hiσ] at e2
    cases e2
    exact ⟨u,r,.inl ⟨hk,by simp⟩⟩
   ·rw [List.getElem?_set_ne (Ne.symm hj)] at e2
    obtain ⟨u',r',q⟩:=hl j y v' e1 e2 e3
    refine ⟨u',r',?_⟩
    rcases q with ⟨k,e⟩ | ⟨k,c,e,z⟩
    ·refine .inl ⟨k,?_⟩
     have:y ≠ x:=fun e=>hj (nodup_ix hN e1 (e ▸ hi))
     simp [this,e]
    ·exact .inr ⟨k,c,e,z.sameBut hs (cne y c e)⟩
  ·obtain ⟨w',z⟩:=I.cell y c e
   exact ⟨w',z.sameBut hs (cne y c e)⟩
  ·obtain ⟨e,n,ne,nf,d⟩:=I.pin p hp
   exact ⟨(hs.2 p.1 ne).trans e,n,ne,nf,d⟩
 ·have hfn:X.fn x=true:=by
   rcases hf with z | z
   ·exact z
   ·rw [z] at hk;cases hk
  obtain ⟨c,hc⟩:=I.ok.has x (.inl hk)
  obtain ⟨w',z⟩:=I.cell x c hc
  refine wpAny_storeName_cell I.ok.kind hk hc z (fun h' hc' hs=>?_)
  obtain ⟨oc,hoc,hocd⟩:=id z
  refine h { s with heap:=h' } ⟨I.ok,I.os,I.bare,⟨fun b o e n hb hx=>?_,fun b o e n hb hx=>?_,I.base.free,fun b o e hx=>?_,I.base.tups,I.base.frzs,I.base.tbls⟩,⟨m,hn.sameBut hs (Ne.symm (cne x c hc)),fun j y v' e1 e2 e3=>?_⟩,fun y c' e=>?_,I.free,I.freeC,fun p hp=>?_,tracked ⟨oc,hoc,I.freeC x c hc⟩ hs,by simpa using I.len⟩ ⟨c,hs,.inr hc⟩
  ·exact (hs.2 b (Nat.ne_of_lt (Nat.lt_of_lt_of_le (Heap.lt_size e) (I.ok.cab x c hfn hc)))).trans (I.base.keep b o e n hb hx)
  ·obtain ⟨sl,e1⟩:=I.base.slot b o e n hb hx
   exact ⟨sl,(hs.2 b (Nat.ne_of_lt (Nat.lt_of_lt_of_le (Heap.lt_size e) (I.ok.cab x c hfn hc)))).trans e1⟩
  ·obtain ⟨o',e1⟩:=I.base.there b o e hx
   exact ⟨o',(hs.2 b (Nat.ne_of_lt (Nat.lt_of_lt_of_le (Heap.lt_size e) (I.ok.cab x c hfn hc)))).trans e1⟩
  ·by_cases hj:j=i
   ·subst hj
    rw [hi] at e1;cases e1
    rw [List.getElem?_set_self hiσ] at e2
    cases e2
    exact ⟨u,r,.inr ⟨.inl hk,c,hc,hc'⟩⟩
   ·rw [List.getElem?_set_ne (Ne.symm hj)] at e2
    obtain ⟨u',r',q⟩:=hl j y v' e1 e2 e3
    refine ⟨u',r',?_⟩
    rcases q with q | ⟨k,c',e,z'⟩
    ·exact .inl q
    ·refine .inr ⟨k,c',e,z'.sameBut hs ?_⟩
     rintro rfl
     exact hj (nodup_ix hN e1 (I.ok.inj _ _ _ e hc ▸ hi))
  ·by_cases hcc:c'=c
   ·subst hcc;exact ⟨_,hc'⟩
   ·obtain ⟨w2,z2⟩:=I.cell y c' e
    exact ⟨w2,z2.sameBut hs hcc⟩
  ·obtain ⟨e,n,ne,nf,d⟩:=I.pin p hp
   refine ⟨(hs.2 p.1 ?_).trans e,n,ne,nf,d⟩
   intro q
   rw [q,hoc] at e
   have q':oc=p.2:=Option.some.inj e
   exact d w' (by rw [← q'];exact hocd)
theorem akg {M:Model} {A:Around} {E:Value->Shared->Prop} {i:Nat} {x:Str} {v:V} {u:Value} {Q:Unit->Shared->Prop} (I:Inv X pins σ H s) (hN:X.N.Nodup) (hi:X.N[i]?=some x) (hx:Loc X.env.scope x) (r:RelV v u)
  (h:∀ s',Inv X pins (σ.set i (some v)) H s'->Q () s') (hf:X.fn x=true\/X.env.scope.names.lookup x=some .local:=by first | exact .inl rfl | exact .inr rfl | assumption):wpAny M A (storeName X.env x u) Q E s :=
 ait I hN hi hx r (fun s' I' _=>h s' I') hf
theorem Inv.call' {s':Shared} {ch:List Addr} (I:Inv X pins σ H s) (ho:s'.os=s.os) (u:Un (frs X.stack) ch H H' s.heap s'.heap) (hok:HOk X.prog X.w H' s'.heap) (hg:AllBare s'.gens)
  (hch:∀ b∈ch,(b∈X.ex\/X.s₀.heap.objs.size<=b)/\b ≠ X.env.locals/\(∀ x c,X.env.cells.lookup x=some c->c ≠ b)/\∀ p∈X.pn ++ pins,p.1 ≠ b):Inv X pins σ H' s':=by
 obtain ⟨h',g',d',t',o'⟩:=s'
 have e:o'=s.os:=ho
 subst e
 exact I.call (g':=g') (t':=t') (d':=d') u hok hg hch
end
noncomputable abbrev XK:=Value->Option Addr->Hp->Prop
noncomputable abbrev St:=List (Option V)
noncomputable abbrev VK:=V->Hp->Prop
noncomputable abbrev TE:=St->Hp->VK->Prop
noncomputable abbrev TT:=St->Hp->(Bool->Hp->Prop)->Prop
noncomputable abbrev TA:=St->Hp->(List V->Hp->Prop)->Prop
structure Ends where
 nx:St->Hp->Prop
 rt:VK
 bk:St->Hp->Prop:=fun _ _=>False
 ct:St->Hp->Prop:=fun _ _=>False
noncomputable abbrev TS:=Ends->St->Hp->Prop
def EP (X:Cx) (pins:List (Addr × Obj)) (σ:St) (Q:VK) (u:Value) (s':Shared):Prop:=∃ v H',Inv X pins σ H' s'/\RelV v u/\Q v H'
def TP (X:Cx) (pins:List (Addr × Obj)) (σ:St) (Q:Bool->Hp->Prop) (b:Bool) (s':Shared):Prop:=∃ H',Inv X pins σ H' s'/\Q b H'
def AP (X:Cx) (pins:List (Addr × Obj)) (σ:St) (Q:List V->Hp->Prop) (us:List Value) (s':Shared):Prop:=∃ vs H',Inv X pins σ H' s'/\Vals vs us/\Q vs H'
def SP (X:Cx) (pins:List (Addr × Obj)) (D:Ends) (f:Flow) (s':Shared):Prop :=
 match f with
 | .next=>∃ σ' H',Inv X pins σ' H' s'/\D.nx σ' H'
 | .brk=>∃ σ' H',Inv X pins σ' H' s'/\D.bk σ' H'
 | .cont=>∃ σ' H',Inv X pins σ' H' s'/\D.ct σ' H'
 | .ret u=>∃ v σ' H',Inv X pins σ' H' s'/\RelV v u/\D.rt v H'
def PE (X:Cx) (e:Expr) (t:TE):Prop :=
 ∀ (pins:List (Addr × Obj)) (s:Shared) (σ:St) (H:Hp) (Q:VK),Inv X pins σ H s->t σ H Q->wpAny (model X.prog X.w) X.A (eval e X.env) (EP X pins σ Q) X.xe s
def PT (X:Cx) (e:Expr) (t:TT):Prop :=
 ∀ (pins:List (Addr × Obj)) (s:Shared) (σ:St) (H:Hp) (Q:Bool->Hp->Prop),Inv X pins σ H s->t σ H Q->wpAny (model X.prog X.w) X.A (isTrue e X.env (eval e X.env)) (TP X pins σ Q) X.xe s
def PW (X:Cx) (e:Expr) (t:TT):Prop :=
 ∀ (whole:Sem Value) (pins:List (Addr × Obj)) (s:Shared) (σ:St) (H:Hp) (Q:Bool->Hp->Prop),Inv X pins σ H s->t σ H Q->wpAny (model X.prog X.w) X.A (isTrue e X.env whole) (TP X pins σ Q) X.xe s
theorem PW.pt {X:Cx} {e:Expr} {t:TT} (h:PW X e t):PT X e t:=h _
def PA (X:Cx) (es:List Expr) (t:TA):Prop :=
 ∀ (pos:Pos) (pins:List (Addr × Obj)) (s:Shared) (σ:St) (H:Hp) (Q:List V->Hp->Prop),Inv X pins σ H s->t σ H Q->wpAny (model X.prog X.w) X.A (spliced (backTo pos (starEach es X.env))) (AP X pins σ Q) X.xe s
def PS (X:Cx) (st:Stmt) (t:TS):Prop :=
 ∀ (pins:List (Addr × Obj)) (s:Shared) (σ:St) (H:Hp) (D:Ends),Inv X pins σ H s->t D σ H->wpAny (model X.prog X.w) X.A (exec st X.env) (SP X pins D) X.xe s
def PSs (X:Cx) (st:List Stmt) (t:TS):Prop :=
 ∀ (pins:List (Addr × Obj)) (s:Shared) (σ:St) (H:Hp) (D:Ends),Inv X pins σ H s->t D σ H->wpAny (model X.prog X.w) X.A (execs st X.env) (SP X pins D) X.xe s
theorem thn {α:Type} {t:Sem α} {Q Q' : α->Shared->Prop} {M:Model} {A:Around} {E:Value->Shared->Prop} {s:Shared} (h:wpAny M A t Q E s) (hQ:∀ a s,Q a s->Q' a s):wpAny M A t Q' E s:=wpAny_mono h hQ fun _ _ x=>x
section
variable {X:Cx}
def tVar (i:Nat):TE:=fun σ H Q=>∃ v,σ[i]?=some (some v)/\Q v H
def tC (v:V):TE:=fun _ H Q=>Q v H
theorem aw1 {i:Nat} {x:Str} {pos:Pos} (hN:X.N[i]?=some x) (hv:Vis X.env.scope x) (hd:(x == ("__debug__" : Str))=false:=by decide) (hcd:(x == ("__classdict__" : Str))=false:=by decide):PE X (.Name x pos) (tVar i):=by
 intro pins s σ H Q I h
 obtain ⟨v,e,h⟩:=h
 obtain ⟨m,hn,hl⟩:=I.loc
 obtain ⟨u,r,l⟩:=hl i x v hN e hv
 have fin:EP X pins σ Q u s:=⟨v,H,I,r,h⟩
 rcases l with ⟨hk,hm⟩ | ⟨hk,c,hc,hcell⟩
 ·exact wpAny_Name (wpAny_loadName_local I.ok.kind hk hn hm fin) hd
 ·rcases hk with hk | hk
  ·exact wpAny_Name (wpAny_loadName_cell I.ok.kind hk hc hcell fin) hd
  ·exact wpAny_Name (wpAny_loadName_free I.ok.kind hk hc hcell fin hcd) hd
theorem aae {i j pos}:PE X (.Constant (.int i) j pos) (tC (.int i)):=fun _ _ _ H _ I h=>wpAny_Constant_int ⟨.int i,H,I.tok _,⟨_,rfl⟩,h⟩
theorem ad1 {b j pos}:PE X (.Constant (.bool b) j pos) (tC (.bl b)):=fun _ _ _ H _ I h=>Constant_bool ⟨.bl b,H,I,rfl,h⟩
theorem aea {j pos}:PE X (.Constant .none j pos) (tC .non):=fun _ _ _ H _ I h=>Constant_none ⟨.non,H,I,rfl,h⟩
def Gl (X:Cx) (x:Str):Prop:=X.env.kindOf x=some .globalImplicit
theorem aur {E:Value->Shared->Prop} {pins:List (Addr × Obj)} {s:Shared} {σ:St} {H:Hp} {x:Str} {u:Value} {pos:Pos} {Q:Value->Shared->Prop} (I:Inv X pins σ H s) (hg:Gl X x) (hm:X.mg x=some u) (h:Q u s)
  (hd:(x == ("__debug__" : Str))=false:=by decide):wpAny (model X.prog X.w) X.A (eval (.Name x pos) X.env) Q E s :=
 Calls.Name_function_global I.ok.kind hg (Calls.loadGlobal_global (by rw [I.ok.glob];exact I.mod.glob.keeps I.bk) hm h) hd
theorem acs {E:Value->Shared->Prop} {pins:List (Addr × Obj)} {s:Shared} {σ:St} {H:Hp} {x:Str} {u:Value} {pos:Pos} {Q:Value->Shared->Prop} (I:Inv X pins σ H s) (hg:Gl X x) (hm:X.mg x=none) (hv:bootBuiltins x=some u) (h:Q u s)
  (hn:x ≠ "__name__":=by decide) (hd:(x == ("__debug__" : Str))=false:=by decide):wpAny (model X.prog X.w) X.A (eval (.Name x pos) X.env) Q E s:=by
 obtain ⟨mb,h1,h2⟩:=I.mod.blt
 exact Calls.Name_function_global I.ok.kind hg (Calls.loadGlobal_builtin (by rw [I.ok.glob];exact I.mod.glob.keeps I.bk) hm (by rw [I.ok.blt];exact h1.keeps I.bk) ((h2 x hn).trans hv) h) hd
theorem aga {x:Str} {v:V} {u:Value} {pos:Pos} (hg:Gl X x) (hm:X.mg x=none) (hv:bootBuiltins x=some u) (r:RelV v u) (hn:x ≠ "__name__":=by decide) (hd:(x == ("__debug__" : Str))=false:=by decide):PE X (.Name x pos) (tC v) :=
 fun _ _ _ H _ I h=>acs I hg hm hv ⟨v,H,I,r,h⟩ hn hd
variable {a b:Expr} {ta tb:TE} {pos:Pos}
def tB (t:TE):TT:=fun σ H Q=>t σ H fun x H1=>∃ c,x=.bl c/\Q c H1
theorem aci {e:Expr} {t:TE} (h:PE X e t) (he:∀ whole,isTrue e X.env whole=(do let v ← whole;standAt e.pos;holding [v] (truthy v)):=by intro _;rfl):PT X e (tB t):=by
 intro pins s σ H Q I hw
 refine isTrue_plain (thn (h pins s σ H _ I hw) fun v s1 ⟨x,H1,I1,r1,q1⟩=>?_) (he _)
 obtain ⟨d,rfl,q⟩:=q1
 cases r1
 exact wpAny_truthy_bool ⟨H1,I1,q⟩
variable {tA tB':TT} {rest:List Expr}
def tAnd (t u:TT):TT:=fun σ H Q=>t σ H fun c H1=>if c=true then u σ H1 Q else Q false H1
def tOr (t u:TT):TT:=fun σ H Q=>t σ H fun c H1=>if c=true then Q true H1 else u σ H1 Q
def tNot (t:TT):TT:=fun σ H Q=>t σ H fun c H1=>Q (!c) H1
theorem aus (ha:PT X a tA):PW X (.BoolOp .And [a] pos) tA:=by
 intro wh pins s σ H Q I h
 refine isTrue_and (thn (ha pins s σ H Q I h) fun c s1 e=>?_)
 cases c with
 | true=>exact isTrue_and_nil e
 | false=>exact e
theorem aew (ha:PT X a tA):PW X (.BoolOp .Or [a] pos) tA:=by
 intro wh pins s σ H Q I h
 refine isTrue_or (thn (ha pins s σ H Q I h) fun c s1 e=>?_)
 cases c with
 | false=>exact isTrue_or_nil e
 | true=>exact e
theorem aw2 (ha:PT X a tA) (hb:PW X (.BoolOp .And (b :: rest) pos) tB'):PW X (.BoolOp .And (a :: b :: rest) pos) (tAnd tA tB'):=by
 intro wh pins s σ H Q I h
 refine isTrue_and (thn (ha pins s σ H _ I h) fun c s1 ⟨H1,I1,q1⟩=>?_)
 cases c with
 | true=>exact hb wh pins s1 σ H1 Q I1 q1
 | false=>exact ⟨H1,I1,q1⟩
theorem ad2 (ha:PT X a tA) (hb:PW X (.BoolOp .Or (b :: rest) pos) tB'):PW X (.BoolOp .Or (a :: b :: rest) pos) (tOr tA tB'):=by
 intro wh pins s σ H Q I h
 refine isTrue_or (thn (ha pins s σ H _ I h) fun c s1 ⟨H1,I1,q1⟩=>?_)
 cases c with
 | true=>exact ⟨H1,I1,q1⟩
 | false=>exact hb wh pins s1 σ H1 Q I1 q1
theorem act (ha:PT X a tA):PT X (.UnaryOp .Not a pos) (tNot tA):=by
 intro pins s σ H Q I h
 exact isTrue_not (ha pins s σ H (fun c H1=>Q (!c) H1) I h)
def aon (ta tb:TE):TE:=fun σ H Q=>ta σ H fun x H1=>∃ c,x=.bl c/\if c=true then tb σ H1 Q else Q (.bl false) H1
def aoo (ta:TE):TE:=fun σ H Q=>ta σ H fun x H1=>∃ c,x=.bl c/\Q (.bl (!c)) H1
theorem aex {op} {t:TE} (h:PE X a t):PE X (.BoolOp op [a] pos) t:=fun pins s σ H Q I hw=>BoolOp_one (h pins s σ H Q I hw)
theorem adp (ha:PE X a ta) (hb:PE X (.BoolOp .And (b :: rest) pos) tb):PE X (.BoolOp .And (a :: b :: rest) pos) (aon ta tb):=by
 intro pins s σ H Q I h
 refine BoolOp_and (thn (ha pins s σ H _ I h) fun v s1 ⟨x,H1,I1,r1,q1⟩=>?_)
 obtain ⟨c,rfl,q1⟩:=q1
 cases r1
 refine wpAny_truthy_bool ?_
 cases c with
 | true=>exact hb pins s1 σ H1 Q I1 q1
 | false=>exact ⟨.bl false,H1,I1,rfl,q1⟩
theorem aw3 (ha:PE X a ta):PE X (.UnaryOp .Not a pos) (aoo ta):=by
 intro pins s σ H Q I h
 refine UnaryOp_ (thn (ha pins s σ H _ I h) fun v s1 ⟨x,H1,I1,r1,q1⟩=>?_)
 obtain ⟨c,rfl,q1⟩:=q1
 cases r1
 exact not_of (wpAny_truthy_bool ⟨.bl (!c),H1,I1,rfl,q1⟩)
end
def SqL (K:Frag) (H:Hp) (a:Addr) (xs:List V):Prop :=
 Rd H a (.lst xs) ∨
  ∃ (o:Obj) (its:Array Value) (n:Nat),K.lookup a=some o/\o.cls=.type "list"/\o.dict=none/\o.data=.seq its n/\its.size<=sizeLine/\Vals xs its.toList
def SqT (K:Frag) (H:Hp) (a:Addr) (xs:List V):Prop :=
 Rd H a (.tup xs) ∨
  ∃ (o:Obj) (its:Array Value) (n:Nat),K.lookup a=some o/\o.cls=.type "tuple"/\o.data=.seq its n/\its.size<=sizeLine/\Vals xs its.toList
noncomputable def absV:Value->Option V
 | .none=>some .non
 | .bool b=>some (.bl b)
 | .int i _=>some (.int i)
 | .str x _=>some (.str x)
 | .bytes b _=>some (.byt b)
 | .float b _=>some (.flt b)
 | .ref a=>some (.ref a)
 | .type n=>some (.ty n)
 | _=>none
theorem RelV.abs {x:V} {u:Value} (r:RelV x u):absV u=some x:=by
 cases x with
 | non=>cases r;rfl
 | bl _=>cases r;rfl
 | int _=>obtain ⟨t,rfl⟩:=r;rfl
 | str _=>obtain ⟨t,rfl⟩:=r;rfl
 | byt _=>obtain ⟨t,rfl⟩:=r;rfl
 | flt _=>obtain ⟨t,rfl⟩:=r;rfl
 | ref _=>cases r;rfl
 | ty _=>cases r;rfl
theorem RelV.inj {x y:V} {u:Value} (r:RelV x u) (q:RelV y u):x=y:=Option.some.inj (r.abs.symm.trans q.abs)
theorem Vals.inj:∀ {xs ys:List V} {us:List Value},Vals xs us->Vals ys us->xs=ys
 | _,_,_,.nil,.nil=>rfl
 | _,_,_,.cons r t,.cons r' t'=>by rw [r.inj r',Vals.inj t t']
section
variable {X:Cx} {pins:List (Addr × Obj)} {σ:St} {H:Hp} {s:Shared} {a:Addr} {xs ys:List V}
theorem SqL.of {K:Frag} (h:H a=some (.lst xs)):SqL K H a xs:=.inl (.inl h)
theorem SqT.of {K:Frag} (h:H a=some (.tup xs)):SqT K H a xs:=.inl (.inl h)
theorem Inv.list (I:Inv X pins σ H s) (h:SqL X.K H a xs):∃ its:List Value,Vals xs its/\PlainL s.heap a its.toArray/\xs.length<=sizeLine:=by
 rcases h with h | ⟨o,its,n,hk,hc,hd,hs,hz,r⟩
 ·obtain ⟨z,its,n,r,e⟩:=h.ok I.hok
  exact ⟨its,r,⟨_,n,e,rfl,rfl,rfl⟩,z⟩
 ·refine ⟨its.toList,r,⟨o,n,I.kIn a o hk,hc,hd,by simpa using hs⟩,?_⟩
  have e:=r.length
  simp only [Array.length_toList] at e
  omega
theorem Inv.tuple (I:Inv X pins σ H s) (h:SqT X.K H a xs):∃ its:List Value,Vals xs its/\IsTup s.heap a its.toArray/\xs.length<=sizeLine:=by
 rcases h with h | ⟨o,its,n,hk,hc,hs,hz,r⟩
 ·obtain ⟨z,its,r,p⟩:=h.ok I.hok
  exact ⟨its,r,p,z⟩
 ·refine ⟨its.toList,r,⟨o,I.kIn a o hk,hc,n,by simpa using hs⟩,?_⟩
  have e:=r.length
  simp only [Array.length_toList] at e
  omega
theorem Inv.list_inj (I:Inv X pins σ H s) (h:SqL X.K H a xs) (h':SqL X.K H a ys):xs=ys:=by
 obtain ⟨its,r,⟨o,n,e,_,_,d⟩,_⟩:=I.list h
 obtain ⟨its',r',⟨o',n',e',_,_,d'⟩,_⟩:=I.list h'
 rw [e] at e';cases e'
 rw [d] at d'
 injection d' with d1 _
 have:its=its':=by simpa using congrArg Array.toList d1
 subst this
 exact r.inj r'
end
noncomputable abbrev Cx.wish (X:Cx) (E:Value->Shared->Prop):Cx:={ X with xe:=E }
noncomputable abbrev Cx.nox (X:Cx):Cx:=X.wish fun _ _=>False
theorem Cx.Ok.wish {X:Cx} (ok:X.Ok) (E:Value->Shared->Prop):(X.wish E).Ok :=
 ⟨ok.mod,ok.kind,ok.glob,ok.blt,ok.above,ok.inj,ok.has,ok.cab,ok.hd,ok.frames,ok.stk,ok.exf,ok.bs,ok.bsz,ok.noex,ok.exfs,ok.funs,ok.frf⟩
theorem Cx.Ok.unwish {X:Cx} {E:Value->Shared->Prop} (ok:(X.wish E).Ok):X.Ok :=
 ⟨ok.mod,ok.kind,ok.glob,ok.blt,ok.above,ok.inj,ok.has,ok.cab,ok.hd,ok.frames,ok.stk,ok.exf,ok.bs,ok.bsz,ok.noex,ok.exfs,ok.funs,ok.frf⟩
section
variable {X:Cx} {pins:List (Addr × Obj)} {σ:St} {H:Hp} {s:Shared} {E:Value->Shared->Prop}
theorem Inv.wish (I:Inv X pins σ H s) (E:Value->Shared->Prop):Inv (X.wish E) pins σ H s:=⟨I.ok.wish E,I.os,I.bare,I.base,I.loc,I.cell,I.free,I.freeC,I.pin,I.hok,I.len⟩
theorem Inv.unwish (I:Inv (X.wish E) pins σ H s):Inv X pins σ H s:=⟨I.ok.unwish,I.os,I.bare,I.base,I.loc,I.cell,I.free,I.freeC,I.pin,I.hok,I.len⟩
theorem SP.unwish {D:Ends} {f:Flow} {s':Shared} (h:SP (X.wish E) pins D f s'):SP X pins D f s':=by
 cases f with
 | next=>obtain ⟨σ',H',I,q⟩:=h;exact ⟨σ',H',I.unwish,q⟩
 | brk=>obtain ⟨σ',H',I,q⟩:=h;exact ⟨σ',H',I.unwish,q⟩
 | cont=>obtain ⟨σ',H',I,q⟩:=h;exact ⟨σ',H',I.unwish,q⟩
 | ret u=>obtain ⟨v,σ',H',I,r,q⟩:=h;exact ⟨v,σ',H',I.unwish,r,q⟩
theorem PSs.nox {st:List Stmt} {t:TS} (h:PSs X.nox st t):PSs X st t:=fun pins s σ H D I hw =>
 wpAny_mono (h pins s σ H D (I.wish _) hw) (fun _ _ q=>q.unwish) fun _ _ z=>False.elim z
end
section
variable {X:Cx} {st:Stmt} {rest:List Stmt} {t u:TS} {e:Expr} {te:TE} {pos:Pos}
def aty:TS:=fun D σ H=>D.nx σ H
def tSeq (t u:TS):TS:=fun D σ H=>t { D with nx:=u D } σ H
theorem aa3:PSs X [] aty:=fun _ _ σ H _ I h=>wpAny_execs_nil ⟨σ,H,I,h⟩
theorem aac (h1:PS X st t) (h2:PSs X rest u):PSs X (st :: rest) (tSeq t u):=by
 intro pins s σ H D I h
 refine wpAny_execs_cons (thn (h1 pins s σ H { D with nx:=u D } I h) fun f s1 q=>?_)
 cases f with
 | next =>
  obtain ⟨σ',H',I',q⟩:=q
  exact h2 pins s1 σ' H' D I' q
 | ret v=>exact q
 | brk=>exact q
 | cont=>exact q
theorem aaf (h1:PS X st t):PSs X [st] t:=by
 intro pins s σ H D I h
 refine wpAny_execs_cons (thn (h1 pins s σ H D I h) fun f s1 q=>?_)
 cases f with
 | next=>exact wpAny_execs_nil q
 | ret v=>exact q
 | brk=>exact q
 | cont=>exact q
theorem Inv.quiet {pins:List (Addr × Obj)} {σ:St} {H:Hp} {s:Shared} (I:Inv X pins σ H s):interactive X.env=false:=by simp [interactive,I.ok.kind]
def atz (te:TE):TS:=fun D σ H=>te σ H fun _ H1=>D.nx σ H1
theorem aba (he:PE X e te) (hs:swapsWith e none pos.line X.env=pure false:=by rfl):PS X (.Expr e pos) (atz te):=by
 intro pins s σ H D I h
 exact wpAny_Expr_any (thn (he pins s σ H _ I h) fun v s1 ⟨x,H1,I1,r1,q1⟩=>⟨σ,H1,I1,q1⟩) I.quiet hs
def tRet (te:TE):TS:=fun D σ H=>te σ H D.rt
theorem aan (he:PE X e te):PS X (.Return (some e) pos) (tRet te):=by
 intro pins s σ H D I h
 exact wpAny_Return_some (thn (he pins s σ H _ I h) fun v s1 ⟨x,H1,I1,r1,q1⟩=>⟨x,σ,H1,I1,r1,q1⟩)
def tIfS (c:TT) (t u:TS):TS:=fun D σ H=>c σ H fun b H1=>if b=true then t D σ H1 else u D σ H1
theorem abf {c:Expr} {a b:List Stmt} {tc:TT} (hc:PT X c tc) (ha:PSs X a t) (hb:PSs X b u):PS X (.If c a b pos) (tIfS tc t u):=by
 intro pins s σ H D I h
 refine wpAny_If (thn (hc pins s σ H _ I h) fun d s1 ⟨H1,I1,q1⟩=>?_)
 cases d with
 | true=>exact ha pins s1 σ H1 D I1 q1
 | false=>exact hb pins s1 σ H1 D I1 q1
def aw4:TS:=fun _ _ _=>False
theorem aeb:PS X st aw4:=fun _ _ _ _ _ _ h=>h.elim
end
noncomputable abbrev TG:=V->St->Hp->(St->Hp->Prop)->Prop
noncomputable abbrev TGs:=List V->St->Hp->(St->Hp->Prop)->Prop
def PG (X:Cx) (target:Expr) (t:TG):Prop :=
 ∀ (pins:List (Addr × Obj)) (s:Shared) (σ:St) (H:Hp) (v:V) (u:Value) (Q:St->Hp->Prop),Inv X pins σ H s->RelV v u->t v σ H Q ->
  wpAny (model X.prog X.w) X.A (assign target X.env u) (fun _ s'=>∃ σ' H',Inv X pins σ' H' s'/\Q σ' H') X.xe s
def PGs (X:Cx) (ts:List Expr) (t:TGs):Prop :=
 ∀ (pins:List (Addr × Obj)) (s:Shared) (σ:St) (H:Hp) (vs:List V) (us:List Value) (Q:St->Hp->Prop),Inv X pins σ H s->Vals vs us->t vs σ H Q ->
  wpAny (model X.prog X.w) X.A (assignInOrder ((assignEach ts X.env).map (·.2)) us) (fun _ s'=>∃ σ' H',Inv X pins σ' H' s'/\Q σ' H') X.xe s
noncomputable abbrev TSet:=V->V->V->Hp->(Hp->Prop)->Prop
def PSet (X:Cx) (t:TSet):Prop :=
 ∀ (pins:List (Addr × Obj)) (s:Shared) (σ:St) (H:Hp) (o i v:V) (ov iv u:Value) (Q:Hp->Prop),Inv X pins σ H s->RelV o ov->RelV i iv->RelV v u->t o i v H Q ->
  wpAny (model X.prog X.w) X.A (setItem ov iv u) (fun _ s'=>∃ H',Inv X pins σ H' s'/\Q H') X.xe s
section
variable {X:Cx} {pos:Pos}
def aay (i:Nat):TG:=fun v σ H Q=>Q (σ.set i (some v)) H
theorem aai {i:Nat} {x:Str} (hN:X.N.Nodup) (hi:X.N[i]?=some x) (hx:Loc X.env.scope x) (hf:X.fn x=true\/X.env.scope.names.lookup x=some .local:=by first | exact .inl rfl | exact .inr rfl | assumption):PG X (.Name x pos) (aay i):=by
 intro pins s σ H v u Q I r h
 exact wpAny_assign_Name (akg I hN hi hx r (fun s' I'=>⟨_,H,I',h⟩) hf)
def gNil:TGs:=fun vs σ H Q=>vs=[]/\Q σ H
def aby (t:TG) (u:TGs):TGs:=fun vs σ H Q=>∃ v r,vs=v :: r/\t v σ H fun σ' H'=>u r σ' H' Q
theorem abb:PGs X [] gNil:=by
 intro pins s σ H vs us Q I r h
 obtain ⟨e,h⟩:=h
 subst e
 cases r
 exact assignInOrder_nil ⟨σ,H,I,h⟩
theorem aao {e:Expr} {es:List Expr} {t:TG} {u:TGs} (h1:PG X e t) (h2:PGs X es u)
  (hs:(assignEach (e :: es) X.env).map (·.2)=assign e X.env :: (assignEach es X.env).map (·.2):=by rfl):PGs X (e :: es) (aby t u):=by
 intro pins s σ H vs us Q I r h
 obtain ⟨v,vr,e1,h⟩:=h
 subst e1
 cases r with
 | cons r rr =>
  rw [hs]
  refine assignInOrder_cons (thn (h1 pins s σ H _ _ _ I r h) fun _ s1 ⟨σ1,H1,I1,q1⟩=>?_)
  exact h2 pins s1 σ1 H1 _ _ Q I1 rr q1
def gTup (K:Frag) (n:Nat) (t:TGs):TG:=fun v σ H Q=>∃ a xs,v=.ref a/\SqT K H a xs/\xs.length=n/\t xs σ H Q
theorem abm {es:List Expr} {k:Nat} {t:TGs} {n:Nat} (hc:X.calm=true) (h:PGs X es t)
  (hn:(assignEach es X.env).length=n:=by rfl) (hst:(assignEach es X.env).findIdx? (·.1)=none:=by rfl):PG X (.Tuple es k pos) (gTup X.K n t):=by
 intro pins s σ H v u Q I r hw
 obtain ⟨a,xs,e1,hq,hl,hw⟩:=hw
 subst e1
 cases r
 obtain ⟨its,rv,ht,hz⟩:=I.tuple hq
 refine assign_Tuple_tuple (I.ok.hd hc) ht (by simp [hn,← hl,rv.length]) hst fun h' hx=>?_
 have I1:Inv X pins σ H { s with heap:=h' }:=I.kept (t':=s.toks) fun b o e=>hx b o (Nat.ne_of_lt (Heap.lt_size e)) e
 exact h pins _ σ H xs _ Q I1 (by simpa using rv) hw
def gSub (to ti:TE) (t:TSet):TG:=fun v σ H Q=>to σ H fun o H1=>ti σ H1 fun i H2=>t o i v H2 fun H3=>Q σ H3
theorem ag9 {o i:Expr} {to ti:TE} {t:TSet} (ho:PE X o to) (hi:PE X i ti) (hs:PSet X t)
  (ha:∀ v,assign (.Subscript o i pos) X.env v=(do
   let ov ← holding [v] (eval o X.env)
   let iv ← holding [v,ov] (eval i X.env)
   standAt pos
   holding [v,ov,iv] (setItem ov iv v)
   release [v,ov,iv] []):=by intro _;rfl):PG X (.Subscript o i pos) (gSub to ti t):=by
 intro pins s σ H v u Q I r h
 rw [ha]
 refine wpAny_bind (wpAny_holding (thn (ho pins s σ H _ I h) fun ov s1 ⟨x,H1,I1,r1,q1⟩=>?_))
 refine wpAny_bind (wpAny_holding (thn (hi pins s1 σ H1 _ I1 q1) fun iv s2 ⟨y,H2,I2,r2,q2⟩=>?_))
 refine wpAny_bind (wpAny_standAt (wpAny_bind (wpAny_holding (thn (hs pins s2 σ H2 x y v ov iv u _ I2 r1 r2 r q2) fun _ s3 ⟨H3,I3,q3⟩=>?_))))
 exact wpAny_release ⟨σ,H3,I3,q3⟩
def tAsg (te:TE) (g:TG):TS:=fun D σ H=>te σ H fun x H1=>g x σ H1 D.nx
theorem ab1 {tg e:Expr} {te:TE} {g:TG} (he:PE X e te) (hg:PG X tg g) (hs:swapsWithSole [tg] e pos.line X.env=pure false:=by rfl) (hw:swappedStores [tg] e X.env=pure none:=by rfl)
  (h1:(assignEach [tg] X.env).map (·.2)=[assign tg X.env]:=by rfl):PS X (.Assign [tg] e pos) (tAsg te g):=by
 intro pins s σ H D I h
 refine wpAny_Assign_stores (thn (he pins s σ H _ I h) fun v s1 ⟨x,H1,I1,r1,q1⟩=>?_) hs hw
 rw [h1]
 exact thn (hg pins s1 σ H1 x v _ I1 r1 q1) fun _ s2 q=>q
theorem aar {i:Nat} {x:Str} {e:Expr} {te:TE} {pos':Pos} (hN:X.N.Nodup) (hi:X.N[i]?=some x) (hx:Loc X.env.scope x) (he:PE X e te) (hs:swapsWith e (some (.Name x pos')) pos.line X.env=pure false:=by rfl) (hf:X.fn x=true\/X.env.scope.names.lookup x=some .local:=by first | exact .inl rfl | exact .inr rfl | assumption) :
  PS X (.Assign [.Name x pos'] e pos) (tAsg te (aay i)):=by
 intro pins s σ H D I h
 refine wpAny_Assign_Name (thn (he pins s σ H _ I h) fun v s1 ⟨y,H1,I1,r1,q1⟩=>?_) hs
 exact akg I1 hN hi hx r1 (fun s2 I2=>⟨_,H1,I2,q1⟩) hf
end
section
variable {X:Cx} {pos:Pos}
def apu (c:TT) (tb:TS):TS:=fun D σ H=>∃ W:Nat->St->Hp->Prop,(∃ m,W m σ H)/\∀ m σ H,W m σ H ->
 c σ H fun b H1=>if b=true then ∃ N:St->Hp->Prop,(∀ σ' H',N σ' H'->∃ m',m' < m/\W m' σ' H')/\tb { D with nx:=N,ct:=N,bk:=D.nx } σ H1 else D.nx σ H1
theorem akh {c:Expr} {body:List Stmt} {tc:TT} {tb:TS} (hp:PassesOwn (model X.prog X.w) X.A X.env X.xe) (hc:PT X c tc) (hb:PSs X body tb):PS X (.While c body [] pos) (apu tc tb):=by
 intro pins s σ H D I h
 obtain ⟨W,⟨m0,w0⟩,turn⟩:=h
 refine wpAny_While (codeAny_whileLoop (fun n s'=>∃ σ' H',Inv X pins σ' H' s'/\W n σ' H') ?_ m0 ⟨σ,H,I,w0⟩)
 rintro n s1 ⟨σ1,H1,I1,w1⟩
 refine wpAny_passesOwn hp (thn (hc pins s1 σ1 H1 _ I1 (turn n σ1 H1 w1)) fun b s2 ⟨H2,I2,q2⟩=>?_)
 cases b with
 | true =>
  obtain ⟨N,hN,q2⟩:=q2
  rw [if_pos rfl]
  refine wpAny_passesOwn hp (thn (hb pins s2 σ1 H2 _ I2 q2) fun f s3 q3=>?_)
  cases f with
  | next =>
   obtain ⟨σ3,H3,I3,n3⟩:=q3
   obtain ⟨m',hm,w3⟩:=hN σ3 H3 n3
   exact ⟨m',hm,σ3,H3,I3,w3⟩
  | cont =>
   obtain ⟨σ3,H3,I3,n3⟩:=q3
   obtain ⟨m',hm,w3⟩:=hN σ3 H3 n3
   exact ⟨m',hm,σ3,H3,I3,w3⟩
  | brk=>exact q3
  | ret v=>exact q3
 | false =>
  rw [if_neg Bool.false_ne_true]
  exact wpAny_execs_nil ⟨σ1,H2,I2,q2⟩
end
structure It where
 go:Nat->Hp->Prop
 yld:Nat->Hp->V->Hp->Prop
 stop:Nat->Hp->Prop
def FpOk (X:Cx) (pins:List (Addr × Obj)) (H:Hp) (b:Addr):Prop :=
 H b=none/\b ≠ X.env.locals/\b ∉ X.fs/\(b∈X.ex\/X.s₀.heap.objs.size<=b)/\(∀ x c,X.env.cells.lookup x=some c->c ≠ b)/\∀ p∈X.pn ++ pins,p.1 ≠ b
theorem Inv.fpOk {X:Cx} {pins:List (Addr × Obj)} {σ:St} {H H':Hp} {s:Shared} {b:Addr} (I:Inv X pins σ H s) (hb:s.heap.objs.size<=b) (hn:H' b=none):FpOk X pins H' b:=by
 refine ⟨hn,Nat.ne_of_gt (Nat.lt_of_lt_of_le I.lt hb),I.nofs hb,.inr (Nat.le_trans I.sz hb),fun x c e z=>?_,fun p hp z=>?_⟩
 ·obtain ⟨v,q⟩:=I.cell x c e
  exact absurd (Nat.lt_of_lt_of_le q.lt (by rw [z];exact hb)) (Nat.lt_irrefl _)
 ·exact absurd (Nat.lt_of_lt_of_le (Heap.lt_size (I.pin p hp).1) (by rw [z];exact hb)) (Nat.lt_irrefl _)
structure Turn (P:Program) (w:World) (K:Frag) (tg:Expr) (J:It) (fp:List Addr) (it:Addr) (tn:Nat->Heap->Prop):Prop where
 mem:it∈fp
 obj:∀ i h,tn i h->∀ b∈fp,∃ o,h.get? b=some o/\∀ v,o.data ≠ .cell v
 keep:∀ i h h',tn i h->(∀ b∈fp,∀ o,h.get? b=some o->h'.get? b=some o)->tn i h'
 item:∀ (X:Cx),X.prog=P->X.w=w->X.K=K->X.calm=true->∀ (i:Nat) (pins:List (Addr × Obj)) (s:Shared) (σ:St) (H:Hp) (E:Value->Shared->Prop),Inv X pins σ H s->(∀ b∈fp,FpOk X pins H b)->tn i s.heap->J.go i H ->
  wpAny (model P w) X.A (pyNext (.ref it)) (fun r s1=>∃ u,r=some u /\
   wpAny (model P w) X.A (letOwnedTupleGo tg (.ref it) u) (fun _ s2=>∃ x H',Inv X pins σ H' s2/\RelV x u/\J.yld i H x H'/\tn (i+1) s2.heap/\∀ b∈fp,H' b=none) E s1) E s
 done:∀ (X:Cx),X.prog=P->X.w=w->X.K=K->X.calm=true->∀ (i:Nat) (pins:List (Addr × Obj)) (s:Shared) (σ:St) (H:Hp) (E:Value->Shared->Prop),Inv X pins σ H s->(∀ b∈fp,FpOk X pins H b)->tn i s.heap->J.stop i H ->
  wpAny (model P w) X.A (pyNext (.ref it)) (fun r s1=>r=none/\Inv X pins σ H s1) E s
 self:∀ (A:Around) (i:Nat) (s:Shared) (Q:Value->Shared->Prop) (E:Value->Shared->Prop),tn i s.heap->Q (.ref it) s->wpAny (model P w) A (pyIter (.ref it)) Q E s
noncomputable abbrev TI:=St->Hp->(It->Hp->Prop)->Prop
def PIE (X:Cx) (pins:List (Addr × Obj)) (σ:St) (tg:Expr) (R:It->Hp->Prop) (itv:Value) (s2:Shared):Prop :=
 ∃ (it:Addr) (fp:List Addr) (tn:Nat->Heap->Prop) (J:It) (H':Hp),itv=.ref it/\Inv X pins σ H' s2/\Turn X.prog X.w X.K tg J fp it tn/\tn 0 s2.heap/\(∀ b∈fp,FpOk X pins H' b)/\R J H'
def PI (X:Cx) (tg iter:Expr) (wi:TI):Prop :=
 ∀ (pins:List (Addr × Obj)) (s:Shared) (σ:St) (H:Hp) (R:It->Hp->Prop),Inv X pins σ H s->wi σ H R ->
  wpAny (model X.prog X.w) X.A (eval iter X.env) (fun v s1=>wpAny (model X.prog X.w) X.A (pyIter v) (PIE X pins σ tg R) X.xe s1) X.xe s
theorem at3 {M:Model} {A:Around} {E:Value->Shared->Prop} {s:Shared} {tg:Expr} {it:Addr} {u:Value} {o:Obj} {n:String} {vs:Array Value} {Q:Unit->Shared->Prop} (ho:s.heap.get? it=some o) (hc:o.cls=.type n) (hd:o.data=.fields vs)
  (hn:["enumerate","zip","dict_itemiterator","dict_reverseitemiterator","odict_iterator","itertools.zip_longest","itertools.pairwise"].contains n=false) (hQ:Q () s):wpAny M A (letOwnedTupleGo tg (.ref it) u) Q E s:=by
 unfold letOwnedTupleGo
 cases tg <;> first
  | exact wpAny_pure hQ
  | (cases u <;> first
    | exact wpAny_pure hQ
    | (refine wpAny_bind (wpAny_load ho ?_)
       rw [hc,hd]
       show wpAny M A (if (["enumerate","zip","dict_itemiterator","dict_reverseitemiterator","odict_iterator","itertools.zip_longest","itertools.pairwise"].contains n && vs[0]? == some (rawInt _))=true then _ else _) Q E s
       rw [if_neg (by intro h;rw [hn,Bool.false_and] at h;cases h)]
       exact wpAny_pure hQ))
noncomputable def Itl (K:Frag) (a:Addr):It :=
 ⟨fun i H=>∃ xs x,SqL K H a xs/\xs[i]?=some x,fun i H x H'=>H'=H/\∀ xs,SqL K H a xs->xs[i]?=some x,fun i H=>∃ xs,SqL K H a xs/\xs.length<=i⟩
noncomputable def Itr (lo:Int) (n:Nat):It:=⟨fun i _=>i < n,fun i H x H'=>H'=H/\x=.int (lo+i),fun i _=>n<=i⟩
theorem apv {P:Program} {w:World} {K:Frag} {tg:Expr} (a it:Addr):Turn P w K tg (Itl K a) [it] it (fun i h=>h.IsListIter it a i) where
 mem:=by simp
 obj:=fun i h st b hb=>by
  have e:b=it:=by simpa using hb
  subst e
  obtain ⟨o,e,c,d⟩:=st
  exact ⟨o,e,fun v z=>by rw [d] at z;cases z⟩
 keep:=fun i h h' st k=>st.at fun o e=>k it (by simp) o e
 item:=by
  intro X hP hw hK hc i pins s σ H E I hf st hg
  subst hP hw hK
  obtain ⟨xs,x,hq,hx⟩:=hg
  obtain ⟨its,rv,p,hz⟩:=I.list hq
  obtain ⟨u,hu,ru⟩:=rv.get hx
  obtain ⟨f0,f1,f2,f3,f4,f5⟩:=hf it (by simp)
  refine wpAny_pyNext_list_item st p.isList (x:=u) (by simpa using hu) fun h' st' sb=>?_
  have I1:Inv X pins σ H { s with heap:=h' }:=I.turned (t':=s.toks) (fun b o hb e=>(sb.2 b hb).trans e) f0 f1 f3 f4 f5
  obtain ⟨o,e,c,d⟩:=id st'
  exact ⟨u,rfl,at3 (s:={ s with heap:=h' }) e c d (by decide) ⟨x,H,I1,ru,⟨rfl,fun ys hy=>by rw [I.list_inj hy hq];exact hx⟩,st',fun b hb=>(hf b hb).1⟩⟩
 done:=by
  intro X hP hw hK hc i pins s σ H E I hf st hg
  subst hP hw hK
  obtain ⟨xs,hq,hx⟩:=hg
  obtain ⟨its,rv,p,hz⟩:=I.list hq
  obtain ⟨f0,f1,f2,f3,f4,f5⟩:=hf it (by simp)
  have hl:=rv.length
  exact wpAny_pyNext_list_end (I.ok.hd hc) st p.isList (by simp;omega) fun h' eb=>⟨rfl,I.turned (t':=s.toks) (fun b o hb e=>eb b o hb e) f0 f1 f3 f4 f5⟩
 self:=fun _ _ _ _ _ st h=>wpAny_pyIter_listiter st h
theorem aop {P:Program} {w:World} {K:Frag} {tg:Expr} (it:Addr) (lo:Int) (n:Nat):Turn P w K tg (Itr lo n) [it] it (fun i h=>IsRangeIter h it (lo+(i:Nat) * 1) ((n:Int) - (i:Nat)) 1) where
 mem:=by simp
 obj:=fun i h st b hb=>by
  have e:b=it:=by simpa using hb
  subst e
  exact ⟨_,st,fun v z=>by
   have z':Data.fields _=Data.cell v:=z
   cases z'⟩
 keep:=fun i h h' st k=>k it (by simp) _ st
 item:=by
  intro X hP hw hK hc i pins s σ H E I hf st hg
  subst hP hw hK
  obtain ⟨f0,f1,f2,f3,f4,f5⟩:=hf it (by simp)
  have W:=Walks.range (prog:=X.prog) (w:=X.w) (I.ok.hd hc) it lo 1 n
  refine W.item i s _ _ hg st fun v h' tk hv st' kk=>?_
  obtain ⟨t,rfl⟩:=hv
  have I1:Inv X pins σ H { s with heap:=h',toks:=tk }:=I.turned (fun b o hb e=>kk b o (by simpa using hb) e) f0 f1 f3 f4 f5
  refine ⟨_,rfl,at3 (s:={ s with heap:=h',toks:=tk }) (n:="range_iterator") st' rfl rfl (by decide) ⟨.int (lo+i),H,I1,⟨t,?_⟩,⟨rfl,rfl⟩,st',fun b hb=>(hf b hb).1⟩⟩
  rw [Int.mul_one]
 done:=by
  intro X hP hw hK hc i pins s σ H E I hf st hg
  subst hP hw hK
  obtain ⟨f0,f1,f2,f3,f4,f5⟩:=hf it (by simp)
  exact wpAny_pyNext_range_end (I.ok.hd hc) st (by have:n<=i:=hg;omega) fun h' eb=>⟨rfl,I.turned (t':=s.toks) (fun b o hb e=>eb b o hb e) f0 f1 f3 f4 f5⟩
 self:=fun _ _ _ _ _ st h=>wpAny_pyIter_rangeiter st h
section
variable {X:Cx} {tg:Expr}
def at4 (K:Frag) (tl:TE):TI:=fun σ H R=>tl σ H fun x H1=>∃ a,x=.ref a/\(∃ xs,SqL K H1 a xs)/\R (Itl K a) H1
theorem abk {l:Expr} {tl:TE} (hl:PE X l tl):PI X tg l (at4 X.K tl):=by
 intro pins s σ H R I h
 refine thn (hl pins s σ H _ I h) fun v s1 ⟨x,H1,I1,r1,q1⟩=>?_
 obtain ⟨a,e,⟨xs,hq⟩,q⟩:=q1
 subst e
 cases r1
 obtain ⟨its,rv,p,hz⟩:=I1.list hq
 refine wpAny_pyIter_list p.isList ?_
 refine ⟨s1.heap.objs.size,[s1.heap.objs.size],_,_,H1,rfl,I1.kept (t':=s1.toks) fun b o e=>Heap.get?_push_of_some _ e,apv a _,⟨_,Heap.get?_push_size _ rfl,rfl,rfl⟩,fun b hb=>?_,q⟩
 have e:b=s1.heap.objs.size:=by simpa using hb
 subst e
 exact I1.fpOk (Nat.le_refl _) (I1.hok.fresh (Nat.le_refl _))
theorem aki {pins:List (Addr × Obj)} {σ:St} {H:Hp} {s:Shared} {R:It->Hp->Prop} {E:Value->Shared->Prop} {lo hi:Int} {t u v:Tok} {tk:Nat} (I:Inv X pins σ H s) (h1 : -(2 ^ 62)<=lo) (h2:lo < 2 ^ 62) (h3 : -(2 ^ 62)<=hi) (h4:hi < 2 ^ 62)
  (q:R (Itr lo (hi - lo).toNat) H):wpAny (model X.prog X.w) X.A (pyIter (.ref s.heap.objs.size)) (PIE X pins σ tg R) E { s with heap:=s.heap.push { cls:=.type "range",data:=.fields #[.int lo t,.int hi u,.int 1 v] },toks:=tk }:=by
 refine wpAny_pyIter_range (IsRange.new ..) (small_one h1 h2 h3 h4) ?_
 have I1:Inv X pins σ H { s with heap:=s.heap.push { cls:=.type "range",data:=.fields #[.int lo t,.int hi u,.int 1 v] },toks:=tk }:=I.kept fun b o e=>Heap.get?_push_of_some _ e
 refine ⟨(s.heap.push { cls:=.type "range",data:=.fields #[.int lo t,.int hi u,.int 1 v] }).objs.size,[(s.heap.push { cls:=.type "range",data:=.fields #[.int lo t,.int hi u,.int 1 v] }).objs.size],_,_,H,rfl,
  I1.kept (t':=tk) fun b o e=>Heap.get?_push_of_some _ e,aop _ lo (hi - lo).toNat,?_,fun b hb=>?_,q⟩
 ·have e1:lo+((0:Nat):Int) * 1=lo:=by simp
  have e2:(((hi - lo).toNat:Nat):Int) - ((0:Nat):Int)=Builtin.Range.rangeSize lo hi 1:=by rw [rangeSize_one];split <;> omega
  show IsRangeIter _ _ (lo+((0:Nat):Int) * 1) ((((hi - lo).toNat:Nat):Int) - ((0:Nat):Int)) 1
  rw [e1,e2]
  exact Heap.get?_push_size _ rfl
 ·have e:b=(s.heap.push { cls:=.type "range",data:=.fields #[.int lo t,.int hi u,.int 1 v] }).objs.size:=by simpa using hb
  subst e
  exact I1.fpOk (Nat.le_refl _) (I1.hok.fresh (Nat.le_refl _))
def at5 (ta:TA):TI:=fun σ H R=>ta σ H fun vs H1=>∃ j:Int,vs=[.int j]/\-(2 ^ 62)<=j/\j < 2 ^ 62/\R (Itr 0 j.toNat) H1
def at6 (ta:TA):TI:=fun σ H R=>ta σ H fun vs H1=>∃ i j:Int,vs=[.int i,.int j]/\(-(2 ^ 62)<=i/\i < 2 ^ 62/\-(2 ^ 62)<=j/\j < 2 ^ 62)/\R (Itr i (j - i).toNat) H1
theorem acy {a:Expr} {ta:TA} {p pos:Pos} (hg:Gl X "range") (hm:X.mg "range" = none) (ha:PA X [a] ta) (hs:starEach [a] X.env=[(false,eval a X.env)]:=by rfl):PI X tg (.Call (.Name "range" p) [a] [] pos) (at5 ta):=by
 intro pins s σ H R I h
 refine Call_ (acs I hg hm boot_range (PyProof.Rows.callWith_type1 (thn (ha pos pins s σ H _ I h) fun us s1 ⟨vs,H1,I1,r1,q1⟩=>?_) hs rfl))
 obtain ⟨j,e,q1,q2,q⟩:=q1
 subst e
 cases r1 with
 | cons r rr =>
  cases rr
  obtain ⟨t,rfl⟩:=r
  exact call_range_1 (aki I1 (by omega) (by omega) q1 q2 (by simpa using q))
theorem aiu {a b:Expr} {ta:TA} {p pos:Pos} (hg:Gl X "range") (hm:X.mg "range" = none) (ha:PA X [a,b] ta) (hs:starEach [a,b] X.env=[(false,eval a X.env),(false,eval b X.env)]:=by rfl) (hs2:starEach [b] X.env=[(false,eval b X.env)]:=by rfl) :
  PI X tg (.Call (.Name "range" p) [a,b] [] pos) (at6 ta):=by
 intro pins s σ H R I h
 refine Call_ (acs I hg hm boot_range (PyProof.Rows.callWith_type1 (thn (ha pos pins s σ H _ I h) fun us s1 ⟨vs,H1,I1,r1,q1⟩=>?_) (by rw [hs,hs2]) (by rw [hs2];rfl)))
 obtain ⟨i,j,e,⟨q1,q2,q3,q4⟩,q⟩:=q1
 subst e
 cases r1 with
 | cons r rr =>
  cases rr with
  | cons r' rr =>
   cases rr
   obtain ⟨t,rfl⟩:=r
   obtain ⟨t',rfl⟩:=r'
   exact call_range_2 (aki I1 q1 q2 q3 q4 q)
def tFor (wi:TI) (g:TG) (tb:TS):TS:=fun D σ H=>wi σ H fun J H1=>∃ W:Nat->Nat->St->Hp->Prop,(∃ m,W 0 m σ H1)/\∀ i m σ H,W i m σ H ->
 (J.stop i H/\D.nx σ H)\/(J.go i H/\∃ N:St->Hp->Prop,(∀ σ' H',N σ' H'->∃ m',m' < m/\W (i+1) m' σ' H')/\∀ x H',J.yld i H x H'->g x σ H' fun σ2 H2=>tb { D with nx:=N,ct:=N,bk:=D.nx } σ2 H2)
noncomputable def aec (fp:List Addr) (h:Heap):List (Addr × Obj):=fp.filterMap fun b=>(h.get? b).map fun o=>(b,o)
theorem abv {fp:List Addr} {h:Heap} {b:Addr} {o:Obj} (hb:b∈fp) (e:h.get? b=some o):(b,o)∈aec fp h:=List.mem_filterMap.mpr ⟨b,hb,by rw [e];rfl⟩
theorem apw {fp:List Addr} {h:Heap} {p:Addr × Obj} (hp:p∈aec fp h):p.1∈fp/\h.get? p.1=some p.2:=by
 obtain ⟨b,hb,e⟩:=List.mem_filterMap.mp hp
 cases q:h.get? b with
 | none=>rw [q] at e;cases e
 | some o =>
  rw [q] at e
  have e':(b,o)=p:=Option.some.inj e
  subst e'
  exact ⟨hb,q⟩
theorem Inv.pinned {pins:List (Addr × Obj)} {σ:St} {H:Hp} {s:Shared} {fp:List Addr} (I:Inv X pins σ H s) (hf:∀ b∈fp,FpOk X pins H b) (ho:∀ b∈fp,∃ o,s.heap.get? b=some o/\∀ v,o.data ≠ .cell v):Inv X (pins ++ aec fp s.heap) σ H s :=
 I.pins_of fun p hp=>(List.mem_append.mp hp).elim (fun z=>I.pin p (List.mem_append_right _ z)) fun z=>by
  obtain ⟨hb,e⟩:=apw z
  obtain ⟨f0,f1,f2,_⟩:=hf p.1 hb
  obtain ⟨o,e',d⟩:=ho p.1 hb
  rw [e] at e';cases e'
  exact ⟨e,f0,f1,f2,d⟩
theorem Inv.unpinned {pins pl:List (Addr × Obj)} {σ:St} {H:Hp} {s:Shared} (I:Inv X (pins ++ pl) σ H s):Inv X pins σ H s:=I.pins_of fun p hp=>I.pin p (List.mem_append_right _ (List.mem_append_left _ hp))
theorem aey {iter:Expr} {body:List Stmt} {wi:TI} {g:TG} {tb:TS} {pos:Pos} (hp:PassesOwn (model X.prog X.w) X.A X.env X.xe) (hc:X.calm=true) (hi:PI X tg iter wi) (hg:PG X tg g) (hb:PSs X body tb)
  (hs:∀ x,foldedSetIterable iter X.env x=pure x:=by intro _;rfl):PS X (.For tg iter body [] pos) (tFor wi g tb):=by
 intro pins s σ H D I h
 refine wpAny_For (thn (hi pins s σ H _ I h) fun v s1 h1=>thn h1 fun itv s2 h2=>?_) hs
 obtain ⟨it,fp,tn,J,H2,e,I2,T,st2,f2,W,⟨m0,w0⟩,turn⟩:=h2
 subst e
 -- what stays true of the iterator's objects through the loop
 have stat:∀ {H':Hp},(∀ b∈fp,H' b=none)->∀ b∈fp,FpOk X pins H' b:=fun hn b hb=>⟨hn b hb,(f2 b hb).2⟩
 refine codeAny_forLoop_any (fun n s'=>∃ i σ' H',Inv X pins σ' H' s'/\tn i s'.heap/\(∀ b∈fp,H' b=none)/\W i n σ' H') ?_ m0 ⟨0,σ,H2,I2,st2,fun b hb=>(f2 b hb).1,w0⟩
 rintro n s3 ⟨i,σ3,H3,I3,st3,fr3,w3⟩
 rcases turn i n σ3 H3 w3 with ⟨stop,qn⟩ | ⟨go,N,hN,step⟩
 ·refine wpAny_passesOwn hp (thn (T.done X rfl rfl rfl hc i pins s3 σ3 H3 X.xe I3 (stat fr3) st3 stop) fun r s4 ⟨hr,I4⟩=>?_)
  subst hr
  exact wpAny_execs_nil ⟨σ3,H3,I4,qn⟩
 ·refine wpAny_passesOwn hp (thn (T.item X rfl rfl rfl hc i pins s3 σ3 H3 X.xe I3 (stat fr3) st3 go) fun r s4 ⟨u,hr,h4⟩=>?_)
  subst hr
  refine wpAny_passesOwn hp (thn h4 fun _ s5 ⟨x,H5,I5,r5,y5,st5,fr5⟩=>?_)
  have I5':=I5.pinned (stat fr5) (T.obj _ _ st5)
  refine wpAny_passesOwn hp (thn (hg _ s5 σ3 H5 x u _ I5' r5 (step x H5 y5)) fun _ s6 ⟨σ6,H6,I6,q6⟩=>?_)
  refine wpAny_passesOwn hp (thn (hb _ s6 σ6 H6 _ I6 q6) fun f s7 q7=>?_)
  have again:∀ {σ7:St} {H7:Hp},Inv X (pins ++ aec fp s5.heap) σ7 H7 s7->N σ7 H7->∃ m,m < n/\∃ i σ' H',Inv X pins σ' H' s7/\tn i s7.heap/\(∀ b∈fp,H' b=none)/\W i m σ' H':=fun {σ7 H7} I7 n7=>by
   obtain ⟨m',hm,w7⟩:=hN σ7 H7 n7
   refine ⟨m',hm,i+1,σ7,H7,I7.unpinned,T.keep _ _ _ st5 fun b hb o e=>(I7.pin (b,o) (List.mem_append_right _ (List.mem_append_right _ (abv hb e)))).1,fun b hb=>?_,w7⟩
   obtain ⟨o,e,d⟩:=T.obj _ _ st5 b hb
   exact (I7.pin (b,o) (List.mem_append_right _ (List.mem_append_right _ (abv hb e)))).2.1
  cases f with
  | next=>obtain ⟨σ7,H7,I7,n7⟩:=q7;exact again I7 n7
  | cont=>obtain ⟨σ7,H7,I7,n7⟩:=q7;exact again I7 n7
  | brk=>obtain ⟨σ7,H7,I7,q7⟩:=q7;exact ⟨σ7,H7,I7.unpinned,q7⟩
  | ret v=>obtain ⟨x7,σ7,H7,I7,r7,q7⟩:=q7;exact ⟨x7,σ7,H7,I7.unpinned,r7,q7⟩
end
noncomputable abbrev R2:=V->V->Hp->VK->Prop
def OpR (X:Cx) (f:Value->Value->Sem Value) (r:R2):Prop :=
 ∀ (pins:List (Addr × Obj)) (s:Shared) (σ:St) (H:Hp) (x y:V) (v u:Value) (Q:VK),Inv X pins σ H s->RelV x v->RelV y u->r x y H Q ->
  wpAny (model X.prog X.w) X.A (f v u) (EP X pins σ Q) X.xe s
def UnR (X:Cx) (f:Value->Sem Value) (r:V->Hp->VK->Prop):Prop :=
 ∀ (pins:List (Addr × Obj)) (s:Shared) (σ:St) (H:Hp) (x:V) (v:Value) (Q:VK),Inv X pins σ H s->RelV x v->r x H Q ->
  wpAny (model X.prog X.w) X.A (f v) (EP X pins σ Q) X.xe s
def aa7 (X:Cx) (f:Value) (r:List V->Hp->VK->Prop):Prop :=
 ∀ (pins:List (Addr × Obj)) (s:Shared) (σ:St) (H:Hp) (xs:List V) (us:List Value) (Q:VK),Inv X pins σ H s->Vals xs us->r xs H Q ->
  wpAny (model X.prog X.w) X.A (call f us) (EP X pins σ Q) X.xe s
def TruR (X:Cx) (r:V->Hp->(Bool->Hp->Prop)->Prop):Prop :=
 ∀ (pins:List (Addr × Obj)) (s:Shared) (σ:St) (H:Hp) (x:V) (v:Value) (Q:Bool->Hp->Prop),Inv X pins σ H s->RelV x v->r x H Q ->
  wpAny (model X.prog X.w) X.A (truthy v) (TP X pins σ Q) X.xe s
def tOp (r:R2) (ta tb:TE):TE:=fun σ H Q=>ta σ H fun x H1=>tb σ H1 fun y H2=>r x y H2 Q
def tUn (r:V->Hp->VK->Prop) (ta:TE):TE:=fun σ H Q=>ta σ H fun x H1=>r x H1 Q
def rI (C:Int->Int->Prop) (g:Int->Int->V):R2:=fun x y H Q=>∃ i j,x=.int i/\y=.int j/\C i j/\Q (g i j) H
def rI0 (g:Int->Int->V):R2:=fun x y H Q=>∃ i j,x=.int i/\y=.int j/\Q (g i j) H
def rU (g:Int->V):V->Hp->VK->Prop:=fun x H Q=>∃ i,x=.int i/\Q (g i) H
section
variable {X:Cx} {a b c:Expr} {ta tb tc:TE} {pos:Pos}
theorem binT (ha:PE X a ta) (hb:PE X b tb) {pins:List (Addr × Obj)} {s:Shared} {σ:St} {H:Hp} {R:V->V->Hp->Prop} (I:Inv X pins σ H s)
  (h:ta σ H fun x H1=>tb σ H1 fun y H2=>R x y H2) {Q:Value->Shared->Prop} {f:Value->Value->Sem Value}
  (hf:∀ v u s2 x y H2,Inv X pins σ H2 s2->RelV x v->RelV y u->R x y H2->wpAny (model X.prog X.w) X.A (f v u) Q X.xe s2) :
  wpAny (model X.prog X.w) X.A (eval a X.env) (fun v s₁=>wpAny (model X.prog X.w) X.A (eval b X.env) (fun u s₂=>wpAny (model X.prog X.w) X.A (f v u) Q X.xe s₂) X.xe s₁) X.xe s:=by
 refine thn (ha pins s σ H _ I h) fun v s1 ⟨x,H1,I1,r1,q1⟩=>?_
 refine thn (hb pins s1 σ H1 _ I1 q1) fun u s2 ⟨y,H2,I2,r2,q2⟩=>?_
 exact hf v u s2 x y H2 I2 r1 r2 q2
theorem aaq {op:Operator} {r:R2} (ho:OpR X (binaryOp op) r) (ha:PE X a ta) (hb:PE X b tb):PE X (.BinOp a op b pos) (tOp r ta tb):=by
 intro pins s σ H Q I h
 exact wpAny_BinOp (binT ha hb I h fun v u s2 x y H2 I2 rx ry q=>ho pins s2 σ H2 x y v u Q I2 rx ry q)
theorem aoq {op:UnaryOp} {r:V->Hp->VK->Prop} (ho:UnR X (unaryOp op) r) (ha:PE X a ta):PE X (.UnaryOp op a pos) (tUn r ta):=by
 intro pins s σ H Q I h
 exact UnaryOp_ (thn (ha pins s σ H _ I h) fun v s1 ⟨x,H1,I1,r1,q1⟩=>ho pins s1 σ H1 x v Q I1 r1 q1)
theorem opI {f:Value->Value->Sem Value} {C:Int->Int->Prop} {g:Int->Int->Int}
  (rule:∀ (i j:Int) (t u:Tok) (s:Shared) (Q:Value->Shared->Prop) (E:Value->Shared->Prop),C i j->Q (.int (g i j) s.toks) { s with toks:=s.toks+1 }->wpAny (model X.prog X.w) X.A (f (.int i t) (.int j u)) Q E s) :
  OpR X f (rI C fun i j => .int (g i j)):=by
 intro pins s σ H x y v u Q I rx ry h
 obtain ⟨i,j,rfl,rfl,hc,q⟩:=h
 obtain ⟨t,rfl⟩:=rx
 obtain ⟨t',rfl⟩:=ry
 exact rule i j t t' s _ _ hc ⟨.int (g i j),H,I.tok _,⟨_,rfl⟩,q⟩
theorem opI0 {f:Value->Value->Sem Value} {g:Int->Int->Int}
  (rule:∀ (i j:Int) (t u:Tok) (s:Shared) (Q:Value->Shared->Prop) (E:Value->Shared->Prop),Q (.int (g i j) s.toks) { s with toks:=s.toks+1 }->wpAny (model X.prog X.w) X.A (f (.int i t) (.int j u)) Q E s) :
  OpR X f (rI0 fun i j => .int (g i j)):=by
 intro pins s σ H x y v u Q I rx ry h
 obtain ⟨i,j,rfl,rfl,q⟩:=h
 obtain ⟨t,rfl⟩:=rx
 obtain ⟨t',rfl⟩:=ry
 exact rule i j t t' s _ _ ⟨.int (g i j),H,I.tok _,⟨_,rfl⟩,q⟩
theorem opB0 {f:Value->Value->Sem Value} {g:Int->Int->Bool}
  (rule:∀ (i j:Int) (t u:Tok) (s:Shared) (Q:Value->Shared->Prop) (E:Value->Shared->Prop),Q (.bool (g i j)) s->wpAny (model X.prog X.w) X.A (f (.int i t) (.int j u)) Q E s) :
  OpR X f (rI0 fun i j => .bl (g i j)):=by
 intro pins s σ H x y v u Q I rx ry h
 obtain ⟨i,j,rfl,rfl,q⟩:=h
 obtain ⟨t,rfl⟩:=rx
 obtain ⟨t',rfl⟩:=ry
 exact rule i j t t' s _ _ ⟨.bl (g i j),H,I,rfl,q⟩
def CDiv (i j:Int):Prop:=0 < j/\j < 1073741824
def CPow (i j:Int):Prop:=0<=j/\j<=1000000/\i.natAbs < 2 ^ 64
def CMul (i j:Int):Prop:=(-(2 ^ 64) < i/\i < 2 ^ 64)\/(-(2 ^ 64) < j/\j < 2 ^ 64)
theorem CMul.ok {i j:Int} (h:CMul i j):IntMulOk i j:=by
 rcases h with ⟨h1,h2⟩ | ⟨h1,h2⟩
 ·exact .of_left (intBits_le_64 h1 h2)
 ·exact .of_right (intBits_le_64 h1 h2)
theorem aa9:OpR X (binaryOp .Add) (rI0 fun i j => .int (i+j)):=opI0 fun _ _ _ _ _ _ _ q=>add_int q
theorem adq:OpR X (binaryOp .Sub) (rI0 fun i j => .int (i - j)):=opI0 fun _ _ _ _ _ _ _ q=>sub_int q
theorem ac2:OpR X (binaryOp .Mult) (rI CMul fun i j => .int (i * j)):=opI fun _ _ _ _ _ _ _ hc q=>mul_int q hc.ok
theorem aez:OpR X (binaryOp .FloorDiv) (rI CDiv fun i j => .int (i / j)):=opI fun i j _ _ _ _ _ hc q=>by
 have h1:(0:Int) < j:=hc.1
 have h2:j < 1073741824:=hc.2
 exact floordiv_int (by omega) (by rw [Int.fdiv_eq_ediv_of_nonneg i (by omega)];exact q) (.inl (PyProof.noPylong_small (by omega)))
theorem adr:OpR X (binaryOp .Mod) (rI (fun _ j=>0 < j) fun i j => .int (i % j)):=opI fun i j _ _ _ _ _ hc q=>by
 have h1:(0:Int) < j:=hc
 exact mod_int' (by omega) (by rw [Int.fmod_eq_emod_of_nonneg i (by omega)];exact q)
theorem aw5:OpR X (binaryOp .Pow) (rI CPow fun i j => .int (i ^ j.toNat)):=opI fun _ _ _ _ _ _ _ hc q=>pow_int_small hc.1 hc.2.1 hc.2.2 q
theorem unI {f:Value->Sem Value} {g:Int->Int}
  (rule:∀ (i:Int) (t:Tok) (s:Shared) (Q:Value->Shared->Prop) (E:Value->Shared->Prop),Q (.int (g i) s.toks) { s with toks:=s.toks+1 }->wpAny (model X.prog X.w) X.A (f (.int i t)) Q E s) :
  UnR X f (rU fun i => .int (g i)):=by
 intro pins s σ H x v Q I rx h
 obtain ⟨i,rfl,q⟩:=h
 obtain ⟨t,rfl⟩:=rx
 exact rule i t s _ _ ⟨.int (g i),H,I.tok _,⟨_,rfl⟩,q⟩
theorem akj:UnR X (unaryOp .USub) (rU fun i => .int (-i)):=unI fun _ _ _ _ _ q=>neg_int q
end
noncomputable def scal:V->V->Bool
 | .non,.non=>true | .non,.int _=>true | .int _,.non=>true | .non,.bl _=>true | .bl _,.non=>true | .non,.str _=>true | .str _,.non=>true
 | .int _,.int _=>true | .bl _,.bl _=>true | .str _,.str _=>true | .byt _,.byt _=>true
 | .int _,.str _=>true | .str _,.int _=>true | .bl _,.str _=>true | .str _,.bl _=>true
 | _,_=>false
def rEq:R2:=fun x y H Q=>scal x y=true/\Q (.bl (decide (x=y))) H
def rNe:R2:=fun x y H Q=>scal x y=true/\Q (.bl (!decide (x=y))) H
theorem agb {i j:Int}:decide (V.int i=V.int j)=(i == j):=by
 rw [Bool.eq_iff_iff]
 simp
theorem akk {i j:Bool}:decide (V.bl i=V.bl j)=(i == j):=by
 rw [Bool.eq_iff_iff]
 simp
theorem am2 {i j:Str}:decide (V.str i=V.str j)=(i == j):=by
 rw [Bool.eq_iff_iff]
 simp
theorem am3 {i j:Array UInt8}:decide (V.byt i=V.byt j)=(i.toList == j.toList):=by
 rw [Bool.eq_iff_iff]
 cases i
 cases j
 simp
section
variable {X:Cx} {a b c:Expr} {ta tb tc:TE} {pos:Pos}
theorem aax {pins:List (Addr × Obj)} {σ:St} {H:Hp} {s:Shared} {Q:VK} {k k':Bool} (I:Inv X pins σ H s) (q:Q (.bl k) H) (e:k=k'):EP X pins σ Q (.bool k') s:=by
 subst e
 exact ⟨.bl k,H,I,rfl,q⟩
theorem agc:OpR X (compareOp .Eq) rEq:=by
 intro pins s σ H x y v u Q I rx ry h
 obtain ⟨hs,q⟩:=h
 cases x with
 | non =>
  cases rx
  cases y with
  | non=>cases ry;exact PySem.EqNone.eq_none_none (aax I q (by simp))
  | bl j=>cases ry;exact PySem.EqNone.eq_none_bool (aax I q (by simp))
  | int j=>obtain ⟨t',rfl⟩:=ry;exact PySem.EqNone.eq_none_int (aax I q (by simp))
  | str j=>obtain ⟨t',rfl⟩:=ry;exact PySem.EqNone.eq_none_str (aax I q (by simp))
  | _=>exact absurd (show false=true from hs) Bool.false_ne_true
 | bl i =>
  cases rx
  cases y with
  | non=>cases ry;exact PySem.EqNone.eq_bool_none (aax I q (by simp))
  | bl j=>cases ry;exact eq_bool (aax I q akk)
  | str j=>obtain ⟨t',rfl⟩:=ry;exact PySem.EqMixed.eq_bool_str (aax I q (by simp))
  | _=>exact absurd (show false=true from hs) Bool.false_ne_true
 | int i =>
  obtain ⟨t,rfl⟩:=rx
  cases y with
  | non=>cases ry;exact PySem.EqNone.eq_int_none (aax I q (by simp))
  | int j=>obtain ⟨t',rfl⟩:=ry;exact eq_int (aax I q agb)
  | str j=>obtain ⟨t',rfl⟩:=ry;exact PySem.EqMixed.eq_int_str (aax I q (by simp))
  | _=>exact absurd (show false=true from hs) Bool.false_ne_true
 | str i =>
  obtain ⟨t,rfl⟩:=rx
  cases y with
  | non=>cases ry;exact PySem.EqNone.eq_str_none (aax I q (by simp))
  | bl j=>cases ry;exact PySem.EqMixed.eq_str_bool (aax I q (by simp))
  | int j=>obtain ⟨t',rfl⟩:=ry;exact PySem.EqMixed.eq_str_int (aax I q (by simp))
  | str j=>obtain ⟨t',rfl⟩:=ry;exact eq_str (aax I q am2)
  | _=>exact absurd (show false=true from hs) Bool.false_ne_true
 | byt i =>
  obtain ⟨t,rfl⟩:=rx
  cases y with
  | byt j=>obtain ⟨t',rfl⟩:=ry;exact PySem.W.eq_bytes (aax I q am3)
  | _=>exact absurd (show false=true from hs) Bool.false_ne_true
 | _=>cases y <;> exact absurd (show false=true from hs) Bool.false_ne_true
theorem ad3:OpR X (compareOp .NotEq) rNe:=by
 intro pins s σ H x y v u Q I rx ry h
 obtain ⟨hs,q⟩:=h
 cases x with
 | non =>
  cases rx
  cases y with
  | non=>cases ry;exact PySem.EqNone.ne_none_none (aax I q (by simp))
  | bl j=>cases ry;exact PySem.EqNone.ne_none_bool (aax I q (by simp))
  | int j=>obtain ⟨t',rfl⟩:=ry;exact PySem.EqNone.ne_none_int (aax I q (by simp))
  | str j=>obtain ⟨t',rfl⟩:=ry;exact PySem.EqNone.ne_none_str (aax I q (by simp))
  | _=>exact absurd (show false=true from hs) Bool.false_ne_true
 | bl i =>
  cases rx
  cases y with
  | non=>cases ry;exact PySem.EqNone.ne_bool_none (aax I q (by simp))
  | bl j=>cases ry;exact ne_bool (aax I q (congrArg not akk))
  | str j=>obtain ⟨t',rfl⟩:=ry;exact PySem.EqMixed.ne_bool_str (aax I q (by simp))
  | _=>exact absurd (show false=true from hs) Bool.false_ne_true
 | int i =>
  obtain ⟨t,rfl⟩:=rx
  cases y with
  | non=>cases ry;exact PySem.EqNone.ne_int_none (aax I q (by simp))
  | int j=>obtain ⟨t',rfl⟩:=ry;exact ne_int (aax I q (congrArg not agb))
  | str j=>obtain ⟨t',rfl⟩:=ry;exact PySem.EqMixed.ne_int_str (aax I q (by simp))
  | _=>exact absurd (show false=true from hs) Bool.false_ne_true
 | str i =>
  obtain ⟨t,rfl⟩:=rx
  cases y with
  | non=>cases ry;exact PySem.EqNone.ne_str_none (aax I q (by simp))
  | bl j=>cases ry;exact PySem.EqMixed.ne_str_bool (aax I q (by simp))
  | int j=>obtain ⟨t',rfl⟩:=ry;exact PySem.EqMixed.ne_str_int (aax I q (by simp))
  | str j=>obtain ⟨t',rfl⟩:=ry;exact ne_str (aax I q (congrArg not am2))
  | _=>exact absurd (show false=true from hs) Bool.false_ne_true
 | byt i =>
  obtain ⟨t,rfl⟩:=rx
  cases y with
  | byt j=>obtain ⟨t',rfl⟩:=ry;exact PySem.W.ne_bytes (aax I q (congrArg not am3))
  | _=>exact absurd (show false=true from hs) Bool.false_ne_true
 | _=>cases y <;> exact absurd (show false=true from hs) Bool.false_ne_true
theorem aj8:OpR X (compareOp .Lt) (rI0 fun i j => .bl (decide (i < j))):=opB0 fun _ _ _ _ _ _ _ q=>lt_int q
theorem aor:OpR X (compareOp .LtE) (rI0 fun i j => .bl (decide (i<=j))):=opB0 fun _ _ _ _ _ _ _ q=>le_int q
theorem aos:OpR X (compareOp .Gt) (rI0 fun i j => .bl (decide (j < i))):=opB0 fun _ _ _ _ _ _ _ q=>gt_int q
theorem at7:OpR X (compareOp .GtE) (rI0 fun i j => .bl (decide (j<=i))):=opB0 fun _ _ _ _ _ _ _ q=>ge_int q
theorem aw6:OpR X (compareOp .Is) (fun x y H Q=>y=.non/\Q (.bl (decide (x=.non))) H):=by
 intro pins s σ H x y v u Q I rx ry h
 obtain ⟨rfl,q⟩:=h
 cases ry
 refine is_none_gen (aax I q ?_)
 cases x <;> first
  | (cases rx;rfl)
  | (obtain ⟨t,rfl⟩:=rx;rfl)
theorem aau (b:Expr) {op:CmpOp} (h:op ≠ .In:=by decide) (h2:op ≠ .NotIn:=by decide):behindInMarks op b=false:=by
 have e1:(op == CmpOp.In)=false:=by cases op <;> first | rfl | exact absurd rfl h
 have e2:(op == CmpOp.NotIn)=false:=by cases op <;> first | rfl | exact absurd rfl h2
 cases b <;> simp [behindInMarks,e1,e2]
theorem abt {op:CmpOp} {r:R2} (ho:OpR X (compareOp op) r) (ha:PE X a ta) (hb:PE X b tb) (hm:behindInMarks op b=false):PE X (.Compare a [op] [b] pos) (tOp r ta tb):=by
 intro pins s σ H Q I h
 exact wpAny_Compare1 (binT ha hb I h fun v u s2 x y H2 I2 rx ry q=>ho pins s2 σ H2 x y v u Q I2 rx ry q) hm
def at8 (t:TE):TT:=fun σ H Q=>t σ H fun x H'=>∃ k,x=.bl k/\Q k H'
theorem aaw {op:CmpOp} {r:R2} (ho:OpR X (compareOp op) r) (ha:PE X a ta) (hb:PE X b tb) (hm:behindInMarks op b=false):PT X (.Compare a [op] [b] pos) (at8 (tOp r ta tb)):=by
 intro pins s σ H Q I h
 refine wpAny_isTrue_Compare1 (thn (ha pins s σ H _ I h) fun v s1 ⟨x,H1,I1,r1,q1⟩=>thn (hb pins s1 σ H1 _ I1 q1) fun u s2 ⟨y,H2,I2,r2,q2⟩ =>
  thn (ho pins s2 σ H2 x y v u _ I2 r1 r2 q2) fun c s3 ⟨z,H3,I3,r3,k,e,q3⟩=>?_) hm
 subst e
 cases r3
 exact wpAny_truthy_bool ⟨H3,I3,q3⟩
def akl (r r':R2) (ta tb tc:TE):TE:=fun σ H Q=>ta σ H fun x H1=>tb σ H1 fun y H2=>r x y H2 fun z H3=>∃ k,z=.bl k /\
 (if k=true then tc σ H3 fun w' H4=>r' y w' H4 Q else Q (.bl false) H3)
theorem arl {op op':CmpOp} {r r':R2} (ho:OpR X (compareOp op) r) (ho':OpR X (compareOp op') r') (ha:PE X a ta) (hb:PE X b tb) (hc:PE X c tc)
  (hm:lastMarks [op,op'] [b,c]=false:=by with_unfolding_all rfl):PE X (.Compare a [op,op'] [b,c] pos) (akl r r' ta tb tc):=by
 intro pins s σ H Q I h
 refine Compare_chain (thn (ha pins s σ H _ I h) fun v s1 ⟨x,H1,I1,r1,q1⟩=>chain_link (thn (hb pins s1 σ H1 _ I1 q1) fun u s2 ⟨y,H2,I2,r2,q2⟩ =>
  thn (ho pins s2 σ H2 x y v u _ I2 r1 r2 q2) fun d s3 ⟨z,H3,I3,r3,k,e,q3⟩=>?_)) hm
 subst e
 cases r3
 refine wpAny_truthy_bool ?_
 cases k with
 | false=>exact ite_ff ⟨.bl false,H3,I3,rfl,q3⟩
 | true=>exact ite_tt (chain_last (thn (hc pins s3 σ H3 _ I3 q3) fun w' s4 ⟨z',H4,I4,r4,q4⟩=>ho' pins s4 σ H4 y z' u w' Q I4 r2 r4 q4))
def TruV (K:Frag) (x:V) (H:Hp) (k:Bool):Prop :=
 match x with
 | .non=>k=false
 | .bl b=>k=b
 | .int i=>k=(i != 0)
 | .str y=>y.length<=sizeLine/\k=((y.length:Int) != 0)
 | .byt y=>y.size<=sizeLine/\k=((y.size:Int) != 0)
 | .ref p=>(∃ xs,SqL K H p xs/\k = !xs.isEmpty)\/(∃ xs,SqT K H p xs/\k = !xs.isEmpty)\/∃ kvs,H p=some (.dK kvs)/\k = !kvs.isEmpty
 | _=>False
theorem aot {κ:Type} {kvs:List (κ × V)} {vs:List (κ × Value)} (r:KV kvs vs):(!vs.isEmpty) = !kvs.isEmpty:=by
 cases r <;> rfl
theorem aha {xs:List V} {its:List Value} (r:Vals xs its):(!its.toArray.isEmpty) = !xs.isEmpty:=by
 cases r <;> simp
theorem afu:(sizeLine:Nat) < 2 ^ 63:=by rw [sizeLine_eq];decide
theorem aw7:TruR X (fun x H Q=>∃ k,TruV X.K x H k/\Q k H):=by
 intro pins s σ H x v Q I rx h
 obtain ⟨k,e,q⟩:=h
 have hl:=afu
 have hs:sizeLine=16777216:=sizeLine_eq
 cases x with
 | non =>
  cases rx
  have e':k=false:=e
  subst e'
  exact truthy_none ⟨H,I,q⟩
 | bl b =>
  cases rx
  have e':k=b:=e
  subst e'
  exact wpAny_truthy_bool ⟨H,I,q⟩
 | int i =>
  obtain ⟨t,rfl⟩:=rx
  have e':k=(i != 0):=e
  subst e'
  exact PySem.P.truthy_int ⟨H,I,q⟩
 | str y =>
  obtain ⟨t,rfl⟩:=rx
  obtain ⟨hy,e'⟩:y.length<=sizeLine/\k=((y.length:Int) != 0):=e
  subst e'
  exact PySem.P.truthy_str (by omega) ⟨H,I.tok _,q⟩
 | byt y =>
  obtain ⟨t,rfl⟩:=rx
  obtain ⟨hy,e'⟩:y.size<=sizeLine/\k=((y.size:Int) != 0):=e
  subst e'
  exact PySem.W.truthy_bytes (by omega) ⟨H,I.tok _,q⟩
 | ref p =>
  cases rx
  have e':(∃ xs,SqL X.K H p xs/\k = !xs.isEmpty)\/(∃ xs,SqT X.K H p xs/\k = !xs.isEmpty)\/∃ kvs,H p=some (.dK kvs)/\k = !kvs.isEmpty:=e
  rcases e' with ⟨xs,hx,e'⟩ | ⟨xs,hx,e'⟩ | ⟨kvs,hx,e'⟩
  ·subst e'
   obtain ⟨its,r,pl,hz⟩:=I.list hx
   have hlen:=r.length
   exact wpAny_truthy_list pl.isList (by simp only [List.size_toArray];omega) ⟨H,I.tok _,by rw [aha r];exact q⟩
  ·subst e'
   obtain ⟨its,r,pl,hz⟩:=I.tuple hx
   have hlen:=r.length
   exact truthy_tuple pl (by simp only [List.size_toArray];omega) ⟨H,I.tok _,by rw [aha r];exact q⟩
  ·subst e'
   obtain ⟨hz,hS,vs,r,m⟩:kvs.length<=sizeLine/\(p == sysModules)=false/\∃ vs,KV kvs vs/\s.heap.DictOf (ah2 X.prog X.w) p vs:=I.hok p _ hx
   have hlen:kvs.length=vs.length:=Paired.length r
   exact wpAny_truthy_dict hS m (by omega) ⟨H,I.tok _,by rw [aot r];exact q⟩
 | _=>exact (show False from e).elim
theorem arm (ha:PE X a ta) (he:∀ whole,isTrue a X.env whole=(do let v ← whole;standAt a.pos;holding [v] (truthy v))) :
  PT X a (fun σ H Q=>ta σ H fun x H'=>∃ k,TruV X.K x H' k/\Q k H'):=by
 intro pins s σ H Q I h
 exact isTrue_plain (thn (ha pins s σ H _ I h) fun v s1 ⟨x,H1,I1,r1,q1⟩=>aw7 pins s1 σ H1 x v Q I1 r1 q1) (he _)
theorem acf {x:V} {us:List Value} (r:Vals [x] us):∃ u,us=[u]/\RelV x u:=by
 cases r with
 | cons r1 r2=>cases r2;exact ⟨_,rfl,r1⟩
theorem aj9 {x y:V} {us:List Value} (r:Vals [x,y] us):∃ u w',us=[u,w']/\RelV x u/\RelV y w':=by
 cases r with
 | cons r1 r2 =>
  cases r2 with
  | cons r3 r4=>cases r4;exact ⟨_,_,rfl,r1,r3⟩
theorem apx (hc:X.calm=true):aa7 X (.builtin "max") (fun xs H Q=>∃ i j,xs=[.int i,.int j]/\Q (.int (if j > i then j else i)) H):=by
 intro pins s σ H xs us Q I r h
 obtain ⟨i,j,rfl,q⟩:=h
 obtain ⟨u,w',rfl,⟨t,rfl⟩,⟨t',rfl⟩⟩:=aj9 r
 refine max_two_ints (I.ok.hd hc) fun h' tk k=>⟨_,H,I.kept k,?_,q⟩
 by_cases hj:j > i
 ·rw [if_pos hj,if_pos hj];exact ⟨_,rfl⟩
 ·rw [if_neg hj,if_neg hj];exact ⟨_,rfl⟩
theorem apy (hc:X.calm=true):aa7 X (.builtin "min") (fun xs H Q=>∃ i j,xs=[.int i,.int j]/\Q (.int (if j < i then j else i)) H):=by
 intro pins s σ H xs us Q I r h
 obtain ⟨i,j,rfl,q⟩:=h
 obtain ⟨u,w',rfl,⟨t,rfl⟩,⟨t',rfl⟩⟩:=aj9 r
 refine min_two_ints (I.ok.hd hc) fun h' tk k=>⟨_,H,I.kept k,?_,q⟩
 by_cases hj:j < i
 ·rw [if_pos hj,if_pos hj];exact ⟨_,rfl⟩
 ·rw [if_neg hj,if_neg hj];exact ⟨_,rfl⟩
theorem apz:aa7 X (.type "int") (fun xs H Q=>(∃ i,xs=[.int i]/\Q (.int i) H)\/∃ k,xs=[.bl k]/\Q (.int (if k then 1 else 0)) H):=by
 intro pins s σ H xs us Q I r h
 rcases h with ⟨i,rfl,q⟩ | ⟨k,rfl,q⟩
 ·obtain ⟨u,rfl,t,rfl⟩:=acf r
  exact call_int_int ⟨.int i,H,I,⟨_,rfl⟩,q⟩
 ·obtain ⟨u,rfl,r1⟩:=acf r
  cases r1
  exact call_int_bool ⟨.int (if k then 1 else 0),H,I.tok _,⟨_,rfl⟩,q⟩
end
structure ObjM (h:Heap) (x dx C:Addr) (mA:Str->Option Value):Prop where
 obj:h.get? x=some (PySem.W.instObj C dx)
 ns:h.Ns1 dx mA
 ne:dx ≠ x
theorem ap0 {h:Heap} {dx:Addr} {mA:Str->Option Value} (n:h.Ns1 dx mA):∃ od,h.get? dx=some od/\∀ name,PySem.W.lookIn name od=some (mA name):=by
 obtain ⟨o,es,ep,ho,hd,hk,_,hm⟩:=n
 refine ⟨o,ho,fun name=>?_⟩
 have e:=hm name
 unfold nsFind findBy at e
 rw [← Array.find?_toList] at e
 unfold PySem.W.lookIn
 rw [hd]
 dsimp only
 split
 ·rename_i y q
  rw [q] at e
  exact congrArg some e
 ·rename_i q
  rw [q] at e
  have a:es.toList.any (·.refKey)=false:=by
   rw [List.any_eq_false]
   intro y hy
   obtain ⟨z,t,hkey⟩:=hk y (Array.mem_toList_iff.mp hy)
   simp [DictEntry.refKey,hkey]
  have a':¬ es.toList.any (·.refKey)=true:=by rw [a];exact Bool.false_ne_true
  rw [if_neg a']
  exact congrArg some e
theorem ObjM.look {h:Heap} {x dx C:Addr} {mA:Str->Option Value} (I:ObjM h x dx C mA):∃ od,PySem.W.InstAt h x (PySem.W.instObj C dx) C (some od)/\∀ name,PySem.W.lookIn name od=some (mA name) :=
 let ⟨od,ho,hl⟩:=ap0 I.ns
 ⟨od,⟨I.obj,rfl,rfl,ho⟩,hl⟩
section
variable {prog:Program} {w:World} {A:Around} {E:Value->Shared->Prop} {s:Shared} {K:Frag} {x dx C f:Addr} {mA:Str->Option Value} {name:Str} {v:Value}
end
noncomputable def putF (f:Str) (v:V):List (Str × V)->List (Str × V)
 | []=>[(f,v)]
 | (g,x) :: r=>if g=f then (g,v) :: r else (g,x) :: putF f v r
section
variable {P:Program} {w:World} {H H':Hp} {h h':Heap} {a C dx:Addr} {fs fs':List (Str × V)}
theorem ins_get (hok:HOk P w H h) (e:H a=some (.ins C dx fs)):∃ mA,ObjM h a dx C mA/\(∀ f,RelO (fs.lookup f) (mA f))/\PySem.Within mA (fs.map (·.1))/\fs.length<=1000/\H dx=some (.own a):=by
 obtain ⟨d,z,ne,ob,mA,n,r,q⟩:=(show ObjOk P w H h a (.ins C dx fs) from hok a _ e)
 exact ⟨mA,⟨ob,n,ne⟩,r,q,z,d⟩
end
structure Cls (K:Frag) (C:Addr):Prop where
 pg:PySem.W.plainGet K C Str.empty=true
 hd:PySem.W.hasDictIn K C=true
 po:PySem.W.plainOver K C=true
 sa:PySem.W.findIn K (.ref C) "__setattr__" = some (some (.builtin "object.__setattr__"))
theorem Cls.get {K:Frag} {C:Addr} (c:Cls K C) (f:Str):PySem.W.plainGet K C f=true:=c.pg
section
variable {X:Cx} {pins:List (Addr × Obj)} {σ:St} {H:Hp} {s:Shared} {a C dx:Addr} {fs:List (Str × V)} {f:Str} {v:V} {A:Around} {E:Value->Shared->Prop}
end
section
variable {X:Cx} {o e value:Expr} {f:Str} {pos pos' tpos:Pos} {ta tv:TE}
end
section
variable {X:Cx} {pins:List (Addr × Obj)} {σ:St} {H:Hp} {s:Shared} {A:Around} {E:Value->Shared->Prop} {Q:Value->Shared->Prop} {c:Value} {b:Bool}
inductive TyOf (K:Frag) (H:Hp):V->Value->Prop where
 | non:TyOf K H .non (.type "NoneType")
 | bl (x:Bool):TyOf K H (.bl x) (.type "bool")
 | int (i:Int):TyOf K H (.int i) (.type "int")
 | str (x:Str):TyOf K H (.str x) (.type "str")
 | flt (x:UInt64):TyOf K H (.flt x) (.type "float")
 | lst {a:Addr} {xs:List V} (e:H a=some (.lst xs)):TyOf K H (.ref a) (.type "list")
 | frz {a:Addr} {o:Obj} {xs:List V} (e:H a=some (.frz o (.lst xs))):TyOf K H (.ref a) (.type "list")
 | tup {a:Addr} {xs:List V} (e:H a=some (.tup xs)):TyOf K H (.ref a) (.type "tuple")
 | dK {a:Addr} {kvs:List (Key × V)} (e:H a=some (.dK kvs)):TyOf K H (.ref a) (.type "dict")
 | dT {a:Addr} {kvs:List (List Key × V)} (e:H a=some (.dT kvs)):TyOf K H (.ref a) (.type "dict")
 | ins {a C dx:Addr} {fs:List (Str × V)} (e:H a=some (.ins C dx fs)) (cl:Cls K C) (ha:PySem.W.findIn K (.ref C) "__class__" = some (some (.builtin "object.__class__")))
   (hn:PySem.W.specialIn K (.builtin "object.__class__") "__get__" = some (some (.builtin "getset_descriptor.__get__"))) (htk:PySem.W.takesIn K (.builtin "object.__class__")=some true)
   (hm:mroIn K C (.type "object")=some true):TyOf K H (.ref a) (.ref C)
theorem ap1 {x:V} {u t:Value} (I:Inv X pins σ H s) (rx:RelV x u) (ty:TyOf X.K H x t) (e:kitOne X.K t c=some b) (h:∀ tk,Q (.bool b) { s with toks:=tk }) :
  wpAny (model X.prog X.w) A (call (.builtin "isinstance") [u,c]) Q E s:=by
 cases ty with
 | non=>cases (show u=Value.none from rx);exact PySem.W.kia_one PySem.W.kitx_none I.kIn True.intro e (fun z=>nomatch z) h
 | bl y=>cases (show u=Value.bool y from rx);exact PySem.W.kia_one PySem.W.kitx_bool I.kIn True.intro e (fun z=>nomatch z) h
 | int i=>obtain ⟨t,q⟩:=(show ∃ t,u=Value.int i t from rx);cases q;exact PySem.W.kia_one PySem.W.kitx_int I.kIn True.intro e (fun z=>nomatch z) h
 | str y=>obtain ⟨t,q⟩:=(show ∃ t,u=Value.str y t from rx);cases q;exact PySem.W.kia_one PySem.W.kitx_str I.kIn True.intro e (fun z=>nomatch z) h
 | flt y=>obtain ⟨t,q⟩:=(show ∃ t,u=Value.float y t from rx);cases q;exact PySem.W.kia_one PySem.W.kitx_float I.kIn True.intro e (fun z=>nomatch z) h
 | @lst a xs ea =>
  cases (show u=Value.ref a from rx)
  obtain ⟨_,_,n,_,h1⟩:=(show ObjOk X.prog X.w H s.heap a (.lst xs) from I.hok a _ ea)
  exact PySem.W.kia_one PySem.W.kitx_list I.kIn ⟨_,h1,rfl⟩ e (fun z=>nomatch z) h
 | @frz a ob xs ea =>
  cases (show u=Value.ref a from rx)
  obtain ⟨_,_,_,n,_,h1⟩:=(show ObjOk X.prog X.w H s.heap a (.frz ob (.lst xs)) from I.hok a _ ea)
  exact PySem.W.kia_one PySem.W.kitx_list I.kIn ⟨_,h1,rfl⟩ e (fun z=>nomatch z) h
 | @tup a xs ea =>
  cases (show u=Value.ref a from rx)
  obtain ⟨_,_,_,p⟩:=(show ObjOk X.prog X.w H s.heap a (.tup xs) from I.hok a _ ea)
  obtain ⟨o,h1,h2,_⟩:=p
  exact PySem.W.kia_one PySem.W.kitx_tuple I.kIn ⟨o,h1,h2⟩ e (fun z=>nomatch z) h
 | @dK a kvs ea =>
  cases (show u=Value.ref a from rx)
  obtain ⟨_,_,vs,_,p⟩:=(show ObjOk X.prog X.w H s.heap a (.dK kvs) from I.hok a _ ea)
  obtain ⟨o,es,ep,h1,h2,_⟩:=p
  exact PySem.W.kia_one PySem.W.kitx_dict I.kIn ⟨o,h1,h2.1⟩ e (fun z=>nomatch z) h
 | @dT a kvs ea =>
  cases (show u=Value.ref a from rx)
  obtain ⟨_,_,xs,_,o,es,ep,h1,h2,_⟩:=(show ObjOk X.prog X.w H s.heap a (.dT kvs) from I.hok a _ ea)
  exact PySem.W.kia_one PySem.W.kitx_dict I.kIn ⟨o,h1,h2.1⟩ e (fun z=>nomatch z) h
 | @ins a C dx fs ea cl ha hn htk hm =>
  cases (show u=Value.ref a from rx)
  obtain ⟨mA,O,_⟩:=ins_get I.hok ea
  obtain ⟨od,J,_⟩:=O.look
  exact PySem.W.kia_one (PySem.W.kitx_own (cl.get _) cl.hd ha hn htk hm) I.kIn J e (fun z=>nomatch z) h
end
structure Room (k:Nat) (A:Around):Prop where
 hd:A.handled=none
 dp:A.depth+3 * k+5 < recursionLimit
 un:A.units+16 * k+200 < cLine
theorem Room.mono {j k:Nat} {A:Around} (r:Room k A) (h:j<=k):Room j A:=⟨r.hd,by have:=r.dp;omega,by have:=r.un;omega⟩
theorem Room.deeper {k:Nat} {A:Around} (r:Room (k+1) A) (env:Env):Room k (A.deeper env) :=
 ⟨r.hd,by have:=r.dp;show A.depth+1+3 * k+5 < _;omega,by have:=r.un;show A.units+3+16 * k+200 < _;omega⟩
theorem Room.in1 {k:Nat} {A:Around} (r:Room (k+1) A):Room k A.in1 :=
 ⟨r.hd,by have:=r.dp;show A.depth+3 * k+5 < _;omega,by have:=r.un;show A.units+1+16 * k+200 < _;omega⟩
theorem Room.depth {k:Nat} {A:Around} (r:Room k A):A.depth < recursionLimit:=by have:=r.dp;omega
theorem Room.units {k:Nat} {A:Around} (r:Room k A):A.units+64 < cLine:=by have:=r.un;omega
theorem Room.units0 {k:Nat} {A:Around} (r:Room k A):A.units < cLine:=by have:=r.un;omega
def tNil:TA:=fun _ H Q=>Q [] H
def aa6 (ta:TE) (tr:TA):TA:=fun σ H Q=>ta σ H fun x H1=>tr σ H1 fun xs H2=>Q (x :: xs) H2
section
variable {X:Cx} {e:Expr} {es:List Expr} {te:TE} {t:TA} {pos:Pos}
theorem aab:PA X [] tNil:=fun _ _ _ _ H Q I h=>Calls.spliced_nil ⟨[],H,I,.nil,h⟩
theorem aaa (ha:PE X e te) (hr:PA X es t) (hs:starEach (e :: es) X.env=(false,eval e X.env) :: starEach es X.env:=by rfl):PA X (e :: es) (aa6 te t):=by
 intro pos pins s σ H Q I h
 rw [hs]
 show wpAny _ _ (spliced ((false,eval e X.env) :: backTo pos (starEach es X.env))) _ _ s
 refine Calls.spliced_cons (thn (ha pins s σ H _ I h) fun u s1 ⟨x,H1,I1,r1,q1⟩=>?_)
 exact thn (hr pos pins s1 σ H1 _ I1 q1) fun us s2 ⟨xs,H2,I2,r2,q2⟩=>⟨x :: xs,H2,I2,.cons r1 r2,q2⟩
def tTup (t:TA):TE:=fun σ H Q=>t σ H fun xs H1=>xs.length<=sizeLine/\∀ p,H1 p=none->Q (.ref p) (upd H1 p (.tup xs))
def tLst (t:TA):TE:=fun σ H Q=>t σ H fun xs H1=>xs.length<=sizeLine/\∀ p,H1 p=none->Q (.ref p) (upd H1 p (.lst xs))
theorem ac9 {x1} (h:PA X es t):PE X (.Tuple es x1 pos) (tTup t):=by
 intro pins s σ H Q I hq
 refine wpAny_Tuple_spliced (thn (h pos pins s σ H _ I hq) fun us s1 ⟨xs,H1,I1,r,z,q⟩=>⟨by rw [← r.length];exact z,?_⟩)
 have hf:H1 s1.heap.objs.size=none:=I1.hok.fresh (Nat.le_refl _)
 refine ⟨.ref s1.heap.objs.size,upd H1 s1.heap.objs.size (.tup xs),I1.laid (t':=s1.toks) (fun b u e=>Heap.get?_push_of_some _ e) (Nat.le_refl _) ?_,rfl,q _ hf⟩
 exact ⟨z,us,r,⟨_,Heap.get?_push_size _ rfl,rfl,_,rfl⟩⟩
theorem abn (h:PA X es t):PE X (.List es pos) (tLst t):=by
 intro pins s σ H Q I hq
 refine wpAny_List_spliced (thn (h pos pins s σ H _ I hq) fun us s1 ⟨xs,H1,I1,r,z,q⟩=>⟨by rw [← r.length];exact z,?_⟩)
 have hf:H1 s1.heap.objs.size=none:=I1.hok.fresh (Nat.le_refl _)
 refine ⟨.ref s1.heap.objs.size,upd H1 s1.heap.objs.size (.lst xs),I1.laid (t':=s1.toks) (fun b u e=>Heap.get?_push_of_some _ e) (Nat.le_refl _) ?_,rfl,q _ hf⟩
 exact ⟨z,us,0,r,Heap.get?_push_size _ rfl⟩
end
noncomputable abbrev Sp:=List V->Hp->VK->XK->Prop
noncomputable abbrev CXT:=List Env->Hp->Shared->XK->Value->Shared->Prop
structure Env0 (P:Program) (w:World) (K:Frag) (mg:Str->Option Value) (base:Heap) (A:Around) (outer:List Env) (s:Shared) (H:Hp):Prop where
 frames:A.frames=some outer
 mod:Mod K mg base
 bs:∀ b o,base.get? b=some o->s.heap.get? b=some o/\H b=none
 bsz:base.objs.size<=s.heap.objs.size
 funs:s.heap.FunFrames base outer
 frf:∀ b∈frs outer,H b=none
 hok:HOk P w H s.heap
 bare:AllBare s.gens
def CE (outer:List Env) (P:Program) (w:World) (H:Hp) (s:Shared) (Q:VK) (u:Value) (s':Shared):Prop :=
 ∃ v H',s'.os=s.os/\AllBare s'.gens/\Un (frs outer) [] H H' s.heap s'.heap/\HOk P w H' s'.heap/\RelV v u/\Q v H'
def CR (CX:CXT) (outer:List Env) (P:Program) (w:World) (H:Hp) (s:Shared) (Q:VK) (E:XK) (r:Result) (s':Shared):Prop :=
 match r with
 | .ok (.ret u)=>CE outer P w H s Q u s'
 | .ok _=>False
 | .error e=>CX outer H s E e s'
structure FnOk (P:Program) (w:World) (K:Frag) (mg:Str->Option Value) (base:Heap) (CX:CXT) (k:Nat) (f:Addr) (fd:FuncData) (ps:List Str) (sp:Sp):Prop where
 len:∀ vs H Q E,sp vs H Q E->vs.length=ps.length
 run:∀ (A:Around) (outer:List Env) (s:Shared) (H:Hp) (args:Args) (us:List Value) (vs:List V) (Q:VK) (E:XK),Room k A->Env0 P w K mg base A outer s H->BindsTo s fd args (ps.zip us)->Vals vs us->sp vs H Q E ->
  codeAny (model P w) A (.call (.ref f) args) (CR CX outer P w H s Q E) s
theorem FnOk.mono {P:Program} {w:World} {K:Frag} {mg:Str->Option Value} {base:Heap} {CX:CXT} {j k:Nat} {f:Addr} {fd:FuncData} {ps:List Str} {sp:Sp} (F:FnOk P w K mg base CX j f fd ps sp) (h:j<=k) :
  FnOk P w K mg base CX k f fd ps sp:=⟨F.len,fun A outer s H args us vs Q E hr=>F.run A outer s H args us vs Q E (hr.mono h)⟩
theorem FnOk.imp {P:Program} {w:World} {K:Frag} {mg:Str->Option Value} {base:Heap} {CX:CXT} {k:Nat} {f:Addr} {fd:FuncData} {ps:List Str} {sp sp':Sp} (F:FnOk P w K mg base CX k f fd ps sp)
  (h:∀ vs H Q E,sp' vs H Q E->sp vs H Q E):FnOk P w K mg base CX k f fd ps sp' :=
 ⟨fun vs H Q E q=>F.len vs H Q E (h _ _ _ _ q),fun A outer s H args us vs Q E hr he hb hv hs=>F.run A outer s H args us vs Q E hr he hb hv (h _ _ _ _ hs)⟩
theorem Env0.in1 {P:Program} {w:World} {K:Frag} {mg:Str->Option Value} {base:Heap} {A:Around} {outer:List Env} {s:Shared} {H:Hp} (e:Env0 P w K mg base A outer s H) :
  Env0 P w K mg base A.in1 outer s H:=⟨e.frames,e.mod,e.bs,e.bsz,e.funs,e.frf,e.hok,e.bare⟩
section
variable {X:Cx} {pins:List (Addr × Obj)} {σ:St} {H:Hp} {s s':Shared}
theorem Inv.env0 (I:Inv X pins σ H s):Env0 X.prog X.w X.K X.mg X.base X.A X.stack s H :=
 ⟨I.ok.frames,I.ok.mod,I.bs,Nat.le_trans I.ok.bsz I.sz,I.stack,I.stkFree,I.hok,I.bare⟩
theorem Inv.after {Q:VK} {u:Value} (I:Inv X pins σ H s) (h:CE X.stack X.prog X.w H s Q u s'):EP X pins σ Q u s':=by
 obtain ⟨v,H',os,bare,un,hok,r,q⟩:=h
 obtain ⟨hh,g,d,t,os'⟩:=s'
 obtain rfl:os'=s.os:=os
 exact ⟨v,H',I.call (h':=hh) (g':=g) (d':=d) (t':=t) (ch:=[]) un hok bare (fun b z=>absurd z (by simp)),r,q⟩
end
def abz (sp:Sp) (dvs:List V) (E:XK) (t:TA):TE:=fun σ H Q=>t σ H fun vs H1=>sp (vs ++ dvs) H1 Q E
def Binds (K:Frag) (fd:FuncData) (ps:List Str) (ds:List Value):Prop :=
 ∀ (s:Shared) (us:List Value),K.In s.heap->(us ++ ds).length=ps.length->BindsTo s fd ⟨us,[]⟩ (ps.zip (us ++ ds))
theorem Binds.all {K:Frag} {fd:FuncData} {ps:List Str} (h:∀ us:List Value,us.length=ps.length->bindArgs fd ⟨us,[]⟩=pure (ps.zip us)):Binds K fd ps []:=fun s us _ hl=>by
 rw [List.append_nil] at hl ⊢
 exact .of_eq (h us hl)
def akm (CX:CXT) (X:Cx) (E:XK):Prop:=∀ (pins:List (Addr × Obj)) (σ:St) (H:Hp) (s:Shared) (e:Value) (s':Shared),Inv X pins σ H s->CX X.stack H s E e s'->X.xe e s'
section
variable {X:Cx} {CX:CXT} {k:Nat} {f C:Addr} {fd:FuncData} {ps:List Str} {sp:Sp} {dvs:List V} {ds:List Value} {E:XK} {x m:Str} {p pos apos:Pos} {e o:Expr} {es:List Expr} {ta:TE} {t:TA}
theorem aw8 {pins:List (Addr × Obj)} {σ:St} {H:Hp} {s:Shared} {Q:VK} {us:List Value} {vs:List V} (F:FnOk X.prog X.w X.K X.mg X.base CX k f fd ps sp) (hr:Room k X.A) (hb:Binds X.K fd ps ds) (hd:Vals dvs ds) (hx:akm CX X E)
  (I:Inv X pins σ H s) (r:Vals vs us) (h:sp (vs ++ dvs) H Q E):wpAny (model X.prog X.w) X.A (call (.ref f) us) (EP X pins σ Q) X.xe s:=by
 have r2:Vals (vs ++ dvs) (us ++ ds):=r.append hd
 have hl:(us ++ ds).length=ps.length:=by rw [← r2.length];exact F.len _ _ _ _ h
 refine wpAny_call (codeAny_mono (F.run X.A X.stack s H ⟨us,[]⟩ (us ++ ds) (vs ++ dvs) Q E hr I.env0 (hb s us I.kIn hl) r2 h) fun r s' hq=>?_)
 cases r with
 | error e=>exact hx pins σ H s e s' I hq
 | ok fl =>
  cases fl with
  | ret u=>exact I.after hq
  | next=>exact False.elim hq
  | brk=>exact False.elim hq
  | cont=>exact False.elim hq
theorem aut (F:FnOk X.prog X.w X.K X.mg X.base CX k f fd ps sp) (hr:Room k X.A) (hg:Gl X x) (hm:X.mg x=some (.ref f)) (hk:keepIn X.K (.ref f)=true) (hb:Binds X.K fd ps ds) (hd:Vals dvs ds) (hx:akm CX X E)
  (ha:PA X (e :: es) t) (hdb:(x == ("__debug__" : Str))=false:=by decide) (he:starEach (e :: es) X.env=(false,eval e X.env) :: starEach es X.env:=by rfl) (hpl:(backTo pos (starEach es X.env)).any (·.1)=false:=by rfl) :
  PE X (.Call (.Name x p) (e :: es) [] pos) (abz sp dvs E t):=by
 intro pins s σ H Q I h
 refine wpAny_Call_Name_kw (aur I hg hm ?_ hdb)
 refine PySem.W.callWith_K (h₀:=X.base) I.ok.mod.kin hk (thn (ha pos pins s σ H _ I h) fun us s1 ⟨vs,H1,I1,r,q⟩=>⟨I1.kIn,?_⟩) he hpl
 exact aw8 F hr hb hd hx I1 r q
end
def PK (X:Cx) (kws:List Keyword) (t:TA):Prop :=
 ∀ (pos:Pos) (pins:List (Addr × Obj)) (s:Shared) (σ:St) (H:Hp) (Q:List V->Hp->Prop),Inv X pins σ H s->t σ H Q->wpAny (model X.prog X.w) X.A (evalAll ((backToKw pos (keywordEach kws X.env)).map (·.2))) (AP X pins σ Q) X.xe s
section
variable {X:Cx} {CX:CXT} {k:Nat} {f C:Addr} {fd:FuncData} {ps ks:List Str} {sp:Sp} {E:XK} {x m:Str} {p pos apos kpos:Pos} {e o:Expr} {es:List Expr} {kws:List Keyword} {te ta:TE} {t tk:TA} {nm:Option Str}
theorem aw9:PK X [] tNil:=fun _ _ _ _ H Q I h=>wpAny_evalAll_nil ⟨[],H,I,.nil,h⟩
theorem auu (ha:PE X e te) (hr:PK X kws t):PK X (⟨nm,e,kpos⟩ :: kws) (aa6 te t):=by
 intro pos pins s σ H Q I h
 show wpAny _ _ (evalAll ((do let v ← eval e X.env;standAt pos;pure v) :: (backToKw pos (keywordEach kws X.env)).map (·.2))) _ _ s
 refine wpAny_evalAll_cons (wpAny_bind (thn (ha pins s σ H _ I h) fun u s1 ⟨x,H1,I1,r1,q1⟩=>wpAny_bind (wpAny_standAt (wpAny_pure ?_))))
 exact thn (hr pos pins s1 σ H1 _ I1 q1) fun us s2 ⟨xs,H2,I2,r2,q2⟩=>⟨x :: xs,H2,I2,.cons r1 r2,q2⟩
variable {g:List Value->List Value->List Value} {gV:List V->List V->List V}
end
structure FnScope (N P:List Str) (sc:Scope):Prop where
 kind:sc.kind=.function
 co:sc.isCoroutine=false
 gen:sc.isGenerator=false
 nd:N.Nodup
 pre:N.take P.length=P
 par:∀ x∈P,sc.names.lookup x=some .local\/sc.names.lookup x=some .cell
 nofree:∀ y∈sc.names,y.2 ≠ .free
theorem aiv {kindOf:Str->Option NameKind} {x:Str}:∀ {binds:List (Str × Value)} {m:Str->Option Value},(∀ v,(x,v) ∉ binds)->bindL kindOf binds m x=m x
 | [],_,_=>rfl
 | (n,v) :: r,m,h=>by
  unfold bindL
  rw [aiv fun w hw=>h w (List.mem_cons_of_mem _ hw)]
  split
  ·have:x ≠ n:=by rintro rfl;exact h v List.mem_cons_self
   simp [this]
  ·rfl
theorem aiw {kindOf:Str->Option NameKind} {x:Str}:∀ {binds:List (Str × Value)} {m:Str->Option Value},(∀ v,(x,v) ∉ binds)->bindC kindOf binds m x=m x
 | [],_,_=>rfl
 | (n,v) :: r,m,h=>by
  unfold bindC
  rw [aiw fun w hw=>h w (List.mem_cons_of_mem _ hw)]
  split
  ·rfl
  ·have:x ≠ n:=by rintro rfl;exact h v List.mem_cons_self
   simp [this]
theorem aix {kindOf:Str->Option NameKind} {x:Str} {v:Value}:∀ {P:List Str} {vs:List Value} {i:Nat} {m:Str->Option Value},P.Nodup->P[i]?=some x->vs[i]?=some v->kindOf x=some .local ->
  bindL kindOf (P.zip vs) m x=some v
 | [],_,_,_,_,h,_,_=>by simp at h
 | _ :: _,[],_,_,_,_,h,_=>by simp at h
 | p :: P,w :: vs,0,m,nd,h1,h2,hk=>by
  simp at h1 h2;subst h1;subst h2
  show bindL kindOf ((p,w) :: P.zip vs) m p=_
  unfold bindL
  rw [aiv fun v hv=>(List.nodup_cons.mp nd).1 (List.of_mem_zip hv).1,if_pos hk]
  simp
 | p :: P,w :: vs,i+1,m,nd,h1,h2,hk=>by
  show bindL kindOf ((p,w) :: P.zip vs) m x=_
  unfold bindL
  exact aix (i:=i) (List.nodup_cons.mp nd).2 (by simpa using h1) (by simpa using h2) hk
theorem aiy {kindOf:Str->Option NameKind} {x:Str} {v:Value}:∀ {P:List Str} {vs:List Value} {i:Nat} {m:Str->Option Value},P.Nodup->P[i]?=some x->vs[i]?=some v->kindOf x ≠ some .local ->
  bindC kindOf (P.zip vs) m x=some v
 | [],_,_,_,_,h,_,_=>by simp at h
 | _ :: _,[],_,_,_,_,h,_=>by simp at h
 | p :: P,w :: vs,0,m,nd,h1,h2,hk=>by
  simp at h1 h2;subst h1;subst h2
  show bindC kindOf ((p,w) :: P.zip vs) m p=_
  unfold bindC
  rw [aiw fun v hv=>(List.nodup_cons.mp nd).1 (List.of_mem_zip hv).1,if_neg hk]
  simp
 | p :: P,w :: vs,i+1,m,nd,h1,h2,hk=>by
  show bindC kindOf ((p,w) :: P.zip vs) m x=_
  unfold bindC
  exact aiy (i:=i) (List.nodup_cons.mp nd).2 (by simpa using h1) (by simpa using h2) hk
noncomputable def start (N:List Str) (vs:List V):St:=vs.map some ++ List.replicate (N.length - vs.length) none
noncomputable def cxOf (CX:CXT) (P:Program) (w:World) (K:Frag) (mg:Str->Option Value) (base:Heap) (N:List Str) (qual:Str) (scope:Scope) (f:Addr) (cd:Value) (A:Around) (outer:List Env) (s:Shared) (H:Hp) (E:XK):Cx where
 prog:=P
 w:=w
 K:=K
 mg:=mg
 base:=base
 A:=A.deeper (envOfC qual scope s.heap.objs.size f cd)
 N:=N
 s₀:=s
 H₀:=H
 env:=envOfC qual scope s.heap.objs.size f cd
 outer:=outer
 stack:=envOfC qual scope s.heap.objs.size f cd :: outer
 ex:=[]
 calm:=true
 fn:=fun _=>true
 pn:=[]
 xe:=fun e s'=>wpAny (model P w) (A.deeper (envOfC qual scope s.heap.objs.size f cd)) (leaving (envOfC qual scope s.heap.objs.size f cd) e) (fun _ s''=>CX outer H s E e s'') (fun e' s''=>CX outer H s E e' s'') s'
theorem akn {sc:Scope} {n:Nat} {x:Str} (h:sc.names.lookup x=some .cell):∃ c,(cellsFrom n sc.names []).lookup x=some c:=by
 have q:=PySem.W.cellsFrom_some sc.names n [] (.inl h)
 exact Option.isSome_iff_exists.mp q
theorem ap2 {CX:CXT} {P:Program} {w:World} {K:Frag} {mg:Str->Option Value} {base:Heap} {N ps:List Str} {qual:Str} {scope:Scope} {f:Addr} {cd:Value} {A:Around} {outer:List Env} {s s1:Shared} {H:Hp} {E:XK} {us:List Value} {vs:List V}
  (S:FnScope N ps scope) (hd:A.handled=none) (e0:Env0 P w K mg base A outer s H) (hl:vs.length=ps.length) (r:Vals vs us)
  (x:InCallC s s.heap.objs.size (bindL (envOfC qual scope s.heap.objs.size f cd).kindOf (ps.zip us) fun _=>none) (cellsFrom (s.heap.objs.size+1) scope.names []) (bindC (envOfC qual scope s.heap.objs.size f cd).kindOf (ps.zip us) fun _=>none) s1) :
  Inv (cxOf CX P w K mg base N qual scope f cd A outer s H E) [] (start N vs) H s1:=by
 have hpl:ps.length<=N.length:=by have:=congrArg List.length S.pre;rw [List.length_take] at this;omega
 obtain ⟨h1,tk,rfl,hk⟩:=x.done
 have noA:∀ b:Addr,b ∉ (cxOf CX P w K mg base N qual scope f cd A outer s H E).ex:=fun b z=>absurd (show b∈([]:List Addr) from z) (by simp)
 refine ⟨⟨e0.mod,S.kind,rfl,rfl,Nat.le_refl _,fun y z c h1 h2=>?_,fun y hy=>?_,fun y c _ h=>?_,fun _=>hd,Around.frames_deeper e0.frames,.inr ⟨rfl,rfl⟩,fun b z=>absurd z (noA b),e0.bs,e0.bsz,fun b _ _=>noA b,fun b z=>absurd z (noA b),e0.funs,e0.frf⟩,
  rfl,e0.bare,Un.kept hk,⟨_,x.toInCall.ns,fun i y v h1 h2 h3=>?_⟩,fun y c h=>⟨_,x.cell y c h⟩,e0.hok.fresh (Nat.le_refl _),fun y c h=>?_,fun p hp=>absurd (show p∈([]:List (Addr × Obj)) from hp) (by simp),e0.hok.kept hk,?_⟩
 ·exact name_of_addr x.apart (PySem.mem_of_lookup h1) (PySem.mem_of_lookup h2)
 ·have hy:scope.names.lookup y=some .cell\/scope.names.lookup y=some .free:=hy
  rcases hy with hy | hy
  ·exact akn hy
  ·exact absurd rfl (S.nofree _ (PySem.mem_of_lookup hy))
 ·exact Nat.le_of_lt (x.above y c (PySem.mem_of_lookup h))
 ·have hi:i < vs.length:=by
   unfold start at h2
   by_cases hi:i < vs.length
   ·exact hi
   ·rw [List.getElem?_append_right (by simpa using hi)] at h2
    rw [List.getElem?_replicate] at h2
    split at h2 <;> cases h2
  have ha:vs[i]?=some v:=by
   unfold start at h2
   rw [List.getElem?_append_left (by simpa using hi),List.getElem?_map] at h2
   cases e:vs[i]? with
   | none=>rw [e] at h2;cases h2
   | some a=>rw [e] at h2;cases h2;rfl
  obtain ⟨u,hu,rv⟩:=r.get ha
  have hp:ps[i]?=some y:=by
   rw [← S.pre,List.getElem?_take_of_lt (by omega)];exact h1
  have ndP:ps.Nodup:=by rw [← S.pre];exact S.nd.sublist (List.take_sublist _ _)
  refine ⟨u,rv,?_⟩
  rcases S.par y (List.mem_of_getElem? hp) with k | k
  ·exact .inl ⟨k,aix ndP hp hu k⟩
  ·obtain ⟨c,e⟩:=akn (n:=s.heap.objs.size+1) k
   refine .inr ⟨.inl k,c,e,?_⟩
   have q:=x.cell y c e
   rw [aiy ndP hp hu (by show scope.names.lookup y ≠ _;rw [k];decide)] at q
   exact q
 ·exact e0.hok.fresh (Nat.le_of_lt (x.above y c (PySem.mem_of_lookup h)))
 ·unfold start
  show _=N.length
  rw [List.length_append,List.length_map,List.length_replicate]
  omega
theorem azg {CX:CXT} {P:Program} {w:World} {K:Frag} {mg:Str->Option Value} {base:Heap} {k:Nat} {f:Addr} {name qual:Str} {params:Arguments} {body:List Stmt} {scope:Scope} {dV kV doc pm cdv ct oc:Value} {an od:Option Addr}
  {osl:Array (Option Value)} {N ps:List Str} {sp:Sp} (lk:K.lookup f=some ⟨oc,od,.func (fnOf name qual params body scope dV kV doc pm an cdv ct),osl⟩) (hcd:codeIn K cdv qual=true) (S:FnScope N ps scope)
  (len:∀ vs H Q E,sp vs H Q E->vs.length=ps.length)
  (hbody:∀ (A:Around) (outer:List Env) (s:Shared) (H:Hp) (vs:List V) (Q:VK) (E:XK),Room k (A.deeper (envOfC qual scope s.heap.objs.size f cdv))->sp vs H Q E ->
   ∃ t,PSs (cxOf CX P w K mg base N qual scope f cdv A outer s H E) body t/\t { nx:=fun _ H'=>Q .non H',rt:=Q } (start N vs) H) :
  FnOk P w K mg base CX (k+1) f (fnOf name qual params body scope dV kV doc pm an cdv ct) ps sp:=by
 refine ⟨len,fun A outer s H args us vs Q E hr e0 hb r hsp=>?_⟩
 have hl:=len _ _ _ _ hsp
 have KX:K.In s.heap:=e0.mod.kin.keeps fun b o e=>(e0.bs b o e).1
 have lim:s.heap.NoLimit:=e0.mod.nolimit.keeps fun b o e=>(e0.bs b o e).1
 have hkind:∀ y∈ps.zip us,scope.names.lookup y.1=some .local\/(scope.names.lookup y.1=some .cell/\((cellsFrom (s.heap.objs.size+1) scope.names []).lookup y.1).isSome=true):=fun ⟨n,v⟩ hy=>by
  rcases S.par n (List.of_mem_zip hy).1 with q | q
  ·exact .inl q
  ·exact .inr ⟨q,PySem.W.cellsFrom_some _ _ _ (.inl q)⟩
 refine codeAny_call_function hr.depth (KX _ _ lk) rfl S.co S.gen rfl (PySem.W.codeRec_of KX hcd) (hb _ _ _ _ ?_)
 refine wpAny_newFunctionEnv_cells S.kind hkind fun env he s1 x=>?_
 subst he
 refine ⟨lim.keeps x.toInCall.keep,codeAny_func ?_⟩
 obtain ⟨t,ht,hq⟩:=hbody A outer s H vs Q E (hr.deeper _) hsp
 have I:Inv (cxOf CX P w K mg base N qual scope f cdv A outer s H E) [] (start N vs) H s1:=ap2 S hr.hd e0 hl r x
 refine wpAny_mono (ht [] s1 (start N vs) H _ I hq) (fun fl s' hs=>?_) fun e s' hs=>hs
 have fin:∀ {σ':St} {H':Hp} {v:V} {u:Value},Inv (cxOf CX P w K mg base N qual scope f cdv A outer s H E) [] σ' H' s'->RelV v u->Q v H'->CE outer P w H s Q u s' :=
  fun {σ' H' v u} J rv q=>⟨v,H',J.os,J.bare,J.base,J.hok,rv,q⟩
 cases fl with
 | ret u =>
  obtain ⟨v,σ',H',J,rv,q⟩:=hs
  exact fin J rv q
 | next =>
  obtain ⟨σ',H',J,q⟩:=hs
  exact fin (v:=V.non) (u:=Value.none) J rfl q
 | brk =>
  obtain ⟨_,_,_,q⟩:=hs
  exact False.elim q
 | cont =>
  obtain ⟨_,_,_,q⟩:=hs
  exact False.elim q
section
variable {X:Cx} {x:Str} {p pos:Pos} {e:Expr} {es:List Expr} {t:TA} {id T:String} {r:List V->Hp->VK->Prop}
def tCB (r:List V->Hp->VK->Prop) (t:TA):TE:=fun σ H Q=>t σ H fun vs H1=>r vs H1 Q
theorem aak (hc:aa7 X (.builtin id) r) (hg:Gl X x) (hm:X.mg x=none) (hv:bootBuiltins x=some (.builtin id)) (ha:PA X (e :: es) t) (hn:x ≠ "__name__":=by decide) (hdb:(x == ("__debug__" : Str))=false:=by decide)
  (he:starEach (e :: es) X.env=(false,eval e X.env) :: starEach es X.env:=by rfl) (hpl:(backTo pos (starEach es X.env)).any (·.1)=false:=by rfl):PE X (.Call (.Name x p) (e :: es) [] pos) (tCB r t):=by
 intro pins s σ H Q I h
 refine wpAny_Call_Name_kw (acs I hg hm hv ?_ hn hdb)
 exact PyProof.Rows.callWith_builtin1 (thn (ha pos pins s σ H _ I h) fun us s1 ⟨vs,H1,I1,r1,q1⟩=>hc pins s1 σ H1 vs us Q I1 r1 q1) he hpl
theorem aiz (hc:aa7 X (.type T) r) (hg:Gl X x) (hm:X.mg x=none) (hv:bootBuiltins x=some (.type T)) (ha:PA X (e :: es) t) (hn:x ≠ "__name__":=by decide) (hdb:(x == ("__debug__" : Str))=false:=by decide)
  (he:starEach (e :: es) X.env=(false,eval e X.env) :: starEach es X.env:=by rfl) (hpl:(backTo pos (starEach es X.env)).any (·.1)=false:=by rfl):PE X (.Call (.Name x p) (e :: es) [] pos) (tCB r t):=by
 intro pins s σ H Q I h
 refine wpAny_Call_Name_kw (acs I hg hm hv ?_ hn hdb)
 exact PyProof.Rows.callWith_type1 (thn (ha pos pins s σ H _ I h) fun us s1 ⟨vs,H1,I1,r1,q1⟩=>hc pins s1 σ H1 vs us Q I1 r1 q1) he hpl
end
end L2
namespace HT
open PySem PyProof.Rows
noncomputable def lexLt:List Int->List Int->Bool
 | [],[]=>false
 | [],_ :: _=>true
 | _ :: _,[]=>false
 | x :: xs,y :: ys=>if x=y then lexLt xs ys else decide (x < y)
theorem ad4 (x y:Int) (xs ys:List Int):lexLt (x :: xs) (y :: ys)=if x=y then lexLt xs ys else decide (x < y):=rfl
theorem ajk:lexLt [] []=false:=rfl
theorem ah3 (y:Int) (ys:List Int):lexLt [] (y :: ys)=true:=rfl
theorem ah4 (x:Int) (xs:List Int):lexLt (x :: xs) []=false:=rfl
theorem arn (A:Around) (s:Shared) (a:Int) (t:Tok) (c:Int) (u:Tok):∃ e,SeqAt.EqAt A s (.int a t) (.int c u) e/\(e=true ↔ a=c) :=
 ⟨(a == c),SeqAt.EqAt.int_int a t c u,by simp⟩
theorem ako (A:Around) (s:Shared) (a:Int) (t:Tok) (c:Int) (u:Tok) (prog:Program) (w:World) (E:Value->Shared->Prop) (Q:Value->Shared->Prop) (h:Q (.bool (decide (a < c))) s) :
  wpAny (model prog w) A (richCompare .Lt (.int a t) (.int c u)) Q E s :=
 (PyProof.Rows.lt_int h:wpAny (model prog w) A (compareOp .Lt (.int a t) (.int c u)) Q E s)
section
open PySem.SeqAt
open PySem.AutoSeq1 (wpAny_loadPart')
open PySem.MeetsSeq PySem.MeetsSeq2 PySem.MeetsSeq3
theorem ajl (l b:Addr) (items items2:Array Value) (n n2:Nat) (dd dd2:Option Addr) (sl sl2:Array (Option Value)) (ns ms:List Int) (hi:IntsAre items.toList ns) (hj:IntsAre items2.toList ms) :
  Meets (Builtin.«tuple.__lt__» ⟨[.ref l,.ref b],[]⟩)
   (fun _ R s=>s.heap.get? l=some { cls:=.type "tuple",dict:=dd,data:=.seq items n,slots:=sl }/\s.heap.get? b=some { cls:=.type "tuple",dict:=dd2,data:=.seq items2 n2,slots:=sl2 } /\
    R (.ok (.ret (.bool (lexLt ns ms)))) s) :=
 .of_wp fun prog w A R s h=>by
  obtain ⟨hp,g,d,tk,os⟩:=s;obtain ⟨hl,hb,h⟩:=h
  have f2:=AutoSeq1.sub_tuple_tuple
  have z1:items.size=ns.length:=by rw [← hi.length];simp
  have z2:items2.size=ms.length:=by rw [← hj.length];simp
  wp_walk using wpAny_loadPart' hl,wpAny_loadPart' hb,wpAny_forIn_list _ (fun rest b s'=>b.1=none/\s'=⟨hp,g,d,tk,os⟩/\∃ (vs ws:List Value) (ns' ms':List Int),rest=vs.zip ws /\
   IntsAre vs ns'/\IntsAre ws ms'/\ns'.length+items2.size=ms'.length+items.size/\R (.ok (.ret (.bool (lexLt ns' ms')))) ⟨hp,g,d,tk,os⟩) _
  case turn =>
   rintro ⟨y,x⟩ rest b s' ⟨hb',rfl,vs,ws,ns',ms',hz,hvi,hwi,hlen,hR⟩
   cases hvi with
   | nil=>rw [List.zip_nil_left] at hz;cases hz
   | cons a t hvi' =>
    cases hwi with
    | nil=>rw [List.zip_nil_right] at hz;cases hz
    | cons c u hwi' =>
     rw [List.zip_cons_cons] at hz
     injection hz with hyx hrest
     injection hyx with hy hx
     subst hy hx
     rw [ad4] at hR
     simp only [List.length_cons] at hlen
     obtain ⟨e,he,hiff⟩:=arn A.in1 ⟨hp,g,d,tk,os⟩ a t c u
     refine wpAny_bind (he prog w _ _ ?_)
     cases e with
     | true =>
      rw [if_pos (hiff.mp rfl)] at hR
      wp_walk
      exact ⟨rfl,rfl,_,_,_,_,hrest,hvi',hwi',by omega,hR⟩
     | false =>
      rw [if_neg (fun q=>absurd (hiff.mpr q) Bool.false_ne_true)] at hR
      have hri:=ako A.in1 ⟨hp,g,d,tk,os⟩ a t c u prog w
      wp_walk using hri
      exact ⟨_,rfl,by simpa using hR⟩
  case fin =>
   rintro ⟨b1,b2⟩ s' ⟨hb',rfl,vs,ws,ns',ms',hz,hvi,hwi,hlen,hR⟩
   simp only at hb'
   subst hb'
   have hv:lexLt ns' ms'=decide (items.size < items2.size):=by
    cases hvi with
    | nil =>
     cases hwi with
     | nil =>
      simp only [List.length_nil] at hlen
      rw [ajk]
      exact (decide_eq_false (by omega)).symm
     | cons c u hw =>
      simp only [List.length_nil,List.length_cons] at hlen
      rw [ah3]
      exact (decide_eq_true (by omega)).symm
    | cons a t hv =>
     cases hwi with
     | nil =>
      simp only [List.length_nil,List.length_cons] at hlen
      rw [ah4]
      exact (decide_eq_false (by omega)).symm
     | cons c u hw =>
      rw [List.zip_cons_cons] at hz
      cases hz
   rw [hv] at hR
   wp_walk
   exact ⟨_,rfl,by simpa [Builtin.Tuple.tupleCompareSizes] using hR⟩
  case h =>
   exact ⟨rfl,rfl,items.toList,items2.toList,ns,ms,rfl,hi,hj,by omega,h⟩
end
section
variable {prog:Program} {w:World} {A:Around} {E:Value->Shared->Prop} {s:Shared}
theorem lt_tupInts {l b:Addr} {items items2:Array Value} {ns ms:List Int} {Q:Value->Shared->Prop} (hl:IsTup s.heap l items) (hb:IsTup s.heap b items2) (hi:IntsAre items.toList ns) (hj:IntsAre items2.toList ms)
  (hu:A.units < cLine) (h:Q (.bool (lexLt ns ms)) s):wpAny (model prog w) A (compareOp .Lt (.ref l) (.ref b)) Q E s:=by
 obtain ⟨⟨cls,dd,data,sl⟩,ho,hc,n,hd⟩:=id hl
 obtain ⟨⟨cls2,dd2,data2,sl2⟩,ho2,hc2,n2,hd2⟩:=id hb
 simp only at hc hd hc2 hd2
 subst hc hd hc2 hd2
 exact richCompare_meets_room (op:=.Lt) ⟨_,ho,rfl⟩ ⟨_,ho2,rfl⟩ PySem.F.slot_tuple_lt PySem.F.entry_tuple_lt (PySem.F.args_tuple_lt_2 _ _) (ajl l b items items2 n n2 dd dd2 sl sl2 ns ms hi hj)
  ⟨ho,ho2,show Value.bool (lexLt ns ms) ≠ Value.notImplemented/\Q (.bool (lexLt ns ms)) s from ⟨(fun x=>nomatch x),h⟩⟩ hu
noncomputable def sIx (n d:Nat):Option Int->Nat
 | none=>d
 | some v=>if v < 0 then (v+(n:Int)).toNat else min v.toNat n
theorem sIx_nat (n d k:Nat):sIx n d (some (k:Int))=min k n:=by
 show (if (k:Int) < 0 then ((k:Int)+(n:Int)).toNat else min (k:Int).toNat n)=min k n
 rw [if_neg (by omega),Int.toNat_natCast]
end
end HT
namespace L2
open PySem PySem.Spec PyProof.Rows
noncomputable abbrev TO:=St->Hp->(Option Int->Hp->Prop)->Prop
def PO (X:Cx) (e:Option Expr) (t:TO):Prop :=
 ∀ (pins:List (Addr × Obj)) (s:Shared) (σ:St) (H:Hp) (Q:Option Int->Hp->Prop),Inv X pins σ H s->t σ H Q ->
  wpAny (model X.prog X.w) X.A (evalPart e X.env) (fun u s'=>∃ o H',Inv X pins σ H' s'/\IsPart u o/\Q o H') X.xe s
def at9 (t:TE):TO:=fun σ H Q=>t σ H fun x H1=>∃ i,x=.int i/\Q (some i) H1
theorem abi {ns:List Int}:∀ {us:List Value},Vals (ns.map V.int) us->IntsAre us ns:=by
 induction ns with
 | nil=>intro us r;rw [List.map_nil] at r;cases r;exact .nil
 | cons n ns ih =>
  intro us r
  rw [List.map_cons] at r
  cases r with
  | cons r1 r2 =>
   obtain ⟨t,e⟩:=r1
   subst e
   exact .cons n t (ih r2)
section
variable {X:Cx} {e:Expr} {te:TE} {lo hi:Option Expr} {tl th:TO} {pos p2:Pos}
theorem am4 (h:PE X e te):PO X (some e) (at9 te):=by
 intro pins s σ H Q I hw
 rw [evalPart_some]
 refine thn (h pins s σ H _ I hw) fun u s1 ⟨x,H1,I1,r1,q1⟩=>?_
 obtain ⟨i,rfl,q⟩:=q1
 obtain ⟨t,rfl⟩:=r1
 exact ⟨some i,H1,I1,.int i t,q⟩
def SlR (X:Cx) (r:V->Option Int->Option Int->Hp->VK->Prop):Prop :=
 ∀ (pins:List (Addr × Obj)) (s:Shared) (σ:St) (H:Hp) (x:V) (v vl vu:Value) (lo hi:Option Int) (sl:Addr) (Q:VK),Inv X pins σ H s->RelV x v->s.heap.IsSliceOf sl vl vu .none->IsPart vl lo->IsPart vu hi->r x lo hi H Q ->
  ∃ T id,typeLookup (.type T) "__getitem__" = pure (some (.builtin id))/\s.TypeIs v T/\wpAny (model X.prog X.w) X.A (getItem v (.ref sl)) (EP X pins σ Q) X.xe s
def tSl (r:V->Option Int->Option Int->Hp->VK->Prop) (te:TE) (tl th:TO):TE:=fun σ H Q=>te σ H fun x H1=>tl σ H1 fun l H2=>th σ H2 fun u H3=>r x l u H3 Q
theorem aro {r:V->Option Int->Option Int->Hp->VK->Prop} (hr:SlR X r) (he:PE X e te) (hl:PO X lo tl) (hu:PO X hi th):PE X (.Subscript e (.Slice lo hi none p2) pos) (tSl r te tl th):=by
 intro pins s σ H Q I h
 refine Subscript_ (thn (he pins s σ H _ I h) fun v s1 ⟨x,H1,I1,r1,q1⟩=>?_)
 refine wpAny_Slice (thn (hl pins s1 σ H1 _ I1 q1) fun vl s2 ⟨l,H2,I2,pl,q2⟩=>thn (hu pins s2 σ H2 _ I2 q2) fun vu s3 ⟨u,H3,I3,pu,q3⟩=>?_)
 rw [evalPart_none]
 refine wpAny_pure ?_
 have I4:Inv X pins σ H3 { s3 with heap:=s3.heap.push { cls:=.type "slice",data:=.fields #[vl,vu,.none] } }:=I3.kept (t':=s3.toks) fun b ob q=>Heap.get?_push_of_some _ q
 obtain ⟨T,id,hT,ht,hg⟩:=hr pins { s3 with heap:=s3.heap.push { cls:=.type "slice",data:=.fields #[vl,vu,.none] } } σ H3 x v vl vu l u s3.heap.objs.size Q I4 r1 (Heap.IsSliceOf.new ..) pl pu q3
 show wpAny (model X.prog X.w) X.A (subscriptTail e (.Slice lo hi none p2) v (.ref s3.heap.objs.size)) (EP X pins σ Q) X.xe { s3 with heap:=s3.heap.push { cls:=.type "slice",data:=.fields #[vl,vu,.none] } }
 exact tail_any (ops:=[.ref s3.heap.objs.size,v]) ht hT hg (by with_unfolding_all rfl)
noncomputable def cutV (xs:List V) (lo hi:Option Int):List V:=(xs.drop (HT.sIx xs.length 0 lo)).take (HT.sIx xs.length xs.length hi - HT.sIx xs.length 0 lo)
theorem aml (xs:List V) (lo hi:Option Int):(cutV xs lo hi).length<=xs.length:=by
 unfold cutV
 rw [List.length_take,List.length_drop]
 omega
def rLtT (K:Frag):R2:=fun x y H Q=>∃ a b ns ms,x=.ref a/\y=.ref b/\SqT K H a (ns.map V.int)/\SqT K H b (ms.map V.int)/\Q (.bl (HT.lexLt ns ms)) H
theorem axa (hu:X.A.units < cLine):OpR X (compareOp .Lt) (rLtT X.K):=by
 intro pins s σ H x y v u Q I rx ry h
 obtain ⟨a,b,ns,ms,rfl,rfl,ha,hb,q⟩:=h
 cases rx
 cases ry
 obtain ⟨its,r1,p1,_⟩:=I.tuple ha
 obtain ⟨its2,r2,p2,_⟩:=I.tuple hb
 have i1:IntsAre its.toArray.toList ns:=abi r1
 have i2:IntsAre its2.toArray.toList ms:=abi r2
 exact HT.lt_tupInts p1 p2 i1 i2 hu ⟨.bl (HT.lexLt ns ms),H,I,rfl,q⟩
end
noncomputable def ixN (n:Nat) (i:Int):Option Nat:=if 0<=i then (if i < n then some i.toNat else none) else if -(n:Int)<=i then some (i+n).toNat else none
noncomputable def atI {α:Type} (xs:List α) (i:Int):Option α:=(ixN xs.length i).bind fun j=>xs[j]?
theorem am5 {n:Nat} {i:Int} {j:Nat} (h:ixN n i=some j):seqIndex? i n=some j/\j < n/\-(n:Int)<=i/\i < n:=by
 unfold ixN at h
 by_cases h0:0<=i
 ·rw [if_pos h0] at h
  by_cases h1:i < n
  ·rw [if_pos h1] at h
   have e:i.toNat=j:=Option.some.inj h
   exact ⟨by rw [seqIndex_of h0 h1,e],by omega,by omega,h1⟩
  ·rw [if_neg h1] at h;cases h
 ·rw [if_neg h0] at h
  by_cases h1 : -(n:Int)<=i
  ·rw [if_pos h1] at h
   have e:(i+n).toNat=j:=Option.some.inj h
   exact ⟨by rw [seqIndex_neg (by omega) h1,e],by omega,h1,by omega⟩
  ·rw [if_neg h1] at h;cases h
theorem am6 {α:Type} {xs:List α} {i:Int} {v : α} (h:atI xs i=some v):∃ j,seqIndex? i xs.length=some j/\xs[j]?=some v/\j < xs.length/\-(xs.length:Int)<=i/\i < xs.length:=by
 unfold atI at h
 cases e:ixN xs.length i with
 | none=>rw [e] at h;cases h
 | some j =>
  rw [e] at h
  obtain ⟨h1,h2,h3,h4⟩:=am5 e
  exact ⟨j,h1,h,h2,h3,h4⟩
theorem agd {α:Type} {xs:List α} {j:Nat} {v : α} (h:xs[j]?=some v):atI xs (j:Int)=some v:=by
 have hj:j < xs.length:=(List.getElem?_eq_some_iff.mp h).1
 have e:ixN xs.length (j:Int)=some j:=by
  unfold ixN
  rw [if_pos (by omega),if_pos (by omega)];simp
 unfold atI;rw [e];exact h
def auv (b:Expr):Prop:=∀ o i,subscripted b false o i=operate [o,i] (getItem o i)
def IxR (X:Cx) (r:R2):Prop :=
 ∀ (value slice:Expr) (pins:List (Addr × Obj)) (s:Shared) (σ:St) (H:Hp) (x y:V) (v u:Value) (Q:VK),Inv X pins σ H s->RelV x v->RelV y u->r x y H Q ->
  subscripted slice false v u=operate [v,u] (getItem v u)->wpAny (model X.prog X.w) X.A (subscriptTail value slice v u) (EP X pins σ Q) X.xe s
def MtR (X:Cx) (id:String) (r:V->List V->Hp->VK->Prop):Prop :=
 ∀ (pins:List (Addr × Obj)) (s:Shared) (σ:St) (H:Hp) (x:V) (xs:List V) (v:Value) (us:List Value) (Q:VK),Inv X pins σ H s->RelV x v->Vals xs us->r x xs H Q ->
  wpAny (model X.prog X.w) X.A (call (.builtin id) (v :: us)) (EP X pins σ Q) X.xe s
section
variable {X:Cx} {a b:Expr} {ta tb:TE} {pos:Pos}
theorem IxR.or {r r':R2} (h:IxR X r) (h':IxR X r'):IxR X (fun x y H Q=>r x y H Q\/r' x y H Q):=by
 intro value slice pins s σ H x y v u Q I rx ry q hs
 rcases q with q | q
 ·exact h value slice pins s σ H x y v u Q I rx ry q hs
 ·exact h' value slice pins s σ H x y v u Q I rx ry q hs
theorem aas {r:R2} (hr:IxR X r) (ha:PE X a ta) (hb:PE X b tb) (hs:auv b):PE X (.Subscript a b pos) (tOp r ta tb):=by
 intro pins s σ H Q I h
 exact Subscript_ (binT ha hb I h fun v u s2 x y H2 I2 rx ry q=>hr a b pins s2 σ H2 x y v u Q I2 rx ry q (hs _ _))
def rIxL (K:Frag):R2:=fun x y H Q=>∃ p xs i v,x=.ref p/\y=.int i/\SqL K H p xs/\atI xs i=some v/\Q v H
def rIxT (K:Frag):R2:=fun x y H Q=>∃ p xs i v,x=.ref p/\y=.int i/\SqT K H p xs/\atI xs i=some v/\Q v H
theorem ix_list:IxR X (rIxL X.K):=by
 intro value slice pins s σ H x y v u Q I rx ry h hs
 obtain ⟨p,xs,i,z,rfl,rfl,hq,he,q⟩:=h
 cases rx
 obtain ⟨t,rfl⟩:=ry
 obtain ⟨its,r,pl,hz⟩:=I.list hq
 obtain ⟨j,h1,h2,h3,h4,h5⟩:=am6 he
 obtain ⟨w,ew,rw'⟩:=r.get h2
 have hl:=r.length
 have hn:=afu
 have fin:EP X pins σ Q w s:=⟨z,H,I,rw',q⟩
 by_cases h0:0<=i
 ·have hj:i.toNat=j:=by
   rw [seqIndex_of h0 h5] at h1
   exact Option.some.inj h1
  exact item_listR pl.isList h0 (by omega) (by rw [hj];simpa using ew) fin hs
 ·have hj:(i+(its.toArray.size:Int)).toNat=j:=by
   rw [seqIndex_neg (by omega) h4] at h1
   rw [List.size_toArray,← hl]
   exact Option.some.inj h1
  exact subscriptTail_builtinR (x:=w) pl.isList.typeIs slot_list_getitem.lookup
   (wpAny_getItem_list_neg (Q:=fun r s'=>r=w/\EP X pins σ Q r s') pl.isList (by omega) (by rw [List.size_toArray] <;> omega) (by omega) (by rw [hj];simpa using ew) ⟨rfl,fin⟩) hs
theorem axb:IxR X (rIxT X.K):=by
 intro value slice pins s σ H x y v u Q I rx ry h hs
 obtain ⟨p,xs,i,z,rfl,rfl,hq,he,q⟩:=h
 cases rx
 obtain ⟨t,rfl⟩:=ry
 obtain ⟨its,r,pl,hz⟩:=I.tuple hq
 obtain ⟨j,h1,h2,h3,h4,h5⟩:=am6 he
 obtain ⟨w,ew,rw'⟩:=r.get h2
 have hl:=r.length
 have hn:=afu
 have fin:EP X pins σ Q w s:=⟨z,H,I,rw',q⟩
 exact subscriptTail_builtinR (x:=w) pl.typeIs slot_tuple_getitem.lookup
  (getItem_tuple (j:=j) (Q:=fun r s'=>r=w/\EP X pins σ Q r s') pl (by omega) (by omega) (by rw [List.size_toArray,← hl];exact h1) (by simpa using ew) ⟨rfl,fin⟩) hs
theorem aou (its:List Value) (n j:Nat) (u:Value):Obj.mapSeq (·.setIfInBounds j u) { cls:=.type "list",data:=.seq its.toArray n }={ cls:=.type "list",data:=.seq (its.set j u).toArray n }:=by
 simp [Obj.mapSeq]
theorem Inv.lst {pins:List (Addr × Obj)} {σ:St} {H:Hp} {s:Shared} {p:Addr} {xs:List V} (I:Inv X pins σ H s) (h:H p=some (.lst xs)) :
  ∃ (its:List Value) (n:Nat),Vals xs its/\s.heap.get? p=some { cls:=.type "list",data:=.seq its.toArray n }/\xs.length<=sizeLine:=by
 obtain ⟨z,its,n,r,e⟩:=I.hok p _ h
 exact ⟨its,n,r,e,z⟩
theorem Inv.lstUpd {pins:List (Addr × Obj)} {σ:St} {H:Hp} {s:Shared} {p:Addr} {xs ys:List V} {its its':List Value} {n n':Nat} {f:Obj->Obj} (I:Inv X pins σ H s) (h:H p=some (.lst xs))
  (ho:s.heap.get? p=some { cls:=.type "list",data:=.seq its.toArray n }) (hf:f { cls:=.type "list",data:=.seq its.toArray n }={ cls:=.type "list",data:=.seq its'.toArray n' }) (r:Vals ys its') (hz:ys.length<=sizeLine) (t:Nat) :
  Inv X pins σ (upd H p (.lst ys)) { s with heap:=s.heap.update p f,toks:=t }:=by
 have e:(s.heap.update p f).get? p=some { cls:=.type "list",data:=.seq its'.toArray n' }:=by
  rw [Heap.get?_update_self f ho (by rw [hf] <;> rfl),hf]
 refine I.write (x:=p) (e:=p) (by rw [h];trivial) (.inl rfl) (fun b u hb q=>(Heap.get?_update_other _ _ (Ne.symm hb)).trans q) ⟨_,e⟩ ?_
 exact ⟨hz,its',n',r,e⟩
def aov:V->V->V->Hp->(Hp->Prop)->Prop:=fun o i v H Q=>∃ p xs k j,o=.ref p/\i=.int k/\H p=some (.lst xs)/\ixN xs.length k=some j/\Q (upd H p (.lst (xs.set j v)))
theorem afc:PSet X aov:=by
 intro pins s σ H o i v ov iv u Q I ro ri rv h
 obtain ⟨p,xs,k,j,rfl,rfl,hp,hj,q⟩:=h
 cases ro
 obtain ⟨t,rfl⟩:=ri
 obtain ⟨its,n,r,ho,hz⟩:=I.lst hp
 obtain ⟨h1,h2,h3,h4⟩:=am5 hj
 have hl:=r.length
 have hn:=afu
 have I':Inv X pins σ (upd H p (.lst (xs.set j v))) { s with heap:=s.heap.update p (Obj.mapSeq (·.setIfInBounds j u)) } :=
  I.lstUpd hp ho (aou its n j u) (r.set rv j) (by rw [List.length_set];exact hz) s.toks
 by_cases h0:0<=k
 ·have hk:k.toNat=j:=by
   rw [seqIndex_of h0 h4] at h1
   exact Option.some.inj h1
  exact PySem.W.ki_setAt ho h0 (by omega) (by rw [List.size_toArray,← hl];exact h4) (by rw [hk];exact ⟨_,I',q⟩)
 ·have hk:(k+(its.toArray.size:Int)).toNat=j:=by
   rw [seqIndex_neg (by omega) h3] at h1
   rw [List.size_toArray,← hl]
   exact Option.some.inj h1
  exact PySem.W.ki_setBack ho (by omega) (by rw [List.size_toArray,← hl];exact h3) (by omega) (by rw [hk];exact ⟨_,I',q⟩)
theorem akp (lo hi:Option Int) (n:Nat):(sliceBounds lo hi none n).1=((HT.sIx n 0 lo:Nat):Int)/\(sliceBounds lo hi none n).2.1=((HT.sIx n n hi:Nat):Int)/\(sliceBounds lo hi none n).2.2=1:=by
 refine ⟨?_,?_,rfl⟩
 ·cases lo with
  | none=>simp [sliceBounds,HT.sIx]
  | some i =>
   simp only [sliceBounds,HT.sIx,Option.getD_none,show (1:Int) > 0 by decide,if_true]
   by_cases h:i < 0
   ·simp only [h,if_true] <;> omega
   ·simp only [h,if_false] <;> omega
 ·cases hi with
  | none=>simp [sliceBounds,HT.sIx]
  | some i =>
   simp only [sliceBounds,HT.sIx,Option.getD_none,show (1:Int) > 0 by decide,if_true]
   by_cases h:i < 0
   ·simp only [h,if_true] <;> omega
   ·simp only [h,if_false] <;> omega
theorem ajm (its:List Value) (lo hi:Option Int):slicePick its.toArray lo hi none=((its.drop (HT.sIx its.length 0 lo)).take (HT.sIx its.length its.length hi - HT.sIx its.length 0 lo)).toArray:=by
 obtain ⟨h1,h2,h3⟩:=akp lo hi its.toArray.size
 unfold slicePick
 rw [h1,h2,h3]
 simp only [sliceRange_one,pick_run,List.size_toArray] <;> rfl
def rSlL (K:Frag):V->Option Int->Option Int->Hp->VK->Prop:=fun x lo hi H Q=>∃ a xs,x=.ref a/\SqL K H a xs/\∀ p,H p=none->Q (.ref p) (upd H p (.lst (cutV xs lo hi)))
theorem auw:SlR X (rSlL X.K):=by
 intro pins s σ H x v vl vu lo hi sl Q I rx hs pl pu h
 obtain ⟨a,xs,rfl,hx,q⟩:=h
 cases rx
 obtain ⟨its,r,ht,hz⟩:=I.list hx
 have hlen:=r.length
 refine ⟨"list",_,slot_list_getitem.lookup,ht.isList.typeIs,?_⟩
 refine wpAny_getItem_list_slice ht.isList hs pl pu .none (by simp) ?_ (by rw [List.size_toArray] <;> omega)
 rw [ajm,← hlen]
 refine ⟨.ref s.heap.objs.size,_,I.laid (t':=s.toks) (o:=.lst (cutV xs lo hi)) (fun b ob q=>Heap.get?_push_of_some _ q) (Nat.le_refl _) ?_,rfl,q _ (I.hok.fresh (Nat.le_refl _))⟩
 exact ⟨Nat.le_trans (aml xs lo hi) hz,_,0,(r.drop (HT.sIx xs.length 0 lo)).take (HT.sIx xs.length xs.length hi - HT.sIx xs.length 0 lo),Heap.get?_push_size _ rfl⟩
theorem akq:aa7 X (.builtin "len") (fun xs H Q=>∃ p ys,xs=[.ref p]/\(SqL X.K H p ys\/SqT X.K H p ys)/\Q (.int ys.length) H):=by
 intro pins s σ H xs us Q I r h
 obtain ⟨p,ys,rfl,hq,q⟩:=h
 obtain ⟨u,rfl,rx⟩:=acf r
 cases rx
 have hn:=afu
 rcases hq with hq | hq
 ·obtain ⟨its,r',pl,hz⟩:=I.list hq
  have hlen:=r'.length
  exact Calls.call_len_list pl.isList (by simp only [List.size_toArray] <;> omega) ⟨.int ys.length,H,I.tok _,⟨s.toks+1,by rw [List.size_toArray,hlen]⟩,q⟩
 ·obtain ⟨its,r',pl,hz⟩:=I.tuple hq
  have hlen:=r'.length
  exact len_tuple pl (by simp only [List.size_toArray] <;> omega) ⟨.int ys.length,H,I.tok _,⟨s.toks+1,by rw [List.size_toArray,hlen]⟩,q⟩
def tyV (K:Frag) (T:String) (x:V) (H:Hp):Prop:=match x with
 | .str _=>T = "str"
 | .int _=>T = "int"
 | .ref p=>(T = "list"/\∃ xs,SqL K H p xs)\/(T = "tuple"/\∃ o,K.lookup p=some o/\o.cls=.type "tuple"/\o.dict=none) ∨
   (T = "dict"/\((∃ kvs,H p=some (.dK kvs))\/∃ kvs,H p=some (.dT kvs)))\/(T = "set"/\∃ S n,H p=some (.set S n))
 | _=>False
theorem axc {pins:List (Addr × Obj)} {σ:St} {H:Hp} {s:Shared} {T:String} {x:V} {v:Value} (I:Inv X pins σ H s) (r:RelV x v) (ty:tyV X.K T x H) :
  s.TypeIs v T/\∀ a,v=.ref a->∃ ob,s.heap.get? a=some ob/\ob.dict=none:=by
 cases x with
 | str z =>
  obtain ⟨t,rfl⟩:=r
  cases (show T = "str" from ty)
  exact ⟨typeIs_str s z t,fun _ e=>nomatch e⟩
 | int i =>
  obtain ⟨t,rfl⟩:=r
  cases (show T = "int" from ty)
  exact ⟨typeIs_int s i t,fun _ e=>nomatch e⟩
 | ref p =>
  cases r
  rcases ty with ⟨rfl,xs,hq⟩ | ⟨rfl,o,hk,hc,hd⟩ | ⟨rfl,hk⟩ | ⟨rfl,S,n,hk⟩
  ·obtain ⟨its,_,pl,_⟩:=I.list hq
   refine ⟨pl.isList.typeIs,fun a e=>?_⟩
   cases e
   obtain ⟨o,n,e,c,hd,_⟩:=pl
   exact ⟨o,e,hd⟩
  ·refine ⟨⟨o,I.kIn p o hk,hc⟩,fun a e=>?_⟩
   cases e
   exact ⟨o,I.kIn _ o hk,hd⟩
  ·have z:∃ o,s.heap.get? p=some o/\o.ExactDict:=by
    rcases hk with ⟨kvs,hk⟩ | ⟨kvs,hk⟩
    ·obtain ⟨_,_,_,_,o,_,_,e,ex,_⟩:=I.hok p _ hk
     exact ⟨o,e,ex⟩
    ·obtain ⟨_,_,_,_,o,_,_,e,ex,_⟩:=I.hok p _ hk
     exact ⟨o,e,ex⟩
   obtain ⟨o,e,ex⟩:=z
   refine ⟨⟨o,e,ex.1⟩,fun a e2=>?_⟩
   cases e2
   exact ⟨o,e,ex.2.1⟩
  ·obtain ⟨o,_,_,_,e,ex,_⟩:=I.hok p _ hk
   refine ⟨⟨o,e,ex.1⟩,fun a e2=>?_⟩
   cases e2
   exact ⟨o,e,ex.2.1⟩
 | _=>exact False.elim ty
def tBM (K:Frag) (T:String) (r:V->List V->Hp->VK->Prop) (to:TE) (t:TA):TE:=fun σ H Q=>to σ H fun x H1=>tyV K T x H1/\t σ H1 fun xs H2=>r x xs H2 Q
variable {o e:Expr} {es:List Expr} {to:TE} {t:TA} {name:Str} {apos cpos:Pos} {T id:String} {r:V->List V->Hp->VK->Prop}
theorem adm (pa:PlainAttrs T) (slot:Slot T name id) (hty:typeOf (.builtin id)=pure (.type "method_descriptor")) (hm:MtR X id r) (ho:PE X o to) (ha:PA X (e :: es) t)
  (hbase:attributeBase o name X.env (eval o X.env)=eval o X.env:=by rfl)
  (hfew:((backTo cpos (starEach (e :: es) X.env)).all (fun x => !x.1) && (backToKw cpos (keywordEach [] X.env)).all (fun x=>x.1.isSome)
   && decide ((e :: es).length+([]:List Keyword).length+(if ([]:List Keyword).isEmpty then 0 else 1) < 30))=true:=by rfl)
  (hline:(apos.endLine == cpos.line)=true:=by rfl) (hs:starEach (e :: es) X.env=(false,eval e X.env) :: starEach es X.env:=by rfl) (hplain:(backTo cpos (starEach es X.env)).any (·.1)=false:=by rfl) :
  PE X (.Call (.Attribute o name apos) (e :: es) [] cpos) (tBM X.K T r to t):=by
 intro pins s σ H Q I h
 refine wpAny_Call_method_late hbase hfew hline rfl (thn (ho pins s σ H _ I h) fun v s1 ⟨x,H1,I1,r1,ty,q1⟩=>?_)
 obtain ⟨h1,h2⟩:=axc I1 r1 ty
 refine ⟨T,id,pa,slot,hty,h1,h2,?_⟩
 have hA:=ha cpos pins s1 σ H1 _ I1 q1
 rw [hs] at hA ⊢
 refine Calls.callWith_builtin (by show (false || (backTo cpos (starEach es X.env)).any (·.1))=false;rw [hplain] <;> rfl) (Calls.evalArgs_plain ?_)
 exact thn hA fun us s2 ⟨vs,H2,I2,r2,q2⟩=>hm pins s2 σ H2 x vs v us Q I2 r1 r2 q2
/- xs.append(e), list.index on a module's tuple .. are MtR facts of 06m -/
end
def MtM (X:Cx) (id:String) (r:V->List V->Hp->VK->Prop):Prop :=
 ∀ (pins:List (Addr × Obj)) (s:Shared) (σ:St) (H:Hp) (x:V) (xs:List V) (v:Value) (us:List Value) (Q:VK),Inv X pins σ H s->RelV x v->Vals xs us->r x xs H Q ->
  wpAny (model X.prog X.w) X.A (call (.builtin id) (v :: us)) (EP X pins σ Q) X.xe s
theorem Vals.one:∀ {x:V} {us:List Value},Vals [x] us->∃ u,us=[u]/\RelV x u
 | _,_,.cons r .nil=>⟨_,rfl,r⟩
theorem Vals.eraseIdx:∀ {xs:List V} {us:List Value} (i:Nat),Vals xs us->Vals (xs.eraseIdx i) (us.eraseIdx i)
 | _,_,_,.nil => .nil
 | _,_,0,.cons _ t=>t
 | _,_,i+1,.cons r t => .cons r (Vals.eraseIdx i t)
theorem Vals.reverse {xs:List V} {us:List Value} (h:Vals xs us):Vals xs.reverse us.reverse:=by
 induction h with
 | nil=>exact .nil
 | cons r t ih=>rw [List.reverse_cons,List.reverse_cons];exact Vals.append ih (.cons r .nil)
theorem Vals.rep {xs:List V} {us:List Value} (h:Vals xs us):∀ k:Nat,Vals (List.replicate k xs).flatten (List.replicate k us).flatten
 | 0 => .nil
 | k+1=>by
  rw [List.replicate_succ,List.replicate_succ,List.flatten_cons,List.flatten_cons]
  exact Vals.append h (Vals.rep h k)
theorem ai0 {α:Type}:∀ (l:List α) (i:Nat),(l.eraseIdx i).length<=l.length
 | [],_=>Nat.le_refl _
 | _ :: _,0=>Nat.le_succ _
 | _ :: r,i+1=>Nat.succ_le_succ (ai0 r i)
theorem ai1 (its:List Value):∀ (k:Nat) (acc:List Value),
  List.foldl (fun x1 x2=>x1 ++ x2) acc.toArray (List.replicate k its.toArray)=(acc ++ (List.replicate k its).flatten).toArray
 | 0,acc=>by simp
 | k+1,acc=>by
  have e:acc.toArray ++ its.toArray=(acc ++ its).toArray:=by simp
  have e2:(acc ++ its) ++ (List.replicate k its).flatten=acc ++ (List.replicate (k+1) its).flatten:=by
   rw [List.replicate_succ,List.flatten_cons,List.append_assoc]
  rw [← e2,← ai1 its k (acc ++ its),← e,List.replicate_succ,List.foldl_cons]
section
variable {X:Cx} {pins:List (Addr × Obj)} {σ:St} {H:Hp} {s:Shared} {l b:Addr} {xs ys zs:List V}
theorem Inv.lset {its its':List Value} {n:Nat} {f:Array Value->Array Value} {t':Nat} (I:Inv X pins σ H s) (hH:H l=some (.lst xs))
  (e:s.heap.get? l=some { cls:=.type "list",data:=.seq its.toArray n }) (hf:f its.toArray=its'.toArray) (hv:Vals ys its') (hz:ys.length<=sizeLine) :
  Inv X pins σ (upd H l (.lst ys)) { s with heap:=s.heap.update l (Obj.mapSeq f),toks:=t' }:=by
 have q:=PySem.IsL.update e f
 rw [hf] at q
 refine I.write (x:=l) (e:=l) (by rw [hH];exact trivial) (.inl rfl) (fun b' u hb hu=>(Heap.get?_update_other s.heap (Obj.mapSeq f) (Ne.symm hb)).trans hu) ⟨_,q⟩ ?_
 exact ⟨hz,its',_,hv,q⟩
theorem Inv.lnew {its:List Value} {t':Nat} (I:Inv X pins σ H s) (hv:Vals ys its) (hz:ys.length<=sizeLine) :
  Inv X pins σ (upd H s.heap.objs.size (.lst ys)) { s with heap:=s.heap.push { cls:=.type "list",data:=.seq its.toArray },toks:=t' } :=
 I.laid (fun _ _ q=>Heap.get?_push_of_some _ q) (Nat.le_refl _) ⟨hz,its,0,hv,Heap.get?_push_size _ rfl⟩
theorem Inv.fresh (I:Inv X pins σ H s):H s.heap.objs.size=none:=I.hok.fresh (Nat.le_refl _)
theorem Inv.lstM (I:Inv X pins σ H s) (hH:H l=some (.lst xs)):xs.length<=sizeLine/\∃ (its:List Value) (n:Nat),Vals xs its/\xs.length=its.length/\s.heap.get? l=some { cls:=.type "list",data:=.seq its.toArray n }:=by
 obtain ⟨z,its,n,r,e⟩:=I.hok l _ hH
 exact ⟨z,its,n,r,r.length,e⟩
theorem arp {n:Nat} (h:n<=sizeLine):Builtin.List.listTooLong n=false:=by
 unfold Builtin.List.listTooLong
 exact decide_eq_false (by omega)
end
section
variable {X:Cx}
def ae0:V->List V->Hp->VK->Prop:=fun x vs H Q=>∃ l xs y,x=.ref l/\vs=[y]/\H l=some (.lst xs)/\xs.length < sizeLine/\Q .non (upd H l (.lst (xs ++ [y])))
theorem ab6:MtM X "list.append" ae0:=by
 intro pins s σ H x vs v us Q I rx rv h
 obtain ⟨l,xs,y,rfl,rfl,hH,hz,q⟩:=h
 cases rx
 obtain ⟨u,rfl,ru⟩:=rv.one
 obtain ⟨z,its,n,r,hl,e⟩:=I.lstM hH
 refine call_meets F.slot_list_append ⟨_,e,rfl⟩ F.entry_list_append (F.args_list_append_2 _ _) (PySem.list_append l its.toArray n u (by rw [List.size_toArray];omega)) ⟨e,?_⟩
 refine ⟨.non,_,I.lset (its':=its ++ [u]) hH e (by simp) (r.append (.cons ru .nil)) ?_,rfl,q⟩
 rw [List.length_append,List.length_singleton]
 omega
def ahb:V->List V->Hp->VK->Prop:=fun x vs H Q=>∃ l xs i k y,x=.ref l/\vs=[.int i]/\H l=some (.lst xs)/\-(2 ^ 63)<=i/\i < 2 ^ 63/\seqIndex? i xs.length=some k/\xs[k]?=some y/\Q y (upd H l (.lst (xs.eraseIdx k)))
theorem arq:MtM X "list.pop" ahb:=by
 intro pins s σ H x vs v us Q I rx rv h
 obtain ⟨l,xs,i,k,y,rfl,rfl,hH,h1,h2,hk,hy,q⟩:=h
 cases rx
 obtain ⟨u,rfl,ru⟩:=rv.one
 obtain ⟨t,rfl⟩:=ru
 obtain ⟨z,its,n,r,hl,e⟩:=I.lstM hH
 obtain ⟨w,hw,rw'⟩:=r.get hy
 refine call_meets F.slot_list_pop ⟨_,e,rfl⟩ F.entry_list_pop (F.args_list_pop_2 _ _)
  (MeetsSeq.list_pop_at l its.toArray n i t k w (fitsIndex_both h1 h2) (by rw [List.size_toArray,← hl];exact hk) (by rw [← Array.getElem?_toList];exact hw) (by rw [List.size_toArray];omega)) ⟨e,?_⟩
 refine ⟨y,_,I.lset (its':=its.eraseIdx k) hH e ?_ (r.eraseIdx k) ?_,rw',q⟩
 ·show its.toArray.eraseIdxIfInBounds k=(its.eraseIdx k).toArray
  rw [List.eraseIdxIfInBounds_toArray]
 ·have:=ai0 xs k
  omega
def rCat:R2:=fun x y H Q=>∃ l b xs zs,x=.ref l/\y=.ref b/\H l=some (.lst xs)/\H b=some (.lst zs)/\xs.length+zs.length<=sizeLine/\∀ p,H p=none->Q (.ref p) (upd H p (.lst (xs ++ zs)))
theorem axd:OpR X (binaryOp .Add) rCat:=by
 intro pins s σ H x y v u Q I rx ry h
 obtain ⟨l,b,xs,zs,rfl,rfl,hH,hB,hz,q⟩:=h
 cases rx
 cases ry
 obtain ⟨z,its,n,r,hl,e⟩:=I.lstM hH
 obtain ⟨z2,its2,n2,r2,hl2,e2⟩:=I.lstM hB
 refine PySem.P.add_list e e2 ?_ (by rw [List.size_toArray,List.size_toArray];omega)
 have ea:its.toArray ++ its2.toArray=(its ++ its2).toArray:=by simp
 rw [ea]
 exact ⟨.ref _,_,I.lnew (t':=s.toks) (r.append r2) (by rw [List.length_append];omega),rfl,q _ I.fresh⟩
def rRep:R2:=fun x y H Q=>∃ l k xs,x=.ref l/\y=.int k/\H l=some (.lst xs)/\-(2 ^ 63)<=k/\k < 2 ^ 63/\xs.length * k.toNat<=sizeLine /\
 ∀ p,H p=none->Q (.ref p) (upd H p (.lst (List.replicate k.toNat xs).flatten))
theorem am7 {α:Type} (xs:List α) (k:Nat):(List.replicate k xs).flatten.length=k * xs.length:=by
 induction k with
 | zero=>simp
 | succ k ih=>rw [List.replicate_succ,List.flatten_cons,List.length_append,ih,Nat.succ_mul,Nat.add_comm]
theorem axe:OpR X (binaryOp .Mult) rRep:=by
 intro pins s σ H x y v u Q I rx ry h
 obtain ⟨l,k,xs,rfl,rfl,hH,h1,h2,hz,q⟩:=h
 cases rx
 obtain ⟨t,rfl⟩:=ry
 obtain ⟨z,its,n,r,hl,e⟩:=I.lstM hH
 have hlen:its.toArray.size * k.toNat<=sizeLine:=by rw [List.size_toArray,← hl];exact hz
 have hcap:¬ its.toArray.size * k.toNat > (2 ^ 63 - 1) / 8:=by
  have:(sizeLine:Nat)<=(2 ^ 63 - 1) / 8:=by decide
  omega
 have hfit:¬ (!Builtin.List.listFitsIndex k)=true:=by
  rw [fitsIndex_both h1 h2]
  exact Bool.false_ne_true
 have hlong:¬ Builtin.List.listTooLong (its.toArray.size * k.toNat)=true:=by
  rw [arp hlen]
  exact Bool.false_ne_true
 have hnew:List.foldl (fun x1 x2=>x1 ++ x2) #[] (List.replicate (if its.toArray.isEmpty=true then 0 else k.toNat) its.toArray)=(List.replicate k.toNat its).flatten.toArray:=by
  have f0:∀ m:Nat,List.foldl (fun x1 x2=>x1 ++ x2) #[] (List.replicate m its.toArray)=(List.replicate m its).flatten.toArray:=fun m=>by
   have:=ai1 its m []
   rw [List.nil_append] at this
   exact this
  rw [f0]
  cases its with
  | nil=>simp
  | cons a r'=>rw [if_neg (by simp)]
 refine wpAny_binaryOp_repeat_ref (T:="list") (U:="int") (by decide) ⟨_,e,rfl⟩ (fun s'=>typeIs_int s' k t) noFill_list_mul F.fills_int_mul F.slot_int_rmul repeat_list F.slot_int_index.lookup
  (call_meets F.slot_int_rmul (typeIs_int s k t) F.entry_int_rmul (F.args_int_rmul_2 _ _) (int___rmul___int_list k t l its.toArray n)
   ⟨e,rfl,⟨_,e,rfl⟩,call_meets F.slot_list_mul ⟨_,e,rfl⟩ F.entry_list_mul (F.args_list_mul_2 _ _) (AutoListH.list___mul___list_int_3 l its.toArray n k t hfit hcap hlong) ⟨e,?_⟩⟩)
 rw [hnew]
 exact ⟨.ref _,_,I.lnew (t':=s.toks) (r.rep k.toNat) (by rw [am7,Nat.mul_comm];exact hz),rfl,q _ I.fresh⟩
end
section
variable {prog:Program} {w:World} {A:Around} {E:Value->Shared->Prop} {s:Shared}
end
section
variable {X:Cx}
end
section
variable {κ:Type} [DecidableEq κ]
noncomputable def valV (kvs:List (κ × V)) (k : κ):Option V:=(kvs.find? fun kv=>decide (kv.1=k)).map (·.2)
noncomputable def putK (kvs:List (κ × V)) (k : κ) (v:V):List (κ × V) :=
 if (kvs.any fun kv=>decide (kv.1=k))=true then kvs.map (fun kv=>if kv.1=k then (kv.1,v) else kv) else kvs ++ [(k,v)]
noncomputable def aua (kvs:List (κ × V)) (k : κ):List (κ × V):=kvs.filter fun kv=>decide (kv.1 ≠ k)
theorem akr {p : κ × V} {r:List (κ × V)} {k : κ} (e:p.1=k):valV (p :: r) k=some p.2:=by simp [valV,List.find?_cons,e]
theorem aks {p : κ × V} {r:List (κ × V)} {k : κ} (e:¬ p.1=k):valV (p :: r) k=valV r k:=by simp [valV,List.find?_cons,e]
theorem RelO.getD {o:Option V} {u:Option Value} {d:V} {d':Value} (r:RelO o u) (rd:RelV d d'):RelV (o.getD d) (u.getD d'):=by
 cases o with
 | none=>cases u with
  | none=>exact rd
  | some _=>exact (show False from r).elim
 | some _=>cases u with
  | none=>exact (show False from r).elim
  | some _=>exact r
theorem KV.val {kvs:List (κ × V)} {vs:List (κ × Value)} (r:KV kvs vs) (k : κ):RelO (valV kvs k) (valueAt vs k):=by
 unfold KV at r
 induction r with
 | nil=>exact True.intro
 | @cons p q ps qs h t ih =>
  obtain ⟨h1,h2⟩:=h
  by_cases e:p.1=k
  ·have e':q.1=k:=h1.symm.trans e
   have b:valueAt (q :: qs) k=some q.2:=by simp [valueAt,List.find?_cons,e']
   rw [akr e,b];exact h2
  ·have e':¬ q.1=k:=fun z=>e (h1.trans z)
   have b:valueAt (q :: qs) k=valueAt qs k:=by simp [valueAt,List.find?_cons,e']
   rw [aks e,b];exact ih
theorem KV.any {kvs:List (κ × V)} {vs:List (κ × Value)} (r:KV kvs vs) (k : κ):(kvs.any fun kv=>decide (kv.1=k))=vs.any fun kv=>decide (kv.1=k):=by
 unfold KV at r
 induction r with
 | nil=>rfl
 | cons h t ih=>rw [List.any_cons,List.any_cons,ih,h.1]
theorem KV.drop {kvs:List (κ × V)} {vs:List (κ × Value)} (r:KV kvs vs) (k : κ):KV (aua kvs k) (without vs k):=by
 unfold KV at r ⊢
 unfold aua without
 induction r with
 | nil=>exact .nil
 | @cons p q ps qs h t ih =>
  obtain ⟨h1,h2⟩:=h
  rw [List.filter_cons,List.filter_cons]
  by_cases e:p.1=k
  ·have a:¬ decide (p.1 ≠ k)=true:=by simp [e]
   have b:¬ decide (q.1 ≠ k)=true:=by simp [h1.symm.trans e]
   rw [if_neg a,if_neg b];exact ih
  ·have e':¬ q.1=k:=fun z=>e (h1.trans z)
   have a:decide (p.1 ≠ k)=true:=by simp [e]
   have b:decide (q.1 ≠ k)=true:=by simp [e']
   rw [if_pos a,if_pos b];exact .cons ⟨h1,h2⟩ ih
theorem KV.length {kvs:List (κ × V)} {vs:List (κ × Value)} (r:KV kvs vs):kvs.length=vs.length:=Paired.length r
end
abbrev KT (H:Hp):List (List Key × V)->List (List Key × Addr × Value)->Prop:=Paired fun p q=>p.1=q.1/\H q.2.1=some (.tup (p.1.map kV))/\RelV p.2 q.2.2
theorem KT.val {H:Hp} {kvs:List (List Key × V)} {xs:List (List Key × Addr × Value)} (r:KT H kvs xs) (k:List Key):RelO (valV kvs k) ((atKey xs k).map (·.2)):=by
 induction r with
 | nil=>exact True.intro
 | @cons p q ps qs h t ih =>
  obtain ⟨h1,_,h2⟩:=h
  by_cases e:p.1=k
  ·have e':q.1=k:=h1.symm.trans e
   have b:atKey (q :: qs) k=some q.2:=by simp [atKey,List.find?_cons,e']
   rw [akr e,b];exact h2
  ·have e':¬ q.1=k:=fun z=>e (h1.trans z)
   have b:atKey (q :: qs) k=atKey qs k:=by simp [atKey,List.find?_cons,e']
   rw [aks e,b];exact ih
theorem KT.keeps {H H':Hp} {kvs:List (List Key × V)} {xs:List (List Key × Addr × Value)} (r:KT H kvs xs) (ht:∀ b ys,H b=some (.tup ys)->H' b=some (.tup ys)):KT H' kvs xs :=
 Paired.mapP r fun _ _ z=>⟨z.1,ht _ _ z.2.1,z.2.2⟩
section
variable {P:Program} {w:World} {H:Hp} {h:Heap} {a:Addr}
end
def DGet (H:Hp) (a:Addr) (y:V) (r:Option V):Prop :=
 (∃ kvs k,Rd H a (.dK kvs)/\y=kV k/\r=valV kvs k)\/∃ kvs k b,Rd H a (.dT kvs)/\y=.ref b/\H b=some (.tup (k.map kV))/\r=valV kvs k
def DPut (H:Hp) (a:Addr) (y v:V) (H':Hp):Prop :=
 (∃ kvs k,H a=some (.dK kvs)/\y=kV k/\kvs.length < sizeLine/\H'=upd H a (.dK (putK kvs k v))) ∨
 ∃ kvs k b,H a=some (.dT kvs)/\y=.ref b/\H b=some (.tup (k.map kV))/\kvs.length < sizeLine/\H'=upd H a (.dT (putK kvs k v))
theorem DGet.k {H:Hp} {a:Addr} {kvs:List (Key × V)} {k:Key} (e:H a=some (.dK kvs)):DGet H a (kV k) (valV kvs k):=.inl ⟨kvs,k,.inl e,rfl,rfl⟩
theorem DPut.k {H:Hp} {a:Addr} {kvs:List (Key × V)} {k:Key} {v:V} (e:H a=some (.dK kvs)) (hl:kvs.length < sizeLine):DPut H a (kV k) v (upd H a (.dK (putK kvs k v))):=.inl ⟨kvs,k,e,rfl,hl,rfl⟩
section
variable {X:Cx} {pins:List (Addr × Obj)} {σ:St} {H:Hp} {s:Shared} {a:Addr} {y v:V} {u r:Value} {o:Option V} {A:Around} {E:Value->Shared->Prop}
theorem Inv.big (I:Inv X pins σ H s):sysModules < s.heap.objs.size:=by
 have h:mainGlobals < s.heap.objs.size:=(I.mod.glob.keeps I.bk).lt
 exact Nat.lt_trans (by decide) h
end
section
variable {X:Cx} {pins:List (Addr × Obj)} {σ:St} {H:Hp} {s:Shared} {a:Addr} {kvs:List (Key × V)} {k:Key} {u:Value} {A:Around} {E:Value->Shared->Prop}
end
section
variable {X:Cx} {o i e value:Expr} {pos pos' tpos:Pos} {td ty tv:TE}
end
section
variable {X:Cx} {pos:Pos}
end
section
variable {X:Cx} {pins:List (Addr × Obj)} {σ:St} {H:Hp} {s:Shared} {a:Addr} {y d:V} {u r:Value} {o:Option V} {A:Around} {E:Value->Shared->Prop}
end
section
variable {X:Cx} {o e f:Expr} {apos cpos:Pos} {td ty tx:TE}
end
section
variable {X:Cx} {pins:List (Addr × Obj)} {σ:St} {H:Hp} {s:Shared} {a:Addr} {kvs:List (Key × V)} {A:Around} {E:Value->Shared->Prop}
end
section
variable {X:Cx} {pins:List (Addr × Obj)} {σ:St} {H:Hp} {s:Shared} {a:Addr} {y:V} {u:Value} {A:Around} {E:Value->Shared->Prop}
end
end L2
namespace Att
open PySem PySem.W PySem.Calls PyProof.Rows
theorem ahc {P:Params} {h:Heap}:∀ (ns:List Int) (vs:List Value),WellAll P h vs (ns.map WData.int)->IntsAre vs ns:=by
 intro ns
 induction ns with
 | nil =>
  intro vs w
  rw [List.map_nil] at w
  cases w
  exact .nil
 | cons n ns ih =>
  intro vs w
  rw [List.map_cons] at w
  cases w with
  | cons a b =>
   cases a
   exact .cons _ _ (ih _ b)
theorem ap3 {l:OpenLaw} {n:Nat} (hn:l.most=some n) {P:Params} {h:Heap} {args:List WData} {vals:List Value}
  (hpre:l.row.toRowW.claim.pre args=true) (hwl:WellAll P h vals args) :
  ∃ a vs ns,vals=[Value.ref a]/\args=[WData.list (ns.map WData.int)]/\h.get? a=some { cls:=.type "list",data:=.seq vs.toArray }/\IntsAre vs ns/\ns.length<=n:=by
 have hsh:WShape.hasAll [] args [.list .int]=true:=(pre_splitW hpre).1
 have hc:l.pre.holds [] { args:=args }=true:=(pre_splitW hpre).2
 obtain ⟨d,r,rfl,h1,h2⟩:=hasAllW_cons hsh
 obtain rfl:=hasAllW_nil h2
 obtain ⟨xs,rfl,h3⟩:=hasW_list h1
 obtain ⟨ns,rfl⟩:=items_int h3
 have hlen:ns.length<=n:=by
  unfold OpenLaw.pre at hc
  have h4:(WTm.not (.lt (.lit (.int (n:Int))) (.len (.arg 0)))).holds [] { args:=[.list (ns.map .int)] }=true:=by
   have h4:=(holds_andW hc).1
   rw [hn] at h4
   exact h4
  have h5:=condW_of h4 (w_not (w_lt w_lit (w_len_list (w_arg rfl))))
  rw [List.length_map] at h5
  refine Nat.le_of_not_lt fun q=>?_
  have q':(n:Int) < ((ns.length:Nat):Int):=by omega
  first
   | (rw [decide_eq_true q'] at h5;exact absurd h5 (by decide))
   | (simp at h5;omega)
 cases hwl with
 | cons w1 w2 =>
  cases w2
  cases w1 with
  | list ho hall=>exact ⟨_,_,ns,rfl,rfl,ho,ahc ns _ hall,hlen⟩
theorem ap4 (l:OpenLaw) (args:List WData):l.row.toRowW.claim.post args (.bool true) args=true :=
 postW_of (r:=l.row.toRowW) (X:=(true == true))
  (show WShape.has [] (.bool true) .bool=true by first | rfl | decide | simp [WShape.has,WShape.arms,WShape.armsAll])
  (show (WTm.eq .res (.lit (.bool true))).value [] { args:=args,res:=some (.bool true),after:=args }=some (.bool (true == true)) from w_eq_bool (w_res rfl) w_lit) rfl
theorem attach_call {l:OpenLaw} {n:Nat} {q:Program} {loose:List Str} {XP:(Str->Option Value)->Heap->Prop} {YP:World->Heap->Prop} {d:DefRec}
  (hn:l.most=some n) (hdf:d.params.defaults=[])
  (call:∀ (w:World) (s₀ s₁:Shared) (mg mb:Str->Option Value) (fa:Addr) (o:Obj) (pm cd doc:Value) (a:Addr) (vs:List Value) (ns:List Int),
   Ground q loose [] XP w s₀ mg mb s₁.heap->YP w s₁.heap ->
   s₁.heap.get? fa=some o->o.data=.func (docDef d.name d.params d.body d.scope pm cd doc)->s₁.heap.CodeRec cd d.name->mg d.name=some (.ref fa) ->
   s₁.heap.get? a=some { cls:=.type "list",data:=.seq vs.toArray }->IntsAre vs ns->ns.length<=n->s₁.gens = #[] ->
   codeAny (model l.prog w) callerA (.call (.ref fa) ⟨[.ref a],[]⟩) (fun r s'=>r=.ok (.ret (.bool true))/\OldK s₁.heap s'.heap/\s'.os=s₁.os/\AllBare s'.gens) s₁) :
  WalkO q loose XP YP l.row.toRowW d [] (fun f vs=>PySem.call f vs):=by
 intro w s₀ s₁ mg mb G Y fa o pm cd doc dV kV ho hd hcd hD hmg hg args vals as hpre hlay hrd hwl hlo
 obtain rfl:dV=.none:=Dflts.none hD hdf
 obtain rfl:kV=.none:=Dflts.noKw hD
 obtain ⟨a,vs,ns,rfl,rfl,hobj,hints,hlen⟩:=ap3 hn hpre hwl
 refine enter_call (codeAny_mono (call w s₀ s₁ mg mb fa o pm cd doc a vs ns G Y ho (fd_plain hd) hcd hmg hobj hints hlen hg) fun r s' hq=>?_)
 obtain ⟨rfl,h2,h3,h4⟩:=hq
 exact ⟨.inl ⟨.bool true,.bool true,[],rfl,fun _=>rfl,.bool true,ap4 l _,fun _=>⟨List.Pairwise.nil,fun _ hm=>(nomatch hm)⟩⟩,h2,h3,h4⟩
section
variable {prog:Program} {w:World} {A:Around} {E:Value->Shared->Prop} {s:Shared} {K:Frag}
end
end Att
namespace L2
open PySem PySem.Spec PyProof.Rows
theorem afv:∀ {vs:List Value} {ns:List Int},IntsAre vs ns->Vals (ns.map V.int) vs
 | _,_,.nil => .nil
 | _,_,.cons n t h => .cons ⟨t,rfl⟩ (afv h)
def Only (H:Hp):Prop:=∀ b,H b=none\/∃ o xs,H b=some (.frz o (.lst xs))
theorem ars {P:Program} {w:World} {K:Frag} {mg mb:Str->Option Value} {CX:CXT} {k:Nat} {fa a:Addr} {fd:FuncData} {x:Str} {sp:Sp} {s₁:Shared} {vs:List Value} {ns:List Int}
  (KX:K.In s₁.heap) (hns:s₁.heap.Ns mainGlobals mg) (hb:s₁.heap.Ns builtinsNs mb) (hbb:∀ x:Str,x ≠ "__name__"->mb x=bootBuiltins x) (hlim:s₁.heap.NoLimit) (hg:s₁.gens = #[])
  (ha:s₁.heap.get? a=some { cls:=.type "list",data:=.seq vs.toArray }) (hi:IntsAre vs ns) (hl:ns.length<=sizeLine) (hr:Room k callerA)
  (F:∀ base:Heap,K.In base->base.Ns mainGlobals mg->FnOk P w K mg base CX k fa fd [x] sp) (hbind:∀ (s:Shared) (u:Value),BindsTo s fd ⟨[u],[]⟩ [(x,u)])
  (hsp:∀ H:Hp,Only H->SqL K H a (ns.map V.int)->sp [.ref a] H (fun v _=>v=.bl true) fun _ _ _=>False)
  (hCX:∀ H e s',CX [] H s₁ (fun _ _ _=>False) e s'->False) :
  codeAny (model P w) callerA (.call (.ref fa) ⟨[.ref a],[]⟩) (fun r s'=>r=.ok (.ret (.bool true))/\OldK s₁.heap s'.heap/\s'.os=s₁.os/\AllBare s'.gens) s₁:=by
 have rv:=afv hi
 have lenV:=hi.length
 -- from an abstract heap in which nothing but the script may be tracked
 have core:∀ H:Hp,Only H->SqL K H a (ns.map V.int)->HOk P w H s₁.heap->(∀ b,H b ≠ none->b=a)->(H a ≠ none->K.lookup a=none) ->
   codeAny (model P w) callerA (.call (.ref fa) ⟨[.ref a],[]⟩) (fun r s'=>r=.ok (.ret (.bool true))/\OldK s₁.heap s'.heap/\s'.os=s₁.os/\AllBare s'.gens) s₁:=by
  intro H hO hS hok hA hK
  have base_of:∀ {b:Addr} {o:Obj},s₁.heap.get? b=some o->H b=none->(hidT s₁.heap H).get? b=some o:=fun e n=>ark e n
  have noA:∀ {b:Addr} {o:Obj} {es:Array DictEntry} {ep:Nat},s₁.heap.get? b=some o->o.data=.dict es ep->H b=none:=fun {b o es ep} e d=>by
   cases q:H b with
   | none=>rfl
   | some u =>
    have e':b=a:=hA b (by rw [q];simp)
    subst e'
    rw [ha] at e;cases e
    have d':Data.seq vs.toArray _=Data.dict es ep:=d
    cases d'
  have nsK:∀ {b:Addr} {m:Str->Option Value},s₁.heap.Ns b m->(hidT s₁.heap H).Ns b m:=fun {b m} ⟨o,es,ep,e,d,r⟩=>⟨o,es,ep,base_of e (noA e d),d,r⟩
  have hKb:K.In (hidT s₁.heap H):=fun b o e=>base_of (KX b o e) (by
   cases q:H b with
   | none=>rfl
   | some u =>
    have e':b=a:=hA b (by rw [q];simp)
    subst e'
    rw [hK (by rw [q];simp)] at e;cases e)
  have hM:Mod K mg (hidT s₁.heap H):=⟨hKb,nsK hns,⟨mb,nsK hb,hbb⟩,let ⟨mc,h1,h2⟩:=hlim;⟨mc,nsK h1,h2⟩⟩
  have e0:Env0 P w K mg (hidT s₁.heap H) callerA [] s₁ H:=⟨rfl,hM,fun b o e=>aup e,Nat.le_of_eq (apt _ _),trivial,fun b hb=>absurd (show b∈([]:List Addr) from hb) (by simp),hok,.of_eq hg⟩
  refine codeAny_mono ((F _ hKb (nsK hns)).run callerA [] s₁ H ⟨[.ref a],[]⟩ [.ref a] [.ref a] _ _ hr e0 (hbind s₁ (.ref a)) (.cons rfl .nil) (hsp H hO hS)) fun r s' h=>?_
  cases r with
  | error e=>exact (hCX H e s' h).elim
  | ok fl =>
   cases fl with
   | next=>exact False.elim h
   | brk=>exact False.elim h
   | cont=>exact False.elim h
   | ret u =>
    obtain ⟨v,H',os,bare,un,hok',r',q⟩:=h
    have q':v=.bl true:=q
    subst q'
    obtain rfl:u=Value.bool true:=r'
    refine ⟨rfl,OldK.of_keep fun b o e=>?_,os,bare⟩
    cases q:H b with
    | none=>exact un.keep b o e q (by intro z;exact absurd (show b∈([]:List Addr) from z) (by simp)) (by simp)
    | some u =>
     rcases hO b with z | ⟨ob,xs,z⟩
     ·rw [q] at z;cases z
     ·have z2:=un.frzs b ob _ z
      obtain ⟨e1,_⟩:=hok b _ z
      obtain ⟨e2,_⟩:=hok' b _ z2
      rw [e] at e1;cases e1
      exact e2
 cases hk:K.lookup a with
 | some o =>
  -- the script is one of the module's own objects
  have e:=KX a o hk
  rw [ha] at e
  cases e
  refine core (fun _=>none) (fun _ => .inl rfl) (.inr ⟨_,vs.toArray,_,hk,rfl,rfl,rfl,by rw [List.size_toArray,lenV];exact hl,by simpa using rv⟩) (fun b u z=>by have z':(none:Option HO)=some u:=z;cases z') (fun b z=>absurd rfl z) fun z=>absurd rfl z
 | none =>
  refine core (fun b=>if b=a then some (.frz { cls:=.type "list",data:=.seq vs.toArray } (.lst (ns.map V.int))) else none) (fun b=>?_) (.inl (.inr ⟨{ cls:=.type "list",data:=.seq vs.toArray },if_pos rfl⟩)) (fun b u z=>?_) (fun b z=>?_) fun _=>hk
  ·by_cases hb:b=a
   ·exact .inr ⟨_,_,if_pos hb⟩
   ·exact .inl (if_neg hb)
  ·by_cases hb:b=a
   ·have z':=(if_pos hb).symm.trans z
    cases z'
    subst hb
    exact ⟨ha,by rw [List.length_map];exact hl,vs,_,rv,ha⟩
   ·have z':=(if_neg hb).symm.trans z
    cases z'
  ·by_cases hb:b=a
   ·exact hb
   ·exact absurd (if_neg hb) z
noncomputable abbrev KOf {K:Frag} {h:Heap} (_:K.In h):Frag:=K
theorem walk_of {l:PySem.W.OpenLaw} {n k:Nat} {q:Program} {loose:List Str} {XP:(Str->Option Value)->Heap->Prop} {YP:World->Heap->Prop} {d:DefRec} {K:Params->Frag} {CX:World->CXT} {sp:World->Sp} {x:Str}
  (hn:l.most=some n) (hn2:n<=sizeLine) (hdf:d.params.defaults=[]) (hr:Room k callerA)
  (hY:∀ (w:World) (h:Heap),YP w h->(K w.params).In h)
  (F:∀ (w:World) (mg:Str->Option Value) (fa:Addr) (h:Heap),(K w.params).In h->h.Ns mainGlobals mg->mg d.name=some (.ref fa) ->
   ∃ fd:FuncData,(∀ (s:Shared) (u:Value),BindsTo s fd ⟨[u],[]⟩ [(x,u)]) /\
    ∀ base:Heap,(K w.params).In base->base.Ns mainGlobals mg->FnOk l.prog w (K w.params) mg base (CX w) k fa fd [x] (sp w))
  (hsp:∀ (w:World) (H:Hp) (a:Addr) (ns:List Int),ns.length<=n->Only H->SqL (K w.params) H a (ns.map V.int)->sp w [.ref a] H (fun v _=>v=.bl true) fun _ _ _=>False)
  (hCX:∀ (w:World) (H:Hp) (s:Shared) (e:Value) (s':Shared),CX w [] H s (fun _ _ _=>False) e s'->False) :
  PySem.W.WalkO q loose XP YP l.row.toRowW d [] (fun f vs=>PySem.call f vs):=by
 refine Att.attach_call hn hdf fun w s₀ s₁ mg mb fa o pm cd doc a vs ns G Y ho hd hcd hmg hobj hints hlen hg=>?_
 have KX:=hY w _ Y
 obtain ⟨fd,hb,hF⟩:=F w mg fa _ KX G.T.g hmg
 exact ars KX G.T.g G.T.b G.T.builtins G.T.nolimit hg hobj hints (Nat.le_trans hlen hn2) hr hF hb (fun H hO hS=>hsp w H a ns hlen hO hS) fun H e s'=>hCX w H s₁ e s'
end L2
/- THE LAST THEOREM (shape; LID, My.* are yours):
  My.Adr: a structure of the addresses that your layer names (classes,functions);My.Txt K t: a structure (Prop) of the equations over K;
  My.txt_mk:{K} {implicit addresses ..} (e1:nsIn K mainGlobals "law" = some (some (.ref f))) (e2:K.lookup f=some ⟨oc,od,.func (fnOf "law" "law" params body scope dV kV doc pm an cdv ct),sl⟩) (e3:codeIn K cdv "law" = true) .. : ∃ t,My.Txt K t
set_option maxRecDepth 100000 in
set_option maxHeartbeats 0 in
theorem PySem.Challenge.cw_LID_holds : PySem.Challenge.rw_LID.Holds := by
 w_on;o_law;k_head;(case hw=>w_witness2)
 k_fill
 refine L2.walk_of (l:=PySem.Challenge.rw_LID) (n:=63) (k:=40) (x:="script") (CX:=fun w => ..) (sp:=fun _=>My.sp_law) rfl (by decide) rfl ⟨rfl,by decide,by decide⟩ (fun w h Y=>PySem.W.kIn_of Y) ?F ?S ?C
 case F =>
  intro w mg fa h KX G hmg
  have T:∃ t,My.Txt (L2.KOf KX) t:=by
   dsimp only [L2.KOf]                          -- K must stand as «<heap const> w.params» for k_is
   refine' My.txt_mk ?e1 ?e2 ?e3 ..
   (case e1=>PySem.W.k_is)                    -- in the order: a name -> its address -> its object -> its parts
   (case e2=>PySem.W.k_is)
   ..
  obtain ⟨t,T⟩:=T
  have e0:=hmg.symm.trans (mg_of KX G T.law)
  cases e0                                       -- fa is the law's own address
  exact ⟨_,fun s u => .of_eq rfl,fun base kb nb=>My.law_fn T kb nb⟩     -- if «.of_eq rfl» comes too early: refine' ⟨_,?b,fun base kb nb=>My.law_fn T kb nb⟩;exact fun s u => .of_eq rfl
 case S=>exact fun w H a ns hl hO hS => ..
 case C=>exact ..
(the tactic k_is has no namespace: write k_is) -/
namespace L2
open PySem PySem.Spec PyProof.Rows
noncomputable def acd (s:Stmt):Arguments:=match s with
 | .FunctionDef _ a _ _ _ _ _ _ _ _=>a
 | _=>{ posonlyargs:=[],args:=[],vararg:=none,kwonlyargs:=[],kw_defaults:=[],kwarg:=none,defaults:=[] }
noncomputable def ab2 (s:Stmt):List Stmt:=match s with
 | .FunctionDef _ _ b _ _ _ _ _ _ _=>b
 | _=>[]
noncomputable def aah (s:Stmt):Scope:=match s with
 | .FunctionDef _ _ _ _ _ _ sc _ _ _=>sc
 | _=>{ kind:=.function,names:=[],isGenerator:=false,isCoroutine:=false }
noncomputable abbrev CX0:CXT:=fun _ _ _ _ _ _=>False
noncomputable abbrev E0:XK:=fun _ _ _=>False
theorem azh {X:Cx}:akm CX0 X E0:=fun _ _ _ _ _ _ _ h=>h.elim
structure Fun (K:Frag) (x qual:Str) (st:Stmt) (f:Addr) (fd:FuncData):Prop where
 ex:∃ (oc:Value) (od:Option Addr) (kV doc pm:Value) (an:Option Addr) (cdv ct:Value) (osl:Array (Option Value)),
  fd=fnOf x qual (acd st) (ab2 st) (aah st) .none kV doc pm an cdv ct/\K.lookup f=some ⟨oc,od,.func fd,osl⟩/\codeIn K cdv qual=true
 kp:keepIn K (.ref f)=true
section
variable {P:Program} {w:World} {K:Frag} {mg:Str->Option Value} {base:Heap}
theorem Fun.ok {x qual:Str} {st:Stmt} {f:Addr} {fd:FuncData} {N ps:List Str} {k:Nat} {sp:Sp} (F:Fun K x qual st f fd) (S:FnScope N ps (aah st)) (len:∀ vs H Q E,sp vs H Q E->vs.length=ps.length)
  (hbody:∀ (cdv:Value) (A:Around) (outer:List Env) (s:Shared) (H:Hp) (vs:List V) (Q:VK) (E:XK),Room k (A.deeper (envOfC qual (aah st) s.heap.objs.size f cdv))->sp vs H Q E ->
   ∃ t,PSs (cxOf CX0 P w K mg base N qual (aah st) f cdv A outer s H E).nox (ab2 st) t/\t { nx:=fun _ H'=>Q .non H',rt:=Q } (start N vs) H):FnOk P w K mg base CX0 (k+1) f fd ps sp:=by
 obtain ⟨oc,od,kV,doc,pm,an,cdv,ct,osl,rfl,lk,hcd⟩:=F.ex
 refine azg lk hcd S len fun A outer s H vs Q E hr hsp=>?_
 obtain ⟨t,h,q⟩:=hbody cdv A outer s H vs Q E hr hsp
 exact ⟨t,h.nox,q⟩
theorem Fun.binds {x qual:Str} {st:Stmt} {f:Addr} {fd:FuncData} {ps:List Str} (F:Fun K x qual st f fd)
  (h:∀ (kV doc pm:Value) (an:Option Addr) (cdv ct:Value) (us:List Value),us.length=ps.length->bindArgs (fnOf x qual (acd st) (ab2 st) (aah st) .none kV doc pm an cdv ct) ⟨us,[]⟩=pure (ps.zip us)):Binds K fd ps []:=by
 obtain ⟨oc,od,kV,doc,pm,an,cdv,ct,osl,rfl,lk,hcd⟩:=F.ex
 exact .all (h kV doc pm an cdv ct)
theorem axf {x qual:Str} {st:Stmt} {f:Addr} {oc:Value} {od an:Option Addr} {osl:Array (Option Value)} {kV doc pm cdv ct:Value} (l:K.lookup f=some ⟨oc,od,.func (fnOf x qual (acd st) (ab2 st) (aah st) .none kV doc pm an cdv ct),osl⟩)
  (c:codeIn K cdv qual=true) (k:keepIn K (.ref f)=true):Fun K x qual st f (fnOf x qual (acd st) (ab2 st) (aah st) .none kV doc pm an cdv ct):=⟨⟨oc,od,kV,doc,pm,an,cdv,ct,osl,rfl,l,c⟩,k⟩
end
theorem aej {n:Nat} (h:n<=1000):n < sizeLine:=Nat.lt_of_le_of_lt h (by decide)
section
variable {X:Cx}
theorem pv (i:Nat) {x:Str} {pos:Pos} (hN:X.N[i]?=some x:=by rfl) (hv:Vis X.env.scope x:=by first | exact Or.inl rfl | exact Or.inr (Or.inl rfl) | exact Or.inr (Or.inr rfl)) (hd:(x == ("__debug__" : Str))=false:=by decide)
  (hcd:(x == ("__classdict__" : Str))=false:=by decide):PE X (.Name x pos) (tVar i):=aw1 hN hv hd hcd
end
theorem iteF {A B:Prop} (h:B):if false=true then A else B:=by
 rw [if_neg Bool.false_ne_true]
 exact h
theorem iteT {A B:Prop} (h:A):if true=true then A else B:=by
 rw [if_pos rfl]
 exact h
def Same (H H':Hp):Prop:=∀ b o,H b=some o->H' b=some o
theorem Same.refl (H:Hp):Same H H:=fun _ _ h=>h
theorem Same.trans {H H1 H2:Hp} (a:Same H H1) (b:Same H1 H2):Same H H2:=fun c o h=>b c o (a c o h)
theorem Same.free {H H':Hp} (e:Same H H') {l:Addr} (h:H' l=Option.none):H l=Option.none:=by
 cases q:H l with
 | none=>rfl
 | some o =>
  rw [e l o q] at h
  cases h
theorem Same.seq {K:Frag} {H H':Hp} {a:Addr} {xs:List V} (e:Same H H') (h:SqL K H a xs):SqL K H' a xs:=by
 rcases h with (h | ⟨o,h⟩) | h
 ·exact .inl (.inl (e _ _ h))
 ·exact .inl (.inr ⟨o,e _ _ h⟩)
 ·exact .inr h
section
variable {X:Cx}
end
section
variable {κ:Type} [DecidableEq κ]
end
noncomputable def clos (env:Env):List (Str × NameKind)->List (Str × Addr)->List (Str × Addr)
 | [],cs=>cs
 | (n,k) :: r,cs=>if k == NameKind.free then (match env.cells.lookup n with | some a=>clos env r ((n,a) :: cs) | none=>clos env r cs) else clos env r cs
theorem ahd {env:Env} {sc:Scope} (h:∀ n,(n,NameKind.free)∈sc.names->∃ a,env.cells.lookup n=some a):closureFor sc env=pure (clos env sc.names []):=by
 have all:∀ (l:List (Str × NameKind)) (cs:List (Str × Addr)),(∀ n,(n,NameKind.free)∈l->∃ a,env.cells.lookup n=some a) ->
   (forIn l cs fun (x:Str × NameKind) (cs:List (Str × Addr))=>match x with | (name,kind)=>if kind == NameKind.free then (do let a ← cellOf env name;pure (ForInStep.yield ((name,a) :: cs))) else pure (ForInStep.yield cs))=(pure (clos env l cs):Sem _):=by
  intro l
  induction l with
  | nil=>intro cs _;rfl
  | cons p r ih =>
   intro cs hl
   obtain ⟨n,k⟩:=p
   rw [List.forIn_cons]
   unfold clos
   dsimp only
   cases hk:(k == NameKind.free) with
   | false =>
    simp only [Bool.false_eq_true,if_false,pure_bind]
    exact ih cs fun m hm=>hl m (List.mem_cons_of_mem _ hm)
   | true =>
    have ek:k=NameKind.free:=by simpa using hk
    subst ek
    obtain ⟨a,ha⟩:=hl n List.mem_cons_self
    have ec:cellOf env n=pure a:=by unfold cellOf;rw [ha]
    simp only [if_true,ec,pure_bind,ha]
    exact ih _ fun m hm=>hl m (List.mem_cons_of_mem _ hm)
 have e:=all sc.names [] h
 unfold closureFor
 refine Eq.trans (b:=(pure (clos env sc.names []):Sem _) >>= fun cs=>pure cs) ?_ (pure_bind _ _)
 exact congrArg (fun z:Sem (List (Str × Addr))=>z >>= fun cs=>pure cs) e
theorem aek {env:Env} {x:Str} {c:Addr}:∀ {l:List (Str × NameKind)} {cs:List (Str × Addr)},(clos env l cs).lookup x=some c->env.cells.lookup x=some c\/cs.lookup x=some c
 | [],cs,h => .inr h
 | (n,k) :: r,cs,h=>by
  unfold clos at h
  by_cases hk:(k == NameKind.free)=true
  ·rw [if_pos hk] at h
   cases ha:env.cells.lookup n with
   | none=>rw [ha] at h;exact aek h
   | some a =>
    rw [ha] at h
    rcases aek h with e | e
    ·exact .inl e
    ·rw [List.lookup_cons] at e
     cases hx:(x == n) with
     | true =>
      rw [hx] at e
      have:x=n:=by simpa using hx
      subst this
      cases e
      exact .inl ha
     | false=>rw [hx] at e;exact .inr e
  ·rw [if_neg hk] at h
   exact aek h
theorem ael {env:Env} {x:Str}:∀ {l:List (Str × NameKind)} {cs:List (Str × Addr)},(∃ c,cs.lookup x=some c)->∃ c,(clos env l cs).lookup x=some c
 | [],cs,h=>h
 | (n,k) :: r,cs,h=>by
  unfold clos
  by_cases hk:(k == NameKind.free)=true
  ·rw [if_pos hk]
   cases ha:env.cells.lookup n with
   | none=>exact ael h
   | some a =>
    refine ael ?_
    rw [List.lookup_cons]
    cases hx:(x == n) with
    | true=>exact ⟨_,rfl⟩
    | false=>exact h
  ·rw [if_neg hk]
   exact ael h
theorem aed {env:Env} {x:Str} (h:∃ a,env.cells.lookup x=some a):∀ {l:List (Str × NameKind)} {cs:List (Str × Addr)},(x,NameKind.free)∈l->∃ c,(clos env l cs).lookup x=some c
 | [],_,hm=>absurd hm (by simp)
 | (n,k) :: r,cs,hm=>by
  rcases List.mem_cons.mp hm with e | hm
  ·cases e
   obtain ⟨a,ha⟩:=h
   unfold clos
   rw [if_pos (by rfl),ha]
   refine ael ⟨a,?_⟩
   rw [List.lookup_cons]
   simp
  ·unfold clos
   by_cases hk:(k == NameKind.free)=true
   ·rw [if_pos hk]
    cases ha:env.cells.lookup n with
    | none=>exact aed h hm
    | some a=>exact aed h hm
   ·rw [if_neg hk]
    exact aed h hm
theorem afw {env:Env} {x:Str}:∀ {names:List (Str × NameKind)},(∀ y∈names,y.2 ≠ .cell) ->
  ((names.map fun (n,k)=>if (k == NameKind.free && env.scope.kind == .function && env.kindOf n == some .cell) then (n,NameKind.cell) else (n,k)).lookup x=some .cell ∨
   (names.map fun (n,k)=>if (k == NameKind.free && env.scope.kind == .function && env.kindOf n == some .cell) then (n,NameKind.cell) else (n,k)).lookup x=some .free)->names.lookup x=some .free
 | [],_,h=>by rcases h with h | h <;> simp at h
 | (n,k) :: r,hc,h=>by
  have ih:=@afw env x r fun y hy=>hc y (List.mem_cons_of_mem _ hy)
  rw [List.lookup_cons]
  simp only [List.map_cons] at h
  by_cases hq:(k == NameKind.free && env.scope.kind == .function && env.kindOf n == some .cell)=true
  ·rw [if_pos hq] at h
   have ek:k=NameKind.free:=by
    have:=hq;simp only [Bool.and_eq_true] at this;simpa using this.1.1
   subst ek
   cases hx:(x == n) with
   | true=>rfl
   | false=>simp only [List.lookup_cons,hx] at h;exact ih h
  ·rw [if_neg hq] at h
   cases hx:(x == n) with
   | true =>
    simp only [List.lookup_cons,hx] at h
    rcases h with h | h
    ·cases h;exact absurd rfl (hc (n,NameKind.cell) List.mem_cons_self)
    ·exact h
   | false=>simp only [List.lookup_cons,hx] at h;exact ih h
theorem aem {env:Env} {x:Str}:∀ {names:List (Str × NameKind)},names.lookup x=some .free ->
  ((names.map fun (n,k)=>if (k == NameKind.free && env.scope.kind == .function && env.kindOf n == some .cell) then (n,NameKind.cell) else (n,k)).lookup x=some .cell ∨
   (names.map fun (n,k)=>if (k == NameKind.free && env.scope.kind == .function && env.kindOf n == some .cell) then (n,NameKind.cell) else (n,k)).lookup x=some .free)
 | [],h=>by simp at h
 | (n,k) :: r,h=>by
  have ih:=@aem env x r
  rw [List.lookup_cons] at h
  simp only [List.map_cons]
  by_cases hq:(k == NameKind.free && env.scope.kind == .function && env.kindOf n == some .cell)=true
  ·rw [if_pos hq]
   cases hx:(x == n) with
   | true=>left;simp [List.lookup_cons,hx]
   | false=>rw [hx] at h;simp only [List.lookup_cons,hx];exact ih h
  ·rw [if_neg hq]
   cases hx:(x == n) with
   | true=>rw [hx] at h;right;simp only [List.lookup_cons,hx];exact h
   | false=>rw [hx] at h;simp only [List.lookup_cons,hx];exact ih h
noncomputable def Cx.comp (X:Cx) (N:List Str) (sc:Scope) (C:Addr) (s0:Shared) (H0:Hp) (ex:List Addr):Cx where
 prog:=X.prog
 w:=X.w
 K:=X.K
 mg:=X.mg
 base:=X.base
 A:=X.A
 N:=N
 s₀:=s0
 H₀:=H0
 env:=compEnvC sc (clos X.env sc.names []) C X.env
 outer:=X.stack
 stack:=X.stack
 ex:=ex
 fn:=fun _=>false
 calm:=X.calm
 pn:=[]
 xe:=fun _ _=>False
noncomputable def pick (src:List (Option Nat)) (σ:St):St:=src.map fun o=>match o with | some j=>(σ[j]?).getD none | none=>none
structure LcOk (X:Cx) (N:List Str) (sc:Scope) (src:List (Option Nat)):Prop where
 kind:sc.kind=.function
 nocell:∀ y∈sc.names,y.2 ≠ .cell
 own:∀ y∈sc.names,y.2=.local->sc.names.lookup y.1=some .local
 outs:∀ y∈sc.names,y.2=.free->X.env.kindOf y.1=some .cell\/X.env.kindOf y.1=some .free
 len:src.length=N.length
 from':∀ (i j:Nat),src[i]?=some (some j)->∃ x,N[i]?=some x/\X.N[j]?=some x/\sc.names.lookup x=some .free
theorem LcOk.clo {X:Cx} {N:List Str} {sc:Scope} {src:List (Option Nat)} (L:LcOk X N sc src) (ok:X.Ok):closureFor sc X.env=pure (clos X.env sc.names []) :=
 ahd fun n hn=>ok.has n (L.outs (n,.free) hn rfl)
theorem akt {X:Cx} {pins:List (Addr × Obj)} {σ:St} {H:Hp} {s:Shared} {N:List Str} {sc:Scope} {src:List (Option Nat)} {fp:List Addr} {h1:Heap} {t':Nat}
  (L:LcOk X N sc src) (I:Inv X pins σ H s) (hf:∀ b∈fp,FpOk X pins H b) (ho:∀ b∈fp,b < s.heap.objs.size)
  (hn:h1.Ns s.heap.objs.size fun _=>none) (hk:∀ b o,s.heap.get? b=some o->h1.get? b=some o) :
  Inv (X.comp N sc s.heap.objs.size s H fp) [] (pick src σ) H { s with heap:=h1,toks:=t' }:=by
 have look:∀ {x c},(clos X.env sc.names []).lookup x=some c->X.env.cells.lookup x=some c:=fun {x c} e=>by
  rcases aek e with z | z
  ·exact z
  ·simp at z
 refine ⟨⟨I.ok.mod,L.kind,I.ok.glob,I.ok.blt,Nat.le_refl _,fun x y c e1 e2=>?_,fun x hx=>?_,fun x c z _=>?_,I.ok.hd,I.ok.frames,.inl rfl,fun b hb=>⟨?_,fun x c e=>?_⟩,I.bs,Nat.le_trans I.ok.bsz I.sz,fun b o e hb=>?_,fun b hb z=>?_,I.stack,I.stkFree⟩,
  rfl,I.bare,Un.kept hk,⟨_,hn,fun i x v e1 e2 e3=>?_⟩,fun x c e=>?_,I.hok.fresh (Nat.le_refl _),fun x c e=>I.freeC x c (look e),fun p hp=>?_,I.hok.kept hk,?_⟩
 ·exact I.ok.inj x y c (look e1) (look e2)
 ·have q:=afw (env:=X.env) (x:=x) L.nocell hx
  exact aed (I.ok.has x (L.outs (x,.free) (PySem.mem_of_lookup q) rfl)) (PySem.mem_of_lookup q)
 ·exact Bool.noConfusion z
 ·exact Nat.ne_of_lt (ho b hb)
 ·exact (hf b hb).2.2.2.2.1 x c (look e)
 ·rcases (hf b hb).2.2.2.1 with z | z
  ·exact I.ok.noex b o e z
  ·exact absurd (Nat.lt_of_lt_of_le (Heap.lt_size e) (Nat.le_trans I.ok.bsz z)) (Nat.lt_irrefl _)
 ·rcases List.mem_cons.mp (I.stkSub b z) with q | q
  ·exact (hf b hb).2.1 q
  ·exact (hf b hb).2.2.1 q
 ·unfold pick at e2
  rw [List.getElem?_map] at e2
  cases q:src[i]? with
  | none=>rw [q] at e2;cases e2
  | some o =>
   rw [q] at e2
   cases o with
   | none=>cases e2
   | some j =>
    obtain ⟨y,n1,n2,n3⟩:=L.from' i j q
    have e1':N[i]?=some x:=e1
    rw [e1'] at n1
    cases n1
    have ej : σ[j]?=some (some v):=by
     cases q2 : σ[j]? with
     | none=>simp [q2] at e2
     | some z=>simp [q2] at e2;rw [e2]
    have ho:=L.outs (x,.free) (PySem.mem_of_lookup n3) rfl
    have vis:Vis X.env.scope x:=by
     rcases ho with z | z
     ·exact .inr (.inl z)
     ·exact .inr (.inr z)
    obtain ⟨m,_,hl⟩:=I.loc
    obtain ⟨u,r,l⟩:=hl j x v n2 ej vis
    refine ⟨u,r,.inr ⟨?_,?_⟩⟩
    ·exact aem (env:=X.env) n3
    ·rcases l with ⟨z,_⟩ | ⟨_,c,hc,oc,hoc,hd⟩
     ·rcases ho with z' | z' <;> (rw [z'] at z;cases z)
     ·obtain ⟨c',e'⟩:=aed (env:=X.env) ⟨c,hc⟩ (PySem.mem_of_lookup n3) (cs:=[])
      have:=look e'
      rw [hc] at this;cases this
      exact ⟨c,e',oc,hk c oc hoc,hd⟩
 ·obtain ⟨v,oc,hoc,hd⟩:=I.cell x c (look e)
  exact ⟨v,oc,hk c oc hoc,hd⟩
 ·exact absurd (show p∈([]:List (Addr × Obj)) from hp) (by simp)
 ·show (pick src σ).length=N.length
  unfold pick
  rw [List.length_map]
  exact L.len
def PIf (X:Cx) (ifs:List Expr) (t:TT):Prop :=
 ∀ (pins:List (Addr × Obj)) (s:Shared) (σ:St) (H:Hp) (Q:Bool->Hp->Prop),Inv X pins σ H s->t σ H Q ->
  wpAny (model X.prog X.w) X.A (forIn ifs true fun c r=>if r=true then do let ok ← isTrue c X.env (eval c X.env);pure (ForInStep.yield ok) else pure (ForInStep.yield r)) (TP X pins σ Q) X.xe s
def tYes:TT:=fun _ H Q=>Q true H
theorem ab3 {X:Cx}:PIf X [] tYes:=fun _ _ _ H _ I h=>wpAny_tests_nil ⟨H,I,h⟩
theorem acz {X:Cx} {c:Expr} {t:TT} (h:PT X c t):PIf X [c] t:=fun pins s σ H Q I q=>wpAny_tests_one (h pins s σ H Q I q)
noncomputable abbrev LW:=Nat->Nat->List V->St->Hp->Prop
def aku (J:It) (g:TG) (tif:TT) (te:TE) (acc:Addr) (Qd:List V->Hp->Prop) (W:LW):Prop:=∀ (i m:Nat) (ys:List V) (σ:St) (H:Hp),W i m ys σ H->H acc=some (.lst ys)/\((J.stop i H/\Qd ys H)\/(J.go i H /\
 ∃ Nx:List V->St->Hp->Prop,(∀ ys' σ' H',Nx ys' σ' H'->∃ m',m' < m/\W (i+1) m' ys' σ' H')/\∀ x H2,J.yld i H x H2 ->
 g x σ H2 fun σ3 H3=>tif σ3 H3 fun b H4=>if b=true then te σ3 H4 fun y H5=>H5 acc=some (.lst ys)/\ys.length < sizeLine/\Nx (ys ++ [y]) σ3 (upd H5 acc (.lst (ys ++ [y]))) else Nx ys σ3 H4))
theorem ap5 {X:Cx} {tg iter elt:Expr} {ifs:List Expr} {sc:Scope} {pos:Pos} {J:It} {fp:List Addr} {it:Addr} {tn:Nat->Heap->Prop} {g:TG} {tif:TT} {te:TE} {acc:Addr} {Qd:List V->Hp->Prop} {W:LW} {R:Result->Shared->Prop}
  (T:Turn X.prog X.w X.K tg J fp it tn) (hc:X.calm=true) (hxe:∀ e s,¬ X.xe e s) (hg:PG X tg g) (hif:PIf X ifs tif) (he:PE X elt te)
  (turn:aku J g tif te acc Qd W) (hR:∀ ys σ H s,Inv X [] σ H s->Qd ys H->R (.ok .next) s)
  {i m:Nat} {ys:List V} {σ:St} {H:Hp} {s:Shared} (I:Inv X [] σ H s) (st:tn i s.heap) (hf:∀ b∈fp,FpOk X [] H b) (w:W i m ys σ H) :
  codeAny (model X.prog X.w) X.A (.compLoop (.ListComp elt [⟨tg,iter,ifs,0⟩] sc pos) 0 (.ref it) (.ref acc) X.env) R s:=by
 have stat:∀ {H':Hp},(∀ b∈fp,H' b=none)->∀ b∈fp,FpOk X [] H' b:=fun hn b hb=>⟨hn b hb,(hf b hb).2⟩
 refine codeAny_loop rfl (fun n s'=>∃ i ys σ' H',Inv X [] σ' H' s'/\tn i s'.heap/\(∀ b∈fp,H' b=none)/\W i n ys σ' H') ?_ m ⟨i,ys,σ,H,I,st,fun b hb=>(hf b hb).1,w⟩
 rintro n s1 ⟨i,ys,σ1,H1,I1,st1,fr1,w1⟩
 show wpAny _ X.A ((compTurn (.ListComp elt [⟨tg,iter,ifs,0⟩] sc pos) 0 (.ref it) (.ref acc) X.env).onRaise (fun x=>do noteFrame x X.env;theTreesLotGoes x)) _ _ s1
 refine wpAny_noted ?_
 rw [compTurn_list]
 refine wpAny_bind (wpAny_standAt (wpAny_bind ?_))
 obtain ⟨hacc,⟨stop,qd⟩ | ⟨go,Nx,hNx,step⟩⟩:=turn i n ys σ1 H1 w1
 ·refine thn (T.done X rfl rfl rfl hc i [] s1 σ1 H1 _ I1 (stat fr1) st1 stop) fun r s2 ⟨hr,I2⟩=>?_
  subst hr
  exact wpAny_pure (hR ys σ1 H1 s2 I2 qd)
 ·refine thn (T.item X rfl rfl rfl hc i [] s1 σ1 H1 _ I1 (stat fr1) st1 go) fun r s2 ⟨u,hr,h2⟩=>?_
  subst hr
  refine wpAny_bind (thn h2 fun _ s3 ⟨x,H3,I3,r3,y3,st3,fr3⟩=>?_)
  have I3':=I3.pinned (stat fr3) (T.obj _ _ st3)
  refine wpAny_bind (wpAny_mono (hg _ s3 σ1 H3 x u _ I3' r3 (step x H3 y3)) (fun _ s4 ⟨σ4,H4,I4,q4⟩=>?_) fun e s' z=>(hxe e s' z).elim)
  have back:∀ {σ7:St} {H7:Hp} {s7:Shared} {zs:List V},Inv X ([] ++ aec fp s3.heap) σ7 H7 s7->(∃ m',m' < n/\W (i+1) m' zs σ7 H7)->∃ m,m < n/\∃ i ys σ' H',Inv X [] σ' H' s7/\tn i s7.heap/\(∀ b∈fp,H' b=none)/\W i m ys σ' H':=fun {σ7 H7 s7 zs} I7 w7=>by
   obtain ⟨m',hm,w7⟩:=w7
   refine ⟨m',hm,i+1,zs,σ7,H7,I7.unpinned,T.keep _ _ _ st3 fun b hb o e=>(I7.pin (b,o) (List.mem_append_right _ (List.mem_append_right _ (abv hb e)))).1,fun b hb=>?_,w7⟩
   obtain ⟨o,e,d⟩:=T.obj _ _ st3 b hb
   exact (I7.pin (b,o) (List.mem_append_right _ (List.mem_append_right _ (abv hb e)))).2.1
  refine wpAny_bind (wpAny_mono (hif _ s4 σ4 H4 _ I4 q4) (fun b s5 ⟨H5,I5,q5⟩=>?_) fun e s' z=>(hxe e s' z).elim)
  cases b with
  | false =>
   rw [if_neg Bool.false_ne_true] at q5
   exact wpAny_pure ⟨rfl,back I5 (hNx _ _ _ q5)⟩
  | true =>
   rw [if_pos rfl] at q5
   refine wpAny_bind (wpAny_bind (wpAny_mono (he _ s5 σ4 H5 _ I5 q5) (fun yv s6 ⟨y,H6,I6,r6,a6,l6,w6⟩=>?_) fun e s' z=>(hxe e s' z).elim))
   have ap:=ab6 (X:=X) _ s6 σ4 H6 (.ref acc) [y] (.ref acc) [yv] (fun _ H'=>H'=upd H6 acc (.lst (ys ++ [y]))) I6 rfl (.cons r6 .nil) ⟨acc,ys,y,rfl,rfl,a6,l6,rfl⟩
   refine wpAny_bind (wpAny_mono ap (fun _ s7 ⟨v7,H7,I7,_,e7⟩=>?_) fun e s' z=>(hxe e s' z).elim)
   subst e7
   exact wpAny_pure (wpAny_pure ⟨rfl,back I7 (hNx _ _ _ w6)⟩)
def tLC (src:List (Option Nat)) (wi:TI) (g:TG) (tif:TT) (te:TE):TE:=fun σ H Q=>wi σ H fun J H1=>∀ acc,H1 acc=none->∃ W:LW,(∃ m,W 0 m [] (pick src σ) (upd H1 acc (.lst [])))/\aku J g tif te acc (fun _ H'=>Q (.ref acc) H') W
section
variable {X:Cx} {N:List Str} {tg iter elt:Expr} {ifs:List Expr} {sc:Scope} {src:List (Option Nat)} {wi:TI} {g:TG} {tif:TT} {te:TE} {pos:Pos}
theorem aux (hc:X.calm=true) (L:LcOk X N sc src) (hg:∀ C s0 H0 ex,PG (X.comp N sc C s0 H0 ex) tg g) (hif:∀ C s0 H0 ex,PIf (X.comp N sc C s0 H0 ex) ifs tif) (he:∀ C s0 H0 ex,PE (X.comp N sc C s0 H0 ex) elt te)
  {pins:List (Addr × Obj)} {s3:Shared} {σ:St} {H3:Hp} {Q:VK} (I3:Inv X pins σ H3 s3) {it acc:Addr} {fp:List Addr} {J:It} {tn:Nat->Heap->Prop} (T:Turn X.prog X.w X.K tg J fp it tn) (st3:tn 0 s3.heap) (f3:∀ b∈fp,FpOk X pins H3 b)
  {W:LW} {m0:Nat} (w0:W 0 m0 [] (pick src σ) H3) (turn:aku J g tif te acc (fun _ H'=>Q (.ref acc) H') W) (use:Option (Value->Sem Unit)) (P:Value->Shared->Prop)
  (hP:∀ C H' s' m,Inv X pins σ H' s'->Q (.ref acc) H'->s'.heap.Ns C m->H' C=none->C ≠ X.env.locals->(C∈X.ex\/X.s₀.heap.objs.size<=C)->(∀ x c,X.env.cells.lookup x=some c->c ≠ C)->(∀ p∈X.pn ++ pins,p.1 ≠ C) ->
   compPost (model X.prog X.w) X.A X.xe use P (.ref acc) C (.ok .next) s') :
  wpAny (model X.prog X.w) X.A (newFunctionEnv sc X.env.globals (clos X.env sc.names []) [] X.env.qual none .none (some X.env)) (fun cenv s₄ =>
    codeAny (model X.prog X.w) X.A (.compStart (.ListComp elt [⟨tg,iter,ifs,0⟩] sc pos) 0 (.ref it) (.ref acc) { cenv with scope:=relabel sc X.env }) (compPost (model X.prog X.w) X.A X.xe use P (.ref acc) cenv.locals) s₄) X.xe s3:=by
 refine wpAny_newFunctionEnv L.nocell (by intro y hy;simp at hy) (fun h4 hns4 hsb4=>?_) L.kind
 have szf:∀ b∈fp,b < s3.heap.objs.size:=fun b hb=>by
  obtain ⟨o,ho,_⟩:=T.obj _ _ st3 b hb
  exact Heap.lt_size ho
 have k34:∀ b o,s3.heap.get? b=some o->h4.get? b=some o:=fun b o e=>hsb4.extBut b o (Nat.ne_of_lt (Heap.lt_size e)) (Heap.get?_push_of_some _ e)
 have I4:=akt (t':=s3.toks+([]:List (Str × Value)).length) L I3 f3 szf (by simpa using hns4) k34
 have st4:tn 0 h4:=T.keep _ _ _ st3 fun b _ o e=>k34 b o e
 have f4:∀ b∈fp,FpOk (X.comp N sc s3.heap.objs.size s3 H3 fp) [] H3 b:=fun b hb =>
  ⟨(f3 b hb).1,(I4.ok.exf b hb).1,I4.ok.exfs b hb,.inl hb,(I4.ok.exf b hb).2,fun p hp=>absurd (show p∈([]:List (Addr × Obj)) from hp) (by simp)⟩
 have fin:∀ (ys:List V) σ' H' s',Inv (X.comp N sc s3.heap.objs.size s3 H3 fp) [] σ' H' s'->Q (.ref acc) H'->compPost (model X.prog X.w) X.A X.xe use P (.ref acc) s3.heap.objs.size (.ok .next) s':=fun ys σ' H' s' J' q'=>by
  have Jo:Inv X pins σ H' s':=I3.call' (ch:=fp) J'.os J'.base J'.hok J'.bare fun b hb=>⟨(f3 b hb).2.2.2.1,(f3 b hb).2.1,(f3 b hb).2.2.2.2.1,(f3 b hb).2.2.2.2.2⟩
  obtain ⟨m,hn,_⟩:=J'.loc
  refine hP _ H' s' m Jo q' hn J'.free (Nat.ne_of_gt I3.lt) (.inr I3.sz) (fun x c e z=>?_) fun p hp z=>?_
  ·obtain ⟨v,o,ho,_⟩:=I3.cell x c e
   exact absurd (Heap.lt_size ho) (by rw [z];exact Nat.lt_irrefl _)
  ·exact absurd (Heap.lt_size (I3.pin p hp).1) (by rw [z];exact Nat.lt_irrefl _)
 have loop:codeAny (model X.prog X.w) X.A (.compLoop (.ListComp elt [⟨tg,iter,ifs,0⟩] sc pos) 0 (.ref it) (.ref acc) (X.comp N sc s3.heap.objs.size s3 H3 fp).env)
   (compPost (model X.prog X.w) X.A X.xe use P (.ref acc) s3.heap.objs.size) { s3 with heap:=h4,toks:=s3.toks+([]:List (Str × Value)).length } :=
  ap5 (X:=X.comp N sc s3.heap.objs.size s3 H3 fp) T hc (fun _ _ z=>z) (hg _ _ _ _) (hif _ _ _ _) (he _ _ _ _) turn fin I4 st4 f4 w0
 exact codeAny_compStart_list loop (T.self _ 0 _ _ _ st4 loop)
theorem akv (hc:X.calm=true) (L:LcOk X N sc src) (hi:PI X tg iter wi) (hg:∀ C s0 H0 ex,PG (X.comp N sc C s0 H0 ex) tg g) (hif:∀ C s0 H0 ex,PIf (X.comp N sc C s0 H0 ex) ifs tif) (he:∀ C s0 H0 ex,PE (X.comp N sc C s0 H0 ex) elt te)
  {pins:List (Addr × Obj)} {s:Shared} {σ:St} {H:Hp} {Q:VK} (I:Inv X pins σ H s) (h:tLC src wi g tif te σ H Q) (use:Option (Value->Sem Unit)) (P:Value->Shared->Prop)
  (hP:∀ acc C H' s' m,Inv X pins σ H' s'->Q (.ref acc) H'->s'.heap.Ns C m->H' C=none->C ≠ X.env.locals->(C∈X.ex\/X.s₀.heap.objs.size<=C)->(∀ x c,X.env.cells.lookup x=some c->c ≠ C)->(∀ p∈X.pn ++ pins,p.1 ≠ C) ->
   compPost (model X.prog X.w) X.A X.xe use P (.ref acc) C (.ok .next) s')
  (hs:∀ x,foldedSetIterable iter X.env x=pure x) :
  wpAny (model X.prog X.w) X.A (comprehension (.ListComp elt [⟨tg,iter,ifs,0⟩] sc pos) sc X.env (firstIterPos [⟨tg,iter,ifs,0⟩] pos) (newList []) false (eval iter X.env) use) P X.xe s:=by
 refine wpAny_comprehension_free rfl hs (L.clo I.ok) L.kind L.own (thn (hi pins s σ H _ I h) fun v s1 h1=>thn h1 fun itv s2 h2=>?_)
 obtain ⟨it,fp,tn,J,H2,e,I2,T,st2,f2,q2⟩:=h2
 subst e
 have hacc:H2 s2.heap.objs.size=none:=I2.hok.fresh (Nat.le_refl _)
 obtain ⟨W,⟨m0,w0⟩,turn⟩:=q2 s2.heap.objs.size hacc
 have szf:∀ b∈fp,b < s2.heap.objs.size:=fun b hb=>by
  obtain ⟨o,ho,_⟩:=T.obj _ _ st2 b hb
  exact Heap.lt_size ho
 refine wpAny_newObj_type ?_
 refine aux hc L hg hif he (H3:=upd H2 s2.heap.objs.size (.lst [])) ?_ T ?_ ?_ w0 turn use P (hP _)
 ·exact I2.laid (t':=s2.toks) (fun b u e=>Heap.get?_push_of_some _ e) (Nat.le_refl _) ⟨Nat.zero_le _,[],0,.nil,Heap.get?_push_size _ rfl⟩
 ·exact T.keep _ _ _ st2 fun b _ o e=>Heap.get?_push_of_some _ e
 ·exact fun b hb=>⟨by rw [aag (Nat.ne_of_lt (szf b hb))];exact (f2 b hb).1,(f2 b hb).2⟩
theorem aco (hc:X.calm=true) (L:LcOk X N sc src) (hi:PI X tg iter wi) (hg:∀ C s0 H0 ex,PG (X.comp N sc C s0 H0 ex) tg g) (hif:∀ C s0 H0 ex,PIf (X.comp N sc C s0 H0 ex) ifs tif) (he:∀ C s0 H0 ex,PE (X.comp N sc C s0 H0 ex) elt te)
  (hs:∀ x,foldedSetIterable iter X.env x=pure x:=by intro _;rfl):PE X (.ListComp elt [⟨tg,iter,ifs,0⟩] sc pos) (tLC src wi g tif te):=by
 intro pins s σ H Q I h
 rw [eval_ListComp]
 refine akv hc L hi hg hif he I h none _ (fun acc C H' s' m J q hn hC hL hx hcl hp=>?_) hs
 refine ⟨m,hn,fun h' sb=>⟨.ref acc,H',?_,rfl,q⟩⟩
 exact J.turned (t':=s'.toks) (fun b o hb e=>sb.extBut b o hb e) hC hL hx hcl hp
end
section
variable {X:Cx} {N:List Str} {tg iter elt:Expr} {ifs:List Expr} {sc:Scope} {src:List (Option Nat)} {wi:TI} {g:TG} {tif:TT} {te:TE} {pos spos px:Pos}
theorem afd {i:Nat} {x:Str} (hN:X.N.Nodup) (hi':X.N[i]?=some x) (hx:Loc X.env.scope x) (hc:X.calm=true) (L:LcOk X N sc src) (hi:PI X tg iter wi) (hg:∀ C s0 H0 ex,PG (X.comp N sc C s0 H0 ex) tg g)
  (hif:∀ C s0 H0 ex,PIf (X.comp N sc C s0 H0 ex) ifs tif) (he:∀ C s0 H0 ex,PE (X.comp N sc C s0 H0 ex) elt te)
  (hsw:swapsWith (.ListComp elt [⟨tg,iter,ifs,0⟩] sc pos) (some (.Name x px)) spos.line X.env=pure true:=by rfl)
  (hf:X.fn x=true\/X.env.scope.names.lookup x=some .local:=by first | exact .inl rfl | exact .inr rfl | assumption)
  (hs:∀ x,foldedSetIterable iter X.env x=pure x:=by intro _;rfl):PS X (.Assign [.Name x px] (.ListComp elt [⟨tg,iter,ifs,0⟩] sc pos) spos) (tAsg (tLC src wi g tif te) (aay i)):=by
 intro pins s σ H D I h
 rw [exec_Assign_Name_used _ _ _ _ hsw]
 refine wpAny_bind (wpAny_standAt (wpAny_bind ?_))
 show wpAny _ X.A (do let _ ← comprehension (.ListComp elt [⟨tg,iter,ifs,0⟩] sc pos) sc X.env _ (newList []) false (eval iter X.env) (some (assign (.Name x px) X.env))) _ _ s
 refine wpAny_bind (wpAny_mono (akv hc L hi hg hif he I h (some (assign (.Name x px) X.env)) (fun _ s'=>SP X pins D .next s') (fun acc C H' s' m J q hn hC hL hx' hcl hp=>?_) hs) (fun _ s' hq=>wpAny_pure (wpAny_pure hq)) fun _ _ e=>e)
 show wpAny _ X.A (assign (.Name x px) X.env (.ref acc)) _ _ _
 refine wpAny_assign_Name (ait J hN hi' hx (v:=.ref acc) rfl (fun s2 J2 ⟨a,sb,ha⟩=>?_) hf)
 have hne:C ≠ a:=by
  rcases ha with z | z
  ·rw [z];exact hL
  ·exact (hcl x a z).symm
 refine ⟨m,hn.sameBut sb hne,fun h' sb'=>⟨_,H',?_,q⟩⟩
 exact J2.turned (t':=s2.toks) (fun b o hb e=>sb'.extBut b o hb e) hC hL hx' hcl hp
end
section
variable {g:TG} {tif:TT} {te:TE} {acc:Addr} {Qd:List V->Hp->Prop} {σ0:St} {H0:Hp}
end
def am8 (J:It) (g:TG) (tif:TT) (te:TE) (acc:Addr) (Qd:List V->St->Hp->Prop) (W:LW):Prop:=∀ (i m:Nat) (ys:List V) (σ:St) (H:Hp),W i m ys σ H->H acc=some (.lst ys)/\((J.stop i H/\Qd ys σ H)\/(J.go i H /\
 ∃ Nx:List V->St->Hp->Prop,(∀ ys' σ' H',Nx ys' σ' H'->∃ m',m' < m/\W (i+1) m' ys' σ' H')/\∀ x H2,J.yld i H x H2 ->
 g x σ H2 fun σ3 H3=>tif σ3 H3 fun b H4=>if b=true then te σ3 H4 fun y H5=>H5 acc=some (.lst ys)/\ys.length < sizeLine/\Nx (ys ++ [y]) σ3 (upd H5 acc (.lst (ys ++ [y]))) else Nx ys σ3 H4))
def ah5 (J:It) (g:TG) (tif:TT) (wi2:TI) (g2:TG) (tif2:TT) (te:TE) (acc:Addr) (Qd:List V->Hp->Prop) (W:LW):Prop:=∀ (i m:Nat) (ys:List V) (σ:St) (H:Hp),W i m ys σ H->((J.stop i H/\Qd ys H)\/(J.go i H /\
 ∃ Nx:List V->St->Hp->Prop,(∀ ys' σ' H',Nx ys' σ' H'->∃ m',m' < m/\W (i+1) m' ys' σ' H')/\∀ x H2,J.yld i H x H2 ->
 g x σ H2 fun σ3 H3=>tif σ3 H3 fun b H4=>if b=true then wi2 σ3 H4 fun J2 H5=>∃ W2:LW,(∃ m2,W2 0 m2 ys σ3 H5)/\am8 J2 g2 tif2 te acc Nx W2 else Nx ys σ3 H4))
theorem ajn (elt t1 i1 t2 i2:Expr) (f1 f2:List Expr) (sc:Scope) (pos:Pos) (it acc:Value) (env:Env) :
  compTurn (.ListComp elt [⟨t1,i1,f1,0⟩,⟨t2,i2,f2,0⟩] sc pos) 0 it acc env=(do
   standAt i1.pos
   match ← pyNext it with
   | none=>pure (.done .next)
   | some v =>
    letOwnedTupleGo t1 it v
    assign t1 env v
    let mut ok:=true
    for c in f1 do
     if ok then ok ← isTrue c env (eval c env)
    if ok then
     let x ← eval i2 env
     standAt i2.pos
     let x ← foldedSetIterable i2 env x
     let _ ← runOwn (.compStart (.ListComp elt [⟨t1,i1,f1,0⟩,⟨t2,i2,f2,0⟩] sc pos) 1 (← holding [x] (pyIter x)) acc env) env
    again (.compLoop (.ListComp elt [⟨t1,i1,f1,0⟩,⟨t2,i2,f2,0⟩] sc pos) 0 it acc env)):=by rfl
theorem ajo (elt t1 i1 t2 i2:Expr) (f1 f2:List Expr) (sc:Scope) (pos:Pos) (it acc:Value) (env:Env) :
  compTurn (.ListComp elt [⟨t1,i1,f1,0⟩,⟨t2,i2,f2,0⟩] sc pos) 1 it acc env=(do
   standAt i2.pos
   match ← pyNext it with
   | none=>pure (.done .next)
   | some v =>
    letOwnedTupleGo t2 it v
    assign t2 env v
    let mut ok:=true
    for c in f2 do
     if ok then ok ← isTrue c env (eval c env)
    if ok then
     (do let _ ← call (.builtin "list.append") [acc,← eval elt env])
    again (.compLoop (.ListComp elt [⟨t1,i1,f1,0⟩,⟨t2,i2,f2,0⟩] sc pos) 1 it acc env)):=by rfl
theorem ap6 {prog:Program} {w:World} {A:Around} {R:Result->Shared->Prop} {s:Shared} {elt t1 i1 t2 i2:Expr} {f1 f2:List Expr} {sc:Scope} {pos:Pos} {it acc:Value} {env:Env}
  (h0:codeAny (model prog w) A (.compLoop (.ListComp elt [⟨t1,i1,f1,0⟩,⟨t2,i2,f2,0⟩] sc pos) 1 it acc env) R s)
  (h:wpAny (model prog w) A (pyIter it) (fun it' s'=>codeAny (model prog w) A (.compLoop (.ListComp elt [⟨t1,i1,f1,0⟩,⟨t2,i2,f2,0⟩] sc pos) 1 it' acc env) R s') (notedBy (model prog w) A env fun x s'=>R (.error x) s') s) :
  codeAny (model prog w) A (.compStart (.ListComp elt [⟨t1,i1,f1,0⟩,⟨t2,i2,f2,0⟩] sc pos) 1 it acc env) R s:=by
 refine codeAny_of_tree ?_
 show wpAny _ _ ((compStart (.ListComp elt [⟨t1,i1,f1,0⟩,⟨t2,i2,f2,0⟩] sc pos) 1 it acc env).onRaise (fun x=>do noteFrame x env;standAt theWindowsPlace)) _ _ s
 refine wpAny_notedAt ?_
 unfold compStart
 show wpAny _ _ (ask >>= _) _ _ s
 apply wpAny_bind;apply wpAny_askSetting;apply wpAny_ite;split
 ·first | exact wpAny_bind (wpAny_pure (wpAny_pure ⟨rfl,h0⟩)) | exact wpAny_pure ⟨rfl,h0⟩
 ·have q:wpAny (model prog w) A (pyIter it >>= fun it'=>again (.compLoop (.ListComp elt [⟨t1,i1,f1,0⟩,⟨t2,i2,f2,0⟩] sc pos) 1 it' acc env)) (fun fin s'=>match fin with | .done f=>R (.ok f) s' | .again c'=>c'.quiet=true/\codeAny (model prog w) A c' R s') (notedBy (model prog w) A env fun x s'=>R (.error x) s') s :=
   wpAny_bind (wpAny_mono h (fun it' s' h'=>wpAny_pure ⟨rfl,h'⟩) fun _ _ x=>x)
  first
   | exact wpAny_bind (wpAny_rule (wpAny_bind (wpAny_standAt (wpAny_bind (wpAny_mono h (fun it' s' h'=>wpAny_pure ⟨rfl,h'⟩) fun _ _ x=>x)))))
   | (apply wpAny_bind;apply wpAny_rule;show wpAny _ _ (standAt i2.pos >>= _) _ _ s;exact wpAny_bind (wpAny_standAt (wpAny_bind (wpAny_mono h (fun it' s' h'=>wpAny_pure ⟨rfl,h'⟩) fun _ _ x=>x))))
theorem aow {X:Cx} {elt t1 i1 tg iter:Expr} {f1 ifs:List Expr} {sc:Scope} {pos:Pos} {J:It} {fp:List Addr} {it:Addr} {tn:Nat->Heap->Prop} {g:TG} {tif:TT} {te:TE} {acc:Addr} {Qd:List V->St->Hp->Prop} {W:LW} {R:Result->Shared->Prop} {pins:List (Addr × Obj)}
  (T:Turn X.prog X.w X.K tg J fp it tn) (hc:X.calm=true) (hxe:∀ e s,¬ X.xe e s) (hg:PG X tg g) (hif:PIf X ifs tif) (he:PE X elt te)
  (turn:am8 J g tif te acc Qd W) (hR:∀ ys σ H s,Inv X pins σ H s->Qd ys σ H->R (.ok .next) s)
  {i m:Nat} {ys:List V} {σ:St} {H:Hp} {s:Shared} (I:Inv X pins σ H s) (st:tn i s.heap) (hf:∀ b∈fp,FpOk X pins H b) (w:W i m ys σ H) :
  codeAny (model X.prog X.w) X.A (.compLoop (.ListComp elt [⟨t1,i1,f1,0⟩,⟨tg,iter,ifs,0⟩] sc pos) 1 (.ref it) (.ref acc) X.env) R s:=by
 have stat:∀ {H':Hp},(∀ b∈fp,H' b=none)->∀ b∈fp,FpOk X pins H' b:=fun hn b hb=>⟨hn b hb,(hf b hb).2⟩
 refine codeAny_loop rfl (fun n s'=>∃ i ys σ' H',Inv X pins σ' H' s'/\tn i s'.heap/\(∀ b∈fp,H' b=none)/\W i n ys σ' H') ?_ m ⟨i,ys,σ,H,I,st,fun b hb=>(hf b hb).1,w⟩
 rintro n s1 ⟨i,ys,σ1,H1,I1,st1,fr1,w1⟩
 show wpAny _ X.A ((compTurn (.ListComp elt [⟨t1,i1,f1,0⟩,⟨tg,iter,ifs,0⟩] sc pos) 1 (.ref it) (.ref acc) X.env).onRaise (fun x=>do noteFrame x X.env;theTreesLotGoes x)) _ _ s1
 refine wpAny_noted ?_
 rw [ajo]
 refine wpAny_bind (wpAny_standAt (wpAny_bind ?_))
 obtain ⟨hacc,⟨stop,qd⟩ | ⟨go,Nx,hNx,step⟩⟩:=turn i n ys σ1 H1 w1
 ·refine thn (T.done X rfl rfl rfl hc i pins s1 σ1 H1 _ I1 (stat fr1) st1 stop) fun r s2 ⟨hr,I2⟩=>?_
  subst hr
  exact wpAny_pure (hR ys σ1 H1 s2 I2 qd)
 ·refine thn (T.item X rfl rfl rfl hc i pins s1 σ1 H1 _ I1 (stat fr1) st1 go) fun r s2 ⟨u,hr,h2⟩=>?_
  subst hr
  refine wpAny_bind (thn h2 fun _ s3 ⟨x,H3,I3,r3,y3,st3,fr3⟩=>?_)
  have I3':=I3.pinned (stat fr3) (T.obj _ _ st3)
  refine wpAny_bind (wpAny_mono (hg _ s3 σ1 H3 x u _ I3' r3 (step x H3 y3)) (fun _ s4 ⟨σ4,H4,I4,q4⟩=>?_) fun e s' z=>(hxe e s' z).elim)
  have back:∀ {σ7:St} {H7:Hp} {s7:Shared} {zs:List V},Inv X (pins ++ aec fp s3.heap) σ7 H7 s7->(∃ m',m' < n/\W (i+1) m' zs σ7 H7)->∃ m,m < n/\∃ i ys σ' H',Inv X pins σ' H' s7/\tn i s7.heap/\(∀ b∈fp,H' b=none)/\W i m ys σ' H':=fun {σ7 H7 s7 zs} I7 w7=>by
   obtain ⟨m',hm,w7⟩:=w7
   refine ⟨m',hm,i+1,zs,σ7,H7,I7.unpinned,T.keep _ _ _ st3 fun b hb o e=>(I7.pin (b,o) (List.mem_append_right _ (List.mem_append_right _ (abv hb e)))).1,fun b hb=>?_,w7⟩
   obtain ⟨o,e,d⟩:=T.obj _ _ st3 b hb
   exact (I7.pin (b,o) (List.mem_append_right _ (List.mem_append_right _ (abv hb e)))).2.1
  refine wpAny_bind (wpAny_mono (hif _ s4 σ4 H4 _ I4 q4) (fun b s5 ⟨H5,I5,q5⟩=>?_) fun e s' z=>(hxe e s' z).elim)
  cases b with
  | false =>
   rw [if_neg Bool.false_ne_true] at q5
   exact wpAny_pure ⟨rfl,back I5 (hNx _ _ _ q5)⟩
  | true =>
   rw [if_pos rfl] at q5
   refine wpAny_bind (wpAny_bind (wpAny_mono (he _ s5 σ4 H5 _ I5 q5) (fun yv s6 ⟨y,H6,I6,r6,a6,l6,w6⟩=>?_) fun e s' z=>(hxe e s' z).elim))
   have ap:=ab6 (X:=X) _ s6 σ4 H6 (.ref acc) [y] (.ref acc) [yv] (fun _ H'=>H'=upd H6 acc (.lst (ys ++ [y]))) I6 rfl (.cons r6 .nil) ⟨acc,ys,y,rfl,rfl,a6,l6,rfl⟩
   refine wpAny_bind (wpAny_mono ap (fun _ s7 ⟨v7,H7,I7,_,e7⟩=>?_) fun e s' z=>(hxe e s' z).elim)
   subst e7
   exact wpAny_pure (wpAny_pure ⟨rfl,back I7 (hNx _ _ _ w6)⟩)
theorem aox {X:Cx} {elt t1 i1 t2 i2:Expr} {f1 f2:List Expr} {sc:Scope} {pos:Pos} {J:It} {fp:List Addr} {it:Addr} {tn:Nat->Heap->Prop} {g:TG} {tif:TT} {wi2:TI} {g2:TG} {tif2:TT} {te:TE} {acc:Addr} {Qd:List V->Hp->Prop} {W:LW} {R:Result->Shared->Prop}
  (T:Turn X.prog X.w X.K t1 J fp it tn) (hc:X.calm=true) (hxe:∀ e s,¬ X.xe e s) (hg:PG X t1 g) (hif:PIf X f1 tif) (hi2:PI X t2 i2 wi2) (hg2:PG X t2 g2) (hif2:PIf X f2 tif2) (he:PE X elt te)
  (hs2:∀ x,foldedSetIterable i2 X.env x=pure x)
  (turn:ah5 J g tif wi2 g2 tif2 te acc Qd W) (hR:∀ ys σ H s,Inv X [] σ H s->Qd ys H->R (.ok .next) s)
  {i m:Nat} {ys:List V} {σ:St} {H:Hp} {s:Shared} (I:Inv X [] σ H s) (st:tn i s.heap) (hf:∀ b∈fp,FpOk X [] H b) (w:W i m ys σ H) :
  codeAny (model X.prog X.w) X.A (.compLoop (.ListComp elt [⟨t1,i1,f1,0⟩,⟨t2,i2,f2,0⟩] sc pos) 0 (.ref it) (.ref acc) X.env) R s:=by
 have stat:∀ {H':Hp},(∀ b∈fp,H' b=none)->∀ b∈fp,FpOk X [] H' b:=fun hn b hb=>⟨hn b hb,(hf b hb).2⟩
 refine codeAny_loop rfl (fun n s'=>∃ i ys σ' H',Inv X [] σ' H' s'/\tn i s'.heap/\(∀ b∈fp,H' b=none)/\W i n ys σ' H') ?_ m ⟨i,ys,σ,H,I,st,fun b hb=>(hf b hb).1,w⟩
 rintro n s1 ⟨i,ys,σ1,H1,I1,st1,fr1,w1⟩
 show wpAny _ X.A ((compTurn (.ListComp elt [⟨t1,i1,f1,0⟩,⟨t2,i2,f2,0⟩] sc pos) 0 (.ref it) (.ref acc) X.env).onRaise (fun x=>do noteFrame x X.env;theTreesLotGoes x)) _ _ s1
 refine wpAny_noted ?_
 rw [ajn]
 refine wpAny_bind (wpAny_standAt (wpAny_bind ?_))
 obtain ⟨stop,qd⟩ | ⟨go,Nx,hNx,step⟩:=turn i n ys σ1 H1 w1
 ·refine thn (T.done X rfl rfl rfl hc i [] s1 σ1 H1 _ I1 (stat fr1) st1 stop) fun r s2 ⟨hr,I2⟩=>?_
  subst hr
  exact wpAny_pure (hR ys σ1 H1 s2 I2 qd)
 ·refine thn (T.item X rfl rfl rfl hc i [] s1 σ1 H1 _ I1 (stat fr1) st1 go) fun r s2 ⟨u,hr,h2⟩=>?_
  subst hr
  refine wpAny_bind (thn h2 fun _ s3 ⟨x,H3,I3,r3,y3,st3,fr3⟩=>?_)
  have I3':=I3.pinned (stat fr3) (T.obj _ _ st3)
  refine wpAny_bind (wpAny_mono (hg _ s3 σ1 H3 x u _ I3' r3 (step x H3 y3)) (fun _ s4 ⟨σ4,H4,I4,q4⟩=>?_) fun e s' z=>(hxe e s' z).elim)
  have back:∀ {σ7:St} {H7:Hp} {s7:Shared} {zs:List V},Inv X ([] ++ aec fp s3.heap) σ7 H7 s7->(∃ m',m' < n/\W (i+1) m' zs σ7 H7)->∃ m,m < n/\∃ i ys σ' H',Inv X [] σ' H' s7/\tn i s7.heap/\(∀ b∈fp,H' b=none)/\W i m ys σ' H':=fun {σ7 H7 s7 zs} I7 w7=>by
   obtain ⟨m',hm,w7⟩:=w7
   refine ⟨m',hm,i+1,zs,σ7,H7,I7.unpinned,T.keep _ _ _ st3 fun b hb o e=>(I7.pin (b,o) (List.mem_append_right _ (List.mem_append_right _ (abv hb e)))).1,fun b hb=>?_,w7⟩
   obtain ⟨o,e,d⟩:=T.obj _ _ st3 b hb
   exact (I7.pin (b,o) (List.mem_append_right _ (List.mem_append_right _ (abv hb e)))).2.1
  refine wpAny_bind (wpAny_mono (hif _ s4 σ4 H4 _ I4 q4) (fun b s5 ⟨H5,I5,q5⟩=>?_) fun e s' z=>(hxe e s' z).elim)
  cases b with
  | false =>
   rw [if_neg Bool.false_ne_true] at q5
   exact wpAny_pure ⟨rfl,back I5 (hNx _ _ _ q5)⟩
  | true =>
   rw [if_pos rfl] at q5
   refine wpAny_bind (wpAny_mono (hi2 _ s5 σ4 H5 _ I5 q5) (fun xv s6 h6=>?_) fun e s' z=>(hxe e s' z).elim)
   refine wpAny_bind (wpAny_standAt (wpAny_bind ?_))
   rw [hs2 xv]
   refine wpAny_pure (wpAny_bind (wpAny_holding (wpAny_mono h6 (fun itv s7 h7=>?_) fun e s' z=>(hxe e s' z).elim)))
   obtain ⟨it2,fp2,tn2,J2,H7,e,I7,T2,st2,f2',W2,⟨m2,w2⟩,turn2⟩:=h7
   subst e
   refine wpAny_bind (wpAny_runOwn ?_)
   have loop:=aow (R:=fun r s'=>match r with | .ok f=>(∃ m,m < n/\∃ i ys σ' H',Inv X [] σ' H' s'/\tn i s'.heap/\(∀ b∈fp,H' b=none)/\W i m ys σ' H') | .error e=>False) (t1:=t1) (i1:=i1) (f1:=f1) (iter:=i2) (sc:=sc) (pos:=pos) T2 hc hxe hg2 hif2 he turn2 (fun ys' σ8 H8 s8 I8 q8=>back I8 (hNx _ _ _ q8)) I7 st2 f2' w2
   have st:=ap6 loop (T2.self _ 0 _ _ _ st2 loop)
   refine codeAny_mono st fun r s' h=>?_
   cases r with
   | error e=>exact h.elim
   | ok f=>exact wpAny_pure ⟨rfl,h⟩
def tLC2 (src:List (Option Nat)) (wi:TI) (g:TG) (tif:TT) (wi2:TI) (g2:TG) (tif2:TT) (te:TE):TE:=fun σ H Q=>wi σ H fun J H1=>∀ acc,H1 acc=none->∃ W:LW,(∃ m,W 0 m [] (pick src σ) (upd H1 acc (.lst [])))/\ah5 J g tif wi2 g2 tif2 te acc (fun _ H'=>Q (.ref acc) H') W
section
variable {X:Cx} {N:List Str} {t1 i1 t2 i2 elt:Expr} {f1 f2:List Expr} {sc:Scope} {src:List (Option Nat)} {wi wi2:TI} {g g2:TG} {tif tif2:TT} {te:TE} {pos:Pos}
theorem art (hc:X.calm=true) (L:LcOk X N sc src) (hg:∀ C s0 H0 ex,PG (X.comp N sc C s0 H0 ex) t1 g) (hif:∀ C s0 H0 ex,PIf (X.comp N sc C s0 H0 ex) f1 tif) (hi2:∀ C s0 H0 ex,PI (X.comp N sc C s0 H0 ex) t2 i2 wi2) (hg2:∀ C s0 H0 ex,PG (X.comp N sc C s0 H0 ex) t2 g2) (hif2:∀ C s0 H0 ex,PIf (X.comp N sc C s0 H0 ex) f2 tif2) (he:∀ C s0 H0 ex,PE (X.comp N sc C s0 H0 ex) elt te)
  (hs2:∀ C s0 H0 ex x,foldedSetIterable i2 (X.comp N sc C s0 H0 ex).env x=pure x)
  {pins:List (Addr × Obj)} {s3:Shared} {σ:St} {H3:Hp} {Q:VK} (I3:Inv X pins σ H3 s3) {it acc:Addr} {fp:List Addr} {J:It} {tn:Nat->Heap->Prop} (T:Turn X.prog X.w X.K t1 J fp it tn) (st3:tn 0 s3.heap) (f3:∀ b∈fp,FpOk X pins H3 b)
  {W:LW} {m0:Nat} (w0:W 0 m0 [] (pick src σ) H3) (turn:ah5 J g tif wi2 g2 tif2 te acc (fun _ H'=>Q (.ref acc) H') W) (use:Option (Value->Sem Unit)) (P:Value->Shared->Prop)
  (hP:∀ C H' s' m,Inv X pins σ H' s'->Q (.ref acc) H'->s'.heap.Ns C m->H' C=none->C ≠ X.env.locals->(C∈X.ex\/X.s₀.heap.objs.size<=C)->(∀ x c,X.env.cells.lookup x=some c->c ≠ C)->(∀ p∈X.pn ++ pins,p.1 ≠ C) ->
   compPost (model X.prog X.w) X.A X.xe use P (.ref acc) C (.ok .next) s') :
  wpAny (model X.prog X.w) X.A (newFunctionEnv sc X.env.globals (clos X.env sc.names []) [] X.env.qual none .none (some X.env)) (fun cenv s₄ =>
    codeAny (model X.prog X.w) X.A (.compStart (.ListComp elt [⟨t1,i1,f1,0⟩,⟨t2,i2,f2,0⟩] sc pos) 0 (.ref it) (.ref acc) { cenv with scope:=relabel sc X.env }) (compPost (model X.prog X.w) X.A X.xe use P (.ref acc) cenv.locals) s₄) X.xe s3:=by
 refine wpAny_newFunctionEnv L.nocell (by intro y hy;simp at hy) (fun h4 hns4 hsb4=>?_) L.kind
 have szf:∀ b∈fp,b < s3.heap.objs.size:=fun b hb=>by
  obtain ⟨o,ho,_⟩:=T.obj _ _ st3 b hb
  exact Heap.lt_size ho
 have k34:∀ b o,s3.heap.get? b=some o->h4.get? b=some o:=fun b o e=>hsb4.extBut b o (Nat.ne_of_lt (Heap.lt_size e)) (Heap.get?_push_of_some _ e)
 have I4:=akt (t':=s3.toks+([]:List (Str × Value)).length) L I3 f3 szf (by simpa using hns4) k34
 have st4:tn 0 h4:=T.keep _ _ _ st3 fun b _ o e=>k34 b o e
 have f4:∀ b∈fp,FpOk (X.comp N sc s3.heap.objs.size s3 H3 fp) [] H3 b:=fun b hb =>
  ⟨(f3 b hb).1,(I4.ok.exf b hb).1,I4.ok.exfs b hb,.inl hb,(I4.ok.exf b hb).2,fun p hp=>absurd (show p∈([]:List (Addr × Obj)) from hp) (by simp)⟩
 have fin:∀ (ys:List V) σ' H' s',Inv (X.comp N sc s3.heap.objs.size s3 H3 fp) [] σ' H' s'->Q (.ref acc) H'->compPost (model X.prog X.w) X.A X.xe use P (.ref acc) s3.heap.objs.size (.ok .next) s':=fun ys σ' H' s' J' q'=>by
  have Jo:Inv X pins σ H' s':=I3.call' (ch:=fp) J'.os J'.base J'.hok J'.bare fun b hb=>⟨(f3 b hb).2.2.2.1,(f3 b hb).2.1,(f3 b hb).2.2.2.2.1,(f3 b hb).2.2.2.2.2⟩
  obtain ⟨m,hn,_⟩:=J'.loc
  refine hP _ H' s' m Jo q' hn J'.free (Nat.ne_of_gt I3.lt) (.inr I3.sz) (fun x c e z=>?_) fun p hp z=>?_
  ·obtain ⟨v,o,ho,_⟩:=I3.cell x c e
   exact absurd (Heap.lt_size ho) (by rw [z];exact Nat.lt_irrefl _)
  ·exact absurd (Heap.lt_size (I3.pin p hp).1) (by rw [z];exact Nat.lt_irrefl _)
 have loop:codeAny (model X.prog X.w) X.A (.compLoop (.ListComp elt [⟨t1,i1,f1,0⟩,⟨t2,i2,f2,0⟩] sc pos) 0 (.ref it) (.ref acc) (X.comp N sc s3.heap.objs.size s3 H3 fp).env)
   (compPost (model X.prog X.w) X.A X.xe use P (.ref acc) s3.heap.objs.size) { s3 with heap:=h4,toks:=s3.toks+([]:List (Str × Value)).length } :=
  aox (X:=X.comp N sc s3.heap.objs.size s3 H3 fp) T hc (fun _ _ z=>z) (hg _ _ _ _) (hif _ _ _ _) (hi2 _ _ _ _) (hg2 _ _ _ _) (hif2 _ _ _ _) (he _ _ _ _) (hs2 _ _ _ _) turn fin I4 st4 f4 w0
 exact codeAny_compStart_list loop (T.self _ 0 _ _ _ st4 loop)
theorem axg (hc:X.calm=true) (L:LcOk X N sc src) (hi:PI X t1 i1 wi) (hg:∀ C s0 H0 ex,PG (X.comp N sc C s0 H0 ex) t1 g) (hif:∀ C s0 H0 ex,PIf (X.comp N sc C s0 H0 ex) f1 tif) (hi2:∀ C s0 H0 ex,PI (X.comp N sc C s0 H0 ex) t2 i2 wi2) (hg2:∀ C s0 H0 ex,PG (X.comp N sc C s0 H0 ex) t2 g2) (hif2:∀ C s0 H0 ex,PIf (X.comp N sc C s0 H0 ex) f2 tif2) (he:∀ C s0 H0 ex,PE (X.comp N sc C s0 H0 ex) elt te)
  (hs:∀ x,foldedSetIterable i1 X.env x=pure x:=by intro _;rfl) (hs2:∀ C s0 H0 ex x,foldedSetIterable i2 (X.comp N sc C s0 H0 ex).env x=pure x:=by intros;rfl):PE X (.ListComp elt [⟨t1,i1,f1,0⟩,⟨t2,i2,f2,0⟩] sc pos) (tLC2 src wi g tif wi2 g2 tif2 te):=by
 intro pins s σ H Q I h
 rw [eval_ListComp]
 refine wpAny_comprehension_free rfl hs (L.clo I.ok) L.kind L.own (thn (hi pins s σ H _ I h) fun v s1 h1=>thn h1 fun itv s2 h2=>?_)
 obtain ⟨it,fp,tn,J,H2,e,I2,T,st2,f2',q2⟩:=h2
 subst e
 have hacc:H2 s2.heap.objs.size=none:=I2.hok.fresh (Nat.le_refl _)
 obtain ⟨W,⟨m0,w0⟩,turn⟩:=q2 s2.heap.objs.size hacc
 have szf:∀ b∈fp,b < s2.heap.objs.size:=fun b hb=>by
  obtain ⟨o,ho,_⟩:=T.obj _ _ st2 b hb
  exact Heap.lt_size ho
 refine wpAny_newObj_type ?_
 refine art (pins:=pins) hc L hg hif hi2 hg2 hif2 he hs2 (H3:=upd H2 s2.heap.objs.size (.lst [])) ?_ T ?_ ?_ w0 turn none _ ?_
 ·exact I2.laid (t':=s2.toks) (fun b u e=>Heap.get?_push_of_some _ e) (Nat.le_refl _) ⟨Nat.zero_le _,[],0,.nil,Heap.get?_push_size _ rfl⟩
 ·exact T.keep _ _ _ st2 fun b _ o e=>Heap.get?_push_of_some _ e
 ·exact fun b hb=>⟨by rw [aag (Nat.ne_of_lt (szf b hb))];exact (f2' b hb).1,(f2' b hb).2⟩
 ·intro C H' s' m J q hn hC hL hx hcl hp
  refine ⟨m,hn,fun h' sb=>⟨.ref s2.heap.objs.size,H',?_,rfl,q⟩⟩
  exact J.turned (t':=s'.toks) (fun b o hb e=>sb.extBut b o hb e) hC hL hx hcl hp
end
def rLen (K:Frag):List V->Hp->VK->Prop:=fun xs H Q=>∃ p ys,xs=[.ref p]/\(SqL K H p ys\/SqT K H p ys)/\Q (.int ys.length) H
theorem aa8 {X:Cx}:aa7 X (.builtin "len") (rLen X.K):=akq
def aka:List V->Hp->VK->Prop:=fun xs H Q=>∃ i j,xs=[.int i,.int j]/\Q (.int (if j > i then j else i)) H
def akb:List V->Hp->VK->Prop:=fun xs H Q=>∃ i j,xs=[.int i,.int j]/\Q (.int (if j < i then j else i)) H
theorem afe {X:Cx} (hc:X.calm=true):aa7 X (.builtin "max") aka:=apx hc
theorem ada {X:Cx} (hc:X.calm=true):aa7 X (.builtin "min") akb:=apy hc
def akc:List V->Hp->VK->Prop:=fun xs H Q=>(∃ i,xs=[.int i]/\Q (.int i) H)\/∃ k,xs=[.bl k]/\Q (.int (if k then 1 else 0)) H
theorem aoy {X:Cx}:aa7 X (.type "int") akc:=apz
section
variable {σ:St} {H:Hp} {D:Ends} {K:Frag}
theorem am9 {i:Nat} {v:V} {Q:St->Hp->Prop} (h:Q (σ.set i (some v)) H):aay i v σ H Q:=h
theorem ap7 {Q:List V->Hp->Prop} (h:Q [] H):tNil σ H Q:=h
theorem axh {t:TA} {Q:VK} (h:t σ H fun xs H1=>xs.length<=sizeLine/\∀ p,H1 p=none->Q (.ref p) (upd H1 p (.lst xs))):tLst t σ H Q:=h
theorem ap8 {i j:Int} {Q:VK} (h:Q (.bl (decide (i=j))) H):rEq (.int i) (.int j) H Q:=by
 have e:decide (V.int i=V.int j)=decide (i=j):=by rw [agb];exact Bool.beq_eq_decide_eq i j
 exact ⟨rfl,by rw [e];exact h⟩
theorem axi {i j:Int} {Q:VK} (h:Q (.bl (!decide (i=j))) H):rNe (.int i) (.int j) H Q:=by
 have e:decide (V.int i=V.int j)=decide (i=j):=by rw [agb];exact Bool.beq_eq_decide_eq i j
 exact ⟨rfl,by rw [e];exact h⟩
theorem axj {i j:Bool} {Q:VK} (h:Q (.bl (decide (i=j))) H):rEq (.bl i) (.bl j) H Q:=by
 have e:decide (V.bl i=V.bl j)=decide (i=j):=by rw [akk];cases i <;> cases j <;> rfl
 exact ⟨rfl,by rw [e];exact h⟩
theorem axk {a:Addr} {xs:List V} {i:Int} {v:V} {Q:VK} (ha:H a=some (.lst xs)) (hv:atI xs i=some v) (h:Q v H):rIxL K (.ref a) (.int i) H Q:=⟨a,xs,i,v,rfl,rfl,SqL.of ha,hv,h⟩
theorem axl {a:Addr} {xs:List V} {i:Int} {v:V} {Q:VK} (ha:H a=some (.tup xs)) (hv:atI xs i=some v) (h:Q v H):rIxT K (.ref a) (.int i) H Q:=⟨a,xs,i,v,rfl,rfl,SqT.of ha,hv,h⟩
theorem ana {a:Addr} {xs:List V} {k:Int} {j:Nat} {v:V} {Q:Hp->Prop} (ha:H a=some (.lst xs)) (hj:ixN xs.length k=some j) (h:Q (upd H a (.lst (xs.set j v)))):aov (.ref a) (.int k) v H Q:=⟨a,xs,k,j,rfl,rfl,ha,hj,h⟩
theorem afx {a:Addr} {xs:List V} {y:V} {Q:VK} (ha:H a=some (.lst xs)) (hl:xs.length < sizeLine) (h:Q .non (upd H a (.lst (xs ++ [y])))):ae0 (.ref a) [y] H Q:=⟨a,xs,y,rfl,rfl,ha,hl,h⟩
theorem axm {a b:Addr} {xs zs:List V} {Q:VK} (ha:H a=some (.lst xs)) (hb:H b=some (.lst zs)) (hl:xs.length+zs.length<=sizeLine) (h:∀ p,H p=none->Q (.ref p) (upd H p (.lst (xs ++ zs)))):rCat (.ref a) (.ref b) H Q:=⟨a,b,xs,zs,rfl,rfl,ha,hb,hl,h⟩
theorem anb {a:Addr} {xs:List V} {Q:VK} (ha:H a=some (.lst xs)) (h:Q (.int xs.length) H):rLen K [.ref a] H Q:=⟨a,xs,rfl,.inl (SqL.of ha),h⟩
theorem auy {a:Addr} {xs:List V} {Q:VK} (ha:H a=some (.tup xs)) (h:Q (.int xs.length) H):rLen K [.ref a] H Q:=⟨a,xs,rfl,.inr (SqT.of ha),h⟩
theorem anc {i j:Int} {Q:VK} (h:Q (.int (if j > i then j else i)) H):aka [.int i,.int j] H Q:=⟨i,j,rfl,h⟩
theorem ane {i j:Int} {Q:VK} (h:Q (.int (if j < i then j else i)) H):akb [.int i,.int j] H Q:=⟨i,j,rfl,h⟩
theorem anf {k:Bool} {Q:VK} (h:Q (.int (if k then 1 else 0)) H):akc [.bl k] H Q:=.inr ⟨k,rfl,h⟩
theorem ah6 {c:Prop} [Decidable c] {A B:Prop} (hc:c) (h:A):if decide c=true then A else B:=by rw [decide_eq_true hc];exact iteT h
theorem ah7 {c:Prop} [Decidable c] {A B:Prop} (hc:¬ c) (h:B):if decide c=true then A else B:=by rw [decide_eq_false hc];exact iteF h
theorem ae1 {c:Prop} [Decidable c] {A B:Prop} (h1:c->A) (h2:¬ c->B):if decide c=true then A else B:=by
 by_cases hc:c
 ·exact ah6 hc (h1 hc)
 ·exact ah7 hc (h2 hc)
theorem ixN0 {n:Nat}:ixN (n+1) 0=some 0:=by unfold ixN;rw [if_pos (by decide),if_pos (by omega)];rfl
theorem ixN2 {n:Nat}:ixN (n+3) 2=some 2:=by unfold ixN;rw [if_pos (by decide),if_pos (by omega)];rfl
end
structure CallOk (P:Program) (w:World) (K:Frag) (mg:Str->Option Value) (base:Heap) (x:Str) (k:Nat) (ps:List Str) (sp:Sp) (f:Addr) (fd:FuncData):Prop where
 ok:FnOk P w K mg base CX0 k f fd ps sp
 mgx:mg x=some (.ref f)
 kp:keepIn K (.ref f)=true
 bd:Binds K fd ps []
def Can (P:Program) (w:World) (K:Frag) (mg:Str->Option Value) (base:Heap) (x:Str) (k:Nat) (ps:List Str) (sp:Sp):Prop:=∃ f fd,CallOk P w K mg base x k ps sp f fd
structure DefAt (K:Frag) (mg:Str->Option Value) (x:Str) (st:Stmt) (ps:List Str) (f:Addr) (fd:FuncData):Prop where
 fn:Fun K x x st f fd
 mgx:mg x=some (.ref f)
 bd:Binds K fd ps []
theorem DefAt.can {P:Program} {w:World} {K:Frag} {mg:Str->Option Value} {base:Heap} {x:Str} {st:Stmt} {k:Nat} {ps:List Str} {sp:Sp} {f:Addr} {fd:FuncData} (D:DefAt K mg x st ps f fd) (ok:FnOk P w K mg base CX0 k f fd ps sp):Can P w K mg base x k ps sp :=
 ⟨f,fd,ok,D.mgx,D.fn.kp,D.bd⟩
section
variable {X:Cx} {k j:Nat} {ps:List Str} {sp:Sp} {x:Str} {p pos:Pos} {e:Expr} {es:List Expr} {t:TA}
theorem aad (F:Can X.prog X.w X.K X.mg X.base x k ps sp) (hr:Room j X.A) (ha:PA X (e :: es) t) (hj:k<=j:=by decide) (hg:Gl X x:=by rfl) (hdb:(x == ("__debug__" : Str))=false:=by decide)
  (he:starEach (e :: es) X.env=(false,eval e X.env) :: starEach es X.env:=by rfl) (hpl:(backTo pos (starEach es X.env)).any (·.1)=false:=by rfl) :
  PE X (.Call (.Name x p) (e :: es) [] pos) (abz sp [] E0 t):=by
 obtain ⟨f,fd,C⟩:=F
 exact aut C.ok (hr.mono hj) hg C.mgx C.kp C.bd .nil azh ha hdb he hpl
end
theorem aa4 {X:Cx} {N:List Str} {sc:Scope} {src:List (Option Nat)} (h1:sc.kind=.function) (h2:sc.names.all (fun y=>y.2 != .cell)=true) (h3:sc.names.all (fun y=>y.2 != .local || sc.names.lookup y.1 == some .local)=true)
  (h4:sc.names.all (fun y=>y.2 != .free || X.env.kindOf y.1 == some .cell || X.env.kindOf y.1 == some .free)=true) (h5:src.length=N.length)
  (h6:(List.range src.length).all (fun i=>match src[i]? with | some (some j)=>(match N[i]?,X.N[j]? with | some x,some y=>x == y && sc.names.lookup x == some .free | _,_=>false) | _=>true)=true):LcOk X N sc src:=by
 refine ⟨h1,fun y hy e=>?_,fun y hy e=>?_,fun y hy e=>?_,h5,fun i j e=>?_⟩
 ·have:=List.all_eq_true.mp h2 y hy
  rw [e] at this
  exact absurd this (by decide)
 ·have:=List.all_eq_true.mp h3 y hy
  rw [e] at this
  simpa using this
 ·have:=List.all_eq_true.mp h4 y hy
  rw [e] at this
  simpa using this
 ·have hi:i < src.length:=(List.getElem?_eq_some_iff.mp e).1
  have:=List.all_eq_true.mp h6 i (List.mem_range.mpr hi)
  rw [e] at this
  dsimp only at this
  cases h7:N[i]? with
  | none=>rw [h7] at this;cases this
  | some x =>
   cases h8:X.N[j]? with
   | none=>rw [h7,h8] at this;cases this
   | some y =>
    rw [h7,h8] at this
    simp only [Bool.and_eq_true] at this
    have e1:x=y:=by simpa using this.1
    subst e1
    exact ⟨x,rfl,rfl,by simpa using this.2⟩
section
variable {σ:St} {H:Hp} {D:Ends} {K:Frag}
theorem axn {a:Addr} {xs:List V} {i:Int} {v:V} {Q:VK} (ha:SqL K H a xs) (hv:atI xs i=some v) (h:Q v H):rIxL K (.ref a) (.int i) H Q:=⟨a,xs,i,v,rfl,rfl,ha,hv,h⟩
theorem auz {a:Addr} {xs:List V} {Q:VK} (ha:SqL K H a xs) (h:Q (.int xs.length) H):rLen K [.ref a] H Q:=⟨a,xs,rfl,.inl ha,h⟩
theorem ap9 {Q:Bool->Hp->Prop} (h:Q true H):tYes σ H Q:=h
theorem aru {a:Addr} {xs:List V} {i:Int} {k:Nat} {y:V} {Q:VK} (ha:H a=some (.lst xs)) (h1 : -(2 ^ 63)<=i) (h2:i < 2 ^ 63) (h3:seqIndex? i xs.length=some k) (h4:xs[k]?=some y) (h:Q y (upd H a (.lst (xs.eraseIdx k)))):ahb (.ref a) [.int i] H Q :=
 ⟨a,xs,i,k,y,rfl,rfl,ha,h1,h2,h3,h4,h⟩
end
end L2
namespace L2
open PySem
theorem aca:bootBuiltins "len" = some (.builtin "len"):=by decide +kernel
theorem acj:bootBuiltins "max" = some (.builtin "max"):=by decide +kernel
theorem aee:bootBuiltins "min" = some (.builtin "min"):=by decide +kernel
theorem aen:bootBuiltins "sorted" = some (.builtin "sorted"):=by decide +kernel
theorem acv:bootBuiltins "isinstance" = some (.builtin "isinstance"):=by decide +kernel
theorem aqa:bootBuiltins "all" = some (.builtin "all"):=by decide +kernel
theorem aqb:bootBuiltins "int" = some (.type "int"):=by decide +kernel
theorem ang:bootBuiltins "list" = some (.type "list"):=by decide +kernel
theorem axo:bootBuiltins "set" = some (.type "set"):=by decide +kernel
theorem arv:bootBuiltins "tuple" = some (.type "tuple"):=by decide +kernel
theorem akw:bootBuiltins "enumerate" = some (.type "enumerate"):=by decide +kernel
theorem au0:bootBuiltins "bool" = some (.type "bool"):=by decide +kernel
theorem axp:bootBuiltins "zip" = some (.type "zip"):=by decide +kernel
end L2
namespace TS
open PySem PyProof.Rows
noncomputable def au1:Nat->Nat->StateT SortSt Sem (Option Nat):=sortPriv% PySem.Builtin.countRun
noncomputable def arw:Nat->Nat->Nat->StateT SortSt Sem Bool:=sortPriv% PySem.Builtin.binarySort
noncomputable def azi:StateT SortSt Sem Unit:=sortPriv% PySem.Builtin.sortRuns
structure Cmp (M:Model) (A:Around) (E:Value->Shared->Prop) (s:Shared) (κ:SortKind) (S:Keyed->Prop) (R:Keyed->Keyed->Bool):Prop where
 ask:∀ x y,S x->S y->∀ (Q:Option Bool->SortSt->Prop) (st:SortSt),kindOf st = κ->Q (some (R x y)) st->wpS M A E s (lt' x y) Q st
 asy:∀ x y,S x->S y->R x y=true->R y x=false
 tr:∀ x y z,S x->S y->S z->R y x=false->R z y=false->R z x=false
section
variable {M:Model} {A:Around} {E:Value->Shared->Prop} {s:Shared} {κ:SortKind} {S:Keyed->Prop} {R:Keyed->Keyed->Bool}
theorem akx {arr:Array Keyed} {i:Nat} {x:Keyed} {Q:Keyed->SortSt->Prop} {st:SortSt} (hx:arr[i]?=some x) (h:Q x st):wpS M A E s (elem' arr i) Q st:=by
 rw [elem'_eq,hx]
 exact wpS_pure h
theorem aky {x:String} {Q:Unit->SortSt->Prop} {st:SortSt} (h:Q () st):wpS M A E s (liftM (PySem.rule x):StateT SortSt Sem Unit) Q st :=
 wpS_lift (wpAny_rule ⟨rfl,h⟩)
end
def Srt (R:Keyed->Keyed->Bool) (l:List Keyed):Prop:=l.Pairwise fun x y=>R y x=false
structure Mid (R:Keyed->Keyed->Bool) (L out a b:List Keyed):Prop where
 perm:(out ++ a ++ b).Perm L
 so:Srt R out
 le:∀ x∈out,∀ y∈a ++ b,R y x=false
 sa:Srt R a
 sb:Srt R b
section
variable {R:Keyed->Keyed->Bool} {L out a b p:List Keyed}
theorem Mid.done (m:Mid R L out a b) (h:a=[]\/b=[]):(out ++ a ++ b).Perm L/\Srt R (out ++ a ++ b):=by
 refine ⟨m.perm,?_⟩
 rw [List.append_assoc]
 refine List.pairwise_append.mpr ⟨m.so,?_,m.le⟩
 rcases h with h | h
 ·subst h;exact m.sb
 ·subst h;rw [List.append_nil];exact m.sa
theorem Mid.last (m:Mid R L out a b) (h:∀ y∈b,∀ x∈a,R x y=false):(out ++ b ++ a).Perm L/\Srt R (out ++ b ++ a):=by
 refine ⟨List.Perm.trans ?_ m.perm,?_⟩
 ·rw [List.append_assoc,List.append_assoc]
  exact List.Perm.append_left out List.perm_append_comm
 ·rw [List.append_assoc]
  refine List.pairwise_append.mpr ⟨m.so,List.pairwise_append.mpr ⟨m.sb,m.sa,h⟩,fun x hx y hy=>m.le x hx y ?_⟩
  rcases List.mem_append.mp hy with hy | hy
  ·exact List.mem_append_right _ hy
  ·exact List.mem_append_left _ hy
end
structure Eqv (st st':SortSt):Prop where
 k:kindOf st'=kindOf st
 a:arrOf st'=arrOf st
 p:pendingOf st'=pendingOf st
 f:failedOf st'=failedOf st
theorem Eqv.refl (st:SortSt):Eqv st st:=⟨rfl,rfl,rfl,rfl⟩
theorem Eqv.trans {a b c:SortSt} (h:Eqv a b) (g:Eqv b c):Eqv a c:=⟨g.k.trans h.k,g.a.trans h.a,g.p.trans h.p,g.f.trans h.f⟩
section
variable {M:Model} {A:Around} {E:Value->Shared->Prop} {s:Shared} {κ:SortKind} {S:Keyed->Prop} {R:Keyed->Keyed->Bool}
theorem Cmp.irr {x:Keyed} (C:Cmp M A E s κ S R) (hx:S x):R x x=false:=by
 cases e:R x x with
 | false=>rfl
 | true=>have:=C.asy x x hx hx e;rw [e] at this;cases this
end
section
variable {M:Model} {A:Around} {E:Value->Shared->Prop} {s:Shared} {κ:SortKind} {S:Keyed->Prop} {R:Keyed->Keyed->Bool}
structure Lo (S:Keyed->Prop) (R:Keyed->Keyed->Bool) (a b out:Array Keyed) (ia ib:Nat):Prop where
 mid:Mid R (a.toList ++ b.toList) out.toList (a.toList.drop ia) (b.toList.drop ib)
 ia:ia<=a.size
 ib:ib<=b.size
theorem Lo.len {a b out:Array Keyed} {ia ib:Nat} (l:Lo S R a b out ia ib):out.size+(a.size - ia)+(b.size - ib)=a.size+b.size:=by
 have:=l.mid.perm.length_eq
 simp at this
 omega
section
variable {ρ β γ δ ε ζ η:Type}
end
theorem acp {c:Prop} [Decidable c] {α:Type} {m1 m2:StateT SortSt Sem α} {Q : α->SortSt->Prop} {st:SortSt} (h1:c->wpS M A E s m1 Q st) (h2:¬ c->wpS M A E s m2 Q st):wpS M A E s (if c then m1 else m2) Q st:=by
 by_cases h:c
 ·rw [if_pos h];exact h1 h
 ·rw [if_neg h];exact h2 h
end
structure MidH (R:Keyed->Keyed->Bool) (L a b tl:List Keyed):Prop where
 perm:(a ++ b ++ tl).Perm L
 so:Srt R tl
 le:∀ x∈a ++ b,∀ y∈tl,R y x=false
 sa:Srt R a
 sb:Srt R b
section
variable {R:Keyed->Keyed->Bool} {L tl a b p:List Keyed}
theorem MidH.done (m:MidH R L a b tl) (h:a=[]\/b=[]):(a ++ b ++ tl).Perm L/\Srt R (a ++ b ++ tl):=by
 refine ⟨m.perm,List.pairwise_append.mpr ⟨?_,m.so,m.le⟩⟩
 rcases h with h | h
 ·subst h;exact m.sb
 ·subst h;rw [List.append_nil];exact m.sa
end
section
variable {M:Model} {A:Around} {E:Value->Shared->Prop} {s:Shared} {κ:SortKind} {S:Keyed->Prop} {R:Keyed->Keyed->Bool}
structure Hi (S:Keyed->Prop) (R:Keyed->Keyed->Bool) (a b out:Array Keyed) (na nb:Nat):Prop where
 mid:MidH R (a.toList ++ b.toList) (a.toList.take na) (b.toList.take nb) out.toList.reverse
 na:na<=a.size
 nb:nb<=b.size
theorem Hi.len {a b out:Array Keyed} {na nb:Nat} (l:Hi S R a b out na nb):out.size+na+nb=a.size+b.size:=by
 have:=l.mid.perm.length_eq
 have h1:=l.na
 have h2:=l.nb
 simp at this
 omega
end
section
variable {M:Model} {A:Around} {E:Value->Shared->Prop} {s:Shared} {κ:SortKind} {S:Keyed->Prop} {R:Keyed->Keyed->Bool}
end
noncomputable def e (xs:Array Keyed) (k:Nat):Keyed:=(xs[k]?).getD (.none,.none)
theorem ahe {xs:Array Keyed} {k:Nat} (h:k < xs.size):xs[k]?=some (e xs k):=by
 unfold e;rw [Array.getElem?_eq_getElem h];rfl
def Asc (R:Keyed->Keyed->Bool) (xs:Array Keyed) (l h:Nat):Prop:=∀ i j,l<=i->i<=j->j < h->R (e xs j) (e xs i)=false
def Des (R:Keyed->Keyed->Bool) (xs:Array Keyed) (l h:Nat):Prop:=∀ i j,l<=i->i<=j->j < h->R (e xs i) (e xs j)=false
structure Bs (κ:SortKind) (p0:Array (Nat × Nat × Nat)) (a0:Array Keyed) (lo:Nat) (st:SortSt):Prop where
 k:kindOf st = κ
 f:failedOf st=none
 p:pendingOf st=p0
 perm:(arrOf st).toList.Perm a0.toList
 pre:∀ k,k < lo->(arrOf st)[k]?=a0[k]?
theorem arx {xs:Array Keyed} {src d:Nat} (hs:src < xs.size) (hd:d<=src) (k:Nat):e (bubble xs src d) k=if k=src - d then e xs src else if src - d < k/\k<=src then e xs (k - 1) else e xs k:=by
 unfold e
 rw [getElem?_bubble hs d hd]
 repeat' split
 all_goals rfl
theorem acw {xs:Array Keyed} {i j:Nat} (hj:j<=xs.size) (k:Nat):e (mirror xs i j ((j - i) / 2)) k=if i<=k/\k < j then e xs (i+j - 1 - k) else e xs k:=by
 unfold e
 rw [getElem?_mirror_all hj]
 split <;> rfl
section
variable {M:Model} {A:Around} {E:Value->Shared->Prop} {s:Shared} {κ:SortKind} {S:Keyed->Prop} {R:Keyed->Keyed->Bool} {p0:Array (Nat × Nat × Nat)} {a0:Array Keyed} {lo:Nat}
theorem Bs.size {st:SortSt} (B:Bs κ p0 a0 lo st):(arrOf st).size=a0.size:=by
 have:=B.perm.length_eq
 simpa using this
theorem Bs.sat {st:SortSt} (B:Bs κ p0 a0 lo st) (hS:∀ x∈a0.toList,S x) {k:Nat} (hk:k < a0.size):S (e (arrOf st) k):=by
 have h:=ahe (xs:=arrOf st) (k:=k) (by rw [B.size];exact hk)
 refine hS _ (B.perm.mem_iff.mp ?_)
 rw [← Array.getElem?_toList] at h
 exact List.mem_of_getElem? h
theorem afy (C:Cmp M A E s κ S R) (hS:∀ x∈a0.toList,S x) {st:SortSt} (B:Bs κ p0 a0 lo st) {i j:Nat} (hi:i < a0.size) (hj:j < a0.size) {Q:Option Bool->SortSt->Prop} (h:Q (some (R (e (arrOf st) i) (e (arrOf st) j))) st) :
  wpS M A E s (ltAt' i j) Q st:=by
 rw [ltAt'_eq]
 refine wpS_bind (wpS_get ?_)
 refine wpS_bind (akx (ahe (by rw [B.size];exact hi)) ?_)
 refine wpS_bind (akx (ahe (by rw [B.size];exact hj)) ?_)
 exact C.ask _ _ (B.sat hS hi) (B.sat hS hj) _ _ B.k h
theorem ary (C:Cmp M A E s κ S R) {xs:Array Keyed} {l h:Nat} (hS:∀ k,k<=h->S (e xs k)) (hl:l < h) (a:Asc R xs l h) (n:R (e xs h) (e xs (h - 1))=false):Asc R xs l (h+1):=by
 intro i j h1 h2 h3
 by_cases hj:j=h
 ·subst hj
  by_cases hi:i=j
  ·subst hi;exact C.irr (hS _ (Nat.le_refl _))
  ·exact C.tr _ (e xs (j - 1)) _ (hS _ (by omega)) (hS _ (by omega)) (hS _ (by omega)) (a i (j - 1) h1 (by omega) (by omega)) n
 ·exact a i j h1 h2 (by omega)
theorem aff (C:Cmp M A E s κ S R) {xs:Array Keyed} {l h:Nat} (hS:∀ k,k<=h->S (e xs k)) (hl:l < h) (a:Des R xs l h) (n:R (e xs (h - 1)) (e xs h)=false):Des R xs l (h+1):=by
 intro i j h1 h2 h3
 by_cases hj:j=h
 ·subst hj
  by_cases hi:i=j
  ·subst hi;exact C.irr (hS _ (Nat.le_refl _))
  ·exact C.tr _ (e xs (j - 1)) _ (hS _ (by omega)) (hS _ (by omega)) (hS _ (by omega)) n (a i (j - 1) h1 (by omega) (by omega))
 ·exact a i j h1 h2 (by omega)
theorem Bs.set {st:SortSt} (B:Bs κ p0 a0 lo st) {xs:Array Keyed} (hp:xs.Perm (arrOf st)) (hl:∀ k,k < lo->xs[k]?=(arrOf st)[k]?):Bs κ p0 a0 lo (setArr st xs) :=
 ⟨B.k,B.f,B.p,hp.toList.trans B.perm,fun k hk=>(hl k hk).trans (B.pre k hk)⟩
theorem aoz (C:Cmp M A E s κ S R) (hS:∀ x∈a0.toList,S x) {st:SortSt} (B:Bs κ p0 a0 lo st) {n ok:Nat} (hn:lo+n<=a0.size) (hok:ok<=n) (h1:1<=n) (hs:Asc R (arrOf st) lo (lo+ok)) {Q:Bool->SortSt->Prop}
  (h:∀ st',Bs κ p0 a0 lo st'->Asc R (arrOf st') lo (lo+n)->Q true st'):wpS M A E s (arw lo n ok) Q st:=by
 refine wpS_bind (wpS_mono (Q:=fun (z:Option Bool × Unit) st'=>z.1=none/\Bs κ p0 a0 lo st'/\Asc R (arrOf st') lo (lo+n)) ?_ ?_)
 ·refine wpS_forRange (fun k (z:Option Bool × Unit) st'=>z.1=none/\Bs κ p0 a0 lo st'/\Asc R (arrOf st') lo (lo+k)) ?_ ?_ ⟨rfl,B,fun i j q1 q2 q3=>?_⟩
  ·rintro k ⟨o,_⟩ st1 hk1 hk2 ⟨rfl,B1,as⟩
   have SE:∀ j,j < lo+n->S (e (arrOf st1) j):=fun j hj=>B1.sat hS (by omega)
   refine wpS_bind (wpS_mono (Q:=fun (z:Option Bool × Nat × Nat) st'=>st'=st1/\z.1=none/\z.2.1<=k/\(∀ i,i < z.2.1->R (e (arrOf st1) (lo+k)) (e (arrOf st1) (lo+i))=false)/\(∀ i,z.2.1<=i->i < k->R (e (arrOf st1) (lo+k)) (e (arrOf st1) (lo+i))=true)) ?_ ?_)
   ·refine wpS_forRange (fun t (z:Option Bool × Nat × Nat) st'=>st'=st1/\z.1=none/\z.2.1<=z.2.2/\z.2.2<=k/\z.2.2 - z.2.1+t<=k/\(∀ i,i < z.2.1->R (e (arrOf st1) (lo+k)) (e (arrOf st1) (lo+i))=false)/\(∀ i,z.2.2<=i->i < k->R (e (arrOf st1) (lo+k)) (e (arrOf st1) (lo+i))=true)) ?_ ?_
     ⟨rfl,rfl,Nat.zero_le _,Nat.le_refl _,by dsimp only;omega,fun i hi=>absurd hi (Nat.not_lt_zero _),fun i q1 q2=>by dsimp only at q1;omega⟩
    ·rintro t ⟨o,l,r⟩ st2 _ ht ⟨rfl,eo,q1,q2,q3,q4,q5⟩
     dsimp only at eo q1 q2 q3 q4 q5 ⊢
     subst eo
     refine acp (fun hlr=>?_) (fun hlr=>?_)
     ·have:l=r:=by omega
      subst this
      exact wpS_pure ⟨rfl,rfl,q2,q4,q5⟩
     ·have hm:(l+r) / 2 < r:=by omega
      have hm2:l<=(l+r) / 2:=by omega
      refine wpS_bind (afy C hS B1 (by omega) (by omega) ?_)
      dsimp only
      cases er:R (e (arrOf st2) (lo+k)) (e (arrOf st2) (lo+(l+r) / 2)) with
      | true =>
       rw [if_pos rfl]
       refine wpS_pure ⟨rfl,rfl,hm2,by dsimp only;omega,by dsimp only;omega,q4,fun i i1 i2=>?_⟩
       dsimp only at i1
       cases e2:R (e (arrOf st2) (lo+k)) (e (arrOf st2) (lo+i)) with
       | true=>rfl
       | false =>
        have:=C.tr _ _ _ (SE _ (by omega)) (SE _ (by omega)) (SE _ (by omega)) (as (lo+(l+r) / 2) (lo+i) (by omega) (by omega) (by omega)) e2
        rw [this] at er;cases er
      | false =>
       rw [if_neg (by decide)]
       refine wpS_pure ⟨rfl,rfl,by dsimp only;omega,q2,by dsimp only;omega,fun i i1=>?_,q5⟩
       dsimp only at i1
       exact C.tr _ _ _ (SE _ (by omega)) (SE _ (by omega)) (SE _ (by omega)) (as (lo+i) (lo+(l+r) / 2) (by omega) (by omega) (by omega)) er
    ·rintro ⟨o,l,r⟩ st2 ⟨rfl,eo,q1,q2,q3,q4,q5⟩
     dsimp only at eo q1 q2 q3 q4 q5 ⊢
     have : l = r := by have:k ≤ max 0 k := by omega
                        omega
     subst this
     exact ⟨rfl,eo,q2,q4,q5⟩
   ·rintro ⟨o,l,r⟩ st2 ⟨rfl,eo,q1,q4,q5⟩
    dsimp only at eo q1 q4 q5 ⊢
    subst eo
    dsimp only
    have hsz:lo+k < (arrOf st2).size:=by rw [B1.size];omega
    have hd:(lo+k) - (lo+l)=k - l:=by omega
    refine wpS_bind (wpS_modify ?_)
    have eb:∀ j,e (bubble (arrOf st2) (lo+k) (lo+k - (lo+l))) j=if j=lo+l then e (arrOf st2) (lo+k) else if lo+l < j/\j<=lo+k then e (arrOf st2) (j - 1) else e (arrOf st2) j:=fun j=>by
     rw [arx hsz (by omega),show lo+k - (lo+k - (lo+l))=lo+l by omega]
    refine wpS_pure ⟨rfl,B1.set (bubble_perm _ _ _) (fun j hj=>?_),fun i j i1 i2 i3=>?_⟩
    ·show (bubble (arrOf st2) (lo+k) (lo+k - (lo+l)))[j]?=_
     rw [getElem?_bubble hsz _ (by omega),if_neg (by omega),if_neg (by omega)]
    ·show R (e (bubble (arrOf st2) (lo+k) (lo+k - (lo+l))) j) (e (bubble (arrOf st2) (lo+k) (lo+k - (lo+l))) i)=false
     rw [eb,eb]
     have SE':∀ j,j < lo+n->S (e (arrOf st2) j):=SE
     by_cases j1:j=lo+l
     ·rw [if_pos j1]
      by_cases i4:i=lo+l
      ·rw [if_pos i4];exact C.irr (SE _ (by omega))
      ·rw [if_neg i4,if_neg (by omega)]
       have:=q4 (i - lo) (by omega)
       rw [show lo+(i - lo)=i by omega] at this
       exact this
     ·rw [if_neg j1]
      by_cases j2:lo+l < j/\j<=lo+k
      ·rw [if_pos j2]
       have gt:=q5 (j - 1 - lo) (by omega) (by omega)
       rw [show lo+(j - 1 - lo)=j - 1 by omega] at gt
       by_cases i4:i=lo+l
       ·rw [if_pos i4];exact C.asy _ _ (SE _ (by omega)) (SE _ (by omega)) gt
       ·rw [if_neg i4]
        by_cases i5:lo+l < i/\i<=lo+k
        ·rw [if_pos i5];exact as (i - 1) (j - 1) (by omega) (by omega) (by omega)
        ·rw [if_neg i5];exact as i (j - 1) (by omega) (by omega) (by omega)
      ·rw [if_neg j2,if_neg (by omega),if_neg (by omega)]
       exact as i j (by omega) (by omega) (by omega)
  ·rintro ⟨o,_⟩ st1 ⟨eo,B1,as⟩
   exact ⟨eo,B1,fun i j i1 i2 i3=>as i j i1 i2 (by omega)⟩
  ·by_cases hj:j < lo+ok
   ·exact hs i j q1 q2 hj
   ·have:i=j:=by omega
    subst this
    exact C.irr (B.sat hS (by omega))
 ·rintro ⟨o,_⟩ st1 ⟨eo,B1,as⟩
  dsimp only at eo ⊢
  subst eo
  exact wpS_pure (h st1 B1 as)
end
def Eqb (R:Keyed->Keyed->Bool) (xs:Array Keyed) (l h:Nat):Prop:=∀ i j,l<=i->i < h->l<=j->j < h->R (e xs i) (e xs j)=false
section
variable {M:Model} {A:Around} {E:Value->Shared->Prop} {s:Shared} {κ:SortKind} {S:Keyed->Prop} {R:Keyed->Keyed->Bool} {p0:Array (Nat × Nat × Nat)} {a0:Array Keyed} {lo:Nat}
theorem anh {α:Type} {prog:StateT SortSt Sem α} {P:SortSt->Prop} {Q : α->SortSt->Prop} {G:Prop} (use:(∀ st,P st->wpS M A E s prog Q st)->G) (pf:∀ st,P st->wpS M A E s prog Q st):G:=use pf
theorem akz (C:Cmp M A E s κ S R) (hS:∀ x∈a0.toList,S x) {st:SortSt} (B:Bs κ p0 a0 lo st) {a nrem:Nat} (h1:1<=a) (h2:a<=nrem) (hn:lo+nrem<=a0.size) (as:Asc R (arrOf st) lo (lo+a)) {Q:Option (Option Nat) × Nat->SortSt->Prop}
  (h:∀ n,a<=n->n<=nrem->Asc R (arrOf st) lo (lo+n)->(n < nrem->R (e (arrOf st) (lo+n)) (e (arrOf st) (lo+n - 1))=true)->Q (none,n) st) :
  wpS M A E s (forIn [a:nrem] ((none,a):Option (Option Nat) × Nat) (fun (_:Nat) z=>ltAt' (lo+z.2) (lo+z.2 - 1) >>= fun x=>match x with
   | some smaller=>if smaller=true then pure (ForInStep.done (none,z.2)) else pure (ForInStep.yield (none,z.2+1))
   | _=>pure (ForInStep.done (some none,z.2)))) Q st:=by
 refine wpS_forRange (fun t (z:Option (Option Nat) × Nat) st'=>st'=st/\z=(none,t)/\Asc R (arrOf st) lo (lo+t)) ?_ ?_ ⟨rfl,rfl,as⟩
 ·rintro t ⟨o,n⟩ st1 t1 t2 ⟨rfl,ez,as1⟩
  cases ez
  dsimp only
  refine wpS_bind (afy C hS B (by omega) (by omega) ?_)
  dsimp only
  cases er:R (e (arrOf st1) (lo+t)) (e (arrOf st1) (lo+t - 1)) with
  | true =>
   rw [if_pos rfl]
   exact wpS_pure (h t t1 (by omega) as1 fun _=>er)
  | false =>
   rw [if_neg (by decide)]
   exact wpS_pure ⟨rfl,rfl,ary C (h:=lo+t) (fun k hk=>B.sat hS (by omega)) (by omega) as1 er⟩
 ·rintro ⟨o,n⟩ st1 ⟨rfl,ez,as1⟩
  cases ez
  rw [show max a nrem=nrem by omega] at as1 ⊢
  exact h nrem h2 (Nat.le_refl _) as1 fun z=>absurd z (Nat.lt_irrefl _)
theorem arz (C:Cmp M A E s κ S R) {st:SortSt} (B:Bs κ p0 a0 lo st) {n:Nat} (hn:lo+n<=a0.size) (de:Des R (arrOf st) lo (lo+n)) :
  Bs κ p0 a0 lo (setArr st (mirror (arrOf st) lo (lo+n) ((lo+n - lo) / 2)))/\Asc R (mirror (arrOf st) lo (lo+n) ((lo+n - lo) / 2)) lo (lo+n):=by
 have hz:lo+n<=(arrOf st).size:=by rw [B.size];exact hn
 refine ⟨B.set (mirror_perm _ _ _ _) (fun k hk=>by rw [getElem?_mirror_all hz,if_neg (by omega)]),fun i j h1 h2 h3=>?_⟩
 rw [acw hz,acw hz,if_pos (by omega),if_pos (by omega)]
 exact de _ _ (by omega) (by omega) (by omega)
theorem ah8 (C:Cmp M A E s κ S R) (hS:∀ x∈a0.toList,S x) {st:SortSt} (B:Bs κ p0 a0 lo st) {l h m:Nat} (hl:lo<=l) (hh:h<=a0.size) (hm:h<=m) (hm2:m<=a0.size) (de:Des R (arrOf st) lo m) (eq:Eqb R (arrOf st) l h) :
  Bs κ p0 a0 lo (setArr st (mirror (arrOf st) l h ((h - l) / 2)))/\Des R (mirror (arrOf st) l h ((h - l) / 2)) lo m:=by
 have hz:h<=(arrOf st).size:=by rw [B.size];exact hh
 refine ⟨B.set (mirror_perm _ _ _ _) (fun k hk=>by rw [getElem?_mirror_all hz,if_neg (by omega)]),fun i j h1 h2 h3=>?_⟩
 rw [acw hz,acw hz]
 have SE:∀ k,k < m->S (e (arrOf st) k):=fun k hk=>B.sat hS (by omega)
 by_cases c1:l<=i/\i < h
 ·rw [if_pos c1]
  by_cases c2:l<=j/\j < h
  ·rw [if_pos c2]
   exact eq _ _ (by omega) (by omega) (by omega) (by omega)
  ·rw [if_neg c2]
   exact de _ _ (by omega) (by omega) (by omega)
 ·rw [if_neg c1]
  by_cases c2:l<=j/\j < h
  ·rw [if_pos c2]
   exact de _ _ (by omega) (by omega) (by omega)
  ·rw [if_neg c2]
   exact de _ _ (by omega) (by omega) (by omega)
theorem aqc (C:Cmp M A E s κ S R) (hS:∀ x∈a0.toList,S x) {st:SortSt} (B:Bs κ p0 a0 lo st) {nrem:Nat} (h1:1<=nrem) (hn:lo+nrem<=a0.size) {Q:Option Nat->SortSt->Prop}
  (h:∀ st' n,Bs κ p0 a0 lo st'->1<=n->n<=nrem->Asc R (arrOf st') lo (lo+n)->Q (some n) st'):wpS M A E s (au1 lo nrem) Q st:=by
 refine wpS_bind (akz C hS B (Nat.le_refl 1) h1 hn (fun i j i1 i2 i3=>?_) fun n n1 n2 as br=>?_)
 ·have:i=j:=by omega
  subst this
  exact C.irr (B.sat hS (by omega))
 dsimp only
 refine acp (fun en=>wpS_pure (h st n B n1 n2 as)) (fun en=>?_)
 have en':n ≠ nrem:=by simpa using en
 have hlt:n < nrem:=by omega
 have br':=br hlt
 refine anh (M:=M) (A:=A) (E:=E) (s:=s) (α:=Option Nat) (Q:=Q) (P:=fun st2=>Bs κ p0 a0 lo st2/\Des R (arrOf st2) lo (lo+n)/\R (e (arrOf st2) (lo+n)) (e (arrOf st2) (lo+n - 1))=true) (prog:=?prog) (fun JP=>?use) (fun st2 ⟨B2,de,br2⟩=>?pf)
 case use =>
  refine acp (fun g1=>?_) (fun g1=>?_)
  ·refine wpS_bind (afy C hS B (by omega) (by omega) ?_)
   dsimp only
   cases er:R (e (arrOf st) lo) (e (arrOf st) (lo+n - 1)) with
   | true=>rw [if_pos rfl];exact wpS_pure (h st n B n1 n2 as)
   | false =>
    rw [if_neg (by decide)]
    -- all of them are equal
    have SE:∀ k,k < lo+n->S (e (arrOf st) k):=fun k hk=>B.sat hS (by omega)
    have all:Eqb R (arrOf st) lo (lo+n):=fun i j i1 i2 j1 j2=>by
     -- j<=last<=first<=i
     have a1:=as j (lo+n - 1) j1 (by omega) (by omega)
     have a2:=as lo i (Nat.le_refl _) i1 i2
     exact C.tr _ _ _ (SE j j2) (SE lo (by omega)) (SE i i2) (C.tr _ _ _ (SE j j2) (SE (lo+n - 1) (by omega)) (SE lo (by omega)) a1 er) a2
    have de:Des R (arrOf st) lo (lo+n):=fun i j i1 i2 i3=>all i j i1 (by omega) (by omega) i3
    have hz:lo+n<=(arrOf st).size:=by rw [B.size];omega
    obtain ⟨B3,de3⟩:=ah8 C hS B (Nat.le_refl lo) (show lo+n<=a0.size by omega) (Nat.le_refl _) (by omega) de all
    refine wpS_bind (wpS_modify ?_)
    refine JP _ ⟨B3,de3,?_⟩
    show R (e (mirror (arrOf st) lo (lo+n) ((lo+n - lo) / 2)) (lo+n)) (e (mirror (arrOf st) lo (lo+n) ((lo+n - lo) / 2)) (lo+n - 1))=true
    rw [acw hz,acw hz,if_neg (by omega),if_pos (by omega)]
    rw [show lo+(lo+n) - 1 - (lo+n - 1)=lo by omega]
    cases e2:R (e (arrOf st) (lo+n)) (e (arrOf st) lo) with
    | true=>rfl
    | false =>
     have:=C.tr _ _ _ (SE (lo+n - 1) (by omega)) (SE lo (by omega)) (B.sat hS (show lo+n < a0.size by omega)) er e2
     rw [this] at br';cases br'
  ·have:n=1:=by omega
   subst this
   refine JP st ⟨B,fun i j i1 i2 i3=>?_,br'⟩
   have:i=j:=by omega
   subst this
   exact C.irr (B.sat hS (by omega))
 case pf =>
  -- the falling part
  refine wpS_bind (aky ?_)
  refine wpS_bind (wpS_mono (Q:=fun (z:Option (Option Nat) × Nat × Nat) st'=>z.1=none/\Bs κ p0 a0 lo st'/\z.2.1<=nrem/\z.2.2+1<=z.2.1/\Des R (arrOf st') lo (lo+z.2.1)/\Eqb R (arrOf st') (lo+z.2.1 - (z.2.2+1)) (lo+z.2.1)) ?_ ?_)
  ·refine wpS_forRange (fun t (z:Option (Option Nat) × Nat × Nat) st'=>z.1=none/\z.2.1=t/\Bs κ p0 a0 lo st'/\z.2.2+1<=z.2.1/\Des R (arrOf st') lo (lo+z.2.1)/\Eqb R (arrOf st') (lo+z.2.1 - (z.2.2+1)) (lo+z.2.1)) ?_ ?_ ⟨rfl,rfl,B2,by dsimp only;omega,?_,fun i j i1 i2 j1 j2=>?_⟩
   ·rintro t ⟨o,m,neq⟩ st3 t1 t2 ⟨eo,em,B3,hq,de3,eq3⟩
    dsimp only at eo em hq de3 eq3 ⊢
    subst eo em
    have SE:∀ k,k < a0.size->S (e (arrOf st3) k):=fun k hk=>B3.sat hS hk
    refine wpS_bind (afy C hS B3 (by omega) (by omega) ?_)
    dsimp only
    cases er:R (e (arrOf st3) (lo+m)) (e (arrOf st3) (lo+m - 1)) with
    | true =>
     rw [if_pos rfl]
     refine acp (fun g=>?_) (fun g=>?_)
     ·have hz:lo+m<=(arrOf st3).size:=by rw [B3.size];omega
      obtain ⟨B4,de4⟩:=ah8 C hS B3 (l:=lo+m - (neq+1)) (h:=lo+m) (by omega) (by omega) (Nat.le_refl _) (by omega) de3 eq3
      have em1:∀ k,e (mirror (arrOf st3) (lo+m - (neq+1)) (lo+m) ((lo+m - (lo+m - (neq+1))) / 2)) k=if lo+m - (neq+1)<=k/\k < lo+m then e (arrOf st3) (lo+m - (neq+1)+(lo+m) - 1 - k) else e (arrOf st3) k:=fun k=>acw hz k
      refine wpS_bind (wpS_modify ?_)
      refine wpS_pure ⟨rfl,rfl,B4,by dsimp only;omega,?_,fun i j i1 i2 j1 j2=>?_⟩
      ·show Des R (mirror (arrOf st3) (lo+m - (neq+1)) (lo+m) ((lo+m - (lo+m - (neq+1))) / 2)) lo (lo+(m+1))
       refine aff C (h:=lo+m) (fun k hk=>B4.sat hS (by omega)) (by omega) de4 ?_
       rw [em1,em1,if_pos (by omega),if_neg (by omega)]
       rw [show lo+m - (neq+1)+(lo+m) - 1 - (lo+m - 1)=lo+m - (neq+1) by omega]
       exact C.tr _ _ _ (SE _ (by omega)) (SE (lo+m - 1) (by omega)) (SE _ (by omega)) (C.asy _ _ (SE _ (by omega)) (SE _ (by omega)) er) (de3 _ _ (by omega) (by omega) (by omega))
      ·dsimp only at i1 i2 j1 j2
       have:i=j:=by omega
       subst this
       exact C.irr (B4.sat hS (by omega))
     ·have:neq=0:=by omega
      subst this
      refine wpS_pure ⟨rfl,rfl,B3,by dsimp only;omega,aff C (h:=lo+m) (fun k hk=>SE k (by omega)) (by omega) de3 (C.asy _ _ (SE _ (by omega)) (SE _ (by omega)) er),fun i j i1 i2 j1 j2=>?_⟩
      dsimp only at i1 i2 j1 j2
      have:i=j:=by omega
      subst this
      exact C.irr (SE _ (by omega))
    | false =>
     rw [if_neg (by decide)]
     refine wpS_bind (afy C hS B3 (by omega) (by omega) ?_)
     dsimp only
     cases er2:R (e (arrOf st3) (lo+m - 1)) (e (arrOf st3) (lo+m)) with
     | true =>
      rw [if_pos rfl]
      exact wpS_pure ⟨rfl,B3,by dsimp only;omega,hq,de3,eq3⟩
     | false =>
      rw [if_neg (by decide)]
      refine wpS_pure ⟨rfl,rfl,B3,by dsimp only;omega,aff C (h:=lo+m) (fun k hk=>SE k (by omega)) (by omega) de3 er2,fun i j i1 i2 j1 j2=>?_⟩
      dsimp only at i1 i2 j1 j2
      by_cases ci:i=lo+m
      ·by_cases cj:j=lo+m
       ·rw [ci,cj];exact C.irr (SE _ (by omega))
       ·rw [ci]
        exact C.tr _ _ _ (SE j (by omega)) (SE (lo+m - 1) (by omega)) (SE _ (by omega)) (eq3 (lo+m - 1) j (by omega) (by omega) (by omega) (by omega)) er
      ·by_cases cj:j=lo+m
       ·rw [cj]
        exact C.tr _ _ _ (SE _ (by omega)) (SE (lo+m - 1) (by omega)) (SE i (by omega)) er2 (eq3 i (lo+m - 1) (by omega) (by omega) (by omega) (by omega))
       ·exact eq3 i j (by omega) (by omega) (by omega) (by omega)
   ·rintro ⟨o,m,neq⟩ st3 ⟨eo,em,B3,hq,de3,eq3⟩
    dsimp only at eo em hq de3 eq3 ⊢
    exact ⟨eo,B3,by omega,hq,de3,eq3⟩
   ·exact aff C (h:=lo+n) (fun k hk=>B2.sat hS (by omega)) (by omega) de (C.asy _ _ (B2.sat hS (by omega)) (B2.sat hS (by omega)) br2)
   ·dsimp only at i1 i2 j1 j2
    have:i=j:=by omega
    subst this
    exact C.irr (B2.sat hS (by omega))
  ·rintro ⟨o,m,neq⟩ st3 ⟨eo,B3,hm,hq,de3,eq3⟩
   dsimp only at eo hm hq de3 eq3 ⊢
   subst eo
   dsimp only
   refine anh (M:=M) (A:=A) (E:=E) (s:=s) (α:=Option Nat) (Q:=Q) (P:=fun st4=>Bs κ p0 a0 lo st4/\Des R (arrOf st4) lo (lo+m)) (prog:=?prog2) (fun JP=>?use2) (fun st4 ⟨B4,de4⟩=>?pf2)
   case use2 =>
    refine acp (fun g=>?_) (fun g=>?_)
    ·obtain ⟨B4,de4⟩:=ah8 C hS B3 (l:=lo+m - (neq+1)) (h:=lo+m) (by omega) (by omega) (Nat.le_refl _) (by omega) de3 eq3
     refine wpS_bind (wpS_modify ?_)
     exact JP _ ⟨B4,de4⟩
    ·exact JP _ ⟨B3,de3⟩
   case pf2 =>
    obtain ⟨B5,as5⟩:=arz C B4 (n:=m) (by omega) de4
    refine wpS_bind (wpS_modify ?_)
    refine wpS_bind (akz C hS B5 (by omega) hm hn as5 fun n' n1' n2' as' _=>?_)
    exact wpS_pure (h _ n' B5 (by omega) n2' as')
end
noncomputable def flat (rs:List (List Keyed × Nat)):List Keyed:=(rs.map (·.1)).flatten
noncomputable def pend:Nat->List (List Keyed × Nat)->List (Nat × Nat × Nat)
 | _,[]=>[]
 | k,(r,pw) :: t=>(k,r.length,pw) :: pend (k+r.length) t
theorem ar0:flat []=[]:=rfl
theorem aqd (r:List Keyed × Nat) (t:List (List Keyed × Nat)):flat (r :: t)=r.1 ++ flat t:=rfl
theorem amm (p q:List (List Keyed × Nat)):flat (p ++ q)=flat p ++ flat q:=by simp [flat]
theorem agv:∀ (k:Nat) (p q:List (List Keyed × Nat)),pend k (p ++ q)=pend k p ++ pend (k+(flat p).length) q
 | k,[],q=>by simp [pend,ar0]
 | k,(r,pw) :: t,q=>by
  simp only [List.cons_append,pend,aqd,List.length_append,List.cons.injEq,true_and]
  rw [agv (k+r.length) t q,Nat.add_assoc]
section
variable {M:Model} {A:Around} {E:Value->Shared->Prop} {s:Shared} {κ:SortKind} {S:Keyed->Prop} {R:Keyed->Keyed->Bool} {a0:Array Keyed}
structure Rn (κ:SortKind) (R:Keyed->Keyed->Bool) (a0:Array Keyed) (rs:List (List Keyed × Nat)) (rest:List Keyed) (st:SortSt):Prop where
 k:kindOf st = κ
 f:failedOf st=none
 arr:(arrOf st).toList=flat rs ++ rest
 pn:(pendingOf st).toList=pend 0 rs
 ok:∀ r∈rs,r.1 ≠ []/\Srt R r.1
 perm:(arrOf st).toList.Perm a0.toList
theorem Rn.run {rs:List (List Keyed × Nat)} {rest:List Keyed} {st st':SortSt} {n:Nat} (N:Rn κ R a0 rs rest st) (B:Bs κ (pendingOf st) (arrOf st) (flat rs).length st') (h1:1<=n) (hn:(flat rs).length+n<=(arrOf st).size) (as:Asc R (arrOf st') (flat rs).length ((flat rs).length+n)) :
  ∃ r rest',r.length=n/\r ≠ []/\Srt R r/\Rn κ R a0 rs (r ++ rest') st':=by
 have hsz:=B.size
 have hfl:(arrOf st').toList.take (flat rs).length=flat rs:=by
  have e1:(arrOf st').toList.take (flat rs).length=(arrOf st).toList.take (flat rs).length:=by
   apply List.ext_getElem?
   intro k
   rw [List.getElem?_take,List.getElem?_take]
   split
   ·rename_i hk
    have:=B.pre k hk
    simpa using this
   ·rfl
  rw [e1,N.arr,List.take_left]
 refine ⟨((arrOf st').toList.drop (flat rs).length).take n,((arrOf st').toList.drop (flat rs).length).drop n,?_,?_,?_,B.k,B.f,?_,?_,N.ok,B.perm.trans N.perm⟩
 ·simp;omega
 ·intro z
  have:=congrArg List.length z
  simp at this
  omega
 ·unfold Srt
  rw [List.pairwise_iff_getElem]
  intro i j hi hj hij
  have hj':j < n:=by simp at hj;omega
  have get:∀ k,k < n->∀ (hk:k < (((arrOf st').toList.drop (flat rs).length).take n).length),(((arrOf st').toList.drop (flat rs).length).take n)[k]=e (arrOf st') ((flat rs).length+k):=by
   intro k hk hk2
   rw [List.getElem_take,List.getElem_drop]
   have h3:=ahe (xs:=arrOf st') (k:=(flat rs).length+k) (by omega)
   have h4:(flat rs).length+k < (arrOf st').toList.length:=by simp;omega
   have h5:(arrOf st').toList[(flat rs).length+k]?=some (e (arrOf st') ((flat rs).length+k)):=by simpa using h3
   rw [List.getElem?_eq_getElem h4] at h5
   exact Option.some.inj h5
  rw [get i (by omega) hi,get j hj' hj]
  exact as _ _ (by omega) (by omega) (by omega)
 ·rw [List.take_append_drop]
  conv=>lhs;rw [← List.take_append_drop (flat rs).length (arrOf st').toList,hfl]
 ·rw [B.p];exact N.pn
theorem Rn.bs {rs:List (List Keyed × Nat)} {rest:List Keyed} {st:SortSt} (N:Rn κ R a0 rs rest st):Bs κ (pendingOf st) (arrOf st) (flat rs).length st:=⟨N.k,N.f,rfl,List.Perm.refl _,fun _ _=>rfl⟩
theorem Rn.size {rs:List (List Keyed × Nat)} {rest:List Keyed} {st:SortSt} (N:Rn κ R a0 rs rest st):(arrOf st).size=a0.size:=by
 have:=N.perm.length_eq;simpa using this
theorem Rn.len {rs:List (List Keyed × Nat)} {rest:List Keyed} {st:SortSt} (N:Rn κ R a0 rs rest st):(flat rs).length+rest.length=a0.size:=by
 have:=congrArg List.length N.arr
 have h2:=N.size
 simp at this
 omega
theorem Rn.push {rs:List (List Keyed × Nat)} {r rest:List Keyed} {st st':SortSt} (N:Rn κ R a0 rs (r ++ rest) st) (h0:r ≠ []) (hs:Srt R r) (k:kindOf st'=kindOf st) (f:failedOf st'=failedOf st) (a:arrOf st'=arrOf st)
  (p:pendingOf st'=(pendingOf st).push ((flat rs).length,r.length,0)):Rn κ R a0 (rs ++ [(r,0)]) rest st':=by
 refine ⟨k.trans N.k,f.trans N.f,?_,?_,fun q hq=>?_,by rw [a];exact N.perm⟩
 ·rw [a,N.arr,amm];simp [flat,List.append_assoc]
 ·rw [p,Array.toList_push,N.pn,agv];simp [pend]
 ·rcases List.mem_append.mp hq with hq | hq
  ·exact N.ok q hq
  ·have:q=(r,0):=by simpa using hq
   subst this;exact ⟨h0,hs⟩
end
section
variable {M:Model} {A:Around} {E:Value->Shared->Prop} {s:Shared} {κ:SortKind} {S:Keyed->Prop} {R:Keyed->Keyed->Bool} {a0:Array Keyed}
structure Dn (R:Keyed->Keyed->Bool) (a0:Array Keyed) (st:SortSt):Prop where
 f:failedOf st=none
 perm:(arrOf st).toList.Perm a0.toList
 asc:Asc R (arrOf st) 0 a0.size
 one:(pendingOf st).size<=1
theorem Dn.srt {st:SortSt} (D:Dn R a0 st):Srt R (arrOf st).toList:=by
 have hz:(arrOf st).toList.length=a0.size:=by rw [D.perm.length_eq];simp
 refine List.pairwise_iff_getElem.mpr fun i j hi hj hij=>?_
 have:=D.asc i j (Nat.zero_le _) (by omega) (by omega)
 unfold e at this
 rw [← Array.getElem?_toList,← Array.getElem?_toList,List.getElem?_eq_getElem hi,List.getElem?_eq_getElem hj] at this
 exact this
theorem Dn.of {st:SortSt} {p1:Nat × Nat × Nat} (B:Bs κ #[] a0 0 st) (as:Asc R (arrOf st) 0 (0+a0.size)) {st':SortSt} (k:failedOf st'=failedOf st) (a:arrOf st'=arrOf st) (p:pendingOf st'=(pendingOf st).push p1):Dn R a0 st':=by
 refine ⟨by rw [k];exact B.f,by rw [a];exact B.perm,by rw [a];simpa using as,?_⟩
 rw [p,B.p]
 simp
theorem ao0 (C:Cmp M A E s κ S R) (hS:∀ x∈a0.toList,S x) {st:SortSt} (h0:arrOf st=a0) (hk:kindOf st = κ) (hf:failedOf st=none) (hp:pendingOf st = #[]) (h1:1<=a0.size) (h64:a0.size < 64) {Q:Unit->SortSt->Prop}
  (h:∀ st',failedOf st'=none->(arrOf st').toList.Perm a0.toList->Srt R (arrOf st').toList->Q () st'):wpS M A E s azi Q st:=by
 have size0:(arrOf st).size=a0.size:=by rw [h0]
 have B0:Bs κ #[] a0 0 st:=⟨hk,hf,hp,by rw [h0],fun k hk=>by omega⟩
 have hmr:minRun' (arrOf st).size (arrOf st).size 0=a0.size:=by
  rw [size0]
  obtain ⟨f,hf⟩:∃ f,a0.size=f+1:=⟨a0.size - 1,by omega⟩
  have:minRun' (f+1) a0.size 0=a0.size:=by rw [minRun'_succ,if_pos h64];rfl
  rwa [← hf] at this
 refine wpS_bind (wpS_get ?_)
 dsimp only
 refine wpS_bind (wpS_mono (Q:=fun (c:Option Unit × Nat) st1=>c.1=none/\Dn R a0 st1) ?_ ?_)
 ·refine wpS_forRange (fun i (c:Option Unit × Nat) st1=>c.1=none/\((i=0/\c.2=0/\Bs κ #[] a0 0 st1)\/(c.2=a0.size/\Dn R a0 st1))) ?_ ?_ ⟨rfl,.inl ⟨rfl,rfl,B0⟩⟩
  ·rintro i ⟨c1,lo⟩ st1 _ hi ⟨e1,hc⟩
   dsimp only at e1 hc ⊢
   subst e1
   rcases hc with ⟨rfl,rfl,B1⟩ | ⟨rfl,D⟩
   ·refine acp (fun hge=>?_) (fun hlt=>?_)
    ·exfalso
     have:0 ≥ (arrOf st).size:=hge
     omega
    ·refine wpS_bind (aqc C hS B1 (nrem:=(arrOf st).size - 0) (by omega) (by omega) fun st2 n B2 n1 n2 as2=>?_)
     dsimp only
     refine acp (fun hmin=>?_) (fun hmin=>?_)
     ·refine wpS_bind (aky ?_)
      have hmin':n < minRun' (arrOf st).size (arrOf st).size 0:=hmin
      generalize hnn:min (_:Nat) _=nn
      have hnn':min ((arrOf st).size - 0) (minRun' (arrOf st).size (arrOf st).size 0)=nn:=hnn
      have en:nn=a0.size:=by omega
      clear hnn hnn'
      subst en
      refine wpS_bind (aoz C hS B2 (n:=a0.size) (ok:=n) (by omega) (by omega) h1 as2 fun st3 B3 as3=>?_)
      rw [if_neg (by decide)]
      refine wpS_bind (wpS_get ?_)
      have hb:(pendingOf st3).back?=none:=by rw [B3.p];rfl
      rw [hb]
      dsimp only
      exact wpS_bind (wpS_modify (wpS_pure ⟨rfl,.inr ⟨by simp,.of B3 as3 rfl rfl rfl⟩⟩))
     ·have hmin':¬ n < minRun' (arrOf st).size (arrOf st).size 0:=hmin
      have en:n=a0.size:=by omega
      subst en
      refine wpS_bind (wpS_get ?_)
      have hb:(pendingOf st2).back?=none:=by rw [B2.p];rfl
      rw [hb]
      dsimp only
      exact wpS_bind (wpS_modify (wpS_pure ⟨rfl,.inr ⟨by simp,.of B2 as2 rfl rfl rfl⟩⟩))
   ·refine acp (fun hge=>wpS_pure ⟨rfl,D⟩) (fun hlt=>?_)
    exfalso
    have:¬ a0.size ≥ (arrOf st).size:=hlt
    omega
  ·rintro ⟨c1,lo⟩ st1 ⟨e1,hc⟩
   dsimp only at e1 hc ⊢
   refine ⟨e1,?_⟩
   rcases hc with ⟨e,_,_⟩ | ⟨_,D⟩
   ·exfalso
    have:(arrOf st).size<=max 0 (arrOf st).size:=Nat.le_max_right _ _
    have:max 0 (arrOf st).size=0:=e
    omega
   ·exact D
 ·rintro ⟨c1,lo⟩ st1 ⟨e1,D⟩
  dsimp only at e1 ⊢
  subst e1
  dsimp only
  refine wpS_bind (wpS_mono (Q:=fun (c:Option Unit × Unit) st4=>c.1=none/\Dn R a0 st4) ?_ ?_)
  ·refine wpS_forRange (fun j (c:Option Unit × Unit) st4=>c.1=none/\Dn R a0 st4) ?_ (fun c st4 h4=>h4) ⟨rfl,D⟩
   rintro j ⟨c4,u4⟩ st4 _ _ ⟨e4,D4⟩
   dsimp only at e4
   subst e4
   refine wpS_bind (wpS_get ?_)
   refine acp (fun h1=>wpS_pure ⟨rfl,D4⟩) (fun h1=>?_)
   exfalso
   have h1':¬ (pendingOf st4).size<=1:=h1
   have:=D4.one
   omega
  ·rintro ⟨c4,u4⟩ st4 ⟨e4,D4⟩
   dsimp only at e4 ⊢
   subst e4
   dsimp only
   exact wpS_pure (h st4 D4.f D4.perm D4.srt)
end
end TS
namespace L2
open PySem PySem.Spec PyProof.Rows
mutual
inductive Rep (H:Hp):V->PyData->Prop
 | non:Rep H .non .none
 | bl (b:Bool):Rep H (.bl b) (.bool b)
 | int (i:Int):Rep H (.int i) (.int i)
 | str (x:Str):Rep H (.str x) (.str x)
 | lst {a:Addr} {xs:List V} {ds:List PyData}:H a=some (.lst xs)->Reps H xs ds->Rep H (.ref a) (.list ds)
 | tup {a:Addr} {xs:List V} {ds:List PyData}:H a=some (.tup xs)->Reps H xs ds->Rep H (.ref a) (.tuple ds)
inductive Reps (H:Hp):List V->List PyData->Prop
 | nil:Reps H [] []
 | cons {v:V} {vs:List V} {d:PyData} {ds:List PyData}:Rep H v d->Reps H vs ds->Reps H (v :: vs) (d :: ds)
end
mutual
theorem Rep.same {H H':Hp} (s:Same H H'):∀ {v:V} {d:PyData},Rep H v d->Rep H' v d
 | _,_,.non => .non
 | _,_,.bl b => .bl b
 | _,_,.int i => .int i
 | _,_,.str x => .str x
 | _,_,.lst h r => .lst (s _ _ h) (Reps.same s r)
 | _,_,.tup h r => .tup (s _ _ h) (Reps.same s r)
theorem Reps.same {H H':Hp} (s:Same H H'):∀ {vs:List V} {ds:List PyData},Reps H vs ds->Reps H' vs ds
 | _,_,.nil => .nil
 | _,_,.cons r t => .cons (Rep.same s r) (Reps.same s t)
end
theorem Reps.length {H:Hp}:∀ {vs:List V} {ds:List PyData},Reps H vs ds->vs.length=ds.length
 | _,_,.nil=>rfl
 | _,_,.cons _ t=>by simp [Reps.length t]
theorem Reps.get {H:Hp}:∀ {vs:List V} {ds:List PyData} {i:Nat} {d:PyData},Reps H vs ds->ds[i]?=some d->∃ v,vs[i]?=some v/\Rep H v d
 | _,_,_,_,.nil,e=>by simp at e
 | _,_,0,_,.cons r _,e=>by simp at e;subst e;exact ⟨_,rfl,r⟩
 | _,_,i+1,d,.cons _ t,e=>by
  obtain ⟨u,h1,h2⟩:=Reps.get (i:=i) (d:=d) t (by simpa using e)
  exact ⟨u,by simpa using h1,h2⟩
theorem Reps.append {H:Hp}:∀ {vs ws:List V} {ds es:List PyData},Reps H vs ds->Reps H ws es->Reps H (vs ++ ws) (ds ++ es)
 | _,_,_,_,.nil,s=>s
 | _,_,_,_,.cons r t,s => .cons r (Reps.append t s)
section
variable {X:Cx} {pins:List (Addr × Obj)} {σ:St} {H:Hp} {s:Shared}
mutual
theorem Rep.reads (I:Inv X pins σ H s):∀ {v:V} {d:PyData} {u:Value},Rep H v d->RelV v u->∃ as,Reads s.heap u d as
 | _,_,_,.non,r=>by cases r;exact ⟨_,.none⟩
 | _,_,_,.bl b,r=>by cases r;exact ⟨_,.bool b⟩
 | _,_,_,.int i,r=>by obtain ⟨t,rfl⟩:=r;exact ⟨_,.int i t⟩
 | _,_,_,.str x,r=>by obtain ⟨t,rfl⟩:=r;exact ⟨_,.str x t⟩
 | _,_,_,.lst (a:=a) (xs:=xs) h q,r=>by
  cases r
  obtain ⟨_,its,n,rv,e⟩:=(show ObjOk X.prog X.w H s.heap a (.lst xs) from I.hok a _ h)
  obtain ⟨as,ra⟩:=Reps.reads I q rv
  exact ⟨_,.list e rfl rfl (by simpa using ra)⟩
 | _,_,_,.tup (a:=a) (xs:=xs) h q,r=>by
  cases r
  obtain ⟨_,its,rv,o,e,c,n,dd⟩:=(show ObjOk X.prog X.w H s.heap a (.tup xs) from I.hok a _ h)
  obtain ⟨as,ra⟩:=Reps.reads I q rv
  exact ⟨_,.tuple e c dd (by simpa using ra)⟩
theorem Reps.reads (I:Inv X pins σ H s):∀ {vs:List V} {ds:List PyData} {us:List Value},Reps H vs ds->Vals vs us->∃ as,ReadsAll s.heap us ds as
 | _,_,_,.nil,.nil=>⟨_,.nil⟩
 | _,_,_,.cons r t,.cons q qs=>by
  obtain ⟨as,ra⟩:=Rep.reads I r q
  obtain ⟨bs,rb⟩:=Reps.reads I t qs
  exact ⟨_,.cons ra rb⟩
end
end
mutual
noncomputable def aaj:PyData->Bool
 | .none | .int _=>true
 | .list xs | .tuple xs=>plainDs xs
 | _=>false
noncomputable def plainDs:List PyData->Bool
 | []=>true
 | x :: xs=>aaj x && plainDs xs
end
mutual
theorem abe:∀ (d:PyData),aaj d=true->d.canLay0=true
 | .none,_=>by simp [PyData.canLay0]
 | .int _,_=>by simp [PyData.canLay0]
 | .list xs,h=>by simp only [PyData.canLay0];exact plain_lays xs (by simpa [aaj] using h)
 | .tuple xs,h=>by simp only [PyData.canLay0];exact plain_lays xs (by simpa [aaj] using h)
 | .bool _,h=>by simp [aaj] at h
 | .str _,h=>by simp [aaj] at h
 | .dict _,h=>by simp [aaj] at h
theorem plain_lays:∀ (ds:List PyData),plainDs ds=true->PyData.canLayAll0 ds=true
 | [],_=>by simp [PyData.canLayAll0]
 | x :: xs,h=>by
  have h':aaj x=true/\plainDs xs=true:=by simpa [plainDs] using h
  simp only [PyData.canLayAll0,abe x h'.1,plain_lays xs h'.2,Bool.and_self]
end
mutual
theorem afz:∀ (d e:PyData),aaj d=true->aaj e=true->(PyData.eqv d e=true ↔ d=e)
 | .none,e,_,h=>by cases e <;> simp_all [aaj,PyData.eqv]
 | .int i,e,_,h=>by cases e <;> simp_all [aaj,PyData.eqv]
 | .list xs,e,g,h=>by
  cases e with
  | list ys=>simp only [PyData.eqv,PyData.list.injEq];exact eqvAll_plain xs ys (by simpa [aaj] using g) (by simpa [aaj] using h)
  | _=>simp_all [aaj,PyData.eqv]
 | .tuple xs,e,g,h=>by
  cases e with
  | tuple ys=>simp only [PyData.eqv,PyData.tuple.injEq];exact eqvAll_plain xs ys (by simpa [aaj] using g) (by simpa [aaj] using h)
  | _=>simp_all [aaj,PyData.eqv]
 | .bool _,_,h,_=>by simp [aaj] at h
 | .str _,_,h,_=>by simp [aaj] at h
 | .dict _,_,h,_=>by simp [aaj] at h
theorem eqvAll_plain:∀ (ds es:List PyData),plainDs ds=true->plainDs es=true->(PyData.eqvAll ds es=true ↔ ds=es)
 | [],[],_,_=>by simp [PyData.eqvAll]
 | [],_ :: _,_,_=>by simp [PyData.eqvAll]
 | _ :: _,[],_,_=>by simp [PyData.eqvAll]
 | x :: xs,y :: ys,g,h=>by
  have g':aaj x=true/\plainDs xs=true:=by simpa [plainDs] using g
  have h':aaj y=true/\plainDs ys=true:=by simpa [plainDs] using h
  simp only [PyData.eqvAll,Bool.and_eq_true,List.cons.injEq,afz x y g'.1 h'.1,eqvAll_plain xs ys g'.2 h'.2]
end
theorem aes (ds:List PyData):plainDs ds=true ↔ ∀ d∈ds,aaj d=true:=by
 induction ds with
 | nil=>simp [plainDs]
 | cons d ds ih=>simp [plainDs,ih]
def rEqD:R2:=fun x y H Q=>∃ d e,Rep H x d/\Rep H y e/\aaj d=true/\aaj e=true/\d.depth<=60/\Q (.bl (PyData.eqv d e)) H
def rNeD:R2:=fun x y H Q=>∃ d e,Rep H x d/\Rep H y e/\aaj d=true/\aaj e=true/\d.depth<=60/\Q (.bl (!PyData.eqv d e)) H
section
variable {X:Cx}
theorem aqe (hu:X.A.units+64 < cLine):OpR X (compareOp .Eq) rEqD:=by
 intro pins s σ H x y v u Q I rx ry h
 obtain ⟨d,e,rd,re,hd,he,hz,q⟩:=h
 obtain ⟨as,ra⟩:=rd.reads I rx
 obtain ⟨bs,rb⟩:=re.reads I ry
 refine SeqAt.compareEq_reads ra rb (abe _ hd) (abe _ he) ?_ ⟨.bl _,H,I,rfl,q⟩
 have:=Nat.min_le_left d.depth e.depth
 omega
theorem ahf (hu:X.A.units+64 < cLine):OpR X (compareOp .NotEq) rNeD:=by
 intro pins s σ H x y v u Q I rx ry h
 obtain ⟨d,e,rd,re,hd,he,hz,q⟩:=h
 obtain ⟨as,ra⟩:=rd.reads I rx
 obtain ⟨bs,rb⟩:=re.reads I ry
 refine SeqAt.compareNe_reads ra rb (abe _ hd) (abe _ he) ?_ ⟨.bl _,H,I,rfl,q⟩
 have:=Nat.min_le_left d.depth e.depth
 omega
def rInD (neg:Bool):R2:=fun x y H Q=>∃ d es,Rep H x d/\(Rep H y (.list es)\/Rep H y (.tuple es))/\aaj d=true/\plainDs es=true/\d.depth<=60/\Q (.bl (if neg then !es.any (fun z=>PyData.eqv z d) else es.any (fun z=>PyData.eqv z d))) H
theorem axq (hu:X.A.units+64 < cLine):OpR X (compareOp .In) (rInD false):=by
 intro pins s σ H x y v u Q I rx ry h
 obtain ⟨d,es,rd,re,hd,he,hz,q⟩:=h
 obtain ⟨as,ra⟩:=rd.reads I rx
 have hm:=Nat.min_le_right (PyData.depthAll es) d.depth
 rcases re with re | re
 ·obtain ⟨bs,rb⟩:=re.reads I ry
  exact SeqAt.in_list_reads rb ra (plain_lays _ he) (abe _ hd) (by omega) ⟨.bl _,H,I,rfl,q⟩
 ·obtain ⟨bs,rb⟩:=re.reads I ry
  exact SeqAt.in_tuple_reads rb ra (plain_lays _ he) (abe _ hd) (by omega) ⟨.bl _,H,I,rfl,q⟩
theorem aeo (hu:X.A.units+64 < cLine):OpR X (compareOp .NotIn) (rInD true):=by
 intro pins s σ H x y v u Q I rx ry h
 obtain ⟨d,es,rd,re,hd,he,hz,q⟩:=h
 obtain ⟨as,ra⟩:=rd.reads I rx
 have hm:=Nat.min_le_right (PyData.depthAll es) d.depth
 rcases re with re | re
 ·obtain ⟨bs,rb⟩:=re.reads I ry
  exact SeqAt.notIn_list_reads rb ra (plain_lays _ he) (abe _ hd) (by omega) ⟨.bl _,H,I,rfl,q⟩
 ·obtain ⟨bs,rb⟩:=re.reads I ry
  exact SeqAt.notIn_tuple_reads rb ra (plain_lays _ he) (abe _ hd) (by omega) ⟨.bl _,H,I,rfl,q⟩
def rIsi (K:Frag):List V->Hp->VK->Prop:=fun xs H Q=>∃ (x:V) (T:String) (t:Value) (b:Bool),xs=[x,.ty T]/\TyOf K H x t/\kitOne K t (.type T)=some b/\Q (.bl b) H
theorem afg:aa7 X (.builtin "isinstance") (rIsi X.K):=by
 intro pins s σ H xs us Q I r h
 obtain ⟨x,T,t,b,rfl,ty,e,q⟩:=h
 obtain ⟨u,c,rfl,ru,rc⟩:=aj9 r
 cases rc
 exact ap1 I ru ty e fun tk=>⟨.bl b,H,I.tok _,rfl,q⟩
end
end L2
namespace HT
open PySem PyProof.Rows
section
open PySem.SeqAt
open PySem.AutoSeq1 (wpAny_loadPart')
open PySem.MeetsSeq PySem.MeetsSeq2 PySem.MeetsSeq3
end
section
variable {prog:Program} {w:World} {A:Around} {E:Value->Shared->Prop} {s:Shared}
end
end HT
namespace L2
open PySem PySem.Spec PyProof.Rows
section
variable {X:Cx}
def ak0 (K:Frag):List V->Hp->VK->Prop:=fun xs H Q=>∃ (a:Addr) (ns:List Int),xs=[.ref a]/\SqL K H a (ns.map V.int)/\ns.length < 64/\∀ (ns':List Int) (p:Addr),ns'.Perm ns->ns'.Pairwise (·<=·)->H p=none->Q (.ref p) (upd H p (.lst (ns'.map V.int)))
theorem ao1:aa7 X (.builtin "sorted") (ak0 X.K):=by
 intro pins s σ H xs us Q I r h
 obtain ⟨a,ns,rfl,ha,h64,q⟩:=h
 obtain ⟨u,rfl,ru⟩:=acf r
 cases ru
 obtain ⟨its,r1,p1,hz⟩:=I.list ha
 have i1:IntsAre its.toArray.toList ns:=abi r1
 have i2:IntsAre its ns:=by simpa using i1
 refine sorted_ints (vs:=its) p1.isList i2 (by rw [i2.length];exact h64) fun out ns' b1 b2 b3=>?_
 obtain ⟨e,he⟩:=sortedAll_at s.heap its out
 have hfree:H (s.heap.objs.size+1)=none:=I.hok.fresh (Nat.le_succ _)
 refine ⟨.ref (s.heap.objs.size+1),_,I.laid (t':=s.toks) (o:=.lst (ns'.map V.int)) (fun b ob q=>sortedAll_old q) (Nat.le_succ _) ?_,rfl,q ns' _ b2 b3 hfree⟩
 refine ⟨?_,out.toList,e,afv b1,by rw [he]⟩
 rw [List.length_map,b2.length_eq]
 exact Nat.le_of_lt (aej (by omega))
end
end L2
namespace HT
open PySem PyProof.Rows
theorem ah9 (val:Nat->Int):∀ k,argBest (fun i j=>decide (val i > val j)) k<=k/\∀ i,i<=k->val i<=val (argBest (fun i j=>decide (val i > val j)) k)
 | 0 => ⟨Nat.le_refl _, fun i hi => by have:i=0 := by omega
                                       subst this;exact Int.le_refl _⟩
 | k+1=>by
  obtain ⟨h1,h2⟩:=ah9 val k
  unfold argBest
  by_cases hc:val (k+1) > val (argBest (fun i j=>decide (val i > val j)) k)
  ·rw [if_pos (decide_eq_true hc)]
   refine ⟨Nat.le_refl _,fun i hi=>?_⟩
   by_cases e:i=k+1
   ·subst e;exact Int.le_refl _
   ·have:=h2 i (by omega)
    exact Int.le_trans this (Int.le_of_lt hc)
  ·rw [if_neg (by simpa using hc)]
   refine ⟨by omega,fun i hi=>?_⟩
   by_cases e:i=k+1
   ·subst e;omega
   ·exact h2 i (by omega)
theorem aia (val:Nat->Int):∀ k,argBest (fun i j=>decide (val i < val j)) k<=k/\∀ i,i<=k->val (argBest (fun i j=>decide (val i < val j)) k)<=val i
 | 0 => ⟨Nat.le_refl _, fun i hi => by have:i=0 := by omega
                                       subst this;exact Int.le_refl _⟩
 | k+1=>by
  obtain ⟨h1,h2⟩:=aia val k
  unfold argBest
  by_cases hc:val (k+1) < val (argBest (fun i j=>decide (val i < val j)) k)
  ·rw [if_pos (decide_eq_true hc)]
   refine ⟨Nat.le_refl _,fun i hi=>?_⟩
   by_cases e:i=k+1
   ·subst e;exact Int.le_refl _
   ·have:=h2 i (by omega)
    exact Int.le_trans (Int.le_of_lt hc) this
  ·rw [if_neg (by simpa using hc)]
   refine ⟨by omega,fun i hi=>?_⟩
   by_cases e:i=k+1
   ·subst e;omega
   ·exact h2 i (by omega)
noncomputable def val (ns:List Int) (i:Nat):Int:=(ns[i]?).getD 0
theorem ads {us:List Value} {ns:List Int} (hi:IntsAre us ns) (i:Nat) (v:Value) (h:us.toArray[i]?=some v):∃ t,v=.int (val ns i) t:=by
 induction hi generalizing i with
 | nil=>simp at h
 | cons n t r ih =>
  cases i with
  | zero=>simp at h;subst h;exact ⟨t,by simp [val]⟩
  | succ i =>
   obtain ⟨t',e⟩:=ih i (by simpa using h)
   exact ⟨t',by simpa [val] using e⟩
theorem age {ns:List Int} {i:Nat} (h:i < ns.length):val ns i∈ns:=by
 unfold val
 rw [List.getElem?_eq_getElem h]
 exact List.getElem_mem h
theorem ahg {ns:List Int} {x:Int} (h:x∈ns):∃ i,i < ns.length/\val ns i=x:=by
 obtain ⟨i,hi,e⟩:=List.mem_iff_getElem.mp h
 exact ⟨i,hi,by unfold val;rw [List.getElem?_eq_getElem hi];exact e⟩
section
variable {prog:Program} {w:World} {A:Around} {E:Value->Shared->Prop} {s:Shared}
theorem max_list {l:Addr} {us:List Value} {ns:List Int} {Q:Value->Shared->Prop} (hh:A.handled=none) (hl:s.heap.IsList l us.toArray) (hi:IntsAre us ns) (hne:ns ≠ [])
  (h:∀ m t h' tk,m∈ns->(∀ x∈ns,x<=m)->(∀ b o,s.heap.get? b=some o->h'.get? b=some o)->Q (.int m t) { s with heap:=h',toks:=tk }) :
  wpAny (model prog w) A (call (.builtin "max") [.ref l]) Q E s:=by
 have hlt:l < s.heap.objs.size:=by obtain ⟨_,e,_⟩:=hl;exact Heap.lt_size e
 have hz:us.length=ns.length:=hi.length
 have hp:0 < ns.length:=List.length_pos_iff.mpr hne
 refine call_max_walk (wpAny_pyIter_list hl ?_)
 refine ⟨_,[s.heap.objs.size,l],_,_,_,_,_,rfl,Walks.list (A:=A.in1) hh _ l (Nat.ne_of_lt hlt) us.toArray,⟨⟨_,Heap.get?_push_size _ rfl,rfl,rfl⟩,hl.push _⟩,fun b hb=>?_,by simp;omega,CmpOf.ints_gt (val ns) (fun i v=>ads hi i v),fun v h' tk hP hk=>?_⟩
 ·show b < (s.heap.push _).objs.size
  rw [Heap.size_push]
  rcases List.mem_cons.mp hb with rfl | hb
  ·exact Nat.lt_succ_self _
  ·rcases List.mem_cons.mp hb with rfl | hb
   ·exact Nat.lt_succ_of_lt hlt
   ·cases hb
 ·obtain ⟨t,e⟩:=ads hi _ _ hP
  obtain ⟨b1,b2⟩:=ah9 (val ns) (us.toArray.size - 1)
  have hs:us.toArray.size=ns.length:=by simp [hz]
  rw [hs] at b1 b2
  subst e
  refine h _ t h' tk (age (by rw [hs];omega)) (fun x hx=>?_) fun b o e=>?_
  ·obtain ⟨i,hi',e⟩:=ahg hx
   have:=b2 i (by omega)
   rw [e] at this
   rw [hs]
   exact this
  ·refine hk b o (fun hm=>?_) (Heap.get?_push_of_some _ e)
   rcases List.mem_cons.mp hm with e1 | hm
   ·exact absurd (e1 ▸ Heap.lt_size e) (Nat.lt_irrefl _)
   ·cases hm
theorem min_list {l:Addr} {us:List Value} {ns:List Int} {Q:Value->Shared->Prop} (hh:A.handled=none) (hl:s.heap.IsList l us.toArray) (hi:IntsAre us ns) (hne:ns ≠ [])
  (h:∀ m t h' tk,m∈ns->(∀ x∈ns,m<=x)->(∀ b o,s.heap.get? b=some o->h'.get? b=some o)->Q (.int m t) { s with heap:=h',toks:=tk }) :
  wpAny (model prog w) A (call (.builtin "min") [.ref l]) Q E s:=by
 have hlt:l < s.heap.objs.size:=by obtain ⟨_,e,_⟩:=hl;exact Heap.lt_size e
 have hz:us.length=ns.length:=hi.length
 have hp:0 < ns.length:=List.length_pos_iff.mpr hne
 refine call_min_walk (wpAny_pyIter_list hl ?_)
 refine ⟨_,[s.heap.objs.size,l],_,_,_,_,_,rfl,Walks.list (A:=A.in1) hh _ l (Nat.ne_of_lt hlt) us.toArray,⟨⟨_,Heap.get?_push_size _ rfl,rfl,rfl⟩,hl.push _⟩,fun b hb=>?_,by simp;omega,CmpOf.ints_lt (val ns) (fun i v=>ads hi i v),fun v h' tk hP hk=>?_⟩
 ·show b < (s.heap.push _).objs.size
  rw [Heap.size_push]
  rcases List.mem_cons.mp hb with rfl | hb
  ·exact Nat.lt_succ_self _
  ·rcases List.mem_cons.mp hb with rfl | hb
   ·exact Nat.lt_succ_of_lt hlt
   ·cases hb
 ·obtain ⟨t,e⟩:=ads hi _ _ hP
  obtain ⟨b1,b2⟩:=aia (val ns) (us.toArray.size - 1)
  have hs:us.toArray.size=ns.length:=by simp [hz]
  rw [hs] at b1 b2
  subst e
  refine h _ t h' tk (age (by rw [hs];omega)) (fun x hx=>?_) fun b o e=>?_
  ·obtain ⟨i,hi',e⟩:=ahg hx
   have:=b2 i (by omega)
   rw [e] at this
   rw [hs]
   exact this
  ·refine hk b o (fun hm=>?_) (Heap.get?_push_of_some _ e)
   rcases List.mem_cons.mp hm with e1 | hm
   ·exact absurd (e1 ▸ Heap.lt_size e) (Nat.lt_irrefl _)
   ·cases hm
theorem max_tup {l:Addr} {us:List Value} {ns:List Int} {Q:Value->Shared->Prop} (hh:A.handled=none) (hl:s.heap.IsTuple l us.toArray) (hi:IntsAre us ns) (hne:ns ≠ [])
  (h:∀ m t h' tk,m∈ns->(∀ x∈ns,x<=m)->(∀ b o,s.heap.get? b=some o->h'.get? b=some o)->Q (.int m t) { s with heap:=h',toks:=tk }) :
  wpAny (model prog w) A.in1 (pyIter (.ref l)) (fun it s₂=>∃ I fp wr n P St bt,it=.ref I/\Walks prog w A.in1 I fp wr n P St/\St 0 s₂.heap/\(∀ b∈fp,b < s₂.heap.objs.size)/\0 < n/\CmpOf prog w A.in1 .Gt P bt /\
   ∀ v h' tk,P (argBest bt (n - 1)) v->(∀ b o,b ∉ wr->s₂.heap.get? b=some o->h'.get? b=some o)->Q v { s₂ with heap:=h',toks:=tk }) E s:=by
 have hlt:l < s.heap.objs.size:=by obtain ⟨_,e,_⟩:=hl;exact Heap.lt_size e
 have hz:us.length=ns.length:=hi.length
 have hp:0 < ns.length:=List.length_pos_iff.mpr hne
 refine wpAny_pyIter_tuple hl ?_
 refine ⟨_,[s.heap.objs.size,l],[_],_,_,_,_,rfl,Walks.tuple (A:=A.in1) hh _ l (Nat.ne_of_lt hlt) us.toArray,⟨⟨_,Heap.get?_push_size _ rfl,rfl,rfl⟩,hl.push _⟩,fun b hb=>?_,by simp;omega,CmpOf.ints_gt (val ns) (fun i v=>ads hi i v),fun v h' tk hP hk=>?_⟩
 ·show b < (s.heap.push _).objs.size
  rw [Heap.size_push]
  rcases List.mem_cons.mp hb with rfl | hb
  ·exact Nat.lt_succ_self _
  ·rcases List.mem_cons.mp hb with rfl | hb
   ·exact Nat.lt_succ_of_lt hlt
   ·cases hb
 ·obtain ⟨t,e⟩:=ads hi _ _ hP
  obtain ⟨b1,b2⟩:=ah9 (val ns) (us.toArray.size - 1)
  have hs:us.toArray.size=ns.length:=by simp [hz]
  rw [hs] at b1 b2
  subst e
  refine h _ t h' tk (age (by rw [hs];omega)) (fun x hx=>?_) fun b o e=>?_
  ·obtain ⟨i,hi',e⟩:=ahg hx
   have:=b2 i (by omega)
   rw [e] at this
   rw [hs]
   exact this
  ·refine hk b o (fun hm=>?_) (Heap.get?_push_of_some _ e)
   rcases List.mem_cons.mp hm with e1 | hm
   ·exact absurd (e1 ▸ Heap.lt_size e) (Nat.lt_irrefl _)
   ·cases hm
theorem min_tup {l:Addr} {us:List Value} {ns:List Int} {Q:Value->Shared->Prop} (hh:A.handled=none) (hl:s.heap.IsTuple l us.toArray) (hi:IntsAre us ns) (hne:ns ≠ [])
  (h:∀ m t h' tk,m∈ns->(∀ x∈ns,m<=x)->(∀ b o,s.heap.get? b=some o->h'.get? b=some o)->Q (.int m t) { s with heap:=h',toks:=tk }) :
  wpAny (model prog w) A.in1 (pyIter (.ref l)) (fun it s₂=>∃ I fp wr n P St bt,it=.ref I/\Walks prog w A.in1 I fp wr n P St/\St 0 s₂.heap/\(∀ b∈fp,b < s₂.heap.objs.size)/\0 < n/\CmpOf prog w A.in1 .Lt P bt /\
   ∀ v h' tk,P (argBest bt (n - 1)) v->(∀ b o,b ∉ wr->s₂.heap.get? b=some o->h'.get? b=some o)->Q v { s₂ with heap:=h',toks:=tk }) E s:=by
 have hlt:l < s.heap.objs.size:=by obtain ⟨_,e,_⟩:=hl;exact Heap.lt_size e
 have hz:us.length=ns.length:=hi.length
 have hp:0 < ns.length:=List.length_pos_iff.mpr hne
 refine wpAny_pyIter_tuple hl ?_
 refine ⟨_,[s.heap.objs.size,l],[_],_,_,_,_,rfl,Walks.tuple (A:=A.in1) hh _ l (Nat.ne_of_lt hlt) us.toArray,⟨⟨_,Heap.get?_push_size _ rfl,rfl,rfl⟩,hl.push _⟩,fun b hb=>?_,by simp;omega,CmpOf.ints_lt (val ns) (fun i v=>ads hi i v),fun v h' tk hP hk=>?_⟩
 ·show b < (s.heap.push _).objs.size
  rw [Heap.size_push]
  rcases List.mem_cons.mp hb with rfl | hb
  ·exact Nat.lt_succ_self _
  ·rcases List.mem_cons.mp hb with rfl | hb
   ·exact Nat.lt_succ_of_lt hlt
   ·cases hb
 ·obtain ⟨t,e⟩:=ads hi _ _ hP
  obtain ⟨b1,b2⟩:=aia (val ns) (us.toArray.size - 1)
  have hs:us.toArray.size=ns.length:=by simp [hz]
  rw [hs] at b1 b2
  subst e
  refine h _ t h' tk (age (by rw [hs];omega)) (fun x hx=>?_) fun b o e=>?_
  ·obtain ⟨i,hi',e⟩:=ahg hx
   have:=b2 i (by omega)
   rw [e] at this
   rw [hs]
   exact this
  ·refine hk b o (fun hm=>?_) (Heap.get?_push_of_some _ e)
   rcases List.mem_cons.mp hm with e1 | hm
   ·exact absurd (e1 ▸ Heap.lt_size e) (Nat.lt_irrefl _)
   ·cases hm
end
end HT
namespace L2
open PySem PySem.Spec PyProof.Rows
section
variable {X:Cx}
def adb (ns:List Int) (m:Int):Prop:=m∈ns/\∀ x∈ns,x<=m
def ao2 (ns:List Int) (m:Int):Prop:=m∈ns/\∀ x∈ns,m<=x
def aep (K:Frag):List V->Hp->VK->Prop:=fun xs H Q=>∃ (a:Addr) (ns:List Int),xs=[.ref a]/\(SqL K H a (ns.map V.int)\/SqT K H a (ns.map V.int))/\ns ≠ []/\∀ m,adb ns m->Q (.int m) H
def ao3 (K:Frag):List V->Hp->VK->Prop:=fun xs H Q=>∃ (a:Addr) (ns:List Int),xs=[.ref a]/\(SqL K H a (ns.map V.int)\/SqT K H a (ns.map V.int))/\ns ≠ []/\∀ m,ao2 ns m->Q (.int m) H
theorem ab7 (hc:X.calm=true):aa7 X (.builtin "max") (aep X.K):=by
 intro pins s σ H xs us Q I r h
 obtain ⟨a,ns,rfl,ha,hne,q⟩:=h
 obtain ⟨u,rfl,ru⟩:=acf r
 cases ru
 rcases ha with ha | ha
 ·obtain ⟨its,r1,p1,_⟩:=I.list ha
  have i1:IntsAre its.toArray.toList ns:=abi r1
  exact HT.max_list (I.ok.hd hc) p1.isList (by simpa using i1) hne fun m t h' tk m1 m2 kp=>⟨.int m,H,I.kept kp,⟨_,rfl⟩,q m ⟨m1,m2⟩⟩
 ·obtain ⟨its,r1,p1,_⟩:=I.tuple ha
  have i1:IntsAre its.toArray.toList ns:=abi r1
  refine call_max_walk (HT.max_tup (I.ok.hd hc) p1 (by simpa using i1) hne fun m t h' tk m1 m2 kp=>⟨.int m,H,I.kept kp,⟨_,rfl⟩,q m ⟨m1,m2⟩⟩)
theorem ai2 (hc:X.calm=true):aa7 X (.builtin "min") (ao3 X.K):=by
 intro pins s σ H xs us Q I r h
 obtain ⟨a,ns,rfl,ha,hne,q⟩:=h
 obtain ⟨u,rfl,ru⟩:=acf r
 cases ru
 rcases ha with ha | ha
 ·obtain ⟨its,r1,p1,_⟩:=I.list ha
  have i1:IntsAre its.toArray.toList ns:=abi r1
  exact HT.min_list (I.ok.hd hc) p1.isList (by simpa using i1) hne fun m t h' tk m1 m2 kp=>⟨.int m,H,I.kept kp,⟨_,rfl⟩,q m ⟨m1,m2⟩⟩
 ·obtain ⟨its,r1,p1,_⟩:=I.tuple ha
  have i1:IntsAre its.toArray.toList ns:=abi r1
  refine call_min_walk (HT.min_tup (I.ok.hd hc) p1 (by simpa using i1) hne fun m t h' tk m1 m2 kp=>⟨.int m,H,I.kept kp,⟨_,rfl⟩,q m ⟨m1,m2⟩⟩)
end
def tTru (K:Frag) (ta:TE):TT:=fun σ H Q=>ta σ H fun x H'=>∃ k,TruV K x H' k/\Q k H'
def rIsN:R2:=fun x y H Q=>y=.non/\Q (.bl (decide (x=.non))) H
section
variable {X:Cx} {a:Expr} {ta:TE}
theorem axr (ha:PE X a ta) (he:∀ whole,isTrue a X.env whole=(do let v ← whole;standAt a.pos;holding [v] (truthy v)):=by intro _;rfl):PT X a (tTru X.K ta):=arm ha he
def abw (K:Frag):R2:=fun x y H Q=>rIxL K x y H Q\/rIxT K x y H Q
theorem aat:IxR X (abw X.K):=ix_list.or axb
theorem au2 {i j n:Int} {x1 x2:Nat} {p1 p2 pos:Pos} (h:i ^ j.toNat=n) (hc:CPow i j):PE X (.BinOp (.Constant (.int i) x1 p1) .Pow (.Constant (.int j) x2 p2) pos) (tC (.int n)):=by
 intro pins s σ H Q I q
 subst h
 exact aaq aw5 aae aae pins s σ H Q I ⟨i,j,rfl,rfl,hc,q⟩
theorem aib:OpR X (compareOp .Is) rIsN:=aw6
end
section
variable {σ:St} {H:Hp} {D:Ends} {K:Frag}
theorem afh {a:Addr} {xs:List V} {i:Int} {v:V} {Q:VK} (ha:H a=some (.lst xs)) (hv:atI xs i=some v) (h:Q v H):abw K (.ref a) (.int i) H Q:=.inl (axk ha hv h)
theorem ar1 {a:Addr} {xs:List V} {i:Int} {v:V} {Q:VK} (ha:H a=some (.tup xs)) (hv:atI xs i=some v) (h:Q v H):abw K (.ref a) (.int i) H Q:=.inr (axl ha hv h)
theorem ar2 {a:Addr} {xs:List V} {i:Int} {v:V} {Q:VK} (ha:SqL K H a xs) (hv:atI xs i=some v) (h:Q v H):abw K (.ref a) (.int i) H Q:=.inl (axn ha hv h)
theorem acb {A B:Prop} (h:A):if true=true then A else B:=by rw [if_pos rfl];exact h
theorem ack {A B:Prop} (h:B):if false=true then A else B:=by rw [if_neg Bool.false_ne_true];exact h
theorem aic {A B:Prop} (h:B):if (!true)=true then A else B:=by rw [if_neg (by decide)];exact h
theorem aid {A B:Prop} (h:A):if (!false)=true then A else B:=by rw [if_pos (by decide)];exact h
theorem ar3 {c:Prop} [Decidable c] {A B:Prop} (hc:c) (h:B):if (!decide c)=true then A else B:=by rw [decide_eq_true hc];exact aic h
theorem ar4 {c:Prop} [Decidable c] {A B:Prop} (hc:¬ c) (h:A):if (!decide c)=true then A else B:=by rw [decide_eq_false hc];exact aid h
theorem agz {K:Frag}:kitOne K (.type "NoneType") (.type "int")=some false:=by first | rfl | decide
theorem agq {K:Frag}:kitOne K (.type "NoneType") (.type "bool")=some false:=by first | rfl | decide
theorem af0 {K:Frag}:kitOne K (.type "NoneType") (.type "tuple")=some false:=by first | rfl | decide
theorem agr {K:Frag}:kitOne K (.type "NoneType") (.type "list")=some false:=by first | rfl | decide
theorem ag0 {K:Frag}:kitOne K (.type "NoneType") (.type "str")=some false:=by first | rfl | decide
theorem ags {K:Frag}:kitOne K (.type "NoneType") (.type "dict")=some false:=by first | rfl | decide
theorem ak1 {K:Frag}:kitOne K (.type "bool") (.type "int")=some true:=by first | rfl | decide
theorem ajp {K:Frag}:kitOne K (.type "bool") (.type "bool")=some true:=by first | rfl | decide
theorem aie {K:Frag}:kitOne K (.type "bool") (.type "tuple")=some false:=by first | rfl | decide
theorem ajq {K:Frag}:kitOne K (.type "bool") (.type "list")=some false:=by first | rfl | decide
theorem ak2 {K:Frag}:kitOne K (.type "bool") (.type "str")=some false:=by first | rfl | decide
theorem ajr {K:Frag}:kitOne K (.type "bool") (.type "dict")=some false:=by first | rfl | decide
theorem amn {K:Frag}:kitOne K (.type "int") (.type "int")=some true:=by first | rfl | decide
theorem ak3 {K:Frag}:kitOne K (.type "int") (.type "bool")=some false:=by first | rfl | decide
theorem ajs {K:Frag}:kitOne K (.type "int") (.type "tuple")=some false:=by first | rfl | decide
theorem ak4 {K:Frag}:kitOne K (.type "int") (.type "list")=some false:=by first | rfl | decide
theorem amo {K:Frag}:kitOne K (.type "int") (.type "str")=some false:=by first | rfl | decide
theorem ak5 {K:Frag}:kitOne K (.type "int") (.type "dict")=some false:=by first | rfl | decide
theorem amp {K:Frag}:kitOne K (.type "str") (.type "int")=some false:=by first | rfl | decide
theorem ak6 {K:Frag}:kitOne K (.type "str") (.type "bool")=some false:=by first | rfl | decide
theorem ajt {K:Frag}:kitOne K (.type "str") (.type "tuple")=some false:=by first | rfl | decide
theorem ak7 {K:Frag}:kitOne K (.type "str") (.type "list")=some false:=by first | rfl | decide
theorem amq {K:Frag}:kitOne K (.type "str") (.type "str")=some true:=by first | rfl | decide
theorem ak8 {K:Frag}:kitOne K (.type "str") (.type "dict")=some false:=by first | rfl | decide
theorem ak9 {K:Frag}:kitOne K (.type "list") (.type "int")=some false:=by first | rfl | decide
theorem aju {K:Frag}:kitOne K (.type "list") (.type "bool")=some false:=by first | rfl | decide
theorem aif {K:Frag}:kitOne K (.type "list") (.type "tuple")=some false:=by first | rfl | decide
theorem ajv {K:Frag}:kitOne K (.type "list") (.type "list")=some true:=by first | rfl | decide
theorem ala {K:Frag}:kitOne K (.type "list") (.type "str")=some false:=by first | rfl | decide
theorem ajw {K:Frag}:kitOne K (.type "list") (.type "dict")=some false:=by first | rfl | decide
theorem ajx {K:Frag}:kitOne K (.type "tuple") (.type "int")=some false:=by first | rfl | decide
theorem aig {K:Frag}:kitOne K (.type "tuple") (.type "bool")=some false:=by first | rfl | decide
theorem ahh {K:Frag}:kitOne K (.type "tuple") (.type "tuple")=some true:=by first | rfl | decide
theorem aih {K:Frag}:kitOne K (.type "tuple") (.type "list")=some false:=by first | rfl | decide
theorem ajy {K:Frag}:kitOne K (.type "tuple") (.type "str")=some false:=by first | rfl | decide
theorem aii {K:Frag}:kitOne K (.type "tuple") (.type "dict")=some false:=by first | rfl | decide
theorem alb {K:Frag}:kitOne K (.type "dict") (.type "int")=some false:=by first | rfl | decide
theorem ajz {K:Frag}:kitOne K (.type "dict") (.type "bool")=some false:=by first | rfl | decide
theorem aij {K:Frag}:kitOne K (.type "dict") (.type "tuple")=some false:=by first | rfl | decide
theorem aj0 {K:Frag}:kitOne K (.type "dict") (.type "list")=some false:=by first | rfl | decide
theorem alc {K:Frag}:kitOne K (.type "dict") (.type "str")=some false:=by first | rfl | decide
theorem aj1 {K:Frag}:kitOne K (.type "dict") (.type "dict")=some true:=by first | rfl | decide
end
end L2
namespace L2
open PySem
section
variable {σ:St} {H:Hp} {K:Frag}
theorem abo {p:Addr} {o:HO} (hp:H p=none):Same H (upd H p o):=fun b u e=>by rw [aag (aap e hp)];exact e
theorem Same.new {H H':Hp} {q:Addr} {o:HO} (s:Same H H') (h:H' q=none):Same H (upd H' q o):=fun b u e=>by
 have:=s b u e
 rw [aag (aap this h)];exact this
theorem Same.set {H H':Hp} {q:Addr} {o:HO} (s:Same H H') (h:H q=none):Same H (upd H' q o):=fun b u e=>by
 have:=s b u e
 rw [aag (aap e h)];exact this
theorem Same.at {H H':Hp} {b:Addr} {o:HO} (s:Same H H') (h:H b=some o):H' b=some o:=s b o h
end
section
variable {σ:St} {H:Hp} {K:Frag}
end
end L2
namespace Gr
inductive Walk (T:Int->Int->Prop) (u:Int):Nat->Int->Prop
 | refl:Walk T u 0 u
 | step {k:Nat} {v w:Int}:Walk T u k v->T v w->Walk T u (k+1) w
def Dist (T:Int->Int->Prop) (u v:Int) (d:Nat):Prop:=Walk T u d v/\∀ k,Walk T u k v->d<=k
theorem Dist.uniq {T:Int->Int->Prop} {u v:Int} {d e:Nat} (h:Dist T u v d) (g:Dist T u v e):d=e:=Nat.le_antisymm (h.2 _ g.1) (g.2 _ h.1)
theorem Dist.self (T:Int->Int->Prop) (u:Int):Dist T u u 0:=⟨.refl,fun _ _=>Nat.zero_le _⟩
theorem Dist.of_walk {T:Int->Int->Prop} {u v:Int} {k:Nat} (h:Walk T u k v):∃ d,d<=k/\Dist T u v d:=by
 induction k using Nat.strongRecOn with
 | ind k ih =>
  by_cases hx:∃ j,j < k/\Walk T u j v
  ·obtain ⟨j,hj,w⟩:=hx
   obtain ⟨d,hd,e⟩:=ih j hj w
   exact ⟨d,by omega,e⟩
  ·refine ⟨k,Nat.le_refl _,h,fun j w=>?_⟩
   by_cases hj:j < k
   ·exact absurd ⟨j,hj,w⟩ hx
   ·omega
theorem Dist.pred {T:Int->Int->Prop} {u w:Int} {d:Nat} (h:Dist T u w (d+1)):∃ v,T v w/\Dist T u v d:=by
 obtain ⟨hw,hm⟩:=h
 cases hw with
 | step hv ht =>
  rename_i v
  refine ⟨v,ht,hv,fun k hk=>?_⟩
  have:=hm (k+1) (.step hk ht)
  omega
theorem Dist.next {T:Int->Int->Prop} {u v w:Int} {d:Nat} (h:Dist T u v d) (t:T v w):∃ e,e<=d+1/\Dist T u w e:=Dist.of_walk (.step h.1 t)
structure Bfs (T:Int->Int->Prop) (a:Int) (line:List Int) (ds:List Nat) (at_:Nat):Prop where
 len:ds.length=line.length
 fst:line[0]?=some a
 nd:line.Nodup
 le:at_<=line.length
 dist:∀ (i:Nat) v d,line[i]?=some v->ds[i]?=some d->Dist T a v d
 mono:∀ (i j:Nat) d e,i<=j->ds[i]?=some d->ds[j]?=some e->d<=e
 near:∀ (i j:Nat) d e,at_<=i->ds[i]?=some d->ds[j]?=some e->e<=d+1
 done:∀ (i:Nat) v w,i < at_->line[i]?=some v->T v w->w∈line
theorem Bfs.start (T:Int->Int->Prop) (a:Int):Bfs T a [a] [0] 0:=by
 refine ⟨rfl,rfl,by simp,Nat.zero_le _,fun i v d h1 h2=>?_,fun i j d e h h1 h2=>?_,fun i j d e h h1 h2=>?_,fun i v w h=>absurd h (by omega)⟩
 ·match i,h1,h2 with
  | 0,h1,h2=>simp at h1 h2;subst h1 h2;exact Dist.self T a
  | i+1,h1,_=>simp at h1
 ·match j,h2 with
  | 0,h2 =>
   have:i=0:=by omega
   subst this
   rw [h1] at h2;cases h2;exact Nat.le_refl _
  | j+1,h2=>simp at h2
 ·match i,j,h1,h2 with
  | 0,0,h1,h2=>rw [h1] at h2;cases h2;omega
  | i+1,_,h1,_=>simp at h1
  | 0,j+1,_,h2=>simp at h2
theorem Bfs.all {T:Int->Int->Prop} {a:Int} {line:List Int} {ds:List Nat} {at_:Nat} {d:Nat} (b:Bfs T a line ds at_) (hd:ds[at_]?=some d) :
  ∀ k w,k<=d->Dist T a w k->w∈line:=by
 intro k
 induction k with
 | zero =>
  intro w _ h
  have:w=a:=by
   cases h.1;rfl
  subst this
  exact List.mem_of_getElem? b.fst
 | succ k ih =>
  intro w hk h
  obtain ⟨v,tv,dv⟩:=h.pred
  have hv:=ih v (by omega) dv
  obtain ⟨i,hi,e⟩:=List.mem_iff_getElem.mp hv
  have e1:line[i]?=some v:=by rw [List.getElem?_eq_getElem hi,e]
  have hi2:i < ds.length:=by rw [b.len];exact hi
  have e2:ds[i]?=some ds[i]:=List.getElem?_eq_getElem hi2
  have e3:=(b.dist i v _ e1 e2).uniq dv
  by_cases hlt:i < at_
  ·exact b.done i v w hlt e1 tv
  ·have:=b.mono at_ i d _ (by omega) hd e2
   omega
theorem Bfs.add {T:Int->Int->Prop} {a:Int} {line:List Int} {ds:List Nat} {at_:Nat} {p w:Int} {d:Nat} (b:Bfs T a line ds at_) (hp:line[at_]?=some p) (hd:ds[at_]?=some d) (t:T p w) (hw:w ∉ line) :
  Bfs T a (line ++ [w]) (ds ++ [d+1]) at_:=by
 have hlt:at_ < line.length:=(List.getElem?_eq_some_iff.mp hp).1
 have dw:Dist T a w (d+1):=by
  obtain ⟨e,he,h⟩:=(b.dist _ _ _ hp hd).next t
  by_cases h2:e<=d
  ·exact absurd (b.all hd e w h2 h) hw
  ·have:e=d+1:=by omega
   rw [← this];exact h
 have hds:∀ (j:Nat) e,(ds ++ [d+1])[j]?=some e->(ds[j]?=some e)\/(j=ds.length/\e=d+1):=by
  intro j e h
  rw [List.getElem?_append] at h
  split at h
  ·exact .inl h
  ·rename_i hj
   right
   have:j - ds.length=0:=by
    match hz:j - ds.length,h with
    | 0,_=>rfl
    | k+1,h=>simp at h
   rw [this] at h
   simp at h
   exact ⟨by omega,h.symm⟩
 refine ⟨by simp [b.len],?_,?_,by simp;omega,fun i v e h1 h2=>?_,fun i j x y h h1 h2=>?_,fun i j x y h h1 h2=>?_,fun i v u h h1 tu=>?_⟩
 ·rw [List.getElem?_append_left (by omega)];exact b.fst
 ·rw [List.nodup_append]
  exact ⟨b.nd,by simp,fun x hx y hy=>by simp at hy;subst hy;intro e;subst e;exact hw hx⟩
 ·rcases hds _ _ h2 with h2 | ⟨ei,ed⟩
  ·have hi:i < ds.length:=(List.getElem?_eq_some_iff.mp h2).1
   rw [List.getElem?_append_left (by rw [← b.len];exact hi)] at h1
   exact b.dist i v e h1 h2
  ·subst ed
   rw [List.getElem?_append_right (by rw [← b.len];omega)] at h1
   have:i - line.length=0:=by rw [← b.len];omega
   rw [this] at h1
   simp at h1;subst h1
   exact dw
 ·rcases hds _ _ h1 with h1 | ⟨ei,ed⟩
  ·rcases hds _ _ h2 with h2 | ⟨ej,ed⟩
   ·exact b.mono i j x y h h1 h2
   ·subst ed
    by_cases hia:at_<=i
    ·exact b.near at_ i d x (Nat.le_refl _) hd h1
    ·have:=b.mono i at_ x d (by omega) h1 hd;omega
  ·rcases hds _ _ h2 with h2 | ⟨ej,ed2⟩
   ·have:=(List.getElem?_eq_some_iff.mp h2).1;omega
   ·omega
 ·rcases hds _ _ h1 with h1 | ⟨ei,ed⟩
  ·rcases hds _ _ h2 with h2 | ⟨ej,ed⟩
   ·exact b.near i j x y h h1 h2
   ·subst ed
    have:=b.mono at_ i d x h hd h1;omega
  ·subst ed
   rcases hds _ _ h2 with h2 | ⟨ej,ed⟩
   ·have:=b.near at_ j d y (Nat.le_refl _) hd h2;omega
   ·omega
 ·rw [List.getElem?_append_left (by omega)] at h1
  exact List.mem_append_left _ (b.done i v u h h1 tu)
theorem Bfs.next {T:Int->Int->Prop} {a:Int} {line:List Int} {ds:List Nat} {at_:Nat} {p:Int} (b:Bfs T a line ds at_) (hp:line[at_]?=some p) (h:∀ w,T p w->w∈line):Bfs T a line ds (at_+1):=by
 have hlt:at_ < line.length:=(List.getElem?_eq_some_iff.mp hp).1
 refine ⟨b.len,b.fst,b.nd,hlt,b.dist,b.mono,fun i j d e hi=>b.near i j d e (by omega),fun i v w hi h1 t=>?_⟩
 by_cases e:i=at_
 ·subst e
  rw [hp] at h1;cases h1
  exact h w t
 ·exact b.done i v w (by omega) h1 t
theorem Bfs.fin {T:Int->Int->Prop} {a:Int} {line:List Int} {ds:List Nat} (b:Bfs T a line ds line.length):∀ k w,Walk T a k w->w∈line:=by
 intro k w h
 induction h with
 | refl=>exact List.mem_of_getElem? b.fst
 | step _ t ih =>
  obtain ⟨i,hi,e⟩:=List.mem_iff_getElem.mp ih
  exact b.done i _ _ hi (by rw [List.getElem?_eq_getElem hi,e]) t
theorem Bfs.last {T:Int->Int->Prop} {a:Int} {line:List Int} {ds:List Nat} (b:Bfs T a line ds line.length) {z:Int} {e:Nat} (hz:line[line.length - 1]?=some z) (he:ds[line.length - 1]?=some e) :
  Dist T a z e/\∀ w k,Dist T a w k->k<=e:=by
 refine ⟨b.dist _ _ _ hz he,fun w k hk=>?_⟩
 obtain ⟨i,hi,ei⟩:=List.mem_iff_getElem.mp (b.fin k w hk.1)
 have e1:line[i]?=some w:=by rw [List.getElem?_eq_getElem hi,ei]
 have hi2:i < ds.length:=by rw [b.len];exact hi
 have e2:ds[i]?=some ds[i]:=List.getElem?_eq_getElem hi2
 rw [hk.uniq (b.dist i w _ e1 e2)]
 exact b.mono i _ _ _ (by omega) e2 he
end Gr
namespace L2
open PySem PySem.Spec PyProof.Rows
section
variable {σ:St} {H:Hp} {D:Ends} {K:Frag}
end
theorem few_places:∀ (n:Nat) (l:List Int),l.Nodup->(∀ v∈l,0<=v/\v < (n:Int))->l.length<=n
 | 0,l,_,h=>by
  cases l with
  | nil=>simp
  | cons v r=>have:=h v (by simp);omega
 | n+1,l,hn,h=>by
  have h1:=few_places n (l.erase (n:Int)) (hn.erase _) fun v hv=>by
   have hm:=List.mem_of_mem_erase hv
   have hb:=h v hm
   have hne:v ≠ (n:Int):=by
    rintro rfl
    exact absurd hv (List.Nodup.not_mem_erase hn)
   omega
  have h2:l.length<=(l.erase (n:Int)).length+1:=by
   rw [List.length_erase]
   split <;> omega
  omega
end L2
namespace L2
open PySem
end L2
namespace HT
open PySem PyProof.Rows
section
variable {prog:Program} {w:World} {A:Around} {E:Value->Shared->Prop} {s:Shared}
end
end HT
namespace L2
open PySem PySem.Spec PyProof.Rows
section
variable {X:Cx}
end
section
variable {X:Cx} {pins:List (Addr × Obj)} {σ:St} {H:Hp} {s:Shared} {A:Around} {E:Value->Shared->Prop} {Q:Value->Shared->Prop} {b:Bool}
end
section
variable {X:Cx}
end
mutual
noncomputable def ltv:PyData->PyData->Bool
 | .int a,.int b=>decide (a < b)
 | .tuple xs,.tuple ys=>ltvs xs ys
 | _,_=>false
noncomputable def ltvs:List PyData->List PyData->Bool
 | [],[]=>false
 | [],_ :: _=>true
 | _ :: _,[]=>false
 | x :: xs,y :: ys=>if PyData.eqv x y then ltvs xs ys else ltv x y
end
mutual
noncomputable def cmpD:PyData->PyData->Bool
 | .int _,.int _=>true
 | .tuple xs,.tuple ys=>cmpDs xs ys
 | _,_=>false
noncomputable def cmpDs:List PyData->List PyData->Bool
 | x :: xs,y :: ys=>cmpD x y && cmpDs xs ys
 | _,_=>true
end
end L2
namespace HT
open PySem PyProof.Rows L2
def LtAt (A:Around) (s:Shared) (y x:Value) (b:Bool):Prop :=
 ∀ (prog:Program) (w:World) (E:Value->Shared->Prop) (Q:Value->Shared->Prop),Q (.bool b) s->wpAny (model prog w) A (richCompare .Lt y x) Q E s
section
open PySem.SeqAt
open PySem.AutoSeq1 (wpAny_loadPart')
open PySem.MeetsSeq PySem.MeetsSeq2 PySem.MeetsSeq3
inductive Its (A:Around) (s:Shared):List Value->List Value->Bool->Prop
 | nn:Its A s [] [] false
 | nc {x:Value} {ys:List Value}:Its A s [] (x :: ys) true
 | cn {x:Value} {xs:List Value}:Its A s (x :: xs) [] false
 | eq {x y:Value} {xs ys:List Value} {b:Bool}:EqAt A s x y true->Its A s xs ys b->Its A s (x :: xs) (y :: ys) b
 | ne {x y:Value} {xs ys:List Value} {b:Bool}:EqAt A s x y false->LtAt A s x y b->Its A s (x :: xs) (y :: ys) b
theorem ald (l b:Addr) (items items2:Array Value) (n n2:Nat) (dd dd2:Option Addr) (sl sl2:Array (Option Value)) (r:Bool) :
  Meets (Builtin.«tuple.__lt__» ⟨[.ref l,.ref b],[]⟩)
   (fun A R s=>s.heap.get? l=some { cls:=.type "tuple",dict:=dd,data:=.seq items n,slots:=sl }/\s.heap.get? b=some { cls:=.type "tuple",dict:=dd2,data:=.seq items2 n2,slots:=sl2 } /\
    Its A.in1 s items.toList items2.toList r/\R (.ok (.ret (.bool r))) s) :=
 .of_wp fun prog w A R s h=>by
  obtain ⟨hp,g,d,tk,os⟩:=s;obtain ⟨hl,hb,hi,h⟩:=h
  have f2:=AutoSeq1.sub_tuple_tuple
  wp_walk using wpAny_loadPart' hl,wpAny_loadPart' hb,wpAny_forIn_list _ (fun rest b s'=>b.1=none/\s'=⟨hp,g,d,tk,os⟩/\∃ (vs ws:List Value),rest=vs.zip ws /\
   vs.length+items2.size=ws.length+items.size/\Its A.in1 ⟨hp,g,d,tk,os⟩ vs ws r) _
  case turn =>
   rintro ⟨y,x⟩ rest b s' ⟨hb',rfl,vs,ws,hz,hlen,hI⟩
   cases hI with
   | nn=>cases hz
   | nc=>cases hz
   | cn=>cases hz
   | eq he hI' =>
    rw [List.zip_cons_cons] at hz
    injection hz with hyx hrest
    injection hyx with hy hx
    subst hy hx
    simp only [List.length_cons] at hlen
    refine wpAny_bind (he prog w _ _ ?_)
    wp_walk
    exact ⟨rfl,rfl,_,_,hrest,by omega,hI'⟩
   | ne he hlt =>
    rw [List.zip_cons_cons] at hz
    injection hz with hyx hrest
    injection hyx with hy hx
    subst hy hx
    refine wpAny_bind (he prog w _ _ ?_)
    have hri:=hlt prog w
    wp_walk using hri
    exact ⟨_,rfl,by simpa using h⟩
  case fin =>
   rintro ⟨b1,b2⟩ s' ⟨hb',rfl,vs,ws,hz,hlen,hI⟩
   simp only at hb'
   subst hb'
   have hv:r=decide (items.size < items2.size):=by
    cases hI with
    | nn =>
     simp only [List.length_nil] at hlen
     exact (decide_eq_false (by omega)).symm
    | nc =>
     simp only [List.length_nil,List.length_cons] at hlen
     exact (decide_eq_true (by omega)).symm
    | cn =>
     simp only [List.length_nil,List.length_cons] at hlen
     exact (decide_eq_false (by omega)).symm
    | eq=>cases hz
    | ne=>cases hz
   rw [hv] at h
   wp_walk
   exact ⟨_,rfl,by simpa [Builtin.Tuple.tupleCompareSizes] using h⟩
  case h =>
   exact ⟨rfl,rfl,items.toList,items2.toList,rfl,by simp;omega,hi⟩
end
section
variable {A:Around} {s:Shared}
theorem LtAt.tup {l b:Addr} {o o2:Obj} {items items2:Array Value} {n n2:Nat} {r:Bool} (hl:s.heap.get? l=some o) (hc:o.cls=.type "tuple") (hd:o.data=.seq items n) (hb:s.heap.get? b=some o2) (hc2:o2.cls=.type "tuple") (hd2:o2.data=.seq items2 n2)
  (hu:A.units < cLine) (hi:Its A.in1 s items.toList items2.toList r):LtAt A s (.ref l) (.ref b) r:=by
 intro prog w E Q q
 obtain ⟨cls,dd,data,sl⟩:=o
 obtain ⟨cls2,dd2,data2,sl2⟩:=o2
 simp only at hc hd hc2 hd2
 subst hc hd hc2 hd2
 exact richCompare_meets_room (op:=.Lt) ⟨_,hl,rfl⟩ ⟨_,hb,rfl⟩ PySem.F.slot_tuple_lt PySem.F.entry_tuple_lt (PySem.F.args_tuple_lt_2 _ _) (ald l b items items2 n n2 dd dd2 sl sl2 r)
  ⟨hl,hb,hi,show Value.bool r ≠ Value.notImplemented/\Q (.bool r) s from ⟨(fun x=>nomatch x),q⟩⟩ hu
mutual
theorem ahi:∀ (da db:PyData) (A:Around) (s:Shared) (a b:Value) (as bs:List Addr),Reads s.heap a da as->Reads s.heap b db bs->cmpD da db=true->aaj da=true->aaj db=true ->
  A.units+da.depth < cLine->LtAt A s a b (ltv da db)
 | .int i,.int j,A,s,_,_,_,_,.int _ t,.int _ u,_,_,_,_=>fun prog w E Q q=>ako A s i t j u prog w E Q (by simpa [ltv] using q)
 | .tuple xs,.tuple ys,A,s,_,_,_,_,.tuple h1 h2 h3 h4,.tuple k1 k2 k3 k4,hc,pa,pb,hu=>by
  have hu':A.units+(PyData.depthAll xs+1) < cLine:=hu
  have e:ltv (.tuple xs) (.tuple ys)=ltvs xs ys:=by simp [ltv]
  rw [e]
  exact LtAt.tup h1 h2 h3 k1 k2 k3 (by omega) (its_reads xs ys A.in1 s _ _ _ _ h4 k4 (by simpa [cmpD] using hc) (by simpa [aaj] using pa) (by simpa [aaj] using pb) (by show A.units+1+_ < _;omega))
 | .int _,.none,_,_,_,_,_,_,_,_,hc,_,_,_=>by simp [cmpD] at hc
 | .int _,.bool _,_,_,_,_,_,_,_,_,hc,_,_,_=>by simp [cmpD] at hc
 | .int _,.str _,_,_,_,_,_,_,_,_,hc,_,_,_=>by simp [cmpD] at hc
 | .int _,.list _,_,_,_,_,_,_,_,_,hc,_,_,_=>by simp [cmpD] at hc
 | .int _,.tuple _,_,_,_,_,_,_,_,_,hc,_,_,_=>by simp [cmpD] at hc
 | .int _,.dict _,_,_,_,_,_,_,_,_,hc,_,_,_=>by simp [cmpD] at hc
 | .tuple _,.none,_,_,_,_,_,_,_,_,hc,_,_,_=>by simp [cmpD] at hc
 | .tuple _,.bool _,_,_,_,_,_,_,_,_,hc,_,_,_=>by simp [cmpD] at hc
 | .tuple _,.str _,_,_,_,_,_,_,_,_,hc,_,_,_=>by simp [cmpD] at hc
 | .tuple _,.list _,_,_,_,_,_,_,_,_,hc,_,_,_=>by simp [cmpD] at hc
 | .tuple _,.int _,_,_,_,_,_,_,_,_,hc,_,_,_=>by simp [cmpD] at hc
 | .tuple _,.dict _,_,_,_,_,_,_,_,_,hc,_,_,_=>by simp [cmpD] at hc
 | .none,_,_,_,_,_,_,_,_,_,hc,_,_,_=>by simp [cmpD] at hc
 | .bool _,_,_,_,_,_,_,_,_,_,hc,_,_,_=>by simp [cmpD] at hc
 | .str _,_,_,_,_,_,_,_,_,_,hc,_,_,_=>by simp [cmpD] at hc
 | .list _,_,_,_,_,_,_,_,_,_,hc,_,_,_=>by simp [cmpD] at hc
 | .dict _,_,_,_,_,_,_,_,_,_,hc,_,_,_=>by simp [cmpD] at hc
theorem its_reads:∀ (xs ys:List PyData) (A:Around) (s:Shared) (vs ws:List Value) (as bs:List Addr),ReadsAll s.heap vs xs as->ReadsAll s.heap ws ys bs->cmpDs xs ys=true->plainDs xs=true->plainDs ys=true ->
  A.units+PyData.depthAll xs < cLine->Its A s vs ws (ltvs xs ys)
 | [],[],_,_,_,_,_,_,.nil,.nil,_,_,_,_=>by simp only [ltvs];exact .nn
 | [],_ :: _,_,_,_,_,_,_,.nil,.cons _ _,_,_,_,_=>by simp only [ltvs];exact .nc
 | _ :: _,[],_,_,_,_,_,_,.cons _ _,.nil,_,_,_,_=>by simp only [ltvs];exact .cn
 | x :: xs,y :: ys,A,s,_,_,_,_,.cons r1 r2,.cons q1 q2,hc,pa,pb,hu=>by
  have hc':cmpD x y=true/\cmpDs xs ys=true:=by simpa [cmpDs] using hc
  have pa':aaj x=true/\plainDs xs=true:=by simpa [plainDs] using pa
  have pb':aaj y=true/\plainDs ys=true:=by simpa [plainDs] using pb
  have hd:PyData.depthAll (x :: xs)=max x.depth (PyData.depthAll xs):=by simp [PyData.depthAll]
  have m1:=Nat.min_le_left x.depth y.depth
  have he:=SeqAt.eqAt_reads x y A s _ _ _ _ r1 q1 (abe _ pa'.1) (abe _ pb'.1) (by omega)
  cases hq:PyData.eqv x y with
  | true =>
   rw [hq] at he
   have e:ltvs (x :: xs) (y :: ys)=ltvs xs ys:=by simp [ltvs,hq]
   rw [e]
   exact .eq he (its_reads xs ys A s _ _ _ _ r2 q2 hc'.2 pa'.2 pb'.2 (by omega))
  | false =>
   rw [hq] at he
   have e:ltvs (x :: xs) (y :: ys)=ltv x y:=by simp [ltvs,hq]
   rw [e]
   exact .ne he (ahi x y A s _ _ _ _ r1 q1 hc'.1 pa'.1 pb'.1 (by omega))
end
end
end HT
namespace L2
open PySem PySem.Spec PyProof.Rows
section
variable {X:Cx}
end
end L2
namespace L2
open PySem
end L2
namespace TS
open PySem PyProof.Rows HT
theorem ani:∀ x y:List Int,HT.lexLt x y=true->HT.lexLt y x=false
 | [],[],h=>by simp [HT.lexLt] at h
 | [],_ :: _,_=>rfl
 | _ :: _,[],h=>by simp [HT.lexLt] at h
 | a :: x,b :: y,h=>by
  rw [ad4] at h ⊢
  by_cases e:a=b
  ·subst e
   rw [if_pos rfl] at h ⊢
   exact ani x y h
  ·rw [if_neg e] at h
   rw [if_neg (fun z=>e z.symm)]
   have:=of_decide_eq_true h
   exact decide_eq_false (by omega)
theorem aqf:∀ x y z:List Int,HT.lexLt y x=false->HT.lexLt z y=false->HT.lexLt z x=false
 | _,[],[],h,_=>h
 | [],[],_ :: _,_,_=>rfl
 | _ :: _,[],_ :: _,h,_=>by simp [HT.lexLt] at h
 | _,_ :: _,[],_,h=>by simp [HT.lexLt] at h
 | [],_ :: _,_ :: _,_,_=>rfl
 | a :: x,b :: y,c :: z,h,g=>by
  rw [ad4] at h g ⊢
  by_cases e:b=a
  ·subst e
   rw [if_pos rfl] at h
   by_cases e2:c=b
   ·subst e2
    rw [if_pos rfl] at g ⊢
    exact aqf x y z h g
   ·rw [if_neg e2] at g ⊢
    exact g
  ·rw [if_neg e] at h
   have h':=of_decide_eq_false h
   by_cases e2:c=b
   ·subst e2
    rw [if_neg e]
    exact h
   ·rw [if_neg e2] at g
    have g':=of_decide_eq_false g
    rw [if_neg (by omega)]
    exact decide_eq_false (by omega)
def TI (h:Heap) (a:Addr) (ns:List Int):Prop:=∃ o xs n,h.get? a=some o/\o.cls=.type "tuple"/\o.data=.seq xs n/\IntsAre xs.toList ns
noncomputable def kfV (kf:Addr->List Int):Value->List Int
 | .ref a=>kf a
 | _=>[]
section
variable {prog:Program} {w:World} {A:Around} {E:Value->Shared->Prop} {s:Shared}
theorem agw {fin:Bool} {Q:Bool->Shared->Prop}:∀ {xs ys:List Value} {ns ms:List Int} (i:Nat),IntsAre xs ns->IntsAre ys ms->(ns.length < ms.length->fin=true)->(ms.length<=ns.length->fin=false)->Q (HT.lexLt ns ms) s ->
  PySem.W.KatLex prog w A true fin Q (xs.zip ys) i s
 | _,_,_,_,i,.nil,.nil,_,h2,q=>by
  rw [h2 (Nat.le_refl _)];exact q
 | _,_,_,_,i,.nil,.cons b u r,h1,_,q=>by
  rw [h1 (by simp)];exact q
 | _,_,_,_,i,.cons a t r,.nil,_,h2,q=>by
  rw [List.zip_nil_right,h2 (by simp)];exact q
 | _,_,_,_,i,.cons a t r,.cons b u r2,h1,h2,q=>by
  rw [List.zip_cons_cons]
  refine PySem.W.kat_cons (SeqAt.EqAt.int_int a t b u prog w _ _ ?_)
  rw [ad4] at q
  by_cases e:a=b
  ·subst e
   rw [if_pos rfl] at q
   rw [show (a == a)=true by simp]
   exact PySem.W.kat_yes (agw (i+1) r r2 (fun z=>h1 (by simpa using z)) (fun z=>h2 (by simpa using z)) q)
  ·rw [if_neg e] at q
   rw [show (a == b)=false by simpa using e]
   refine PySem.W.kat_no ?_
   by_cases hi:i=0
   ·subst hi
    exact oneLt_int q
   ·rw [show (true && i == 0)=false by simpa using hi]
    exact PySem.W.kat_one _ _ (PyProof.Rows.lt_int q)
def tS (h:Heap) (kf:Addr->List Int) (x:Keyed):Prop:=x.1=x.2/\∃ a,x.1=.ref a/\TI h a (kf a)
noncomputable def tR (kf:Addr->List Int) (x y:Keyed):Bool:=HT.lexLt (kfV kf x.1) (kfV kf y.1)
theorem cmp_tups (kf:Addr->List Int):Cmp (model prog w) A E s (tuples' true) (tS s.heap kf) (tR kf):=by
 refine ⟨fun x y hx hy Q st hk q=>?_,fun x y _ _=>ani _ _,fun x y z _ _ _=>aqf _ _ _⟩
 obtain ⟨x1,x2⟩:=x
 obtain ⟨y1,y2⟩:=y
 obtain ⟨_,a,ea,o,xs,n,e1,e2,e3,e4⟩:=hx
 obtain ⟨_,b,eb,o',ys,n',g1,g2,g3,g4⟩:=hy
 dsimp only at ea eb
 subst ea eb
 rw [lt'_eq]
 refine wpS_bind (wpS_get ?_)
 rw [hk]
 refine wpS_bind (wpS_lift (wpAny_attempt (PySem.W.kat_lt e1 e3 g1 g3 (agw 0 e4 g4 (fun z=>?_) (fun z=>?_) ⟨rfl,?_⟩))))
 ·have h1:=e4.length;have h2:=g4.length
  simp at h1 h2
  exact decide_eq_true (by omega)
 ·have h1:=e4.length;have h2:=g4.length
  simp at h1 h2
  exact decide_eq_false (by omega)
 ·exact wpS_pure q
theorem ao4 {vs:List Value} {ps:List Keyed} (h:ps.Perm (vs.zip vs)):(∀ p∈ps,p.1=p.2/\p.1∈vs)/\(ps.map (·.2)).Perm vs:=by
 refine ⟨fun p hp=>mem_zip_self (h.mem_iff.mp hp),?_⟩
 have h1:=h.map (fun p=>p.2)
 have e:(vs.zip vs).map (fun p=>p.2)=vs:=List.map_snd_zip (Nat.le_refl _)
 rwa [e] at h1
theorem list_sort_small {a:Addr} {vs:List Value} {n:Nat} {P:PySem.Fin->Shared->Prop} (ho:s.heap.get? a=some (seqObj "list" vs.toArray n)) (hlen:vs.length<=sizeLine) (h64:vs.length < 64)
  (hκ:2<=vs.length->∀ h',(∀ b o,b ≠ a->s.heap.get? b=some o->h'.get? b=some o)->∃ κ S R,(∀ (Q:SortKind->Shared->Prop),Q κ { s with heap:=h' }->wpAny (model prog w) A (keyKind' vs.toArray) Q E { s with heap:=h' })/\Cmp (model prog w) A E { s with heap:=h' } κ S R/\(∀ v∈vs,S (v,v)) /\
   ∀ out:List Value,out.Perm vs->out.Pairwise (fun x y=>R (y,y) (x,x)=false)->P (.done (.ret .none)) { s with heap:=sortedHeap s.heap a vs out.toArray })
  (h1:vs.length < 2->P (.done (.ret .none)) { s with heap:=sortedHeap s.heap a vs vs.toArray }) :
  wpAny (model prog w) A (Builtin.«list.sort» ⟨[.ref a],[]⟩) P E s:=by
 rw [list_sort_plain]
 have ha:a < s.heap.objs.size:=Heap.lt_size ho
 refine wpAny_bind (listItems_at ho rfl ?_)
 refine wpAny_bind (listUpdate_at ho rfl ?_ (by rw [List.size_toArray];exact hlen) (Nat.zero_le _))
 obtain ⟨e1,ho1⟩:∃ e1,(s.heap.update a (Obj.mapSeq fun _ => #[])).get? a=some (seqObj "list" #[] e1):=⟨_,get?_update_seq ho (fun _ => #[])⟩
 refine wpAny_bind (seqEpoch_at ho1 rfl ?_)
 refine wpAny_bind (wpAny_newTuple ?_ (by show vs.length<=_;exact hlen))
 refine wpAny_bind (wpAny_newList ?_ (Nat.zero_le _))
 refine wpAny_holding ?_
 have ho6:(((s.heap.update a (Obj.mapSeq fun _ => #[])).push (seqObj "tuple" vs.toArray 0)).push (seqObj "list" #[] 0)).get? a=some (seqObj "list" #[] e1):=by
  rw [Heap.get?_push_ne _ _ _ (by rw [size_push',Heap.size_update];exact Nat.ne_of_lt (Nat.lt_succ_of_lt ha)),Heap.get?_push_ne _ _ _ (by rw [Heap.size_update];exact Nat.ne_of_lt ha)]
  exact ho1
 show wpAny (model prog w) A _ P E { s with heap:=((s.heap.update a (Obj.mapSeq fun _ => #[])).push (seqObj "tuple" vs.toArray 0)).push (seqObj "list" #[] 0) }
 dsimp only
 have hsz:vs.toArray.size=vs.length:=by simp
 have kp:∀ b o,b ≠ a->s.heap.get? b=some o->(((s.heap.update a (Obj.mapSeq fun _ => #[])).push (seqObj "tuple" vs.toArray 0)).push (seqObj "list" #[] 0)).get? b=some o:=fun b o hb e=>by
  refine Heap.get?_push_of_some _ (Heap.get?_push_of_some _ ?_)
  rw [Heap.get?_update_ne _ _ _ _ hb];exact e
 by_cases h2:vs.toArray.size < 2
 ·rw [if_pos h2,if_pos h2]
  refine wpAny_bind (wpAny_pure ?_)
  rw [StateT.run_pure]
  refine wpAny_bind (wpAny_pure ?_)
  dsimp only
  have eo:(arrOf (SortSt.mk' general' (vs.toArray.zip vs.toArray) #[] 7 none)).map (·.2)=vs.toArray:=by
   show (vs.toArray.zip vs.toArray).map (·.2)=vs.toArray
   apply Array.toList_inj.mp
   rw [Array.toList_map,Array.toList_zip]
   exact List.map_snd_zip (Nat.le_refl _)
  rw [eo]
  refine wpAny_bind (seqEpoch_at ho6 rfl ?_)
  refine wpAny_bind (listUpdate_at ho6 rfl ?_ (Nat.zero_le _) (by rw [List.size_toArray];exact Nat.le_succ_of_le hlen))
  simp only [bne_self_eq_false,Bool.false_eq_true,if_false]
  exact wpAny_pure (h1 (by omega))
 ·rw [if_neg h2,if_neg h2]
  obtain ⟨κ,S,R,hk,C,hS,hfin⟩:=hκ (by omega) _ kp
  refine wpAny_bind (hk _ ?_)
  refine wpAny_bind (wpAny_mono (ao0 C (a0:=vs.toArray.zip vs.toArray) (st:=SortSt.mk' κ (vs.toArray.zip vs.toArray) #[] 7 none) (Q:=fun _ st'=>failedOf st'=none/\(arrOf st').toList.Perm (vs.zip vs)/\Srt R (arrOf st').toList) (fun x hx=>?_) rfl rfl rfl rfl (by simp;omega) (by simp;omega) fun st' f' p' s'=>⟨f',by simpa using p',s'⟩) ?_ fun _ _ e=>e)
  ·have:x∈vs.zip vs:=by simpa using hx
   obtain ⟨q1,q2⟩:=mem_zip_self this
   obtain ⟨x1,x2⟩:=x
   dsimp only at q1 q2
   subst q1
   exact hS _ q2
  rintro ⟨⟨⟩,st'⟩ s' ⟨rfl,hf,hp,hs⟩
  dsimp only
  obtain ⟨q1,q2⟩:=ao4 hp
  have eo:(arrOf st').map (·.2)=(((arrOf st').toList.map (·.2)).toArray):=by
   apply Array.toList_inj.mp
   simp
  rw [eo]
  have hl2:((arrOf st').toList.map (·.2)).length=vs.length:=q2.length_eq
  refine wpAny_bind (seqEpoch_at ho6 rfl ?_)
  refine wpAny_bind (listUpdate_at ho6 rfl ?_ (Nat.zero_le _) (by rw [List.size_toArray,hl2];exact Nat.le_succ_of_le hlen))
  rw [hf]
  simp only [bne_self_eq_false,Bool.false_eq_true,if_false]
  refine wpAny_pure (hfin _ q2 ?_)
  rw [List.pairwise_map]
  refine List.Pairwise.imp_of_mem ?_ hs
  intro x y hx hy hr
  have ex:=(q1 x hx).1
  have ey:=(q1 y hy).1
  obtain ⟨x1,x2⟩:=x
  obtain ⟨y1,y2⟩:=y
  dsimp only at ex ey
  subst ex ey
  exact hr
theorem sorted_small {l:Addr} {vs:List Value} {Q:Value->Shared->Prop} (hl:s.heap.IsList l vs.toArray) (hlen:vs.length<=sizeLine) (h64:vs.length < 64)
  (hκ:2<=vs.length->∀ h',(∀ b o,s.heap.get? b=some o->h'.get? b=some o)->∃ κ S R,(∀ (Q:SortKind->Shared->Prop),Q κ { s with heap:=h' }->wpAny (model prog w) A.in1.in1 (keyKind' vs.toArray) Q E { s with heap:=h' })/\Cmp (model prog w) A.in1.in1 E { s with heap:=h' } κ S R/\(∀ v∈vs,S (v,v)) /\
   ∀ out:List Value,out.Perm vs->out.Pairwise (fun x y=>R (y,y) (x,x)=false)->Q (.ref (s.heap.objs.size+1)) { s with heap:=sortedAll s.heap vs out.toArray })
  (h1:vs.length < 2->Q (.ref (s.heap.objs.size+1)) { s with heap:=sortedAll s.heap vs vs.toArray }) :
  wpAny (model prog w) A (call (.builtin "sorted") [.ref l]) Q E s:=by
 refine Calls.call_function_entry kind_sorted plain_sorted entry_sorted (args_sorted1 _) ?_
 unfold Builtin.«sorted»
 refine wpAny_bind (m:=checkCount "sorted" 1 1 _) (wpAny_pure ?_)
 refine wpAny_bind (collect_list hl ?_ hlen)
 refine wpAny_bind (wpAny_newList ?_ hlen)
 have hsz:((s.heap.push (seqObj "list" #[] 0)).update s.heap.objs.size (Obj.mapSeq (· ++ vs.toArray))).objs.size=s.heap.objs.size+1:=by
  rw [Heap.size_update,size_push']
 have hoL:(((s.heap.push (seqObj "list" #[] 0)).update s.heap.objs.size (Obj.mapSeq (· ++ vs.toArray))).push (seqObj "list" vs.toArray 0)).get? (s.heap.objs.size+1)=some (seqObj "list" vs.toArray 0):=by
  rw [← hsz];exact Heap.get?_push_size _ rfl
 have keep:∀ b o,s.heap.get? b=some o->(((s.heap.push (seqObj "list" #[] 0)).update s.heap.objs.size (Obj.mapSeq (· ++ vs.toArray))).push (seqObj "list" vs.toArray 0)).get? b=some o:=fun b o q=>by
  have hlt:b < s.heap.objs.size:=Heap.lt_size q
  rw [Heap.get?_push_ne _ _ _ (by rw [hsz];exact Nat.ne_of_lt (Nat.lt_succ_of_lt hlt)),Heap.get?_update_ne _ _ _ _ (Nat.ne_of_lt hlt),Heap.get?_push_ne _ _ _ (Nat.ne_of_lt hlt)]
  exact q
 show wpAny _ _ _ _ _ { s with heap:=((s.heap.push (seqObj "list" #[] 0)).update s.heap.objs.size (Obj.mapSeq (· ++ vs.toArray))).push (seqObj "list" vs.toArray 0) }
 rw [hsz]
 refine wpAny_bind (wpAny_holding (wpAny_call_entry slot_list_sort ⟨_,hoL,rfl⟩ entry_list_sort ?body (args_list_sort _)))
 case body =>
  refine list_sort_small (s:={ s with heap:=((s.heap.push (seqObj "list" #[] 0)).update s.heap.objs.size (Obj.mapSeq (· ++ vs.toArray))).push (seqObj "list" vs.toArray 0) }) hoL hlen h64 (fun hge h' kp=>?_) fun hlt=>?_
  ·obtain ⟨κ,S,R,hk,C,hS,hfin⟩:=hκ hge h' fun b o e=>kp b o (Nat.ne_of_lt (Nat.lt_succ_of_lt (Heap.lt_size e))) (keep b o e)
   exact ⟨κ,S,R,hk,C,hS,fun out q1 q2=>⟨_,rfl,wpAny_pure ⟨_,rfl,hfin out q1 q2⟩⟩⟩
  ·exact ⟨_,rfl,wpAny_pure ⟨_,rfl,h1 hlt⟩⟩
end
end TS
namespace L2
open PySem PySem.Spec PyProof.Rows
noncomputable def toI:V->Int
 | .int i=>i
 | _=>0
noncomputable def kH (H:Hp):V->List Int
 | .ref t=>match H t with
  | some (.tup xs)=>xs.map toI
  | _=>[]
 | _=>[]
theorem au3 (ns:List Int):(ns.map V.int).map toI=ns:=by
 rw [List.map_map]
 have:(toI ∘ V.int)=id:=by funext i;rfl
 rw [this,List.map_id]
theorem ahj {H:Hp} {t:Addr} {ns:List Int} (h:H t=some (.tup (ns.map V.int))):kH H (.ref t)=ns:=by
 simp only [kH,h];exact au3 ns
def TupI (H:Hp) (v:V):Prop:=∃ t ns,v=.ref t/\H t=some (.tup (ns.map V.int))/\ns ≠ []
noncomputable def acq:Value->V
 | .ref a => .ref a
 | _ => .non
theorem af1:∀ {us:List Value},(∀ u∈us,∃ a,u=.ref a)->Vals (us.map acq) us
 | [],_ => .nil
 | u :: us,h=>by
  obtain ⟨a,e⟩:=h u List.mem_cons_self
  subst e
  exact .cons rfl (af1 fun v hv=>h v (List.mem_cons_of_mem _ hv))
theorem ai3 {H:Hp}:∀ {vs:List V} {us:List Value},Vals vs us->(∀ v∈vs,TupI H v)->(∀ u∈us,∃ a,u=.ref a)/\us.map acq=vs
 | _,_,.nil,_=>⟨fun u hu=>(by cases hu),rfl⟩
 | v :: vs,u :: us,.cons r t,h=>by
  obtain ⟨a,ns,rfl,_,_⟩:=h v List.mem_cons_self
  cases r
  obtain ⟨h1,h2⟩:=ai3 t fun v hv=>h v (List.mem_cons_of_mem _ hv)
  refine ⟨fun x hx=>?_,by rw [List.map_cons,h2];rfl⟩
  rcases List.mem_cons.mp hx with rfl | hx
  ·exact ⟨_,rfl⟩
  ·exact h1 x hx
section
variable {X:Cx}
def ahk (K:Frag):List V->Hp->VK->Prop:=fun xs H Q=>∃ (a:Addr) (vs:List V),xs=[.ref a]/\SqL K H a vs/\(∀ v∈vs,TupI H v)/\vs.length < 64 /\
 ∀ (vs':List V) (p:Addr),vs'.Perm vs->vs'.Pairwise (fun x y=>HT.lexLt (kH H y) (kH H x)=false)->H p=none->Q (.ref p) (upd H p (.lst vs'))
theorem ag1 {H:Hp} {pins:List (Addr × Obj)} {σ:St} {s:Shared} (I:Inv X pins σ H s) {h':Heap} (kp:∀ b o,s.heap.get? b=some o->h'.get? b=some o):∀ {vs:List V} {us:List Value},Vals vs us->(∀ v∈vs,TupI H v) ->
  (∃ fs,PySem.W.KatTups h' us fs/\fs.length=us.length/\∀ f∈fs,∃ i t,f=.int i t)/\∀ u∈us,∃ a,u=.ref a/\TS.TI h' a (kH H (.ref a))
 | _,_,.nil,_=>⟨⟨[],trivial,rfl,fun f hf=>by cases hf⟩,fun u hu=>by cases hu⟩
 | v :: vs,u :: us,.cons r t,h=>by
  obtain ⟨a,ns,rfl,e,hne⟩:=h v List.mem_cons_self
  cases r
  obtain ⟨⟨fs,k1,k2,k3⟩,k4⟩:=ag1 I kp t fun v hv=>h v (List.mem_cons_of_mem _ hv)
  obtain ⟨_,its,rv,o,e1,e2,n,e3⟩:=(show ObjOk X.prog X.w H s.heap a (.tup (ns.map V.int)) from I.hok a _ e)
  have hi:IntsAre its ns:=by simpa using (abi rv:IntsAre its.toArray.toList ns)
  have hT:TS.TI h' a (kH H (.ref a)):=⟨o,its.toArray,n,kp _ _ e1,e2,e3,by rw [ahj e];simpa using hi⟩
  obtain ⟨f,hf,i,tk,ef⟩:∃ f,its.toArray[0]?=some f/\∃ i t,f=.int i t:=by
   cases hi with
   | nil=>exact absurd rfl hne
   | cons i tk _=>exact ⟨_,by simp,i,tk,rfl⟩
  refine ⟨⟨f :: fs,PySem.W.KatTups.cons (kp _ _ e1) e2 e3 hf k1,by simp [k2],fun g hg=>?_⟩,fun x hx=>?_⟩
  ·rcases List.mem_cons.mp hg with rfl | hg
   ·exact ⟨i,tk,ef⟩
   ·exact k3 g hg
  ·rcases List.mem_cons.mp hx with rfl | hx
   ·exact ⟨a,rfl,hT⟩
   ·exact k4 x hx
theorem ale {α:Type} {R : α->α->Prop}:∀ {l:List α},l.length < 2->l.Pairwise R
 | [],_=>List.Pairwise.nil
 | [_],_=>List.pairwise_singleton _ _
 | _ :: _ :: _,h=>absurd h (by simp)
theorem ahl:aa7 X (.builtin "sorted") (ahk X.K):=by
 intro pins s σ H xs us Q I r h
 obtain ⟨a,vs,rfl,ha,hT,h64,q⟩:=h
 obtain ⟨u,rfl,ru⟩:=acf r
 cases ru
 obtain ⟨its,r1,p1,hz⟩:=I.list ha
 obtain ⟨b1,b2⟩:=ai3 r1 hT
 have hlen:its.length<=sizeLine:=by rw [← r1.length];exact hz
 have hfree:H (s.heap.objs.size+1)=none:=I.hok.fresh (Nat.le_succ _)
 have fin:∀ out:List Value,out.Perm its->(out.map acq).Pairwise (fun x y=>HT.lexLt (kH H y) (kH H x)=false)->EP X pins σ Q (.ref (s.heap.objs.size+1)) { s with heap:=sortedAll s.heap its out.toArray }:=by
  intro out hp hs
  obtain ⟨e,he⟩:=sortedAll_at s.heap its out.toArray
  have hv:Vals (out.map acq) out:=af1 fun u hu=>b1 u (hp.mem_iff.mp hu)
  refine ⟨.ref (s.heap.objs.size+1),_,I.laid (t':=s.toks) (o:=.lst (out.map acq)) (fun b ob q=>sortedAll_old q) (Nat.le_succ _) ?_,rfl,q _ _ ?_ hs hfree⟩
  ·refine ⟨by rw [List.length_map,hp.length_eq];exact hlen,out,e,hv,by rw [he]⟩
  ·rw [← b2];exact hp.map acq
 refine TS.sorted_small p1.isList hlen (by rw [← r1.length];exact h64) (fun hge h' kp=>?_) fun hlt=>?_
 ·obtain ⟨⟨fs,k1,k2,k3⟩,k4⟩:=ag1 I kp r1 hT
  have hne:(Value.type "int" != Value.type "tuple")=true:=by rfl
  refine ⟨tuples' true,TS.tS h' (fun a=>kH H (.ref a)),TS.tR (fun a=>kH H (.ref a)),fun Q' hq=>?_,TS.cmp_tups (s:={ s with heap:=h' }) (fun a=>kH H (.ref a)),fun v hv=>?_,fun out hp hs=>fin out hp ?_⟩
  ·refine PySem.W.kat_kind (T:=.type "int") (s:={ s with heap:=h' }) k1 (by omega) (fun v hv=>?_) (by rfl) ?_
   ·obtain ⟨i,t,rfl⟩:=k3 v hv
    exact .now
   ·rw [hne];exact hq
  ·obtain ⟨a,e,ht⟩:=k4 v hv
   exact ⟨rfl,a,e,ht⟩
  ·rw [List.pairwise_map]
   refine List.Pairwise.imp_of_mem ?_ hs
   intro x y hx hy hr
   obtain ⟨ax,rfl⟩:=b1 x (hp.mem_iff.mp hx)
   obtain ⟨ay,rfl⟩:=b1 y (hp.mem_iff.mp hy)
   exact hr
 ·refine fin its (List.Perm.refl _) ?_
  exact ale (by rw [List.length_map];exact hlt)
end
end L2
namespace HT
open PySem PySem.Spec PyProof.Rows L2
section
variable {prog:Program} {w:World} {A:Around} {kw:List (Str × Value)} {R:Result->Shared->Prop} {I S:Addr} {fp wr:List Addr} {n:Nat} {P:Nat->Value->Prop} {St:Nat->Heap->Prop} {Hd:Heap->Prop}
theorem aqg (W:Walks prog w A.in1 I fp wr n P St) (bt:Nat->Nat->Bool)
  (hcmp:∀ i j vi vj (s:Shared) (Q:Value->Shared->Prop) (E:Value->Shared->Prop),Hd s.heap->P i vi->P j vj->Q (.bool (bt i j)) s->wpAny (model prog w) A.in1 (richCompare .Lt vi vj) Q E s)
  (hd:∀ h h':Heap,Hd h->(∀ b o,b ∉ wr->b ≠ S->h.get? b=some o->h'.get? b=some o)->Hd h') (hSf:S ∉ fp) :
  ∀ (k j:Nat) (s:Shared) (vb:Value) (c:Nat),n - (j+1)=k->j+1<=n->St (j+1) s.heap->Hd s.heap->P (argBest bt j) vb ->
  s.heap.get? S=some { cls:=.type "list",dict:=none,data:=.seq #[vb,vb] c,slots:=#[] } ->
  (∀ v h' tk,P (argBest bt (n - 1)) v->(∀ b o,b ∉ wr->b ≠ S->s.heap.get? b=some o->h'.get? b=some o)->R (.ok (.ret v)) { s with heap:=h',toks:=tk }) ->
  codeAny (model prog w) A (.builtin "min.loop" ⟨[.ref I,.none,.ref S],kw⟩) R s:=by
 have hSw:S ∉ wr:=fun h=>hSf (W.sub _ h)
 have hname:(toString "min" ++ toString ".loop" : String) = "min.loop":=by decide
 intro k
 induction k with
 | zero =>
  intro j s vb c hk hj hst hh hPb hS hR
  have hin:j+1=n:=by omega
  apply codeAny_builtin F.entry_min_loop
  rw [Around.under_plainId F.plain_min_loop (⟨[.ref I,.none,.ref S],kw⟩:Args)]
  show wpAny (model prog w) A.in1 (seqItems? (.ref S) >>= _) _ _ s
  apply wpAny_bind;apply wpAny_seqItems hS rfl
  show wpAny (model prog w) A.in1 (tryCatch (pyNext (.ref I)) _ >>= _) _ _ s
  apply wpAny_bind;apply wpAny_tryCatch
  refine W.done s _ _ (hin ▸ hst) (fun h' tk hk'=>?_)
  have hS':=hk' S _ hSw hS
  show wpAny (model prog w) A.in1 (updateSeq S (fun _ => #[]) >>= _) _ _ _
  apply wpAny_bind
  refine (wpAny_updateSeq hS' rfl (wpAny_bind (wpAny_letGo (wpAny_pure ?_))))
  exact hR vb _ tk (by rw [← hin];exact hPb) (fun b o hbw hbS e=>(Heap.get?_update_other _ _ (Ne.symm hbS)).trans (hk' b o hbw e))
 | succ k ih =>
  intro j s vb c hk hj hst hh hPb hS hR
  have hlt:j+1 < n:=by omega
  apply codeAny_builtin F.entry_min_loop
  rw [Around.under_plainId F.plain_min_loop (⟨[.ref I,.none,.ref S],kw⟩:Args)]
  show wpAny (model prog w) A.in1 (seqItems? (.ref S) >>= _) _ _ s
  apply wpAny_bind;apply wpAny_seqItems hS rfl
  show wpAny (model prog w) A.in1 (tryCatch (pyNext (.ref I)) _ >>= _) _ _ s
  apply wpAny_bind;apply wpAny_tryCatch
  refine W.item (j+1) s _ _ hlt hst (fun v h' tk hP hst' hk'=>?_)
  have hS':=hk' S _ hSw hS
  have hh':Hd h':=hd _ _ hh fun b o hbw _ e=>hk' b o hbw e
  show wpAny (model prog w) A.in1 (tryCatch (holding [v,v] (richCompare .Lt v vb >>= _)) _ >>= _) _ _ _
  apply wpAny_bind;apply wpAny_tryCatch;apply wpAny_holding;apply wpAny_bind
  refine hcmp (j+1) (argBest bt j) v vb _ _ _ hh' hP hPb ?_
  apply wpAny_bind;apply wpAny_holding;apply wpAny_truthy_bool
  apply wpAny_bind;apply wpAny_letGo;apply wpAny_pure
  cases hb:bt (j+1) (argBest bt j) with
  | true =>
   simp only [if_true]
   apply wpAny_bind
   refine (wpAny_updateSeq hS' rfl (wpAny_bind (wpAny_letGo ?_)))
   rw [hname]
   refine wpAny_pure ⟨plainId_quiet F.plain_min_loop _,?_⟩
   refine ih (j+1) _ v _ (by omega) hlt (W.frame _ _ _ hst' fun b hbf o e=>?_) (hd _ _ hh' fun b o hbw hbS e=>(Heap.get?_update_other _ _ (Ne.symm hbS)).trans e) (by simp only [argBest,hb,if_true];exact hP) (Heap.get?_update_self _ hS' rfl) (fun v' h'' tk'' hP' hk''=>?_)
   ·exact (Heap.get?_update_other _ _ (fun h:S=b=>hSf (h ▸ hbf))).trans e
   ·exact (hR v' h'' tk'' hP' fun b o hbw hbS e=>hk'' b o hbw hbS ((Heap.get?_update_other _ _ (Ne.symm hbS)).trans (hk' b o hbw e)))
  | false =>
   simp only [Bool.false_eq_true,if_false]
   apply wpAny_bind;apply wpAny_letGo
   rw [hname]
   refine wpAny_pure ⟨plainId_quiet F.plain_min_loop _,?_⟩
   refine ih (j+1) _ vb c (by omega) hlt hst' hh' (by simp only [argBest,hb,Bool.false_eq_true,if_false];exact hPb) hS' (fun v' h'' tk'' hP' hk''=>?_)
   exact (hR v' h'' tk'' hP' fun b o hbw hbS e=>hk'' b o hbw hbS (hk' b o hbw e))
theorem ao5 (W:Walks prog w A.in1 I fp wr n P St) (bt:Nat->Nat->Bool)
  (hcmp:∀ i j vi vj (s:Shared) (Q:Value->Shared->Prop) (E:Value->Shared->Prop),Hd s.heap->P i vi->P j vj->Q (.bool (bt i j)) s->wpAny (model prog w) A.in1 (richCompare .Lt vi vj) Q E s)
  (hd:∀ h h':Heap,Hd h->(∀ b o,b ∉ wr->b ≠ S->h.get? b=some o->h'.get? b=some o)->Hd h') (hSf:S ∉ fp) {s:Shared} {c:Nat} (hst:St 0 s.heap) (hh:Hd s.heap)
  (hS:s.heap.get? S=some { cls:=.type "list",dict:=none,data:=.seq #[] c,slots:=#[] })
  (h0:n=0->kw=([("default",.none)]:List (Str × Value))/\∀ h' tk,(∀ b o,b ∉ wr->b ≠ S->s.heap.get? b=some o->h'.get? b=some o)->R (.ok (.ret .none)) { s with heap:=h',toks:=tk })
  (hR:0 < n->∀ v h' tk,P (argBest bt (n - 1)) v->(∀ b o,b ∉ wr->b ≠ S->s.heap.get? b=some o->h'.get? b=some o)->R (.ok (.ret v)) { s with heap:=h',toks:=tk }) :
  codeAny (model prog w) A (.builtin "min.loop" ⟨[.ref I,.none,.ref S],kw⟩) R s:=by
 have hSw:S ∉ wr:=fun h=>hSf (W.sub _ h)
 have hname:(toString "min" ++ toString ".loop" : String) = "min.loop":=by decide
 apply codeAny_builtin F.entry_min_loop
 rw [Around.under_plainId F.plain_min_loop (⟨[.ref I,.none,.ref S],kw⟩:Args)]
 show wpAny (model prog w) A.in1 (seqItems? (.ref S) >>= _) _ _ s
 apply wpAny_bind;apply wpAny_seqItems hS rfl
 show wpAny (model prog w) A.in1 (tryCatch (pyNext (.ref I)) _ >>= _) _ _ s
 apply wpAny_bind;apply wpAny_tryCatch
 by_cases hn:0 < n
 ·refine W.item 0 s _ _ hn hst (fun v h' tk hP hst' hk'=>?_)
  have hS':=hk' S _ hSw hS
  have hh':Hd h':=hd _ _ hh fun b o hbw _ e=>hk' b o hbw e
  show wpAny (model prog w) A.in1 (updateSeq S (fun _ => #[v,v]) >>= _) _ _ _
  apply wpAny_bind
  refine (wpAny_updateSeq hS' rfl ?_)
  rw [hname]
  refine wpAny_pure ⟨plainId_quiet F.plain_min_loop _,?_⟩
  refine aqg (Hd:=Hd) W bt hcmp hd hSf _ 0 _ v _ rfl hn (W.frame _ _ _ hst' fun b hbf o e=>?_) (hd _ _ hh' fun b o hbw hbS e=>(Heap.get?_update_other _ _ (Ne.symm hbS)).trans e) hP (Heap.get?_update_self _ hS' rfl) (fun v' h'' tk'' hP' hk''=>?_)
  ·exact (Heap.get?_update_other _ _ (fun h:S=b=>hSf (h ▸ hbf))).trans e
  ·exact (hR hn v' h'' tk'' hP' fun b o hbw hbS e=>hk'' b o hbw hbS ((Heap.get?_update_other _ _ (Ne.symm hbS)).trans (hk' b o hbw e)))
 ·have e0:n=0:=by omega
  obtain ⟨rfl,h0'⟩:=h0 e0
  refine W.done s _ _ (by rw [e0];exact hst) (fun h' tk hk'=>?_)
  show wpAny (model prog w) A.in1 (rule _ >>= _) _ _ _
  refine wpAny_bind (wpAny_rule (wpAny_pure ?_))
  exact h0' h' tk fun b o hbw _ e=>hk' b o hbw e
end
section
variable {prog:Program} {w:World} {A:Around} {E:Value->Shared->Prop} {s:Shared}
theorem au4 {id:String} {b:Builtin} {args:List Value} {kw:List (Str × Value)} {Q:Value->Shared->Prop} (hk:builtinKind id=none) (hp:plainId id=true) (hb:entryFor table id=some b) (ha:argsOk id ⟨args,kw⟩)
  (hc:wpAny (model prog w) A.in1 (b ⟨args,kw⟩) (fun fin s'=>match fin with
   | .done f=>(match (Except.ok f:Result) with | .ok (.ret v)=>Q v s' | .ok _=>False | .error e=>E e s') | .again c'=>c'.quiet=true/\codeAny (model prog w) A c' (fun r s'=>match r with | .ok (.ret v)=>Q v s' | .ok _=>False | .error e=>E e s') s') E s) :
  wpAny (model prog w) A (call (.builtin id) args kw) Q E s:=by
 apply wpAny_call;apply codeAny_call_builtin hp hb
 simp only [checkBuiltinCall,hk]
 cases hsig:Manifest.signature? id with
 | none=>exact wpAny_pure hc
 | some sig =>
  have h2:Bind.checkArgs id sig ⟨args,kw⟩=pure ():=by simp only [argsOk,hsig] at ha;exact ha
  simp only [h2]
  exact wpAny_pure hc
theorem aqh (a:Value):argsOk "min" ⟨[a],[("default",.none)]⟩:=by unfold argsOk;kernel_rfl
theorem aqi (a:Value):argsOk "min" ⟨[a],[]⟩:=by unfold argsOk;kernel_rfl
noncomputable def btD (ds:List PyData) (i j:Nat):Bool:=ltv (ds.getD i .none) (ds.getD j .none)
theorem min_dft {kw:List (Str × Value)} (hkw:kw=[]\/kw=([("default",.none)]:List (Str × Value))) {l:Addr} {us:List Value} {ds:List PyData} {Q:Value->Shared->Prop} (hh:A.handled=none) (hl:s.heap.IsList l us.toArray) (hr:∀ (i:Nat) v,us[i]?=some v->∃ d as,ds[i]?=some d/\Reads s.heap v d as)
  (hc:∀ d∈ds,∀ e∈ds,cmpD d e=true) (hp:∀ d∈ds,aaj d=true) (hu:∀ d∈ds,A.in1.units+d.depth < cLine)
  (h0:us=[]->kw=([("default",.none)]:List (Str × Value))/\∀ h' tk,(∀ b o,s.heap.get? b=some o->h'.get? b=some o)->Q .none { s with heap:=h',toks:=tk })
  (h1:∀ v h' tk,us[argBest (btD ds) (us.length - 1)]?=some v->(∀ b o,s.heap.get? b=some o->h'.get? b=some o)->Q v { s with heap:=h',toks:=tk }) :
  wpAny (model prog w) A (call (.builtin "min") [.ref l] kw) Q E s:=by
 have hlt:l < s.heap.objs.size:=by obtain ⟨_,e,_⟩:=hl;exact Heap.lt_size e
 have hname:(toString "min" ++ toString ".loop" : String) = "min.loop":=by decide
 refine au4 F.kind_min F.plain_min F.entry_min (by rcases hkw with rfl | rfl;exact aqi _;exact aqh _) ?_
 have main:codeAny (model prog w) A (.builtin "min.loop" ⟨[.ref s.heap.objs.size,.none,.ref (s.heap.push { cls:=.type "list_iterator",data:=.fields #[.ref l,.int 0 0] }).objs.size],kw⟩) (fun r s'=>match r with | .ok (.ret v)=>Q v s' | .ok _=>False | .error e=>E e s') { s with heap:=(s.heap.push { cls:=.type "list_iterator",data:=.fields #[.ref l,.int 0 0] }).push { cls:=.type "list",dict:=none,data:=.seq #[] 0,slots:=#[] } }:=by
  have W:=Walks.list (prog:=prog) (w:=w) (A:=A.in1) hh s.heap.objs.size l (Nat.ne_of_lt hlt) us.toArray
  have lt1:s.heap.objs.size < (s.heap.push { cls:=.type "list_iterator",data:=.fields #[.ref l,.int 0 0] }).objs.size:=by rw [Heap.size_push];exact Nat.lt_succ_self _
  refine ao5 (Hd:=fun h=>∀ b o,s.heap.get? b=some o->h.get? b=some o) W (btD ds) (c:=0) ?_ ?_ ?_ ?_ ?_ ?_ ?_ ?_
  ·intro i j vi vj s' Q' E' hH hi hj hq
   obtain ⟨di,ai,ei,ri⟩:=hr i vi (by simpa using hi)
   obtain ⟨dj,aj,ej,rj⟩:=hr j vj (by simpa using hj)
   have mi:=List.mem_of_getElem? ei
   have mj:=List.mem_of_getElem? ej
   refine ahi di dj A.in1 s' vi vj ai aj (PyProof.Rows.Reads.keeps hH ri) (PyProof.Rows.Reads.keeps hH rj) (hc _ mi _ mj) (hp _ mi) (hp _ mj) (hu _ mi) prog w E' Q' ?_
   have:btD ds i j=ltv di dj:=by simp [btD,List.getD,ei,ej]
   rw [← this];exact hq
  ·intro h h' hH hk b o e
   have hb:=Heap.lt_size e
   refine hk b o (fun hm=>?_) (fun hm=>?_) (hH b o e)
   ·have:b=s.heap.objs.size:=by simpa using hm
    rw [this] at hb;exact Nat.lt_irrefl _ hb
   ·rw [hm] at hb;exact Nat.lt_irrefl _ (Nat.lt_trans lt1 hb)
  ·intro hm
   rcases List.mem_cons.mp hm with e | hm
   ·exact Nat.lt_irrefl _ (e ▸ lt1)
   ·have e:=List.mem_singleton.mp hm
    exact Nat.lt_irrefl _ (Nat.lt_trans hlt (e ▸ lt1))
  ·exact ⟨⟨_,Heap.get?_push_of_some _ (Heap.get?_push_size _ rfl),rfl,rfl⟩,(hl.push _).push _⟩
  ·exact fun b o e=>Heap.get?_push_of_some _ (Heap.get?_push_of_some _ e)
  ·exact Heap.get?_push_size _ rfl
  ·intro hn
   have hu0:us=[]:=by
    have:us.length=0:=by simpa using hn
    exact List.length_eq_zero_iff.mp this
   refine ⟨(h0 hu0).1,fun h' tk hk=>(h0 hu0).2 h' tk fun b o e=>?_⟩
   have hb:=Heap.lt_size e
   refine hk b o (fun hm=>?_) (fun hm=>?_) (Heap.get?_push_of_some _ (Heap.get?_push_of_some _ e))
   ·have:b=s.heap.objs.size:=by simpa using hm
    rw [this] at hb;exact Nat.lt_irrefl _ hb
   ·rw [hm] at hb;exact Nat.lt_irrefl _ (Nat.lt_trans lt1 hb)
  ·intro hn v h' tk hv hk
   refine h1 v h' tk (by simpa using hv) fun b o e=>?_
   have hb:=Heap.lt_size e
   refine hk b o (fun hm=>?_) (fun hm=>?_) (Heap.get?_push_of_some _ (Heap.get?_push_of_some _ e))
   ·have:b=s.heap.objs.size:=by simpa using hm
    rw [this] at hb;exact Nat.lt_irrefl _ hb
   ·rw [hm] at hb;exact Nat.lt_irrefl _ (Nat.lt_trans lt1 hb)
 rcases hkw with rfl | rfl
 ·show wpAny _ A.in1 (Builtin.Builtins.bindParams "min" ["key","default"] 0 ⟨[],[]⟩ >>= _) _ _ s
  refine wpAny_bind (wpAny_of_eq (show Builtin.Builtins.bindParams "min" ["key","default"] 0 ⟨[],[]⟩=pure [none,none] from rfl) ?_)
  apply wpAny_bind;apply wpAny_pure
  apply wpAny_bind
  refine wpAny_pyIter_list hl ?_
  refine (wpAny_bind (wpAny_newObj_type ?_))
  rw [hname]
  exact wpAny_pure ⟨plainId_quiet F.plain_min_loop _,main⟩
 ·show wpAny _ A.in1 (Builtin.Builtins.bindParams "min" ["key","default"] 0 ⟨[],[("default",.none)]⟩ >>= _) _ _ s
  refine wpAny_bind (wpAny_of_eq (show Builtin.Builtins.bindParams "min" ["key","default"] 0 ⟨[],[("default",.none)]⟩=pure [none,some .none] from rfl) ?_)
  apply wpAny_bind;apply wpAny_pure
  apply wpAny_bind
  refine wpAny_pyIter_list hl ?_
  refine (wpAny_bind (wpAny_newObj_type ?_))
  rw [hname]
  exact wpAny_pure ⟨plainId_quiet F.plain_min_loop _,main⟩
end
end HT
namespace L2
open PySem PySem.Spec PyProof.Rows
def ao6 (K:Frag):List V->Hp->VK->Prop:=fun xs H Q=>∃ (a:Addr) (vs:List V) (ds:List PyData),xs=[.ref a]/\SqL K H a vs/\vs.length=ds.length/\(∀ (i:Nat) v d,vs[i]?=some v->ds[i]?=some d->Rep H v d)/\(∀ d∈ds,∀ e∈ds,cmpD d e=true)/\(∀ d∈ds,aaj d=true/\d.depth<=60) /\
 (vs=[]->Q .non H)/\∀ v,vs[argBest (HT.btD ds) (vs.length - 1)]?=some v->Q v H
section
variable {X:Cx} {x:Str} {p pos kpos:Pos} {e en:Expr} {t:TA}
theorem au5 (hu:X.A.units+64 < cLine) (hc:X.calm=true) (hg:Gl X "min") (hm:X.mg "min" = none) (ha:PA X [e] t) (hen:PE X en (tC .non))
  (hv:bootBuiltins "min" = some (.builtin "min"):=by decide +kernel)
  (he:backTo pos (starEach [e] X.env)=(false,eval e X.env) :: backTo pos (starEach [] X.env):=by rfl)
  (hpl:(backTo pos (starEach [e] X.env)).any (·.1)=false:=by rfl) :
  PE X (.Call (.Name "min" p) [e] [⟨some "default",en,kpos⟩] pos) (tCB (ao6 X.K) t):=by
 intro pins s σ H Q I h
 refine wpAny_Call_Name_kw (acs I hg hm hv ?_ (by decide) (by decide))
 refine PyProof.Rows.callWith_kw (thn (ha pos pins s σ H _ I h) fun us s1 ⟨vs,H1,I1,r1,q1⟩=>?_) he hpl
 refine thn (auu (nm:=some "default") (kpos:=kpos) hen aw9 pos pins s1 σ H1 (fun zs H2=>zs=[.non]/\H2=H1) I1 ⟨rfl,rfl⟩) fun ws s2 ⟨zs,H2,I2,rz,ez,eH⟩=>?_
 subst ez eH
 obtain ⟨a,xs,ds,rfl,hS,hlen,hrep,hcmp,hpl2,hq0,hq1⟩:=q1
 obtain ⟨u,rfl,ru⟩:=acf r1
 cases ru
 obtain ⟨u2,rfl,ru2⟩:=acf rz
 cases ru2
 show wpAny _ X.A (call (.builtin "min") [.ref a] [("default",.none)]) _ _ s2
 obtain ⟨its,rr,p1,_⟩:=I2.list hS
 have hil:its.length=xs.length:=rr.length.symm
 refine HT.min_dft (.inr rfl) (us:=its) (ds:=ds) (I2.ok.hd hc) (by simpa using p1.isList) (fun i v hv=>?_) hcmp (fun d hd=>(hpl2 d hd).1) (fun d hd=>?_) (fun e0=>⟨rfl,fun h' tk kp=>?_⟩) fun v h' tk hv kp=>?_
 ·have hi:i < xs.length:=by rw [← hil];exact (List.getElem?_eq_some_iff.mp hv).1
  have ex:xs[i]?=some xs[i]:=List.getElem?_eq_getElem hi
  have ed:ds[i]?=some (ds[i]'(by omega)):=List.getElem?_eq_getElem (by omega)
  obtain ⟨u,eu,rel⟩:=rr.get ex
  rw [hv] at eu
  cases eu
  obtain ⟨as,ra⟩:=(hrep i _ _ ex ed).reads I2 rel
  exact ⟨_,as,ed,ra⟩
 ·have:=(hpl2 d hd).2
  show X.A.units+1+d.depth < cLine
  omega
 ·exact ⟨.non,H2,I2.kept kp,rfl,hq0 (by have:=congrArg List.length e0;exact List.length_eq_zero_iff.mp (by rw [← hil];simpa using this))⟩
 ·rw [hil] at hv
  have hi:argBest (HT.btD ds) (xs.length - 1) < xs.length:=by have:=(List.getElem?_eq_some_iff.mp hv).1;omega
  have ex:xs[argBest (HT.btD ds) (xs.length - 1)]?=some xs[argBest (HT.btD ds) (xs.length - 1)]:=List.getElem?_eq_getElem hi
  obtain ⟨u,eu,rel⟩:=rr.get ex
  rw [hv] at eu
  cases eu
  exact ⟨_,H2,I2.kept kp,rel,hq1 _ ex⟩
end
end L2
namespace HT
open PySem PySem.Spec PyProof.Rows
section
variable {prog:Program} {w:World} {A:Around} {E:Value->Shared->Prop} {s:Shared}
end
end HT
namespace L2
open PySem PySem.Spec PyProof.Rows
section
variable {X:Cx}
end
end L2
namespace VL
open PySem PySem.Spec L2
noncomputable def kD:Key->PyData
 | .inl i => .int i
 | .inr x => .str x
mutual
inductive Rp (G:Hp):V->PyData->Prop
 | non:Rp G .non .none
 | bl (b:Bool):Rp G (.bl b) (.bool b)
 | int (i:Int):Rp G (.int i) (.int i)
 | str (x:Str):Rp G (.str x) (.str x)
 | lst {a:Addr} {xs:List V} {ds:List PyData}:G a=some (.lst xs)->Rps G xs ds->Rp G (.ref a) (.list ds)
 | tup {a:Addr} {xs:List V} {ds:List PyData}:G a=some (.tup xs)->Rps G xs ds->Rp G (.ref a) (.tuple ds)
 | dk {a:Addr} {kvs:List (Key × V)} {es:List (Key × PyData)} {ds:List (PyData × PyData)}:G a=some (.dK kvs)->RpK G kvs es->ds=es.map (fun p=>(kD p.1,p.2))->Rp G (.ref a) (.dict ds)
 | dt {a:Addr} {kvs:List (List Key × V)} {es:List (List Key × PyData)} {ds:List (PyData × PyData)}:G a=some (.dT kvs)->RpT G kvs es->ds=es.map (fun p=>(.tuple (p.1.map kD),p.2))->Rp G (.ref a) (.dict ds)
inductive Rps (G:Hp):List V->List PyData->Prop
 | nil:Rps G [] []
 | cons {v:V} {vs:List V} {d:PyData} {ds:List PyData}:Rp G v d->Rps G vs ds->Rps G (v :: vs) (d :: ds)
inductive RpK (G:Hp):List (Key × V)->List (Key × PyData)->Prop
 | nil:RpK G [] []
 | cons {k:Key} {v:V} {d:PyData} {r:List (Key × V)} {s:List (Key × PyData)}:Rp G v d->RpK G r s->RpK G ((k,v) :: r) ((k,d) :: s)
inductive RpT (G:Hp):List (List Key × V)->List (List Key × PyData)->Prop
 | nil:RpT G [] []
 | cons {k:List Key} {v:V} {d:PyData} {r:List (List Key × V)} {s:List (List Key × PyData)}:Rp G v d->RpT G r s->RpT G ((k,v) :: r) ((k,d) :: s)
end
mutual
theorem Rp.same {G G':Hp} (s:Same G G'):∀ {v:V} {d:PyData},Rp G v d->Rp G' v d
 | _,_,.non => .non
 | _,_,.bl b => .bl b
 | _,_,.int i => .int i
 | _,_,.str x => .str x
 | _,_,.lst h r => .lst (s _ _ h) (Rps.same s r)
 | _,_,.tup h r => .tup (s _ _ h) (Rps.same s r)
 | _,_,.dk h r e => .dk (s _ _ h) (RpK.same s r) e
 | _,_,.dt h r e => .dt (s _ _ h) (RpT.same s r) e
theorem Rps.same {G G':Hp} (s:Same G G'):∀ {vs:List V} {ds:List PyData},Rps G vs ds->Rps G' vs ds
 | _,_,.nil => .nil
 | _,_,.cons r t => .cons (Rp.same s r) (Rps.same s t)
theorem RpK.same {G G':Hp} (s:Same G G'):∀ {vs:List (Key × V)} {ds:List (Key × PyData)},RpK G vs ds->RpK G' vs ds
 | _,_,.nil => .nil
 | _,_,.cons r t => .cons (Rp.same s r) (RpK.same s t)
theorem RpT.same {G G':Hp} (s:Same G G'):∀ {vs:List (List Key × V)} {ds:List (List Key × PyData)},RpT G vs ds->RpT G' vs ds
 | _,_,.nil => .nil
 | _,_,.cons r t => .cons (Rp.same s r) (RpT.same s t)
end
theorem Rps.length {G:Hp}:∀ {vs:List V} {ds:List PyData},Rps G vs ds->vs.length=ds.length
 | _,_,.nil=>rfl
 | _,_,.cons _ t=>by simp [Rps.length t]
theorem Rps.get {G:Hp}:∀ {vs:List V} {ds:List PyData} {i:Nat} {d:PyData},Rps G vs ds->ds[i]?=some d->∃ v,vs[i]?=some v/\Rp G v d
 | _,_,_,_,.nil,e=>by simp at e
 | _,_,0,_,.cons r _,e=>by simp at e;subst e;exact ⟨_,rfl,r⟩
 | _,_,i+1,d,.cons _ t,e=>by
  obtain ⟨u,h1,h2⟩:=Rps.get (i:=i) (d:=d) t (by simpa using e)
  exact ⟨u,by simpa using h1,h2⟩
theorem Rps.append {G:Hp}:∀ {vs ws:List V} {ds es:List PyData},Rps G vs ds->Rps G ws es->Rps G (vs ++ ws) (ds ++ es)
 | _,_,_,_,.nil,s=>s
 | _,_,_,_,.cons r t,s => .cons r (Rps.append t s)
theorem Rps.set {G:Hp} {v:V} {d:PyData} (h:Rp G v d):∀ {vs:List V} {ds:List PyData} (i:Nat),Rps G vs ds->Rps G (vs.set i v) (ds.set i d)
 | _,_,_,.nil => .nil
 | _,_,0,.cons _ t => .cons h t
 | _,_,i+1,.cons r t => .cons r (Rps.set h i t)
theorem Rps.erase {G:Hp}:∀ {vs:List V} {ds:List PyData} (i:Nat),Rps G vs ds->Rps G (vs.eraseIdx i) (ds.eraseIdx i)
 | _,_,_,.nil => .nil
 | _,_,0,.cons _ t=>t
 | _,_,i+1,.cons r t => .cons r (Rps.erase i t)
theorem Rps.take {G:Hp}:∀ {vs:List V} {ds:List PyData} (i:Nat),Rps G vs ds->Rps G (vs.take i) (ds.take i)
 | _,_,0,_ => .nil
 | _,_,_+1,.nil => .nil
 | _,_,i+1,.cons r t => .cons r (Rps.take i t)
theorem Rps.drop {G:Hp}:∀ {vs:List V} {ds:List PyData} (i:Nat),Rps G vs ds->Rps G (vs.drop i) (ds.drop i)
 | _,_,0,r=>r
 | _,_,_+1,.nil => .nil
 | _,_,i+1,.cons _ t=>Rps.drop i t
theorem Rps.rep {G:Hp} {vs:List V} {ds:List PyData} (h:Rps G vs ds):∀ (k:Nat),Rps G (List.replicate k vs).flatten (List.replicate k ds).flatten
 | 0 => .nil
 | k+1=>by
  rw [List.replicate_succ,List.replicate_succ,List.flatten_cons,List.flatten_cons]
  exact h.append (Rps.rep h k)
theorem Rps.ints {G:Hp}:∀ (ns:List Int),Rps G (ns.map V.int) (ns.map PyData.int)
 | [] => .nil
 | n :: ns => .cons (.int n) (Rps.ints ns)
theorem Rps.ints_inv {G:Hp}:∀ {ns:List Int} {vs:List V},Rps G vs (ns.map PyData.int)->vs=ns.map V.int
 | [],_,.nil=>rfl
 | n :: ns,_,.cons r t=>by
  cases r
  rw [Rps.ints_inv t];rfl
mutual
theorem Rp.rep {G:Hp}:∀ {v:V} {d:PyData},Rp G v d->aaj d=true->Rep G v d
 | _,_,.non,_ => .non
 | _,_,.bl b,_ => .bl b
 | _,_,.int i,_ => .int i
 | _,_,.str x,_ => .str x
 | _,_,.lst h r,p => .lst h (Rps.reps r (by simpa [aaj] using p))
 | _,_,.tup h r,p => .tup h (Rps.reps r (by simpa [aaj] using p))
 | _,_,.dk h r e,p=>by simp [aaj] at p
 | _,_,.dt h r e,p=>by simp [aaj] at p
theorem Rps.reps {G:Hp}:∀ {vs:List V} {ds:List PyData},Rps G vs ds->plainDs ds=true->Reps G vs ds
 | _,_,.nil,_ => .nil
 | _,_,.cons r t,p=>by
  simp only [plainDs,Bool.and_eq_true] at p
  exact .cons (Rp.rep r p.1) (Rps.reps t p.2)
end
structure Own where
 P:Hp->Hp->V->(Addr->Prop)->Prop
 mono:∀ {G H G' H':Hp} {v:V} {F:Addr->Prop},P G H v F->Same G G'->(∀ a o,F a->H a=some o->H' a=some o)->P G' H' v F
 dom:∀ {G H:Hp} {v:V} {F:Addr->Prop},P G H v F->∀ a,F a->∃ o,H a=some o
inductive Sl where
 | st (d:PyData) | own (A:Own) | io (A:Own) | scr (ns:List Int)
noncomputable abbrev En:=List (Option Sl)
structure Bs where
 K:Frag
 G:Hp
 H:Hp
 R:Hp
 S:St
 F:Nat->Addr->Prop
noncomputable def SlOk (B:Bs) (G H:Hp) (i:Nat) (v:V) (F:Addr->Prop):Sl->Prop
 | .st d=>Rp G v d/\∀ a,¬ F a
 | .own A=>A.P G H v F/\∀ a,F a->B.H a=none
 | .io A=>A.P G H v F/\(∀ a,F a->B.F i a\/B.H a=none)/\B.S[i]?=some (some v)
 | .scr ns=>(∃ a,v=.ref a/\SqL B.K G a (ns.map V.int))/\∀ a,¬ F a
def FT (G H:Hp):Prop:=∀ (a:Addr) (ks:List Key),H a=some (.tup (ks.map kV))->G a=some (.tup (ks.map kV))
structure VI (B:Bs) (G H:Hp) (σ:St) (env:En) (F:Nat->Addr->Prop):Prop where
 gh:Same G H
 g0:Same B.G G
 gn:∀ a o,G a=some o->B.G a=some o\/B.H a=none
 rs:Same B.R H
 rb:Same B.R B.H
 bh:∀ a o,B.H a=some o->∃ o',H a=some o'
 fg:∀ i a,F i a->G a=none
 fr:∀ i a,F i a->B.R a=none
 fd:∀ i j a,F i a->F j a->i=j
 fo:∀ i a,F i a->∃ o,H a=some o
 sl:∀ i s,env[i]?=some (some s)->∃ v,σ[i]?=some (some v)/\SlOk B G H i v (F i) s
 ln : σ.length=env.length
 ft:FT G H
noncomputable def RsOk (G H:Hp) (v:V) (F:Addr->Prop):Sl->Prop
 | .st d=>Rp G v d/\∀ a,¬ F a
 | .own A=>A.P G H v F
 | _=>False
structure RsX (B:Bs) (G H:Hp) (v:V) (Fv:Addr->Prop) (s:Sl) (F:Nat->Addr->Prop):Prop where
 ok:RsOk G H v Fv s
 fb:∀ a,Fv a->B.H a=none
 fg:∀ a,Fv a->G a=none
 fo:∀ a,Fv a->∃ o,H a=some o
 fd:∀ j a,Fv a->¬ F j a
structure Out (G H:Hp) (v:V) (G' H':Hp) (s:Sl) (Fv:Addr->Prop):Prop where
 gg:Same G G'
 gh:Same G' H'
 hh:Same H H'
 gn:∀ a o,G' a=some o->G a=some o\/H a=none
 fn:∀ a,Fv a->H a=none
 fg:∀ a,Fv a->G' a=none
 fo:∀ a,Fv a->∃ o,H' a=some o
 ok:RsOk G' H' v Fv s
 ft:FT G H->FT G' H'
theorem ao7 {α:Type} {o:Option α} (h:o ≠ none):∃ x,o=some x:=by
 cases o with
 | none=>exact absurd rfl h
 | some x=>exact ⟨x,rfl⟩
theorem SlOk.mono {B:Bs} {G H G' H':Hp} {i:Nat} {v:V} {F:Addr->Prop} {s:Sl} (h:SlOk B G H i v F s) (g:Same G G') (hh:∀ a o,F a->H a=some o->H' a=some o):SlOk B G' H' i v F s:=by
 cases s with
 | st d=>exact ⟨h.1.same g,h.2⟩
 | own A=>exact ⟨A.mono h.1 g hh,h.2⟩
 | io A=>exact ⟨A.mono h.1 g hh,h.2⟩
 | scr ns =>
  obtain ⟨⟨a,e,q⟩,n⟩:=h
  exact ⟨⟨a,e,g.seq q⟩,n⟩
section
variable {B:Bs} {G H G' H':Hp} {σ:St} {env:En} {F:Nat->Addr->Prop} {v:V} {s:Sl} {Fv:Addr->Prop}
theorem VI.no_r (I:VI B G H σ env F) {a:Addr} (h:H a=none):B.R a=none:=by
 cases e:B.R a with
 | none=>rfl
 | some o=>rw [I.rs a o e] at h;cases h
theorem VI.no_b (I:VI B G H σ env F) {a:Addr} (h:H a=none):B.H a=none:=by
 cases e:B.H a with
 | none=>rfl
 | some o=>obtain ⟨o',e'⟩:=I.bh a o e;rw [e'] at h;cases h
theorem VI.no_g (I:VI B G H σ env F) {a:Addr} (h:H a=none):G a=none:=by
 cases e:G a with
 | none=>rfl
 | some o=>rw [I.gh a o e] at h;cases h
theorem VI.no_f (I:VI B G H σ env F) {a:Addr} (h:H a=none) (i:Nat):¬ F i a:=fun z=>by
 obtain ⟨o,e⟩:=I.fo i a z;rw [e] at h;cases h
theorem VI.grow (I:VI B G H σ env F) (gg:Same G G') (gh:Same G' H') (hh:Same H H') (gn:∀ a o,G' a=some o->G a=some o\/H a=none) (ft:FT G' H'):VI B G' H' σ env F where
 gh:=gh
 g0:=I.g0.trans gg
 gn:=fun a o e=>by
  rcases gn a o e with e | e
  ·exact I.gn a o e
  ·exact .inr (I.no_b e)
 rs:=I.rs.trans hh
 rb:=I.rb
 bh:=fun a o e=>by obtain ⟨o',e'⟩:=I.bh a o e;exact ⟨o',hh _ _ e'⟩
 fg:=fun i a z=>by
  cases e:G' a with
  | none=>rfl
  | some o =>
   rcases gn a o e with e | e
   ·rw [I.fg i a z] at e;cases e
   ·exact absurd z (I.no_f e i)
 fr:=I.fr
 fd:=I.fd
 fo:=fun i a z=>by obtain ⟨o,e⟩:=I.fo i a z;exact ⟨o,hh _ _ e⟩
 sl:=fun i s e=>by
  obtain ⟨v,e1,e2⟩:=I.sl i s e
  exact ⟨v,e1,e2.mono gg fun a o _ q=>hh _ _ q⟩
 ln:=I.ln
 ft:=ft
theorem VI.out (I:VI B G H σ env F) (o:Out G H v G' H' s Fv):VI B G' H' σ env F/\RsX B G' H' v Fv s F :=
 ⟨I.grow o.gg o.gh o.hh o.gn (o.ft I.ft),o.ok,fun a z=>I.no_b (o.fn a z),o.fg,o.fo,fun j a z y=>I.no_f (o.fn a z) j y⟩
theorem VI.b_r (I:VI B G H σ env F) {a:Addr} (h:B.H a=none):B.R a=none:=by
 cases e:B.R a with
 | none=>rfl
 | some o=>rw [I.rb a o e] at h;cases h
def putF (F:Nat->Addr->Prop) (i:Nat) (Fv:Addr->Prop):Nat->Addr->Prop:=fun j a=>if j=i then Fv a else F j a
theorem putF_same {i:Nat} {a:Addr}:putF F i Fv i a ↔ Fv a:=by unfold putF;rw [if_pos rfl]
theorem ae2 {i:Nat}:putF F i Fv i=Fv:=by funext a;unfold putF;rw [if_pos rfl]
theorem aa5 {i j:Nat} (h:j ≠ i):putF F i Fv j=F j:=by funext a;unfold putF;rw [if_neg h]
theorem VI.slot (I:VI B G H σ env F) (i:Nat) (o:Option V) (os:Option Sl) (fg:∀ a,Fv a->G a=none) (fr:∀ a,Fv a->B.R a=none) (fo:∀ a,Fv a->∃ o,H a=some o) (fd:∀ j a,j ≠ i->Fv a->¬ F j a)
  (ok:∀ s,os=some s->∃ v,o=some v/\SlOk B G H i v Fv s):VI B G H (σ.set i o) (env.set i os) (putF F i Fv) where
 gh:=I.gh
 g0:=I.g0
 gn:=I.gn
 rs:=I.rs
 rb:=I.rb
 bh:=I.bh
 fg:=fun j a z=>by
  by_cases h:j=i
  ·subst h;exact fg a (putF_same.mp z)
  ·rw [aa5 h] at z;exact I.fg j a z
 fr:=fun j a z=>by
  by_cases h:j=i
  ·subst h;exact fr a (putF_same.mp z)
  ·rw [aa5 h] at z;exact I.fr j a z
 fd:=fun j k a y z=>by
  by_cases h:j=i
  ·by_cases g:k=i
   ·rw [h,g]
   ·subst h;rw [aa5 g] at z;exact absurd z (fd k a g (putF_same.mp y))
  ·by_cases g:k=i
   ·subst g;rw [aa5 h] at y;exact absurd y (fd j a h (putF_same.mp z))
   ·rw [aa5 h] at y;rw [aa5 g] at z;exact I.fd j k a y z
 fo:=fun j a z=>by
  by_cases h:j=i
  ·subst h;exact fo a (putF_same.mp z)
  ·rw [aa5 h] at z;exact I.fo j a z
 sl:=fun j t e=>by
  by_cases h:j=i
  ·subst h
   rw [List.getElem?_set,if_pos rfl] at e
   by_cases hl:j < env.length
   ·rw [if_pos hl] at e
    obtain ⟨v,hv,q⟩:=ok t (Option.some.inj e)
    refine ⟨v,by rw [List.getElem?_set,if_pos rfl,if_pos (by rw [I.ln];exact hl),hv],?_⟩
    rw [ae2];exact q
   ·rw [if_neg hl] at e;cases e
  ·rw [List.getElem?_set,if_neg (fun z=>h z.symm)] at e
   obtain ⟨v,hv,q⟩:=I.sl j t e
   refine ⟨v,by rw [List.getElem?_set,if_neg (fun z=>h z.symm)];exact hv,?_⟩
   rw [aa5 h];exact q
 ln:=by simp [I.ln]
 ft:=I.ft
theorem VI.store (I:VI B G H σ env F) (r:RsX B G H v Fv s F) (i:Nat):VI B G H (σ.set i (some v)) (env.set i (some s)) (putF F i Fv):=by
 refine I.slot i (some v) (some s) r.fg (fun a z=>I.b_r (r.fb a z)) r.fo (fun j a _ z=>r.fd j a z) fun t e=>?_
 cases e
 refine ⟨v,rfl,?_⟩
 have:=r.ok
 cases s with
 | st d=>exact this
 | own A=>exact ⟨this,r.fb⟩
 | io A=>exact this.elim
 | scr ns=>exact this.elim
theorem VI.drop (I:VI B G H σ env F) (i:Nat):VI B G H σ (env.set i none) (putF F i fun _=>False):=by
 have:=I.slot (Fv:=fun _=>False) i ((σ[i]?).getD none) none (fun a z=>z.elim) (fun a z=>z.elim) (fun a z=>z.elim) (fun j a _ z=>z.elim) (fun s e=>by cases e)
 rwa [show σ.set i ((σ[i]?).getD none) = σ from ?_] at this
 apply List.ext_getElem?
 intro j
 rw [List.getElem?_set]
 by_cases h:i=j
 ·subst h
  rw [if_pos rfl]
  by_cases hl:i < σ.length
  ·rw [if_pos hl,List.getElem?_eq_getElem hl];rfl
  ·rw [if_neg hl,List.getElem?_eq_none_iff.mpr (by omega)]
 ·rw [if_neg h]
theorem VI.change {A:Own} (I:VI B G H σ env F) (i:Nat) {H2:Hp} {F2:Addr->Prop} {os os':Sl} (e:env[i]?=some (some os)) (hv : σ[i]?=some (some v))
  (keep:∀ a o,¬ F i a->H a=some o->H2 a=some o) (dm:∀ a o,H a=some o->∃ o',H2 a=some o') (f2:∀ a,F2 a->(F i a\/H a=none)/\∃ o,H2 a=some o) (hp:A.P G H2 v F2) (ht:FT G H2)
  (hs:(os'=.own A/\∃ A0,os=.own A0)\/(os'=.io A/\∃ A0,os=.io A0)):VI B G H2 σ (env.set i (some os')) (putF F i F2):=by
 obtain ⟨v',hv',q⟩:=I.sl i os e
 rw [hv] at hv';cases hv'
 have nf:∀ j a,j ≠ i->F j a->¬ F i a:=fun j a hj y z=>hj (I.fd j i a y z)
 have g2:∀ a,F2 a->G a=none:=fun a z=>by
  rcases (f2 a z).1 with y | y
  ·exact I.fg i a y
  ·exact I.no_g y
 have J:VI B G H2 σ (env.set i none) (putF F i fun _=>False):=by
  have D:=I.drop i
  refine ⟨fun a o x=>keep a o (fun z=>by rw [I.fg i a z] at x;cases x) (I.gh a o x),D.g0,D.gn,fun a o x=>keep a o (fun z=>by rw [I.fr i a z] at x;cases x) (I.rs a o x),D.rb,fun a o x=>?_,D.fg,D.fr,D.fd,fun j a z=>?_,fun j s x=>?_,D.ln,ht⟩
  ·obtain ⟨o',x'⟩:=I.bh a o x
   exact dm a o' x'
  ·obtain ⟨o,x⟩:=D.fo j a z
   exact dm a o x
  ·obtain ⟨u,h1,h2⟩:=D.sl j s x
   refine ⟨u,h1,h2.mono (Same.refl G) fun a o z y=>?_⟩
   by_cases hj:j=i
   ·subst hj;exact (putF_same.mp z).elim
   ·rw [aa5 hj] at z
    exact keep a o (nf j a hj z) y
 have J2:=J.slot (Fv:=F2) i (some v) (some os') g2 (fun a z=>by
   rcases (f2 a z).1 with y | y
   ·exact I.fr i a y
   ·exact I.no_r y) (fun a z=>(f2 a z).2) (fun j a hj z y=>by
   rw [aa5 hj] at y
   rcases (f2 a z).1 with x | x
   ·exact nf j a hj y x
   ·exact I.no_f x j y) fun t et=>by
   cases et
   refine ⟨v,rfl,?_⟩
   rcases hs with ⟨rfl,A0,rfl⟩ | ⟨rfl,A0,rfl⟩
   ·refine ⟨hp,fun a z=>?_⟩
    rcases (f2 a z).1 with y | y
    ·exact q.2 a y
    ·exact I.no_b y
   ·refine ⟨hp,fun a z=>?_,q.2.2⟩
    rcases (f2 a z).1 with y | y
    ·exact q.2.1 a y
    ·exact .inr (I.no_b y)
 have e1 : σ.set i (some v) = σ:=by
  apply List.ext_getElem?
  intro j
  rw [List.getElem?_set]
  by_cases h:i=j
  ·subst h
   rw [if_pos rfl,hv,if_pos (List.getElem?_eq_some_iff.mp hv).1]
  ·rw [if_neg h]
 have e2:(env.set i none).set i (some os')=env.set i (some os'):=by simp
 have e3:putF (putF F i fun _=>False) i F2=putF F i F2:=by
  funext j a
  by_cases h:j=i
  ·subst h;rw [ae2,ae2]
  ·rw [aa5 h,aa5 h,aa5 h]
 rw [e1,e2,e3] at J2
 exact J2
end
open Classical in
noncomputable def jn (G H:Hp) (F:Addr->Prop):Hp:=fun a=>if F a then H a else G a
theorem agf {G H:Hp} {F:Addr->Prop} {a:Addr} (h:F a):jn G H F a=H a:=if_pos h
theorem akd {G H:Hp} {F:Addr->Prop} {a:Addr} (h:¬ F a):jn G H F a=G a:=if_neg h
theorem abl {G H:Hp} {F:Addr->Prop} (h:∀ a,F a->G a=none):Same G (jn G H F):=fun a o e=>by
 rw [akd (fun z=>by rw [h a z] at e;cases e)];exact e
theorem ao8 {G H:Hp} {F:Addr->Prop} (h:Same G H):Same (jn G H F) H:=fun a o e=>by
 by_cases z:F a
 ·rw [agf z] at e;exact e
 ·rw [akd z] at e;exact h a o e
def Frz (A:Own) (d:PyData):Prop:=∀ (G H:Hp) (v:V) (F:Addr->Prop),A.P G H v F->(∀ a,F a->G a=none)->Same G H->Rp (jn G H F) v d
noncomputable def FQ:Sl->(PyData->Prop)->Prop
 | .st d,R=>R d
 | .own A,R=>∃ d,Frz A d/\R d
 | _,_=>False
noncomputable def OL (ds:List PyData):Own where
 P:=fun G H v F=>∃ a vs,v=.ref a/\H a=some (.lst vs)/\Rps G vs ds/\∀ b,F b ↔ b=a
 mono:=fun ⟨a,vs,e,h,r,f⟩ g hh=>⟨a,vs,e,hh a _ ((f a).mpr rfl) h,r.same g,f⟩
 dom:=fun ⟨a,vs,e,h,r,f⟩ b z=>by rw [(f b).mp z];exact ⟨_,h⟩
theorem abg {ds:List PyData}:Frz (OL ds) (.list ds):=fun G H v F ⟨a,vs,e,h,r,f⟩ n g=>by
 subst e
 exact .lst (by rw [agf ((f a).mpr rfl)];exact h) (r.same (abl n))
theorem azj {d:PyData} {R:PyData->Prop} (h:R d):FQ (.st d) R:=h
theorem ad5 {ds:List PyData} {R:PyData->Prop} (h:R (.list ds)):FQ (.own (OL ds)) R:=⟨_,abg,h⟩
section
variable {B:Bs} {G H G' H':Hp} {σ:St} {env:En} {F:Nat->Addr->Prop} {v:V} {s:Sl} {Fv:Addr->Prop}
theorem VI.freeze (I:VI B G H σ env F) (fb:∀ a,Fv a->B.H a=none) (fd:∀ j a,Fv a->¬ F j a) (fg:∀ a,Fv a->G a=none):VI B (jn G H Fv) H σ env F where
 gh:=ao8 I.gh
 g0:=I.g0.trans (abl fg)
 gn:=fun a o e=>by
  by_cases z:Fv a
  ·exact .inr (fb a z)
  ·rw [akd z] at e;exact I.gn a o e
 rs:=I.rs
 rb:=I.rb
 bh:=I.bh
 fg:=fun i a z=>by
  rw [akd (fun y=>fd i a y z)];exact I.fg i a z
 fr:=I.fr
 fd:=I.fd
 fo:=I.fo
 sl:=fun i s e=>by
  obtain ⟨v,e1,e2⟩:=I.sl i s e
  exact ⟨v,e1,e2.mono (abl fg) fun a o _ q=>q⟩
 ln:=I.ln
 ft:=fun a ks e=>abl fg _ _ (I.ft a ks e)
theorem VI.frz {A:Own} {d:PyData} {i:Nat} (I:VI B G H σ env F) (e:env[i]?=some (some (.own A))) (f:Frz A d) :
  ∃ v,σ[i]?=some (some v)/\Rp (jn G H (F i)) v d/\Same G (jn G H (F i))/\VI B (jn G H (F i)) H σ (env.set i (some (.st d))) (putF F i fun _=>False):=by
 obtain ⟨v,hv,q⟩:=I.sl i _ e
 have hr:=f G H v (F i) q.1 (I.fg i) I.gh
 refine ⟨v,hv,hr,abl (I.fg i),?_⟩
 have D:=(I.drop i).freeze (Fv:=F i) q.2 (fun j a z y=>by
  by_cases h:j=i
  ·subst h;exact (putF_same.mp y).elim
  ·rw [aa5 h] at y;exact h (I.fd j i a y z)) (I.fg i)
 have J:=D.slot (Fv:=fun _=>False) i (some v) (some (.st d)) (fun a z=>z.elim) (fun a z=>z.elim) (fun a z=>z.elim) (fun j a _ z=>z.elim) (fun t et=>by cases et;exact ⟨v,rfl,hr,fun a z=>z⟩)
 have e1 : σ.set i (some v) = σ:=by
  apply List.ext_getElem?
  intro j
  rw [List.getElem?_set]
  by_cases h:i=j
  ·subst h
   rw [if_pos rfl,hv,if_pos (List.getElem?_eq_some_iff.mp hv).1]
  ·rw [if_neg h]
 have e3:putF (putF F i fun _=>False) i (fun _=>False)=putF F i fun _=>False:=by
  funext j a
  by_cases h:j=i
  ·subst h;rw [ae2,ae2]
  ·rw [aa5 h,aa5 h]
 rw [e1,e3,List.set_set] at J
 exact J
theorem Out.refl {d:PyData} (g:Same G H) (r:Rp G v d):Out G H v G H (.st d) (fun _=>False):=⟨Same.refl _,g,Same.refl _,fun a o e => .inl e,fun a z=>z.elim,fun a z=>z.elim,fun a z=>z.elim,⟨r,fun a z=>z⟩,fun t=>t⟩
theorem au6 {p:Addr} {o:HO} (g:Same G H) (h:H p=none):Same (upd G p o) (upd H p o):=fun a u e=>by
 by_cases z:a=p
 ·subst z;rw [aam] at e ⊢;exact e
 ·rw [aag z] at e ⊢;exact g a u e
theorem ab8 {p:Addr} (g:Same G H) (h:H p=none):G p=none:=by
 cases e:G p with
 | none=>rfl
 | some o=>rw [g p o e] at h;cases h
theorem Out.newT {p:Addr} {xs:List V} {ds:List PyData} (g:Same G H) (h:H p=none) (r:Rps G xs ds):Out G H (.ref p) (upd G p (.tup xs)) (upd H p (.tup xs)) (.st (.tuple ds)) (fun _=>False) where
 gg:=abo (ab8 g h)
 gh:=au6 g h
 hh:=abo h
 gn:=fun a o e=>by
  by_cases z:a=p
  ·subst z;exact .inr h
  ·rw [aag z] at e;exact .inl e
 fn:=fun a z=>z.elim
 fg:=fun a z=>z.elim
 fo:=fun a z=>z.elim
 ok:=⟨.tup aam (r.same (abo (ab8 g h))),fun a z=>z⟩
 ft:=fun t a ks e=>by
  by_cases z:a=p
  ·subst z;rw [aam] at e ⊢;exact e
  ·rw [aag z] at e ⊢;exact t a ks e
theorem Out.newO {p:Addr} {o:HO} {A:Own} (g:Same G H) (h:H p=none) (nt:∀ xs,o ≠ .tup xs) (r:A.P G (upd H p o) (.ref p) (· = p)):Out G H (.ref p) G (upd H p o) (.own A) (· = p) where
 gg:=Same.refl _
 gh:=g.trans (abo h)
 hh:=abo h
 gn:=fun a o e => .inl e
 fn:=fun a z=>by rw [z];exact h
 fg:=fun a z=>by rw [z];exact ab8 g h
 fo:=fun a z=>by rw [z];exact ⟨_,aam⟩
 ok:=r
 ft:=fun t a ks e=>by
  by_cases z:a=p
  ·subst z;rw [aam] at e;exact absurd (Option.some.inj e) (nt _)
  ·rw [aag z] at e;exact t a ks e
theorem Out.newL {p:Addr} {xs:List V} {ds:List PyData} (g:Same G H) (h:H p=none) (r:Rps G xs ds):Out G H (.ref p) G (upd H p (.lst xs)) (.own (OL ds)) (· = p) :=
 .newO g h (fun _ z=>nomatch z) ⟨p,xs,rfl,aam,r,fun b=>Iff.rfl⟩
end
def EvO (B:Bs) (te:TE) (env:En) (Q':Sl->En->Prop):Prop:=∀ (σ:St) (G H:Hp) (F:Nat->Addr->Prop) (Q:VK),VI B G H σ env F ->
 (∀ v G' H' F' Fv s env',VI B G' H' σ env' F'->Same G G'->RsX B G' H' v Fv s F'->Q' s env'->Q v H')->te σ H Q
def Ev (B:Bs) (te:TE) (env:En) (Q':PyData->En->Prop):Prop:=∀ (σ:St) (G H:Hp) (F:Nat->Addr->Prop) (Q:VK),VI B G H σ env F ->
 (∀ v G' H' F' d env',VI B G' H' σ env' F'->Same G G'->Rp G' v d->Q' d env'->Q v H')->te σ H Q
def EvT (B:Bs) (tt:TT) (env:En) (Q':Bool->En->Prop):Prop:=∀ (σ:St) (G H:Hp) (F:Nat->Addr->Prop) (Q:Bool->Hp->Prop),VI B G H σ env F ->
 (∀ b G' H' F' env',VI B G' H' σ env' F'->Same G G'->Q' b env'->Q b H')->tt σ H Q
def EvA (B:Bs) (ta:TA) (env:En) (Q':List PyData->En->Prop):Prop:=∀ (σ:St) (G H:Hp) (F:Nat->Addr->Prop) (Q:List V->Hp->Prop),VI B G H σ env F ->
 (∀ vs G' H' F' ds env',VI B G' H' σ env' F'->Same G G'->Rps G' vs ds->Q' ds env'->Q vs H')->ta σ H Q
structure ItOk (G:Hp) (J:It) (ds:List PyData):Prop where
 go:∀ i G' H',Same G G'->Same G' H'->i < ds.length->J.go i H'
 stop:∀ i G' H',Same G G'->Same G' H'->i=ds.length->J.stop i H'
 yld:∀ i G' H' x H'' d,Same G G'->Same G' H'->FT G' H'->ds[i]?=some d->J.yld i H' x H''->∃ G'',Out G' H' x G'' H'' (.st d) (fun _=>False)
def EvI (B:Bs) (ti:TI) (env:En) (Q':List PyData->En->Prop):Prop:=∀ (σ:St) (G H:Hp) (F:Nat->Addr->Prop) (R:It->Hp->Prop),VI B G H σ env F ->
 (∀ J G' H' F' ds env',VI B G' H' σ env' F'->Same G G'->ItOk G' J ds->Q' ds env'->R J H')->ti σ H R
def EvG (B:Bs) (g:TG) (s:Sl) (env:En) (Q':En->Prop):Prop:=∀ (σ:St) (G H:Hp) (F:Nat->Addr->Prop) (v:V) (Fv:Addr->Prop) (Q:St->Hp->Prop),VI B G H σ env F->RsX B G H v Fv s F ->
 (∀ σ' G' H' F' env',VI B G' H' σ' env' F'->Same G G'->Q' env'->Q σ' H')->g v σ H Q
def EvGs (B:Bs) (g:TGs) (ds:List PyData) (env:En) (Q':En->Prop):Prop:=∀ (σ:St) (G H:Hp) (F:Nat->Addr->Prop) (vs:List V) (Q:St->Hp->Prop),VI B G H σ env F->Rps G vs ds ->
 (∀ σ' G' H' F' env',VI B G' H' σ' env' F'->Same G G'->Q' env'->Q σ' H')->g vs σ H Q
structure VEnds where
 nx:En->Prop
 rt:Sl->En->Prop
 bk:En->Prop:=fun _=>False
 ct:En->Prop:=fun _=>False
structure RelE (B:Bs) (G:Hp) (D:Ends) (D':VEnds):Prop where
 nx:∀ σ G' H F env,VI B G' H σ env F->Same G G'->D'.nx env->D.nx σ H
 rt:∀ σ G' H F env v Fv s,VI B G' H σ env F->Same G G'->RsX B G' H v Fv s F->D'.rt s env->D.rt v H
 bk:∀ σ G' H F env,VI B G' H σ env F->Same G G'->D'.bk env->D.bk σ H
 ct:∀ σ G' H F env,VI B G' H σ env F->Same G G'->D'.ct env->D.ct σ H
def EvS (B:Bs) (ts:TS) (D':VEnds) (env:En):Prop:=∀ (σ:St) (G H:Hp) (F:Nat->Addr->Prop) (D:Ends),VI B G H σ env F->RelE B G D D'->ts D σ H
theorem RelE.later {B:Bs} {G G':Hp} {D:Ends} {D':VEnds} (r:RelE B G D D') (g:Same G G'):RelE B G' D D' :=
 ⟨fun σ G2 H F env I q=>r.nx σ G2 H F env I (g.trans q),fun σ G2 H F env v Fv s I q=>r.rt σ G2 H F env v Fv s I (g.trans q),fun σ G2 H F env I q=>r.bk σ G2 H F env I (g.trans q),fun σ G2 H F env I q=>r.ct σ G2 H F env I (g.trans q)⟩
section
variable {B:Bs} {env:En} {Q':PyData->En->Prop} {QO:Sl->En->Prop} {QT:Bool->En->Prop} {QA:List PyData->En->Prop} {te ta tb:TE}
theorem adt {G H:Hp} {v:V} {d:PyData} {F:Nat->Addr->Prop} (r:Rp G v d):RsX B G H v (fun _=>False) (.st d) F:=⟨⟨r,fun a z=>z⟩,fun a z=>z.elim,fun a z=>z.elim,fun a z=>z.elim,fun j a z=>z.elim⟩
theorem abh (h:Ev B te env fun d e=>QO (.st d) e):EvO B te env QO:=fun σ G H F Q I k =>
 h σ G H F Q I fun v G' H' F' d env' I' g r q=>k v G' H' F' _ (.st d) env' I' g (adt r) q
theorem abp (h:EvO B te env fun s e=>FQ s fun d=>Q' d e):Ev B te env Q':=fun σ G H F Q I k =>
 h σ G H F Q I fun v G' H' F' Fv s env' I' g r q=>by
  cases s with
  | st d=>exact k v G' H' F' d env' I' g r.ok.1 q
  | own A =>
   obtain ⟨d,f,q⟩:=q
   exact k v _ H' F' d env' (I'.freeze r.fb r.fd r.fg) (g.trans (abl r.fg)) (f G' H' v Fv r.ok r.fg I'.gh) q
  | io A=>exact q.elim
  | scr ns=>exact q.elim
theorem axs {i:Nat} {d:PyData} (e:env[i]?=some (some (.st d))) (q:Q' d env):Ev B (tVar i) env Q':=fun σ G H F Q I k=>by
 obtain ⟨v,hv,r⟩:=I.sl i _ e
 exact ⟨v,hv,k v G H F d env I (Same.refl _) r.1 q⟩
theorem au7 {i:Nat} {A:Own} {d:PyData} (e:env[i]?=some (some (.own A))) (f:Frz A d) (q:Q' d (env.set i (some (.st d)))):Ev B (tVar i) env Q':=fun σ G H F Q I k=>by
 obtain ⟨v,hv,r,g,J⟩:=I.frz e f
 exact ⟨v,hv,k v _ H _ d _ J g r q⟩
theorem ar5 {i:Nat} {A:Own} (e:env[i]?=some (some (.own A))) (q:QO (.own A) (env.set i none)):EvO B (tVar i) env QO:=fun σ G H F Q I k=>by
 obtain ⟨v,hv,r⟩:=I.sl i _ e
 refine ⟨v,hv,k v G H _ (F i) (.own A) _ (I.drop i) (Same.refl _) ⟨r.1,r.2,I.fg i,I.fo i,fun j a z y=>?_⟩ q⟩
 by_cases h:j=i
 ·subst h;exact putF_same.mp y
 ·rw [aa5 h] at y;exact h (I.fd j i a y z)
theorem axt {i:Int} (q:Q' (.int i) env):Ev B (tC (.int i)) env Q':=fun σ G H F Q I k=>k _ G H F _ env I (Same.refl _) (.int i) q
theorem azk {b:Bool} (q:Q' (.bool b) env):Ev B (tC (.bl b)) env Q':=fun σ G H F Q I k=>k _ G H F _ env I (Same.refl _) (.bl b) q
theorem axu (q:Q' .none env):Ev B (tC .non) env Q':=fun σ G H F Q I k=>k _ G H F _ env I (Same.refl _) .non q
def Op2 (r:R2) (x y:PyData) (R:Sl->Prop):Prop:=∀ (G H:Hp) (vx vy:V) (Q:VK),Same G H->Rp G vx x->Rp G vy y->(∀ v G' H' s Fv,Out G H v G' H' s Fv->R s->Q v H')->r vx vy H Q
def Op1 (r:V->Hp->VK->Prop) (x:PyData) (R:Sl->Prop):Prop:=∀ (G H:Hp) (vx:V) (Q:VK),Same G H->Rp G vx x->(∀ v G' H' s Fv,Out G H v G' H' s Fv->R s->Q v H')->r vx H Q
def OpA (r:List V->Hp->VK->Prop) (ds:List PyData) (R:Sl->Prop):Prop:=∀ (G H:Hp) (vs:List V) (Q:VK),Same G H->Rps G vs ds->(∀ v G' H' s Fv,Out G H v G' H' s Fv->R s->Q v H')->r vs H Q
theorem alf {r:R2} (h:Ev B ta env fun x e1=>Ev B tb e1 fun y e2=>Op2 r x y fun s=>QO s e2):EvO B (tOp r ta tb) env QO:=fun σ G H F Q I k =>
 h σ G H F _ I fun v1 G1 H1 F1 x e1 I1 g1 r1 q1=>q1 σ G1 H1 F1 _ I1 fun v2 G2 H2 F2 y e2 I2 g2 r2 q2 =>
  q2 G2 H2 v1 v2 Q I2.gh (r1.same g2) r2 fun v G3 H3 s Fv o q3=>k v G3 H3 F2 Fv s e2 (I2.out o).1 (g1.trans (g2.trans o.gg)) (I2.out o).2 q3
theorem azl {r:R2} (h:Ev B ta env fun x e1=>Ev B tb e1 fun y e2=>Op2 r x y fun s=>FQ s fun d=>Q' d e2):Ev B (tOp r ta tb) env Q':=abp (alf h)
theorem axv {r:V->Hp->VK->Prop} (h:Ev B ta env fun x e1=>Op1 r x fun s=>QO s e1):EvO B (tUn r ta) env QO:=fun σ G H F Q I k =>
 h σ G H F _ I fun v1 G1 H1 F1 x e1 I1 g1 r1 q1=>q1 G1 H1 v1 Q I1.gh r1 fun v G3 H3 s Fv o q3=>k v G3 H3 F1 Fv s e1 (I1.out o).1 (g1.trans o.gg) (I1.out o).2 q3
theorem azm {r:V->Hp->VK->Prop} (h:Ev B ta env fun x e1=>Op1 r x fun s=>FQ s fun d=>Q' d e1):Ev B (tUn r ta) env Q':=abp (axv h)
theorem anj (q:QA [] env):EvA B tNil env QA:=fun σ G H F Q I k=>k [] G H F [] env I (Same.refl _) .nil q
theorem ar6 {tr:TA} (h:Ev B ta env fun x e1=>EvA B tr e1 fun xs e2=>QA (x :: xs) e2):EvA B (aa6 ta tr) env QA:=fun σ G H F Q I k =>
 h σ G H F _ I fun v1 G1 H1 F1 x e1 I1 g1 r1 q1=>q1 σ G1 H1 F1 _ I1 fun vs G2 H2 F2 ds e2 I2 g2 r2 q2=>k _ G2 H2 F2 _ e2 I2 (g1.trans g2) (.cons (r1.same g2) r2) q2
theorem aqj {r:List V->Hp->VK->Prop} {t:TA} (h:EvA B t env fun ds e1=>OpA r ds fun s=>QO s e1):EvO B (tCB r t) env QO:=fun σ G H F Q I k =>
 h σ G H F _ I fun vs G1 H1 F1 ds e1 I1 g1 r1 q1=>q1 G1 H1 vs Q I1.gh r1 fun v G3 H3 s Fv o q3=>k v G3 H3 F1 Fv s e1 (I1.out o).1 (g1.trans o.gg) (I1.out o).2 q3
theorem azn {r:List V->Hp->VK->Prop} {t:TA} (h:EvA B t env fun ds e1=>OpA r ds fun s=>FQ s fun d=>Q' d e1):Ev B (tCB r t) env Q':=abp (aqj h)
theorem ank {t:TA} (h:EvA B t env fun ds e1=>ds.length<=1000/\QO (.st (.tuple ds)) e1):EvO B (tTup t) env QO:=fun σ G H F Q I k =>
 h σ G H F _ I fun vs G1 H1 F1 ds e1 I1 g1 r1 q1=>⟨by rw [r1.length];exact Nat.le_of_lt (aej q1.1),fun p hp=>by
  have o:=Out.newT I1.gh hp r1
  exact k _ _ _ F1 _ _ e1 (I1.out o).1 (g1.trans o.gg) (I1.out o).2 q1.2⟩
theorem axw {t:TA} (h:EvA B t env fun ds e1=>ds.length<=1000/\Q' (.tuple ds) e1):Ev B (tTup t) env Q':=abp (ank h)
theorem anl {t:TA} (h:EvA B t env fun ds e1=>ds.length<=1000/\QO (.own (OL ds)) e1):EvO B (tLst t) env QO:=fun σ G H F Q I k =>
 h σ G H F _ I fun vs G1 H1 F1 ds e1 I1 g1 r1 q1=>⟨by rw [r1.length];exact Nat.le_of_lt (aej q1.1),fun p hp=>by
  have o:=Out.newL I1.gh hp r1
  exact k _ _ _ F1 _ _ e1 (I1.out o).1 (g1.trans o.gg) (I1.out o).2 q1.2⟩
theorem axx {t:TA} (h:EvA B t env fun ds e1=>ds.length<=1000/\Q' (.list ds) e1):Ev B (tLst t) env Q':=abp (anl fun σ G H F Q I k=>h σ G H F Q I fun vs G' H' F' ds e1 I' g r q=>k vs G' H' F' ds e1 I' g r ⟨q.1,ad5 q.2⟩)
theorem ag2 (h:Ev B te env fun x e1=>∃ b,x=.bool b/\QT b e1):EvT B (at8 te) env QT:=fun σ G H F Q I k =>
 h σ G H F _ I fun v G1 H1 F1 x e1 I1 g1 r1 z_=>by
  obtain ⟨b,e,q⟩:=z_
  subst e
  cases r1
  exact ⟨b,rfl,k b G1 H1 F1 e1 I1 g1 q⟩
theorem azo (h:Ev B te env fun x e1=>∃ b,x=.bool b/\QT b e1):EvT B (tB te) env QT:=ag2 h
theorem x_bl {b:Bool} {R:Bool->Prop} (h:R b):∃ c,PyData.bool b=.bool c/\R c:=⟨b,rfl,h⟩
theorem au8 {t u:TT} (h:EvT B t env fun c e1=>if c=true then EvT B u e1 QT else QT false e1):EvT B (tAnd t u) env QT:=fun σ G H F Q I k =>
 h σ G H F _ I fun b G1 H1 F1 e1 I1 g1 q=>by
  cases b with
  | true=>rw [if_pos rfl] at q ⊢;exact q σ G1 H1 F1 Q I1 fun c G2 H2 F2 e2 I2 g2 q2=>k c G2 H2 F2 e2 I2 (g1.trans g2) q2
  | false=>rw [if_neg Bool.false_ne_true] at q ⊢;exact k false G1 H1 F1 e1 I1 g1 q
theorem axy {t u:TT} (h:EvT B t env fun c e1=>if c=true then QT true e1 else EvT B u e1 QT):EvT B (tOr t u) env QT:=fun σ G H F Q I k =>
 h σ G H F _ I fun b G1 H1 F1 e1 I1 g1 q=>by
  cases b with
  | false=>rw [if_neg Bool.false_ne_true] at q ⊢;exact q σ G1 H1 F1 Q I1 fun c G2 H2 F2 e2 I2 g2 q2=>k c G2 H2 F2 e2 I2 (g1.trans g2) q2
  | true=>rw [if_pos rfl] at q ⊢;exact k true G1 H1 F1 e1 I1 g1 q
theorem anm {t:TT} (h:EvT B t env fun c e1=>QT (!c) e1):EvT B (tNot t) env QT:=fun σ G H F Q I k =>
 h σ G H F _ I fun b G1 H1 F1 e1 I1 g1 q=>k (!b) G1 H1 F1 e1 I1 g1 q
theorem ae3 (q:QT true env):EvT B tYes env QT:=fun σ G H F Q I k=>k true G H F env I (Same.refl _) q
noncomputable def TruD:PyData->Bool->Prop
 | .bool b,k=>k=b
 | .list ds,k=>k = !ds.isEmpty
 | _,_=>False
theorem au9 {K:Frag} (h:Ev B te env fun x e1=>∃ b,TruD x b/\QT b e1):EvT B (tTru K te) env QT:=fun σ G H F Q I k =>
 h σ G H F _ I fun v G1 H1 F1 x e1 I1 g1 r1 z_=>by
  obtain ⟨b,e,q⟩:=z_
  cases r1 with
  | bl c=>cases e;exact ⟨_,rfl,k _ G1 H1 F1 e1 I1 g1 q⟩
  | lst ha rs =>
   refine ⟨b,.inl ⟨_,SqL.of (I1.gh _ _ ha),?_⟩,k _ G1 H1 F1 e1 I1 g1 q⟩
   have e':b = !_:=e
   rw [e']
   cases rs <;> rfl
  | _=>exact e.elim
theorem ava (h:Ev B ta env fun x e1=>∃ b,x=.bool b/\if b=true then Ev B tb e1 Q' else Q' (.bool false) e1):Ev B (aon ta tb) env Q':=fun σ G H F Q I k =>
 h σ G H F _ I fun v G1 H1 F1 x e1 I1 g1 r1 z_=>by
  obtain ⟨b,e,q⟩:=z_
  subst e
  cases r1
  refine ⟨b,rfl,?_⟩
  cases b with
  | true=>rw [if_pos rfl] at q ⊢;exact q σ G1 H1 F1 Q I1 fun v G2 H2 F2 d e2 I2 g2 r2 q2=>k v G2 H2 F2 d e2 I2 (g1.trans g2) r2 q2
  | false=>rw [if_neg Bool.false_ne_true] at q ⊢;exact k _ G1 H1 F1 _ e1 I1 g1 (.bl false) q
theorem avb (h:Ev B ta env fun x e1=>∃ b,x=.bool b/\Q' (.bool (!b)) e1):Ev B (aoo ta) env Q':=fun σ G H F Q I k =>
 h σ G H F _ I fun v G1 H1 F1 x e1 I1 g1 r1 z_=>by
  obtain ⟨b,e,q⟩:=z_
  subst e
  cases r1
  exact ⟨b,rfl,k _ G1 H1 F1 _ e1 I1 g1 (.bl _) q⟩
theorem ar7 {r r':R2} {tc:TE} (h:Ev B ta env fun x e1=>Ev B tb e1 fun y e2=>Op2 r x y fun s=>∃ b,s=.st (.bool b)/\if b=true then Ev B tc e2 fun z e3=>Op2 r' y z fun s'=>FQ s' fun d=>Q' d e3 else Q' (.bool false) e2):Ev B (akl r r' ta tb tc) env Q':=fun σ G H F Q I k =>
 h σ G H F _ I fun v1 G1 H1 F1 x e1 I1 g1 r1 q1=>q1 σ G1 H1 F1 _ I1 fun v2 G2 H2 F2 y e2 I2 g2 r2 q2 =>
  q2 G2 H2 v1 v2 _ I2.gh (r1.same g2) r2 fun v G3 H3 s Fv o z_=>by
   obtain ⟨b,es,q3⟩:=z_
   have I3:=(I2.out o).1
   have rv:=o.ok
   subst es
   obtain ⟨rv,_⟩:=rv
   cases rv
   refine ⟨b,rfl,?_⟩
   cases b with
   | false=>rw [if_neg Bool.false_ne_true] at q3 ⊢;exact k _ G3 H3 F2 _ e2 I3 (g1.trans (g2.trans o.gg)) (.bl _) q3
   | true =>
    rw [if_pos rfl] at q3 ⊢
    refine q3 σ G3 H3 F2 _ I3 fun v3 G4 H4 F4 z e4 I4 g4 r4 q4=>q4 G4 H4 v2 v3 Q I4.gh (r2.same (o.gg.trans g4)) r4 fun v5 G5 H5 s5 Fv5 o5 q5=>?_
    have J:=I4.out o5
    have gg:=g1.trans (g2.trans (o.gg.trans (g4.trans o5.gg)))
    cases s5 with
    | st d=>exact k v5 G5 H5 F4 d e4 J.1 gg o5.ok.1 q5
    | own A =>
     obtain ⟨d,f,q⟩:=q5
     exact k v5 _ H5 F4 d e4 (J.1.freeze J.2.fb J.2.fd J.2.fg) (gg.trans (abl J.2.fg)) (f G5 H5 v5 Fv5 J.2.ok J.2.fg J.1.gh) q
    | io A=>exact q5.elim
    | scr ns=>exact q5.elim
end
section
variable {B:Bs} {env:En} {D':VEnds} {t u tb:TS} {te:TE} {g:TG} {c:TT} {QE:En->Prop}
theorem ann (h:EvS B t { D' with nx:=fun e=>EvS B u D' e } env):EvS B (tSeq t u) D' env:=fun σ G H F D I r =>
 h σ G H F { D with nx:=u D } I ⟨fun σ G' H F env I' g q=>q σ G' H F D I' (r.later g),r.rt,r.bk,r.ct⟩
theorem ar8 (h:D'.nx env):EvS B aty D' env:=fun σ G H F D I r=>r.nx σ G H F env I (Same.refl _) h
theorem avc (h:EvO B te env fun s e=>EvG B g s e D'.nx):EvS B (tAsg te g) D' env:=fun σ G H F D I r =>
 h σ G H F _ I fun v G1 H1 F1 Fv s e1 I1 g1 x1 q1=>q1 σ G1 H1 F1 v Fv D.nx I1 x1 fun σ2 G2 H2 F2 e2 I2 g2 q2=>r.nx σ2 G2 H2 F2 e2 I2 (g1.trans g2) q2
theorem aaz {i:Nat} {s:Sl} (h:QE (env.set i (some s))):EvG B (aay i) s env QE:=fun σ G H F v Fv Q I x k=>k _ G H _ _ (I.store x i) (Same.refl _) h
theorem afi (h:QE env):EvGs B gNil [] env QE:=fun σ G H F vs Q I x k=>by cases x;exact ⟨rfl,k σ G H F env I (Same.refl _) h⟩
theorem acl {gs:TGs} {d:PyData} {ds:List PyData} (h:EvG B g (.st d) env fun e=>EvGs B gs ds e QE):EvGs B (aby g gs) (d :: ds) env QE:=fun σ G H F vs Q I x k=>by
 cases x with
 | cons r rs =>
  refine ⟨_,_,rfl,h σ G H F _ _ _ I (adt r) fun σ1 G1 H1 F1 e1 I1 g1 q1=>q1 σ1 G1 H1 F1 _ Q I1 (rs.same g1) fun σ2 G2 H2 F2 e2 I2 g2 q2=>k σ2 G2 H2 F2 e2 I2 (g1.trans g2) q2⟩
theorem agg {K:Frag} {n:Nat} {gs:TGs} {ds:List PyData} (hl:ds.length=n) (h:EvGs B gs ds env QE):EvG B (gTup K n gs) (.st (.tuple ds)) env QE:=fun σ G H F v Fv Q I x k=>by
 obtain ⟨r,_⟩:=x.ok
 cases r with
 | tup ha rs=>exact ⟨_,_,rfl,SqT.of (I.gh _ _ ha),by rw [rs.length,hl],h σ G H F _ Q I rs k⟩
theorem ano (h:EvO B te env fun s e=>D'.rt s e):EvS B (tRet te) D' env:=fun σ G H F D I r =>
 h σ G H F _ I fun v G1 H1 F1 Fv s e1 I1 g1 x1 q1=>r.rt σ G1 H1 F1 e1 v Fv s I1 g1 x1 q1
theorem ar9 (h:EvO B te env fun _ e=>D'.nx e):EvS B (atz te) D' env:=fun σ G H F D I r =>
 h σ G H F _ I fun v G1 H1 F1 Fv s e1 I1 g1 x1 q1=>r.nx σ G1 H1 F1 e1 I1 g1 q1
theorem aqk (h:EvT B c env fun b e=>if b=true then EvS B t D' e else EvS B u D' e):EvS B (tIfS c t u) D' env:=fun σ G H F D I r =>
 h σ G H F _ I fun b G1 H1 F1 e1 I1 g1 q=>by
  cases b with
  | true=>rw [if_pos rfl] at q ⊢;exact q σ G1 H1 F1 D I1 (r.later g1)
  | false=>rw [if_neg Bool.false_ne_true] at q ⊢;exact q σ G1 H1 F1 D I1 (r.later g1)
def ForV (B:Bs) (g:TG) (tb:TS) (D':VEnds) (ds:List PyData) (e1:En):Prop:=∃ J:Nat->En->Prop,J 0 e1/\(∀ i d e,ds[i]?=some d->J i e->EvG B g (.st d) e fun e2=>EvS B tb { D' with nx:=J (i+1),ct:=J (i+1),bk:=D'.nx } e2)/\∀ e,J ds.length e->D'.nx e
theorem avd {wi:TI} (h:EvI B wi env fun ds e1=>ForV B g tb D' ds e1):EvS B (tFor wi g tb) D' env:=fun σ G H F D I r =>
 h σ G H F _ I fun J G1 H1 F1 ds e1 I1 g1 it z_=>by
  obtain ⟨Jv,j0,js,jd⟩:=z_
  refine ⟨fun i m σ H=>m=ds.length - i/\i<=ds.length/\∃ G2 F2 e2,VI B G2 H σ e2 F2/\Same G1 G2/\Jv i e2,⟨ds.length,by simp,Nat.zero_le _,G1,F1,e1,I1,Same.refl _,j0⟩,?_⟩
  rintro i m σ H ⟨rfl,hi,G2,F2,e2,I2,g2,j2⟩
  by_cases hlt:i < ds.length
  ·refine .inr ⟨it.go i G2 H g2 I2.gh hlt,fun σ H=>∃ G3 F3 e3,VI B G3 H σ e3 F3/\Same G1 G3/\Jv (i+1) e3,fun σ' H' h'=>⟨ds.length - (i+1),by omega,rfl,hlt,h'⟩,fun x H' y=>?_⟩
   obtain ⟨G3,o⟩:=it.yld i G2 H x H' _ g2 I2.gh I2.ft (List.getElem?_eq_getElem hlt) y
   have I3:=I2.out o
   refine js i _ e2 (List.getElem?_eq_getElem hlt) j2 σ G3 H' F2 x _ _ I3.1 I3.2 fun σ4 G4 H4 F4 e4 I4 g4 q4=>?_
   have gg:=g2.trans (o.gg.trans g4)
   refine q4 σ4 G4 H4 F4 _ I4 ⟨fun σ5 G5 H5 F5 e5 I5 g5 q5=>⟨G5,F5,e5,I5,gg.trans g5,q5⟩,fun σ5 G5 H5 F5 e5 v5 Fv5 s5 I5 g5=>r.rt σ5 G5 H5 F5 e5 v5 Fv5 s5 I5 (g1.trans (gg.trans g5)),fun σ5 G5 H5 F5 e5 I5 g5=>r.nx σ5 G5 H5 F5 e5 I5 (g1.trans (gg.trans g5)),fun σ5 G5 H5 F5 e5 I5 g5 q5=>⟨G5,F5,e5,I5,gg.trans g5,q5⟩⟩
  ·have e:i=ds.length:=by omega
   subst e
   exact .inl ⟨it.stop _ G2 H g2 I2.gh rfl,r.nx σ G2 H F2 e2 I2 (g1.trans g2) (jd e2 j2)⟩
theorem ai4 (J:Nat->En->Prop) (h0:∃ m,J m env) (h:∀ m e,J m e->EvT B c e fun b e1=>if b=true then EvS B tb { D' with nx:=fun e2=>∃ m',m' < m/\J m' e2,ct:=fun e2=>∃ m',m' < m/\J m' e2,bk:=D'.nx } e1 else D'.nx e1):EvS B (apu c tb) D' env:=fun σ G H F D I r=>by
 obtain ⟨m0,h0⟩:=h0
 refine ⟨fun m σ H=>∃ G2 F2 e2,VI B G2 H σ e2 F2/\Same G G2/\J m e2,⟨m0,G,F,env,I,Same.refl _,h0⟩,?_⟩
 rintro m σ H ⟨G2,F2,e2,I2,g2,j2⟩
 refine h m e2 j2 σ G2 H F2 _ I2 fun b G3 H3 F3 e3 I3 g3 q3=>?_
 have gg:=g2.trans g3
 cases b with
 | false=>rw [if_neg Bool.false_ne_true] at q3 ⊢;exact r.nx σ G3 H3 F3 e3 I3 gg q3
 | true =>
  rw [if_pos rfl] at q3 ⊢
  refine ⟨fun σ H=>∃ G4 F4 e4,VI B G4 H σ e4 F4/\Same G G4/\∃ m',m' < m/\J m' e4,fun σ' H' ⟨G4,F4,e4,I4,g4,m',hm,j4⟩=>⟨m',hm,G4,F4,e4,I4,g4,j4⟩,?_⟩
  exact q3 σ G3 H3 F3 _ I3 ⟨fun σ5 G5 H5 F5 e5 I5 g5 q5=>⟨G5,F5,e5,I5,gg.trans g5,q5⟩,fun σ5 G5 H5 F5 e5 v5 Fv5 s5 I5 g5=>r.rt σ5 G5 H5 F5 e5 v5 Fv5 s5 I5 (gg.trans g5),fun σ5 G5 H5 F5 e5 I5 g5=>r.nx σ5 G5 H5 F5 e5 I5 (gg.trans g5),fun σ5 G5 H5 F5 e5 I5 g5 q5=>⟨G5,F5,e5,I5,gg.trans g5,q5⟩⟩
variable {QI:List PyData->En->Prop}
theorem asa {K:Frag} (h:Ev B te env fun d e=>∃ ds,d=.list ds/\QI ds e):EvI B (at4 K te) env QI:=fun σ G H F R I k =>
 h σ G H F _ I fun v G1 H1 F1 d e1 I1 g1 r1 z_=>by
  obtain ⟨ds,ed,q1⟩:=z_
  subst ed
  cases r1 with
  | @lst a vs ds ha rs =>
   refine ⟨a,rfl,⟨vs,SqL.of (I1.gh _ _ ha)⟩,k _ G1 H1 F1 ds e1 I1 g1 ⟨fun i G' H' g h hi=>?_,fun i G' H' g h hi=>?_,fun i G' H' x H'' d g h ft hd y=>?_⟩ q1⟩
   ·have:i < vs.length:=by rw [rs.length];exact hi
    exact ⟨vs,vs[i],SqL.of (h _ _ (g _ _ ha)),List.getElem?_eq_getElem this⟩
   ·exact ⟨vs,SqL.of (h _ _ (g _ _ ha)),by rw [rs.length];exact Nat.le_of_eq hi.symm⟩
   ·obtain ⟨e,y⟩:=y
    subst e
    obtain ⟨v,hv,rv⟩:=rs.get hd
    have:=y vs (SqL.of (h _ _ (g _ _ ha)))
    rw [hv] at this
    cases this
    exact ⟨G',Out.refl h (rv.same g)⟩
theorem axz {ds:List PyData} {R:List PyData->Prop} (h:R ds):∃ xs,PyData.list ds=.list xs/\R xs:=⟨ds,rfl,h⟩
noncomputable def rngD (lo:Int) (n:Nat):List PyData:=(List.range n).map fun (i:Nat) => .int (lo+(i:Int))
theorem ace {lo:Int} {n:Nat}:(rngD lo n).length=n:=by simp [rngD]
theorem afj {lo:Int} {n i:Nat} {d:PyData} (h:(rngD lo n)[i]?=some d):i < n/\d=.int (lo+(i:Int)):=by
 unfold rngD at h
 rw [List.getElem?_map] at h
 have hi:i < n:=by
  have:=(List.getElem?_eq_some_iff (l:=(List.range n).map fun (i:Nat)=>PyData.int (lo+(i:Int)))).mp (by rw [List.getElem?_map];exact h)
  obtain ⟨q,_⟩:=this
  simpa using q
 rw [List.getElem?_eq_getElem (by simpa using hi)] at h
 simp at h
 exact ⟨hi,h.symm⟩
theorem aql {G:Hp} {lo:Int} {n:Nat}:ItOk G (Itr lo n) (rngD lo n):=by
 refine ⟨fun i G' H' g h hi=>?_,fun i G' H' g h hi=>?_,fun i G' H' x H'' d g h ft hd y=>?_⟩
 ·rw [ace] at hi;exact hi
 ·rw [ace] at hi;exact Nat.le_of_eq hi.symm
 ·obtain ⟨e,y⟩:=y
  subst e y
  rw [(afj hd).2]
  exact ⟨G',Out.refl h (.int _)⟩
def ake (ds:List PyData) (R:List PyData->Prop):Prop:=∃ j:Int,ds=[.int j]/\-(2 ^ 62)<=j/\j < 2 ^ 62/\R (rngD 0 j.toNat)
def akf (ds:List PyData) (R:List PyData->Prop):Prop:=∃ i j:Int,ds=[.int i,.int j]/\(-(2 ^ 62)<=i/\i < 2 ^ 62/\-(2 ^ 62)<=j/\j < 2 ^ 62)/\R (rngD i (j - i).toNat)
theorem asb {ta:TA} (h:EvA B ta env fun ds e=>ake ds fun xs=>QI xs e):EvI B (at5 ta) env QI:=fun σ G H F R I k =>
 h σ G H F _ I fun vs G1 H1 F1 ds e1 I1 g1 r1 z_=>by
  obtain ⟨j,ed,b1,b2,q1⟩:=z_
  subst ed
  obtain rfl:vs=[V.int j]:=Rps.ints_inv (ns:=[j]) r1
  exact ⟨j,rfl,b1,b2,k _ G1 H1 F1 _ e1 I1 g1 aql q1⟩
theorem asd {ta:TA} (h:EvA B ta env fun ds e=>akf ds fun xs=>QI xs e):EvI B (at6 ta) env QI:=fun σ G H F R I k =>
 h σ G H F _ I fun vs G1 H1 F1 ds e1 I1 g1 r1 z_=>by
  obtain ⟨i,j,ed,b1,q1⟩:=z_
  subst ed
  obtain rfl:vs=[V.int i,V.int j]:=Rps.ints_inv (ns:=[i,j]) r1
  exact ⟨i,j,rfl,b1,k _ G1 H1 F1 _ e1 I1 g1 aql q1⟩
theorem ax0 {j:Int} {R:List PyData->Prop} (h1 : -4611686018427387904<=j) (h2:j < 4611686018427387904) (h:R (rngD 0 j.toNat)):ake [.int j] R:=⟨j,rfl,by omega,by omega,h⟩
theorem ax1 {a b:Int} {R:List PyData->Prop} (h1 : -4611686018427387904<=a/\a < 4611686018427387904/\-4611686018427387904<=b/\b < 4611686018427387904) (h:R (rngD a (b - a).toNat)):akf [.int a,.int b] R:=⟨a,b,rfl,by omega,h⟩
theorem alg {lo:Int} {n:Nat} (J:Nat->En->Prop) (h0:J 0 env) (hs:∀ i e,i < n->J i e->EvG B g (.st (.int (lo+(i:Int)))) e fun e2=>EvS B tb { D' with nx:=J (i+1),ct:=J (i+1),bk:=D'.nx } e2) (hd:∀ e,J n e->D'.nx e):ForV B g tb D' (rngD lo n) env :=
 ⟨J,h0,fun i d e h j=>by obtain ⟨hi,rfl⟩:=afj h;exact hs i e hi j,fun e j=>hd e (by rw [ace] at j;exact j)⟩
theorem afk {α:Type} {f : α->PyData} {xs:List α} (J:Nat->En->Prop) (h0:J 0 env) (hs:∀ i x e,xs[i]?=some x->J i e->EvG B g (.st (f x)) e fun e2=>EvS B tb { D' with nx:=J (i+1),ct:=J (i+1),bk:=D'.nx } e2) (hd:∀ e,J xs.length e->D'.nx e):ForV B g tb D' (xs.map f) env :=
 ⟨J,h0,fun i d e h j=>by
  rw [List.getElem?_map] at h
  cases hx:xs[i]? with
  | none=>rw [hx] at h;cases h
  | some x=>rw [hx] at h;cases h;exact hs i x e hx j,fun e j=>hd e (by rw [List.length_map] at j;exact j)⟩
end
theorem ase {B:Bs} {a b:TS} {D':VEnds} {env:En} (h:∀ c:TS,c=b->EvS B a { D' with nx:=fun e=>EvS B c D' e } env):EvS B (tSeq a b) D' env:=ann (h b rfl)
theorem anp {B:Bs} {c b:TS} {D':VEnds} {env:En} (e:c=b) (h:EvS B b D' env):EvS B c D' env:=by rw [e];exact h
@[elab_as_elim] theorem exS1 {α0:Type} {σ:Type} {f : α0->σ} {p : α0->Prop} {motive : σ->Prop} (s : σ) (h:∃ x0,s=f x0/\p x0) (k:∀ x0,p x0->motive (f x0)):motive s:=by
 obtain ⟨x0,e,h⟩:=h
 rw [e];exact k _ h
@[elab_as_elim] theorem exS2 {α0:Type} {α1:Type} {σ:Type} {f : α0->α1->σ} {p : α0->α1->Prop} {motive : σ->Prop} (s : σ) (h:∃ x0 x1,s=f x0 x1/\p x0 x1) (k:∀ x0 x1,p x0 x1->motive (f x0 x1)):motive s:=by
 obtain ⟨x0,x1,e,h⟩:=h
 rw [e];exact k _ _ h
@[elab_as_elim] theorem exE2 {α0:Type} {α1:Type} {σ:Type} {f : α0->α1->σ} {motive : σ->Prop} (s : σ) (h:∃ x0 x1,s=f x0 x1) (k:∀ x0 x1,motive (f x0 x1)):motive s:=by
 obtain ⟨x0,x1,e⟩:=h
 rw [e];exact k _ _
@[elab_as_elim] theorem exS3 {α0:Type} {α1:Type} {α2:Type} {σ:Type} {f : α0->α1->α2->σ} {p : α0->α1->α2->Prop} {motive : σ->Prop} (s : σ) (h:∃ x0 x1 x2,s=f x0 x1 x2/\p x0 x1 x2) (k:∀ x0 x1 x2,p x0 x1 x2->motive (f x0 x1 x2)):motive s:=by
 obtain ⟨x0,x1,x2,e,h⟩:=h
 rw [e];exact k _ _ _ h
@[elab_as_elim] theorem exS4 {α0:Type} {α1:Type} {α2:Type} {α3:Type} {σ:Type} {f : α0->α1->α2->α3->σ} {p : α0->α1->α2->α3->Prop} {motive : σ->Prop} (s : σ) (h:∃ x0 x1 x2 x3,s=f x0 x1 x2 x3/\p x0 x1 x2 x3) (k:∀ x0 x1 x2 x3,p x0 x1 x2 x3->motive (f x0 x1 x2 x3)):motive s:=by
 obtain ⟨x0,x1,x2,x3,e,h⟩:=h
 rw [e];exact k _ _ _ _ h
@[elab_as_elim] theorem exS5 {α0:Type} {α1:Type} {α2:Type} {α3:Type} {α4:Type} {σ:Type} {f : α0->α1->α2->α3->α4->σ} {p : α0->α1->α2->α3->α4->Prop} {motive : σ->Prop} (s : σ) (h:∃ x0 x1 x2 x3 x4,s=f x0 x1 x2 x3 x4/\p x0 x1 x2 x3 x4) (k:∀ x0 x1 x2 x3 x4,p x0 x1 x2 x3 x4->motive (f x0 x1 x2 x3 x4)):motive s:=by
 obtain ⟨x0,x1,x2,x3,x4,e,h⟩:=h
 rw [e];exact k _ _ _ _ _ h
@[elab_as_elim] theorem exS6 {α0:Type} {α1:Type} {α2:Type} {α3:Type} {α4:Type} {α5:Type} {σ:Type} {f : α0->α1->α2->α3->α4->α5->σ} {p : α0->α1->α2->α3->α4->α5->Prop} {motive : σ->Prop} (s : σ) (h:∃ x0 x1 x2 x3 x4 x5,s=f x0 x1 x2 x3 x4 x5/\p x0 x1 x2 x3 x4 x5) (k:∀ x0 x1 x2 x3 x4 x5,p x0 x1 x2 x3 x4 x5->motive (f x0 x1 x2 x3 x4 x5)):motive s:=by
 obtain ⟨x0,x1,x2,x3,x4,x5,e,h⟩:=h
 rw [e];exact k _ _ _ _ _ _ h
@[elab_as_elim] theorem exE6 {α0:Type} {α1:Type} {α2:Type} {α3:Type} {α4:Type} {α5:Type} {σ:Type} {f : α0->α1->α2->α3->α4->α5->σ} {motive : σ->Prop} (s : σ) (h:∃ x0 x1 x2 x3 x4 x5,s=f x0 x1 x2 x3 x4 x5) (k:∀ x0 x1 x2 x3 x4 x5,motive (f x0 x1 x2 x3 x4 x5)):motive s:=by
 obtain ⟨x0,x1,x2,x3,x4,x5,e⟩:=h
 rw [e];exact k _ _ _ _ _ _
theorem big {n:Nat} (h:n<=1000000):n < sizeLine:=Nat.lt_of_le_of_lt h (by decide)
section
variable {B B1:Bs} {G H G' H':Hp} {σ σI:St} {env envI:En} {F F':Nat->Addr->Prop} {v:V} {s:Sl} {Fv:Addr->Prop} {inv:Nat->Option Nat}
open Classical in
noncomputable def acg (H:Hp) (F:Nat->Addr->Prop) (inv:Nat->Option Nat):Hp:=fun a=>if ∃ i j,inv i=some j/\F i a then none else H a
theorem afl {i j:Nat} {a:Addr} (h:inv i=some j) (f:F i a):acg H F inv a=none:=if_pos ⟨i,j,h,f⟩
theorem ag3 {a:Addr} (h:∀ i j,inv i=some j->¬ F i a):acg H F inv a=H a:=if_neg fun ⟨i,j,x,y⟩=>h i j x y
theorem adc:Same (acg H F inv) H:=fun a o e=>by
 unfold acg at e
 split at e
 ·cases e
 ·exact e
theorem VI.enter (I:VI B G H σ env F) (inj:∀ i i' j,inv i=some j->inv i'=some j->i=i') (ln : σI.length=envI.length)
  (sl:∀ j s,envI[j]?=some (some s)->∃ v,σI[j]?=some (some v)/\((∃ d,s=.st d/\Rp G v d/\∀ i,inv i ≠ some j)\/(∃ ns a,s=.scr ns/\v=.ref a/\SqL B.K G a (ns.map V.int)/\∀ i,inv i ≠ some j) ∨
   ∃ i A,inv i=some j/\s=.io A/\σ[i]?=some (some v)/\(env[i]?=some (some (.own A))\/env[i]?=some (some (.io A))))) :
  VI ⟨B.K,G,H,acg H F inv,σI,fun j a=>∃ i,inv i=some j/\F i a⟩ G H σI envI (fun j a=>∃ i,inv i=some j/\F i a) where
 gh:=I.gh
 g0:=Same.refl _
 gn:=fun a o e => .inl e
 rs:=adc
 rb:=adc
 bh:=fun a o e=>⟨o,e⟩
 fg:=fun j a ⟨i,_,z⟩=>I.fg i a z
 fr:=fun j a ⟨i,h,z⟩=>afl h z
 fd:=fun j k a ⟨i,h,z⟩ ⟨i',h',z'⟩=>by
  have:=I.fd i i' a z z'
  subst this
  rw [h] at h';cases h';rfl
 fo:=fun j a ⟨i,h,z⟩=>I.fo i a z
 sl:=fun j s e=>by
  obtain ⟨v,hv,q⟩:=sl j s e
  refine ⟨v,hv,?_⟩
  rcases q with ⟨d,rfl,r,n⟩ | ⟨ns,a,rfl,rfl,q,n⟩ | ⟨i,A,hi,rfl,hs,he⟩
  ·exact ⟨r,fun a ⟨i,h,_⟩=>n i h⟩
  ·exact ⟨⟨a,rfl,q⟩,fun a ⟨i,h,_⟩=>n i h⟩
  ·refine ⟨?_,fun a z => .inl z,hv⟩
   have eF:(fun a=>∃ i',inv i'=some j/\F i' a)=F i:=by
    funext a
    exact propext ⟨fun ⟨i',h,z⟩=>by rw [inj i i' j hi h];exact z,fun z=>⟨i,hi,z⟩⟩
   show A.P G H v (fun a=>∃ i',inv i'=some j/\F i' a)
   rw [eF]
   rcases he with he | he
   ·obtain ⟨v',e1,e2⟩:=I.sl i _ he
    rw [hs] at e1;cases e1;exact e2.1
   ·obtain ⟨v',e1,e2⟩:=I.sl i _ he
    rw [hs] at e1;cases e1;exact e2.1
 ln:=ln
 ft:=I.ft
theorem VI.leave (I:VI B G H σ env F) (inj:∀ i i' j,inv i=some j->inv i'=some j->i=i') (bG:B1.G=G) (bH:B1.H=H) (bR:∀ a o,H a=some o->(∀ i j,inv i=some j->¬ F i a)->B1.R a=some o)
  (bF:∀ i j,inv i=some j->∀ a,B1.F j a->F i a) (bS:∀ i j,inv i=some j->B1.S[j]? = σ[i]?) (J:VI B1 G' H' σI envI F') (io:∀ i j,inv i=some j->∃ A',envI[j]?=some (some (.io A'))) {env2:En} (he:env2.length=env.length)
  (h2:∀ i s,env2[i]?=some (some s)->(inv i=none/\env[i]?=some (some s))\/∃ j A A',inv i=some j/\envI[j]?=some (some (.io A'))/\((env[i]?=some (some (.own A))/\s=.own A')\/(env[i]?=some (some (.io A))/\s=.io A'))) :
  VI B G' H' σ env2 (fun i a=>match inv i with | some j=>F' j a | none=>F i a):=by
 have gn1:∀ a o,G' a=some o->G a=some o\/H a=none:=fun a o e=>by
  have:=J.gn a o e
  rw [bG,bH] at this;exact this
 have fi:∀ i j a,inv i=some j->F' j a->F i a\/H a=none:=fun i j a hi z=>by
  obtain ⟨A',e⟩:=io i j hi
  obtain ⟨v,_,q⟩:=J.sl j _ e
  rcases q.2.1 a z with y | y
  ·exact .inl (bF i j hi a y)
  ·rw [bH] at y;exact .inr y
 have kp:∀ a o,H a=some o->(∀ i j,inv i=some j->¬ F i a)->H' a=some o:=fun a o e n=>J.rs a o (bR a o e n)
 refine ⟨J.gh,I.g0.trans (bG ▸ J.g0),fun a o e=>?_,fun a o e=>?_,I.rb,fun a o e=>?_,fun i a z=>?_,fun i a z=>?_,fun i k a y z=>?_,fun i a z=>?_,fun i t e=>?_,by rw [he];exact I.ln,J.ft⟩
 ·rcases gn1 a o e with e | e
  ·exact I.gn a o e
  ·exact .inr (I.no_b e)
 ·refine kp a o (I.rs a o e) fun i j _ z=>?_
  rw [I.fr i a z] at e;cases e
 ·obtain ⟨o1,e1⟩:=I.bh a o e
  exact J.bh a o1 (by rw [bH];exact e1)
 ·cases hi:inv i with
  | some j=>rw [hi] at z;exact J.fg j a z
  | none =>
   rw [hi] at z
   cases e:G' a with
   | none=>rfl
   | some o =>
    rcases gn1 a o e with e | e
    ·rw [I.fg i a z] at e;cases e
    ·exact absurd z (I.no_f e i)
 ·cases hi:inv i with
  | some j =>
   rw [hi] at z
   rcases fi i j a hi z with y | y
   ·exact I.fr i a y
   ·exact I.no_r y
  | none=>rw [hi] at z;exact I.fr i a z
 ·cases hi:inv i with
  | some j =>
   rw [hi] at y
   cases hk:inv k with
   | some l =>
    rw [hk] at z
    have:=J.fd j l a y z
    subst this
    exact inj i k j hi hk
   | none =>
    rw [hk] at z
    rcases fi i j a hi y with x | x
    ·exact I.fd i k a x z
    ·exact absurd z (I.no_f x k)
  | none =>
   rw [hi] at y
   cases hk:inv k with
   | some l =>
    rw [hk] at z
    rcases fi k l a hk z with x | x
    ·exact I.fd i k a y x
    ·exact absurd y (I.no_f x i)
   | none=>rw [hk] at z;exact I.fd i k a y z
 ·cases hi:inv i with
  | some j=>rw [hi] at z;exact J.fo j a z
  | none =>
   rw [hi] at z
   obtain ⟨o,e⟩:=I.fo i a z
   exact J.bh a o (by rw [bH];exact e)
 ·rcases h2 i t e with ⟨hi,e1⟩ | ⟨j,A,A',hi,e1,e2⟩
  ·obtain ⟨v,hv,q⟩:=I.sl i t e1
   refine ⟨v,hv,?_⟩
   simp only [hi]
   refine q.mono (bG ▸ J.g0) fun a o z y=>kp a o y fun i' j' hi' z'=>?_
   have:=I.fd i i' a z z'
   subst this
   rw [hi] at hi';cases hi'
  ·obtain ⟨v,hv,q⟩:=J.sl j _ e1
   have hS : σ[i]?=some (some v):=by rw [← bS i j hi];exact q.2.2
   refine ⟨v,hS,?_⟩
   simp only [hi]
   rcases e2 with ⟨e2,rfl⟩ | ⟨e2,rfl⟩
   ·obtain ⟨v',_,q'⟩:=I.sl i _ e2
    refine ⟨q.1,fun a z=>?_⟩
    rcases fi i j a hi z with y | y
    ·exact q'.2 a y
    ·exact I.no_b y
   ·obtain ⟨v',hv',q'⟩:=I.sl i _ e2
    rw [hS] at hv';cases hv'
    refine ⟨q.1,fun a z=>?_,q'.2.2⟩
    rcases fi i j a hi z with y | y
    ·exact q'.2.1 a y
    ·exact .inr (I.no_b y)
theorem RsX.leave (I:VI B G H σ env F) (bH:B1.H=H) (r:RsX B1 G' H' v Fv s F'):RsX B G' H' v Fv s (fun i a=>match inv i with | some j=>F' j a | none=>F i a):=by
 have hn:∀ a,Fv a->H a=none:=fun a z=>bH ▸ r.fb a z
 refine ⟨r.ok,fun a z=>I.no_b (hn a z),r.fg,r.fo,fun i a z y=>?_⟩
 cases hi:inv i with
 | some j=>rw [hi] at y;exact r.fd j a z y
 | none=>rw [hi] at y;exact I.no_f (hn a z) i y
end
noncomputable abbrev VP:=List Sl->(Sl->Prop)->Prop
noncomputable abbrev VIo:=Own->List Sl->(Own->Sl->Prop)->Prop
def noF:Nat->Addr->Prop:=fun _ _=>False
noncomputable def bsP (K:Frag) (G H:Hp) (vs:List V):Bs:=⟨K,G,H,H,vs.map some,noF⟩
noncomputable def aub (K:Frag) (G:Hp):V->Sl->Prop
 | v,.st d=>Rp G v d
 | v,.scr ns=>∃ a,v=.ref a/\SqL K G a (ns.map V.int)
 | _,_=>False
inductive ArgsOk (K:Frag) (G:Hp):List V->List Sl->Prop
 | nil:ArgsOk K G [] []
 | cons {v:V} {s:Sl} {vs:List V} {ss:List Sl}:aub K G v s->ArgsOk K G vs ss->ArgsOk K G (v :: vs) (s :: ss)
theorem ArgsOk.length {K:Frag} {G:Hp}:∀ {vs:List V} {ss:List Sl},ArgsOk K G vs ss->vs.length=ss.length
 | _,_,.nil=>rfl
 | _,_,.cons _ t=>by simp [ArgsOk.length t]
theorem ArgsOk.get {K:Frag} {G:Hp}:∀ {vs:List V} {ss:List Sl} {i:Nat} {s:Sl},ArgsOk K G vs ss->ss[i]?=some s->∃ v,vs[i]?=some v/\aub K G v s
 | _,_,_,_,.nil,e=>by simp at e
 | _,_,0,_,.cons r _,e=>by simp at e;subst e;exact ⟨_,rfl,r⟩
 | _,_,i+1,s,.cons _ t,e=>by
  obtain ⟨u,h1,h2⟩:=ArgsOk.get (i:=i) (s:=s) t (by simpa using e)
  exact ⟨u,by simpa using h1,h2⟩
theorem ArgsOk.of {K:Frag} {G:Hp}:∀ {vs:List V} {ds:List PyData},Rps G vs ds->ArgsOk K G vs (ds.map Sl.st)
 | _,_,.nil => .nil
 | _,_,.cons r t => .cons r (ArgsOk.of t)
theorem anq {α:Type} {xs:List α} {n i:Nat} {s : α} (e:(xs.map some ++ List.replicate n none)[i]?=some (some s)):xs[i]?=some s:=by
 by_cases h:i < xs.length
 ·rw [List.getElem?_append_left (by simpa using h),List.getElem?_map] at e
  rw [List.getElem?_eq_getElem h] at e ⊢
  simpa using e
 ·rw [List.getElem?_append_right (by simpa using h),List.getElem?_replicate] at e
  split at e <;> cases e
theorem anr {α:Type} {xs:List α} {n i:Nat} {s : α} (e:xs[i]?=some s):(xs.map some ++ List.replicate n none)[i]?=some (some s):=by
 have h:i < xs.length:=(List.getElem?_eq_some_iff.mp e).1
 rw [List.getElem?_append_left (by simpa using h),List.getElem?_map,e];rfl
def spP (K:Frag) (f:VP):Sp:=fun vs H Q _=>∃ G ss Q',Same G H/\FT G H/\ArgsOk K G vs ss/\f ss Q'/\∀ s,Q' s->∀ v G' H' Fv,Out G H v G' H' s Fv->Q v H'
structure OutI (G H R:Hp) (F0:Addr->Prop) (v0:V) (A':Own) (s:Sl) (v:V) (G' H':Hp) (F' Fv:Addr->Prop):Prop where
 gg:Same G G'
 gh:Same G' H'
 ft:FT G' H'
 gn:∀ a o,G' a=some o->G a=some o\/H a=none
 rs:Same R H'
 bh:∀ a o,H a=some o->∃ o',H' a=some o'
 ap:A'.P G' H' v0 F'
 fi:∀ a,F' a->F0 a\/H a=none
 fg:∀ a,F' a->G' a=none
 ok:RsOk G' H' v Fv s
 fv:∀ a,Fv a->H a=none/\G' a=none/\(∃ o,H' a=some o)/\¬ F' a
def spI (K:Frag) (f:VIo):Sp:=fun vs H Q _=>∃ v0 vr G R A ss F0 Q',vs=v0 :: vr/\Same G H/\FT G H/\Same R H/\A.P G H v0 F0/\(∀ a,F0 a->G a=none)/\(∀ a,F0 a->R a=none)/\ArgsOk K G vr ss /\
 f A ss Q'/\∀ A' s,Q' A' s->∀ v G' H' F' Fv,OutI G H R F0 v0 A' s v G' H' F' Fv->Q v H'
theorem aa1 {K:Frag} {f:VP} {ts:TS} {N:List Str} {vs:List V} {H:Hp} {Q:VK} {E:XK} (h:spP K f vs H Q E)
  (hb:∀ ss Q',f ss Q'->∀ B,B.K=K->EvS B ts { nx:=fun _=>Q' (.st .none),rt:=fun s _=>Q' s } (ss.map some ++ List.replicate (N.length - ss.length) none)):ts { nx:=fun _ H'=>Q .non H',rt:=Q } (L2.start N vs) H:=by
 obtain ⟨G,ss,Q',gh,ft,ao,hf,hQ⟩:=h
 have fin:∀ {σ G' H' F env v Fv s},VI (bsP K G H vs) G' H' σ env F->RsX (bsP K G H vs) G' H' v Fv s F->Out G H v G' H' s Fv:=fun I r =>
  ⟨I.g0,I.gh,I.rs,I.gn,r.fb,r.fg,r.fo,r.ok,fun _=>I.ft⟩
 refine hb ss _ hf (bsP K G H vs) rfl (L2.start N vs) G H noF _ ?_ ⟨fun σ G' H' F env I g q=>hQ _ q _ _ _ _ (fin I (adt .non)),fun σ G' H' F env v Fv s I g r q=>hQ _ q v G' H' Fv (fin I r),fun _ _ _ _ _ _ _ q=>q,fun _ _ _ _ _ _ _ q=>q⟩
 refine ⟨gh,Same.refl _,fun a o e => .inl e,Same.refl _,Same.refl _,fun a o e=>⟨o,e⟩,fun i a z=>z.elim,fun i a z=>z.elim,fun i j a z=>z.elim,fun i a z=>z.elim,fun i s e=>?_,?_,ft⟩
 ·obtain ⟨v,hv,q⟩:=ao.get (anq e)
  refine ⟨v,by unfold L2.start;exact anr hv,?_⟩
  cases s with
  | st d=>exact ⟨q,fun a z=>z⟩
  | scr ns=>exact ⟨q,fun a z=>z⟩
  | own A=>exact q.elim
  | io A=>exact q.elim
 ·unfold L2.start;simp [ao.length]
theorem ahm {K:Frag} {f:VIo} {ts:TS} {N:List Str} {vs:List V} {H:Hp} {Q:VK} {E:XK} (h:spI K f vs H Q E)
  (hb:∀ A ss Q',f A ss Q'->∀ B,B.K=K->EvS B ts { nx:=fun e=>∃ A',e[0]?=some (some (.io A'))/\Q' A' (.st .none),rt:=fun s e=>∃ A',e[0]?=some (some (.io A'))/\Q' A' s } (some (.io A) :: (ss.map some ++ List.replicate (N.length - (ss.length+1)) none))):ts { nx:=fun _ H'=>Q .non H',rt:=Q } (L2.start N vs) H:=by
 obtain ⟨v0,vr,G,R,A,ss,F0,Q',rfl,gh,ft,rh,ap,fg,fr,ao,hf,hQ⟩:=h
 have el:(v0 :: vr).length=ss.length+1:=by simp [ao.length]
 refine hb A ss _ hf ⟨K,G,H,R,(v0 :: vr).map some,fun i a=>i=0/\F0 a⟩ rfl (L2.start N (v0 :: vr)) G H (fun i a=>i=0/\F0 a) _ ?_ ?_
 ·refine ⟨gh,Same.refl _,fun a o e => .inl e,rh,rh,fun a o e=>⟨o,e⟩,fun i a z=>fg a z.2,fun i a z=>fr a z.2,fun i j a z y=>by rw [z.1,y.1],fun i a z=>A.dom ap a z.2,fun i s e=>?_,?_,ft⟩
  ·cases i with
   | zero =>
    simp at e
    subst e
    refine ⟨v0,rfl,?_,fun a z => .inl z,rfl⟩
    have:(fun a=>0=0/\F0 a)=F0:=by funext a;simp
    rw [this];exact ap
   | succ i =>
    have e':(ss.map some ++ List.replicate (N.length - (ss.length+1)) none)[i]?=some (some s):=by simpa using e
    obtain ⟨v,hv,q⟩:=ao.get (anq e')
    refine ⟨v,?_,?_⟩
    ·unfold L2.start;exact anr (by simpa using hv)
    ·cases s with
     | st d=>exact ⟨q,fun a z=>by cases z.1⟩
     | scr ns=>exact ⟨q,fun a z=>by cases z.1⟩
     | own A=>exact q.elim
     | io A=>exact q.elim
  ·unfold L2.start;simp [ao.length]
 ·have fin:∀ σ G' H' F env v Fv s,VI ⟨K,G,H,R,(v0 :: vr).map some,fun i a=>i=0/\F0 a⟩ G' H' σ env F->RsX ⟨K,G,H,R,(v0 :: vr).map some,fun i a=>i=0/\F0 a⟩ G' H' v Fv s F->(∃ A',env[0]?=some (some (.io A'))/\Q' A' s)->Q v H':=by
   intro σ G' H' F env v Fv s I r ⟨A',e,q⟩
   obtain ⟨v',hv',q1,q2,q3⟩:=I.sl 0 _ e
   have:v'=v0:=by
    have q3':((v0 :: vr).map some)[0]?=some (some v'):=q3
    simpa using q3'.symm
   subst this
   exact hQ A' s q v G' H' (F 0) Fv ⟨I.g0,I.gh,I.ft,I.gn,I.rs,I.bh,q1,fun a z=>by
    rcases q2 a z with y | y
    ·exact .inl y.2
    ·exact .inr y,I.fg 0,r.ok,fun a z=>⟨r.fb a z,r.fg a z,r.fo a z,r.fd 0 a z⟩⟩
  refine ⟨fun σ G' H' F env I g q=>fin σ G' H' F env .non _ (.st .none) I (adt .non) q,fun σ G' H' F env v Fv s I g r q=>fin σ G' H' F env v Fv s I r q,fun _ _ _ _ _ _ _ q=>q,fun _ _ _ _ _ _ _ q=>q⟩
section
variable {B:Bs} {env:En} {Q':PyData->En->Prop} {QO:Sl->En->Prop} {K:Frag} {E:XK}
theorem ai5 {f:VP} {t:TA} (h:EvA B t env fun ds e1=>f (ds.map Sl.st) fun s=>QO s e1):EvO B (abz (spP K f) [] E t) env QO:=fun σ G H F Q I k=>by
 unfold abz
 simp only [List.append_nil]
 exact h σ G H F _ I fun vs G1 H1 F1 ds e1 I1 g1 r1 q1=>⟨G1,_,_,I1.gh,I1.ft,ArgsOk.of r1,q1,fun s q v G' H' Fv o=>k v G' H' F1 Fv s e1 (I1.out o).1 (g1.trans o.gg) (I1.out o).2 q⟩
theorem asf {f:VP} {t:TA} (h:EvA B t env fun ds e1=>f (ds.map Sl.st) fun s=>FQ s fun d=>Q' d e1):Ev B (abz (spP K f) [] E t) env Q':=abp (ai5 h)
theorem ai6 {f:VP} {t:TA} {i:Nat} {ns:List Int} (e:env[i]?=some (some (.scr ns))) (hK:B.K=K) (h:EvA B t env fun ds e1=>f (.scr ns :: ds.map Sl.st) fun s=>QO s e1):EvO B (abz (spP K f) [] E (aa6 (tVar i) t)) env QO:=fun σ G H F Q I k=>by
 subst hK
 unfold abz
 simp only [List.append_nil]
 obtain ⟨v0,hv,⟨a,ea,sq⟩,_⟩:=I.sl i _ e
 refine ⟨v0,hv,h σ G H F _ I fun vs G1 H1 F1 ds e1 I1 g1 r1 q1=>⟨G1,_,_,I1.gh,I1.ft,.cons (s:=.scr ns) ⟨a,ea,g1.seq sq⟩ (ArgsOk.of r1),q1,fun s q v G' H' Fv o=>k v G' H' F1 Fv s e1 (I1.out o).1 (g1.trans o.gg) (I1.out o).2 q⟩⟩
theorem asg {f:VP} {t:TA} {i:Nat} {ns:List Int} (e:env[i]?=some (some (.scr ns))) (hK:B.K=K) (h:EvA B t env fun ds e1=>f (.scr ns :: ds.map Sl.st) fun s=>FQ s fun d=>Q' d e1):Ev B (abz (spP K f) [] E (aa6 (tVar i) t)) env Q':=abp (ai6 e hK h)
noncomputable def reS:Sl->Own->Sl
 | .io _,A => .io A
 | _,A => .own A
theorem ai7 {f:VIo} {t:TA} {i:Nat} (h0:∃ s,env[i]?=some (some s)) (h:EvA B t env fun ds e1=>∃ s0 A,e1[i]?=some (some s0)/\(s0=.own A\/s0=.io A)/\f A (ds.map Sl.st) fun A' s=>QO s (e1.set i (some (reS s0 A')))):EvO B (abz (spI K f) [] E (aa6 (tVar i) t)) env QO:=fun σ G H F Q I k=>by
 unfold abz
 simp only [List.append_nil]
 obtain ⟨s,e⟩:=h0
 obtain ⟨v0,hv,_⟩:=I.sl i _ e
 refine ⟨v0,hv,h σ G H F _ I fun vs G1 H1 F1 ds e1 I1 g1 r1 ⟨s0,A,ei,hs,q1⟩=>?_⟩
 obtain ⟨v',hv',q⟩:=I1.sl i _ ei
 rw [hv] at hv';cases hv'
 have ap:A.P G1 H1 v0 (F1 i):=by
  rcases hs with rfl | rfl
  ·exact q.1
  ·exact q.1
 let inv:Nat->Option Nat:=fun j=>if j=i then some 0 else none
 have inv_i:inv i=some 0:=if_pos rfl
 have inv_ne:∀ j,j ≠ i->inv j=none:=fun j h=>if_neg h
 have inv_inv:∀ j l,inv j=some l->j=i/\l=0:=fun j l h=>by
  by_cases hj:j=i
  ·subst hj;rw [inv_i] at h;cases h;exact ⟨rfl,rfl⟩
  ·rw [inv_ne j hj] at h;cases h
 refine ⟨v0,vs,G1,acg H1 F1 inv,A,_,F1 i,_,rfl,I1.gh,I1.ft,adc,ap,I1.fg i,fun a z=>afl inv_i z,ArgsOk.of r1,q1,fun A' s q v G' H' F' Fv o=>?_⟩
 have hi:i < e1.length:=(List.getElem?_eq_some_iff.mp ei).1
 have J:VI ⟨K,G1,H1,acg H1 F1 inv,[some v0],fun j a=>j=0/\F1 i a⟩ G' H' [some v0] [some (.io A')] (fun j a=>j=0/\F' a):=by
  refine ⟨o.gh,o.gg,o.gn,o.rs,adc,o.bh,fun j a z=>o.fg a z.2,fun j a z=>?_,fun j l a y z=>by rw [y.1,z.1],fun j a z=>A'.dom o.ap a z.2,fun j s e=>?_,rfl,o.ft⟩
  ·rcases o.fi a z.2 with y | y
   ·exact afl inv_i y
   ·cases e:acg H1 F1 inv a with
    | none=>exact e
    | some u=>rw [adc a u e] at y;cases y
  ·cases j with
   | zero =>
    simp at e
    subst e
    refine ⟨v0,rfl,?_,fun a z=>?_,rfl⟩
    ·have:(fun a=>0=0/\F' a)=F':=by funext a;simp
     rw [this];exact o.ap
    ·rcases o.fi a z.2 with y | y
     ·exact .inl ⟨rfl,y⟩
     ·exact .inr y
   | succ j=>simp at e
 have L:=I1.leave (inv:=inv) (env2:=e1.set i (some (reS s0 A'))) (fun a b j ha hb=>by rw [(inv_inv a j ha).1,(inv_inv b j hb).1]) rfl rfl (fun a u e n=>by show acg H1 F1 inv a=_;rw [ag3 n];exact e)
  (fun a j ha x z=>by rw [(inv_inv a j ha).1];exact z.2) (fun a j ha=>by rw [(inv_inv a j ha).1,(inv_inv a j ha).2,hv];rfl) J (fun a j ha=>⟨A',by rw [(inv_inv a j ha).2];rfl⟩) (by simp) fun j s' e=>by
   by_cases hj:j=i
   ·subst hj
    rw [List.getElem?_set,if_pos rfl,if_pos hi] at e
    cases e
    refine .inr ⟨0,A,A',inv_i,rfl,?_⟩
    rcases hs with rfl | rfl
    ·exact .inl ⟨ei,rfl⟩
    ·exact .inr ⟨ei,rfl⟩
   ·rw [List.getElem?_set,if_neg (fun z=>hj z.symm)] at e
    exact .inl ⟨inv_ne j hj,e⟩
 have X:RsX ⟨K,G1,H1,acg H1 F1 inv,[some v0],fun j a=>j=0/\F1 i a⟩ G' H' v Fv s (fun j a=>j=0/\F' a):=⟨o.ok,fun a z=>(o.fv a z).1,fun a z=>(o.fv a z).2.1,fun a z=>(o.fv a z).2.2.1,fun j a z y=>(o.fv a z).2.2.2 y.2⟩
 exact k v G' H' _ Fv s _ L (g1.trans o.gg) (X.leave (inv:=inv) I1 rfl) q
end
noncomputable def ahn:Option Sl->Option Sl
 | some (.own A)=>some (.io A)
 | s=>s
noncomputable def aal (src:List (Option Nat)) (env:En):En:=src.map fun o=>match o with | some j=>ahn ((env[j]?).getD none) | none=>none
noncomputable def isIo:Option Sl->Bool
 | some (.io _)=>true
 | _=>false
noncomputable def idxE (i:Nat):List (Option Nat)->Nat->Option Nat
 | [],_=>none
 | o :: r,k=>if o=some i then some k else idxE i r (k+1)
noncomputable def agh (src:List (Option Nat)) (e:En) (i:Nat) (s:Option Sl):Option Sl :=
 match s with
 | some (.own A)=>(match idxE i src 0 with | some j=>(match e[j]? with | some (some (.io A'))=>some (.own A') | _=>none) | none=>some (.own A))
 | some (.io A)=>(match idxE i src 0 with | some j=>(match e[j]? with | some (some (.io A'))=>some (.io A') | _=>none) | none=>some (.io A))
 | s=>s
noncomputable def ae4 (src:List (Option Nat)) (e:En):Nat->En->En
 | _,[]=>[]
 | k,s :: r=>agh src e k s :: ae4 src e (k+1) r
noncomputable def aho (src:List (Option Nat)) (e1 e:En):En:=ae4 src e 0 e1
theorem afm (src:List (Option Nat)) (e:En):∀ (k:Nat) (l:En) (i:Nat),(ae4 src e k l)[i]?=(l[i]?).map (agh src e (k+i))
 | _,[],i=>by simp [ae4]
 | k,s :: r,0=>by simp [ae4]
 | k,s :: r,i+1=>by
  have:=afm src e (k+1) r i
  simp only [ae4,List.getElem?_cons_succ,this]
  rw [show k+1+i=k+(i+1) by omega]
theorem aeq {i:Nat}:∀ {src:List (Option Nat)} {k j:Nat},idxE i src k=some j->k<=j/\src[j - k]?=some (some i)
 | [],_,_,h=>by cases h
 | o :: r,k,j,h=>by
  unfold idxE at h
  by_cases e:o=some i
  ·rw [if_pos e] at h;cases h
   exact ⟨Nat.le_refl _,by simp [e]⟩
  ·rw [if_neg e] at h
   obtain ⟨h1,h2⟩:=aeq h
   refine ⟨by omega,?_⟩
   rw [show j - k=(j - (k+1))+1 by omega]
   simpa using h2
theorem ai8 {i:Nat}:∀ {src:List (Option Nat)} {k:Nat},idxE i src k=none->∀ j:Nat,src[j]? ≠ some (some i)
 | [],_,_,j=>by simp
 | o :: r,k,h,j=>by
  unfold idxE at h
  by_cases e:o=some i
  ·rw [if_pos e] at h;cases h
  ·rw [if_neg e] at h
   cases j with
   | zero=>simpa using e
   | succ j=>simpa using ai8 h j
theorem alh:∀ (src:List (Option Nat)),(src.filterMap id).Nodup->∀ j j' i:Nat,src[j]?=some (some i)->src[j']?=some (some i)->j=j'
 | [],_,j,_,_,h,_=>by simp at h
 | none :: r,h,j,j',i,h1,h2=>by
  cases j with
  | zero=>simp at h1
  | succ j =>
   cases j' with
   | zero=>simp at h2
   | succ j'=>rw [alh r (by simpa using h) j j' i (by simpa using h1) (by simpa using h2)]
 | some x :: r,h,j,j',i,h1,h2=>by
  have h':=List.nodup_cons.mp (show (x :: r.filterMap id).Nodup by simpa using h)
  have nm:∀ k,r[k]?=some (some x)->False:=fun k hk=>h'.1 (List.mem_filterMap.mpr ⟨some x,List.mem_of_getElem? hk,rfl⟩)
  cases j with
  | zero =>
   have hx:x=i:=by simpa using h1
   subst hx
   cases j' with
   | zero=>rfl
   | succ j'=>exact (nm j' (by simpa using h2)).elim
  | succ j =>
   cases j' with
   | zero =>
    have hx:x=i:=by simpa using h2
    subst hx
    exact (nm j (by simpa using h1)).elim
   | succ j'=>rw [alh r h'.2 j j' i (by simpa using h1) (by simpa using h2)]
noncomputable def agi:Option Sl->Bool
 | some (.own _)=>true
 | _=>false
noncomputable def ioLe:En->En->Prop
 | a :: r,b :: s=>(isIo a=isIo b/\agi b=false)/\ioLe r s
 | [],[]=>True
 | _,_=>False
theorem ali {x:Option Sl} (h:isIo x=true):∃ A,x=some (.io A):=by
 cases x with
 | none=>simp [isIo] at h
 | some y =>
  cases y with
  | io A=>exact ⟨A,rfl⟩
  | _=>simp [isIo] at h
theorem ioLe.get:∀ {a b:En} {j:Nat} {x:Option Sl},ioLe a b->a[j]?=some x->isIo x=true->∃ A,b[j]?=some (some (.io A))
 | [],_,_,_,_,e,_=>by simp at e
 | x :: r,[],_,_,h,_,_=>h.elim
 | x :: r,y :: s,0,z,h,e,p=>by
  simp at e;subst e
  have:=h.1.1
  rw [p] at this
  obtain ⟨A,q⟩:=ali this.symm
  exact ⟨A,by simp [q]⟩
 | x :: r,y :: s,j+1,z,h,e,p=>by
  obtain ⟨A,q⟩:=ioLe.get (j:=j) h.2 (by simpa using e) p
  exact ⟨A,by simpa using q⟩
theorem ioLe.got:∀ {a b:En} {j:Nat} {x:Option Sl},ioLe a b->b[j]?=some x->(isIo x=true->∃ A,a[j]?=some (some (.io A)))/\agi x=false
 | [],[],_,_,_,e=>by simp at e
 | [],_ :: _,_,_,h,e=>h.elim
 | x :: r,[],_,_,h,_=>h.elim
 | x :: r,y :: s,0,z,h,e=>by
  simp at e;subst e
  refine ⟨fun p=>?_,h.1.2⟩
  have:=h.1.1
  rw [p] at this
  obtain ⟨A,q⟩:=ali this
  exact ⟨A,by simp [q]⟩
 | x :: r,y :: s,j+1,z,h,e=>by
  obtain ⟨p,q⟩:=ioLe.got (j:=j) (x:=z) h.2 (by simpa using e)
  exact ⟨fun t=>by obtain ⟨A,u⟩:=p t;exact ⟨A,by simpa using u⟩,q⟩
section
variable {B:Bs} {G H:Hp} {σ:St} {env:En} {F:Nat->Addr->Prop}
theorem VI.aside (I:VI B G H σ env F) {p:Addr} {o:HO} (nt:∀ xs,o ≠ .tup xs) (hg:G p=none) (hf:∀ j,¬ F j p) (hb:B.H p=none):VI B G (upd H p o) σ env F where
 gh:=fun a u e=>by rw [aag (aap e hg)];exact I.gh a u e
 g0:=I.g0
 gn:=I.gn
 rs:=fun a u e=>by rw [aag (aap e (I.b_r hb))];exact I.rs a u e
 rb:=I.rb
 bh:=fun a u e=>by rw [aag (aap e hb)];exact I.bh a u e
 fg:=I.fg
 fr:=I.fr
 fd:=I.fd
 fo:=fun j a z=>by rw [aag (fun e:a=p=>hf j (e ▸ z))];exact I.fo j a z
 sl:=fun i s e=>by
  obtain ⟨v,hv,q⟩:=I.sl i s e
  exact ⟨v,hv,q.mono (Same.refl _) fun a u z y=>by rw [aag (fun e:a=p=>hf i (e ▸ z))];exact y⟩
 ln:=I.ln
 ft:=fun a ks e=>by
  by_cases z:a=p
  ·subst z;rw [aam] at e;exact absurd (Option.some.inj e) (nt _)
  ·rw [aag z] at e;exact I.ft a ks e
def LcV (K:Frag) (src:List (Option Nat)) (g:TG) (tif:TT) (te:TE) (ds:List PyData) (e1:En) (R:List PyData->En->Prop):Prop:=∃ J:Nat->List PyData->En->Prop,J 0 [] (aal src e1)/\(∀ i ys e,J i ys e->ioLe (aal src e1) e) /\
 (∀ i d ys e,ds[i]?=some d->J i ys e->∀ B':Bs,B'.K=K->EvG B' g (.st d) e fun e2=>EvT B' tif e2 fun b e3=>if b=true then Ev B' te e3 fun y e4=>ys.length<=999999/\J (i+1) (ys ++ [y]) e4 else J (i+1) ys e3)/\∀ ys e,J ds.length ys e->R ys (aho src e1 e)
theorem af2 {src:List (Option Nat)} {j:Nat} {s:Sl} (h:(aal src env)[j]?=some (some s)):∃ i t,src[j]?=some (some i)/\env[i]?=some (some t)/\ahn (some t)=some s:=by
 unfold aal at h
 rw [List.getElem?_map] at h
 cases e:src[j]? with
 | none=>rw [e] at h;cases h
 | some o =>
  rw [e] at h
  cases o with
  | none=>cases h
  | some i =>
   simp only [Option.map_some,Option.some.injEq] at h
   cases e2:env[i]? with
   | none=>rw [e2] at h;cases h
   | some o2 =>
    rw [e2] at h
    cases o2 with
    | none=>cases h
    | some t=>exact ⟨i,t,rfl,e2,h⟩
theorem alj {src:List (Option Nat)} {i j:Nat} {v:V} (h:src[j]?=some (some i)) (hv : σ[i]?=some (some v)):(pick src σ)[j]?=some (some v):=by
 unfold pick
 rw [List.getElem?_map,h]
 simp [hv]
theorem aqm {src:List (Option Nat)} {wi:TI} {g:TG} {tif:TT} {te:TE} {QO:Sl->En->Prop} (nd:(src.filterMap id).Nodup) (h:EvI B wi env fun ds e1=>LcV B.K src g tif te ds e1 fun ys e2=>QO (.own (OL ys)) e2):EvO B (tLC src wi g tif te) env QO:=fun σ G H F Q I k=>by
 refine h σ G H F _ I fun J G1 H1 F1 ds e1 I1 g1 it ⟨Jv,j0,jio,js,jd⟩ acc hacc=>?_
 let mt:Nat->Bool:=fun i=>match e1[i]? with | some (some (.own _))=>true | some (some (.io _))=>true | _=>false
 let inv:Nat->Option Nat:=fun i=>if mt i=true then idxE i src 0 else none
 have inv1:∀ i j,inv i=some j->src[j]?=some (some i)/\mt i=true:=fun i j hi=>by
  by_cases hm:mt i=true
  ·have hi':idxE i src 0=some j:=by simpa [inv,hm] using hi
   have:=(aeq hi').2
   exact ⟨by simpa using this,hm⟩
  ·simp [inv,hm] at hi
 have inv2:∀ i j,src[j]?=some (some i)->mt i=true->inv i=some j:=fun i j hs hm=>by
  have e0:inv i=idxE i src 0:=by simp [inv,hm]
  cases e:idxE i src 0 with
  | none=>exact absurd hs (ai8 e j)
  | some j' =>
   have:=(aeq e).2
   rw [e0,e,alh src nd j j' i hs (by simpa using this)]
 have inj:∀ i i' j,inv i=some j->inv i'=some j->i=i':=fun i i' j h1 h2=>by
  have a:=(inv1 i j h1).1
  rw [(inv1 i' j h2).1] at a
  simpa using a.symm
 have mtS:∀ i,mt i=true->∃ A,e1[i]?=some (some (.own A))\/e1[i]?=some (some (.io A)):=fun i hm=>by
  cases e:e1[i]? with
  | none=>simp [mt,e] at hm
  | some o =>
   cases o with
   | none=>simp [mt,e] at hm
   | some s =>
    cases s with
    | own A=>exact ⟨A,.inl rfl⟩
    | io A=>exact ⟨A,.inr rfl⟩
    | st d=>simp [mt,e] at hm
    | scr ns=>simp [mt,e] at hm
 have ioAt:∀ i ys e,Jv i ys e->∀ i' j,inv i'=some j->∃ A,e[j]?=some (some (.io A)):=fun i ys e hj i' j hi=>by
  obtain ⟨hs,hm⟩:=inv1 i' j hi
  obtain ⟨A,hA⟩:=mtS i' hm
  refine (jio i ys e hj).get (x:=some (.io A)) ?_ rfl
  unfold aal
  rw [List.getElem?_map,hs]
  rcases hA with hA | hA <;> simp [hA,ahn]
 -- between two turns
 let Wv:Nat->List V->St->Hp->Prop:=fun i ys σI H=>∃ G2 F2 e env2 yd,VI B G2 H σ env2 F2/\Same G1 G2/\H acc=some (.lst ys)/\Rps G2 ys yd/\G2 acc=none/\(∀ j,¬ F2 j acc)/\Jv i yd e/\σI.length=e.length/\env2.length=e1.length /\
  (∀ j s,e[j]?=some (some s)->∃ v,σI[j]?=some (some v)/\((∃ d,s=.st d/\Rp G2 v d/\∀ i,inv i ≠ some j)\/(∃ ns a,s=.scr ns/\v=.ref a/\SqL B.K G2 a (ns.map V.int)/\∀ i,inv i ≠ some j) ∨
   ∃ i A,inv i=some j/\s=.io A/\σ[i]?=some (some v)/\(env2[i]?=some (some (.own A))\/env2[i]?=some (some (.io A))))) /\
  (∀ i,inv i=none->env2[i]?=e1[i]?)/\(∀ i j,inv i=some j->∃ A0 A,e[j]?=some (some (.io A))/\((e1[i]?=some (some (.own A0))/\env2[i]?=some (some (.own A)))\/(e1[i]?=some (some (.io A0))/\env2[i]?=some (some (.io A)))))
 have hb:B.H acc=none:=I1.no_b hacc
 refine ⟨fun i m ys σI H=>m=ds.length - i/\i<=ds.length/\Wv i ys σI H,⟨ds.length,by simp,Nat.zero_le _,?_⟩,?_⟩
 ·refine ⟨G1,F1,aal src e1,e1,[],I1.aside (fun _ z=>nomatch z) (I1.no_g hacc) (I1.no_f hacc) hb,Same.refl _,aam,.nil,I1.no_g hacc,I1.no_f hacc,j0,by simp [pick,aal],rfl,fun j s e=>?_,fun _ _=>rfl,fun i j hi=>?_⟩
  ·obtain ⟨i,t,hs,ht,hp⟩:=af2 e
   obtain ⟨v,hv,q⟩:=I1.sl i t ht
   refine ⟨v,alj hs hv,?_⟩
   cases t with
   | st d =>
    cases hp
    refine .inl ⟨d,rfl,q.1,fun i' hi'=>?_⟩
    have a:=(inv1 i' j hi').1
    rw [hs] at a
    have:i=i':=by simpa using a
    subst this
    have:=(inv1 i j hi').2
    simp [mt,ht] at this
   | scr ns =>
    cases hp
    obtain ⟨⟨a,ea,sq⟩,_⟩:=q
    refine .inr (.inl ⟨ns,a,rfl,ea,sq,fun i' hi'=>?_⟩)
    have a:=(inv1 i' j hi').1
    rw [hs] at a
    have:i=i':=by simpa using a
    subst this
    have:=(inv1 i j hi').2
    simp [mt,ht] at this
   | own A=>cases hp;exact .inr (.inr ⟨i,A,inv2 i j hs (by simp [mt,ht]),rfl,hv,.inl ht⟩)
   | io A=>cases hp;exact .inr (.inr ⟨i,A,inv2 i j hs (by simp [mt,ht]),rfl,hv,.inr ht⟩)
  ·obtain ⟨hs,hm⟩:=inv1 i j hi
   obtain ⟨A,hA⟩:=mtS i hm
   refine ⟨A,A,?_,?_⟩
   ·unfold aal
    rw [List.getElem?_map,hs]
    rcases hA with hA | hA <;> simp [hA,ahn]
   ·rcases hA with hA | hA
    ·exact .inl ⟨hA,hA⟩
    ·exact .inr ⟨hA,hA⟩
 ·rintro i m ys σI H2 ⟨rfl,hi,G2,F2,e,env2,yd,I2,g2,hac,ry,ga,fa,jv,ln,ln2,sl,un,mv⟩
  refine ⟨hac,?_⟩
  by_cases hlt:i < ds.length
  ·refine .inr ⟨it.go i G2 H2 g2 I2.gh hlt,Wv (i+1),fun ys' σ' H' hw=>⟨ds.length - (i+1),by omega,rfl,hlt,hw⟩,fun x H3 y=>?_⟩
   obtain ⟨G3,o⟩:=it.yld i G2 H2 x H3 _ g2 I2.gh I2.ft (List.getElem?_eq_getElem hlt) y
   obtain ⟨I3,X3⟩:=I2.out o
   have ac3:=o.hh _ _ hac
   have fa3:=fa
   have ga3:G3 acc=none:=by
    cases e':G3 acc with
    | none=>rfl
    | some u =>
     rcases o.gn acc u e' with q | q
     ·rw [ga] at q;cases q
     ·rw [hac] at q;cases q
   have sl3:∀ j s,e[j]?=some (some s)->∃ v,σI[j]?=some (some v)/\((∃ d,s=.st d/\Rp G3 v d/\∀ i,inv i ≠ some j)\/(∃ ns a,s=.scr ns/\v=.ref a/\SqL B.K G3 a (ns.map V.int)/\∀ i,inv i ≠ some j) ∨
     ∃ i A,inv i=some j/\s=.io A/\σ[i]?=some (some v)/\(env2[i]?=some (some (.own A))\/env2[i]?=some (some (.io A)))):=fun j s es=>by
    obtain ⟨v,hv,q⟩:=sl j s es
    refine ⟨v,hv,?_⟩
    rcases q with ⟨d,e1',r,n⟩ | ⟨ns,a,e1',e2',r,n⟩ | q
    ·exact .inl ⟨d,e1',r.same o.gg,n⟩
    ·exact .inr (.inl ⟨ns,a,e1',e2',o.gg.seq r,n⟩)
    ·exact .inr (.inr q)
   have E3:=I3.enter (inv:=inv) (σI:=σI) (envI:=e) inj ln sl3
   -- back from the turn
   have fin:∀ (σ4:St) (G4 H4:Hp) (F4:Nat->Addr->Prop) (e4:En) (yd':List PyData) (ys':List V) (o4:HO),VI ⟨B.K,G3,H3,acg H3 F2 inv,σI,fun j a=>∃ i,inv i=some j/\F2 i a⟩ G4 H4 σ4 e4 F4->Jv (i+1) yd' e4->Rps G4 ys' yd' ->
     Wv (i+1) ys' σ4 (upd H4 acc (.lst ys'))/\H4 acc=some (.lst ys):=by
    intro σ4 G4 H4 F4 e4 yd' ys' o4 I4 j4 r4
    have ioA:=ioAt (i+1) yd' e4 j4
    have ac4:H4 acc=some (.lst ys):=I4.rs acc _ (by show acg H3 F2 inv acc=_;rw [ag3 (fun i' _ _=>fa3 i')];exact ac3)
    have ga4:G4 acc=none:=by
     cases e':G4 acc with
     | none=>rfl
     | some u =>
      rcases I4.gn acc u e' with q | q
      ·change G3 acc=_ at q;rw [ga3] at q;cases q
      ·change H3 acc=_ at q;rw [ac3] at q;cases q
    -- the slots of the outer frame
    let env3:En:=(List.range env2.length).map fun i'=>match inv i' with
     | some j=>(match env2[i']?,e4[j]? with | some (some (.own _)),some (some (.io A))=>some (.own A) | some (some (.io _)),some (some (.io A))=>some (.io A) | _,_=>none)
     | none=>(env2[i']?).getD none
    have e3get:∀ i',i' < env2.length->env3[i']?=some (match inv i' with
     | some j=>(match env2[i']?,e4[j]? with | some (some (.own _)),some (some (.io A))=>some (.own A) | some (some (.io _)),some (some (.io A))=>some (.io A) | _,_=>none)
     | none=>(env2[i']?).getD none):=fun i' hl=>by
     simp only [env3,List.getElem?_map]
     rw [List.getElem?_eq_getElem (by simpa using hl)]
     simp
    have L:=I3.leave (inv:=inv) (env2:=env3) inj rfl rfl (fun a u q n=>by show acg H3 F2 inv a=_;rw [ag3 n];exact q) (fun i' j hi' a z=>by obtain ⟨i'',h1,h2⟩:=z;rw [inj i' i'' j hi' h1];exact h2)
     (fun i' j hi'=>by
      obtain ⟨A0,A,h1,h2⟩:=mv i' j hi'
      obtain ⟨v,hv,q⟩:=sl j _ h1
      rcases q with ⟨d,q,_⟩ | ⟨ns,a,q,_⟩ | ⟨i'',A'',q1,q2,q3,_⟩
      ·cases q
      ·cases q
      ·rw [inj i' i'' j hi' q1]
       show σI[j]?=_
       rw [hv,q3]) I4 ioA (by simp [env3]) (fun i' s es=>by
      have hl:i' < env2.length:=by
       have:=(List.getElem?_eq_some_iff.mp es).1
       simpa [env3] using this
      rw [e3get i' hl] at es
      cases hi':inv i' with
      | none =>
       refine .inl ⟨rfl,?_⟩
       rw [hi'] at es
       simp only [Option.some.injEq] at es
       cases q:env2[i']? with
       | none=>rw [q] at es;cases es
       | some u=>rw [q] at es;simp at es;rw [es]
      | some j =>
       rw [hi'] at es
       obtain ⟨A',hA'⟩:=ioA i' j hi'
       obtain ⟨A0,A,h1,h2⟩:=mv i' j hi'
       simp only [hA'] at es
       rcases h2 with ⟨_,h2⟩ | ⟨_,h2⟩
       ·rw [h2] at es
        simp only [Option.some.injEq] at es
        exact .inr ⟨j,A,A',rfl,hA',.inl ⟨h2,es.symm⟩⟩
       ·rw [h2] at es
        simp only [Option.some.injEq] at es
        exact .inr ⟨j,A,A',rfl,hA',.inr ⟨h2,es.symm⟩⟩)
    have fa4:∀ j,¬ (match inv j with | some j=>F4 j acc | none=>F2 j acc):=fun j z=>by
     cases hj:inv j with
     | none=>rw [hj] at z;exact fa3 j z
     | some l =>
      rw [hj] at z
      obtain ⟨A',hA'⟩:=ioA j l hj
      obtain ⟨v,_,q⟩:=I4.sl l _ hA'
      rcases q.2.1 acc z with ⟨i'',_,q⟩ | q
      ·exact fa3 i'' q
      ·change H3 acc=_ at q;rw [ac3] at q;cases q
    refine ⟨⟨G4,_,e4,env3,yd',L.aside (fun _ z=>nomatch z) ga4 fa4 hb,g2.trans (o.gg.trans I4.g0),aam,r4,ga4,fa4,j4,I4.ln,by simp [env3,ln2],fun j s es=>?_,fun i' hi'=>?_,fun i' j hi'=>?_⟩,ac4⟩
    ·obtain ⟨v,hv,q⟩:=I4.sl j s es
     refine ⟨v,hv,?_⟩
     have noinv:(∀ A,s ≠ .io A)->∀ i',inv i' ≠ some j:=fun hn i' hi'=>by
      obtain ⟨A,hA⟩:=ioA i' j hi'
      rw [es] at hA
      exact hn A (by simpa using hA)
     cases s with
     | st d=>exact .inl ⟨d,rfl,q.1,noinv (by intro A z;cases z)⟩
     | scr ns =>
      obtain ⟨⟨a,ea,sq⟩,_⟩:=q
      exact .inr (.inl ⟨ns,a,rfl,ea,sq,noinv (by intro A z;cases z)⟩)
     | own A =>
      have:=((jio _ _ _ j4).got es).2
      simp [agi] at this
     | io A =>
      obtain ⟨A0,h0⟩:=((jio _ _ _ j4).got es).1 rfl
      obtain ⟨i',t,hs,ht,hp⟩:=af2 h0
      have hm:mt i'=true:=by
       cases t with
       | own A=>simp [mt,ht]
       | io A=>simp [mt,ht]
       | st d=>cases hp
       | scr ns=>cases hp
      have hi':=inv2 i' j hs hm
      obtain ⟨B0,A1,h1,h2⟩:=mv i' j hi'
      have hl:i' < env2.length:=by
       rcases h2 with ⟨_,h2⟩ | ⟨_,h2⟩ <;> exact (List.getElem?_eq_some_iff.mp h2).1
      refine .inr (.inr ⟨i',A,hi',rfl,?_,?_⟩)
      ·have hS : σI[j]?=some (some v):=q.2.2
       obtain ⟨v',hv',q'⟩:=sl j _ h1
       rcases q' with ⟨d,q',_⟩ | ⟨ns,a,q',_⟩ | ⟨i'',A'',q1,q2,q3,_⟩
       ·cases q'
       ·cases q'
       ·rw [inj i' i'' j hi' q1,q3,← hv',hS]
      ·rw [e3get i' hl,hi']
       simp only [es]
       rcases h2 with ⟨_,h2⟩ | ⟨_,h2⟩
       ·rw [h2];exact .inl rfl
       ·rw [h2];exact .inr rfl
    ·by_cases hl:i' < env2.length
     ·rw [e3get i' hl,hi']
      simp only
      rw [← un i' hi']
      rw [List.getElem?_eq_getElem hl];rfl
     ·rw [List.getElem?_eq_none_iff.mpr (by simp [env3];omega),← un i' hi',List.getElem?_eq_none_iff.mpr (by omega)]
    ·obtain ⟨A',hA'⟩:=ioA i' j hi'
     obtain ⟨A0,A,h1,h2⟩:=mv i' j hi'
     have hl:i' < env2.length:=by
      rcases h2 with ⟨_,h2⟩ | ⟨_,h2⟩ <;> exact (List.getElem?_eq_some_iff.mp h2).1
     refine ⟨A0,A',hA',?_⟩
     rw [e3get i' hl,hi']
     simp only [hA']
     rcases h2 with ⟨h3,h2⟩ | ⟨h3,h2⟩
     ·rw [h2];exact .inl ⟨h3,rfl⟩
     ·rw [h2];exact .inr ⟨h3,rfl⟩
   have hd:ds[i]?=some ds[i]:=List.getElem?_eq_getElem hlt
   refine js i _ yd e hd jv ⟨B.K,G3,H3,acg H3 F2 inv,σI,fun j a=>∃ i,inv i=some j/\F2 i a⟩ rfl σI G3 H3 _ x _ _ E3 (adt o.ok.1) fun σ4 G4 H4 F4 e4 I4 g4 q4=>?_
   refine q4 σ4 G4 H4 F4 _ I4 fun b G5 H5 F5 e5 I5 g5 q5=>?_
   cases b with
   | false =>
    rw [if_neg Bool.false_ne_true] at q5 ⊢
    obtain ⟨w,ac⟩:=fin σ4 G5 H5 F5 e5 yd ys (.lst ys) I5 q5 (ry.same (o.gg.trans (g4.trans g5)))
    have:upd H5 acc (.lst ys)=H5:=by
     funext b
     unfold upd
     split
     ·rename_i hb';rw [hb'];exact ac.symm
     ·rfl
    rw [this] at w
    exact w
   | true =>
    rw [if_pos rfl] at q5 ⊢
    refine q5 σ4 G5 H5 F5 _ I5 fun y G6 H6 F6 d6 e6 I6 g6 r6 q6=>?_
    obtain ⟨w,ac⟩:=fin σ4 G6 H6 F6 e6 (yd ++ [d6]) (ys ++ [y]) (.lst ys) I6 q6.2 ((ry.same (o.gg.trans (g4.trans (g5.trans g6)))).append (.cons r6 .nil))
    exact ⟨ac,by rw [ry.length];exact big (by have:=q6.1;omega),w⟩
  ·have ei:i=ds.length:=by omega
   subst ei
   refine .inl ⟨it.stop _ G2 H2 g2 I2.gh rfl,?_⟩
   have q:=jd yd e jv
   have eb:aho src e1 e=env2:=by
    apply List.ext_getElem?
    intro i'
    unfold aho
    rw [afm,Nat.zero_add]
    have nomut:mt i'=false->env2[i']?=e1[i']?:=fun hm=>un i' (by simp [inv,hm])
    cases e2:e1[i']? with
    | none =>
     rw [nomut (by simp [mt,e2]),e2];rfl
    | some o =>
     cases o with
     | none=>rw [nomut (by simp [mt,e2]),e2];rfl
     | some t =>
      have main:∀ A,(t=.own A\/t=.io A)->mt i'=true:=fun A h=>by rcases h with rfl | rfl <;> simp [mt,e2]
      cases t with
      | st d=>rw [nomut (by simp [mt,e2]),e2];rfl
      | scr ns=>rw [nomut (by simp [mt,e2]),e2];rfl
      | own A =>
       have hm:=main A (.inl rfl)
       simp only [Option.map_some,agh]
       cases e3:idxE i' src 0 with
       | none =>
        have:inv i'=none:=by simp [inv,e3]
        rw [un i' this,e2]
       | some j =>
        have hi':inv i'=some j:=by simp [inv,hm,e3]
        obtain ⟨A0,A1,h1,h2⟩:=mv i' j hi'
        simp only [h1]
        rcases h2 with ⟨h3,h2⟩ | ⟨h3,h2⟩
        ·rw [h2]
        ·rw [e2] at h3;cases h3
      | io A =>
       have hm:=main A (.inr rfl)
       simp only [Option.map_some,agh]
       cases e3:idxE i' src 0 with
       | none =>
        have:inv i'=none:=by simp [inv,e3]
        rw [un i' this,e2]
       | some j =>
        have hi':inv i'=some j:=by simp [inv,hm,e3]
        obtain ⟨A0,A1,h1,h2⟩:=mv i' j hi'
        simp only [h1]
        rcases h2 with ⟨h3,h2⟩ | ⟨h3,h2⟩
        ·rw [e2] at h3;cases h3
        ·rw [h2]
   rw [eb] at q
   refine k (.ref acc) G2 H2 F2 (· = acc) (.own (OL yd)) env2 I2 (g1.trans g2) ⟨⟨acc,ys,rfl,hac,ry,fun b=>Iff.rfl⟩,fun a z=>by rw [z];exact hb,fun a z=>by rw [z];exact ga,fun a z=>by rw [z];exact ⟨_,hac⟩,fun j a z=>by rw [z];exact fa j⟩ q
end
noncomputable def noIo (e:En):Bool:=e.all fun s => !isIo s
theorem ash {e:En} {j:Nat} {x:Option Sl} (h:noIo e=true) (hx:e[j]?=some x):isIo x=false:=by
 have:=List.all_eq_true.mp h x (List.mem_of_getElem? hx)
 simpa using this
theorem agj {src:List (Option Nat)} {e1 e:En} (h:noIo (aal src e1)=true):aho src e1 e=e1:=by
 apply List.ext_getElem?
 intro i
 unfold aho
 rw [afm,Nat.zero_add]
 cases e2:e1[i]? with
 | none=>rfl
 | some o =>
  have main:∀ A,(o=some (.own A)\/o=some (.io A))->idxE i src 0=none:=fun A ho=>by
   cases e3:idxE i src 0 with
   | none=>rfl
   | some j =>
    have hs:=(aeq e3).2
    have:(aal src e1)[j]?=some (some (.io A)):=by
     unfold aal
     rw [List.getElem?_map,show src[j]?=some (some i) by simpa using hs]
     rcases ho with rfl | rfl <;> simp [e2,ahn]
    have:=ash h this
    simp [isIo] at this
  cases o with
  | none=>rfl
  | some t =>
   cases t with
   | st d=>rfl
   | scr ns=>rfl
   | own A=>simp only [Option.map_some,agh,main A (.inl rfl)]
   | io A=>simp only [Option.map_some,agh,main A (.inr rfl)]
noncomputable def stO:Option PyData->Option Sl:=Option.map Sl.st
theorem isIo_stO {o:Option PyData}:isIo (stO o)=false:=by cases o <;> rfl
theorem ac0 {o:Option PyData}:agi (stO o)=false:=by cases o <;> rfl
theorem adn {src:List (Option Nat)} {e1:En}:∀ x∈aal src e1,agi x=false:=by
 intro x hx
 unfold aal at hx
 obtain ⟨o,_,rfl⟩:=List.mem_map.mp hx
 cases o with
 | none=>rfl
 | some j =>
  dsimp only
  cases (e1[j]?).getD none with
  | none=>rfl
  | some t=>cases t <;> rfl
theorem adu:∀ {e:En},(∀ x∈e,agi x=false)->ioLe e e
 | [],_=>True.intro
 | x :: r,h=>⟨⟨rfl,h x List.mem_cons_self⟩,adu fun y hy=>h y (List.mem_cons_of_mem _ hy)⟩
section
variable {B:Bs} {env:En} {g:TG} {tif:TT} {te:TE} {K:Frag} {src:List (Option Nat)} {ds:List PyData} {e1:En} {R:List PyData->En->Prop}
theorem asi (f:PyData->PyData) (p:PyData->Bool) (hno:noIo (aal src e1)=true) (hl:ds.length<=999999)
  (h:∀ d∈ds,∀ B':Bs,B'.K=K->EvT B' tif (some (.st d) :: aal src e1) fun b e3=>b=p d/\e3=some (.st d) :: aal src e1/\(b=true->Ev B' te (some (.st d) :: aal src e1) fun y e4=>y=f d/\e4=some (.st d) :: aal src e1))
  (hR:R ((ds.filter p).map f) e1):LcV K (none :: src) (aay 0) tif te ds e1 R:=by
 have hno':noIo (aal (none :: src) e1)=true:=by
  show ((none :: aal src e1).all fun s => !isIo s)=true
  rw [List.all_cons]
  exact (Bool.and_eq_true _ _).mpr ⟨rfl,hno⟩
 refine ⟨fun i ys e=>ys=((ds.take i).filter p).map f/\∃ o,e=stO o :: aal src e1,⟨by simp,none,rfl⟩,?_,?_,?_⟩
 ·rintro i ys e ⟨_,o,rfl⟩
  exact ⟨⟨isIo_stO.symm,ac0⟩,adu adn⟩
 ·rintro i d ys e hd ⟨rfl,o,rfl⟩ B' hB
  have hi:i < ds.length:=(List.getElem?_eq_some_iff.mp hd).1
  have et:ds.take (i+1)=ds.take i ++ [d]:=by rw [List.take_add_one,hd];rfl
  refine aaz ?_
  show EvT B' tif (some (.st d) :: aal src e1) _
  intro σ G H F Q I k
  refine h d (List.mem_of_getElem? hd) B' hB σ G H F Q I fun b G' H' F' e3 I' g' ⟨hb,he,hq⟩=>k b G' H' F' e3 I' g' ?_
  subst he
  by_cases hp:b=true
  ·rw [if_pos hp]
   intro σ G H F Q I k
   refine hq hp σ G H F Q I fun v G' H' F' d' e4 I' g' r' ⟨hy,he4⟩=>k v G' H' F' d' e4 I' g' r' ?_
   subst hy he4
   refine ⟨?_,?_,some d,rfl⟩
   ·have:=List.length_filter_le p (ds.take i)
    simp only [List.length_map]
    have h2:(ds.take i).length<=i:=by simp;omega
    omega
   ·rw [et,List.filter_append,List.map_append]
    have:p d=true:=by rw [← hb];exact hp
    simp [this]
  ·rw [if_neg hp]
   refine ⟨?_,some d,rfl⟩
   rw [et,List.filter_append,List.map_append]
   have:p d=false:=by rw [← hb];simpa using hp
   simp [this]
 ·rintro ys e ⟨rfl,o,rfl⟩
  rw [agj hno',List.take_length]
  exact hR
theorem ao9 {α:Type} (xs:List α):xs.filter (fun _=>true)=xs:=by simp
theorem ans (f:PyData->PyData) (hno:noIo (aal src e1)=true) (hl:ds.length<=999999)
  (h:∀ d∈ds,∀ B':Bs,B'.K=K->Ev B' te (some (.st d) :: aal src e1) fun y e4=>y=f d/\e4=some (.st d) :: aal src e1)
  (hR:R (ds.map f) e1):LcV K (none :: src) (aay 0) tYes te ds e1 R :=
 asi f (fun _=>true) hno hl (fun d hd B' hB=>ae3 ⟨rfl,rfl,fun _=>h d hd B' hB⟩) (by rw [ao9];exact hR)
theorem alk {K':Frag} {α:Type} {xs:List α} {fa fb : α->PyData} (f : α->PyData) (p : α->Bool) (hno:noIo (aal src e1)=true) (hl:xs.length<=999999)
  (h:∀ x∈xs,∀ B':Bs,B'.K=K->EvT B' tif (some (.st (fa x)) :: some (.st (fb x)) :: aal src e1) fun b e3=>b=p x/\e3=some (.st (fa x)) :: some (.st (fb x)) :: aal src e1/\(b=true->Ev B' te (some (.st (fa x)) :: some (.st (fb x)) :: aal src e1) fun y e4=>y=f x/\e4=some (.st (fa x)) :: some (.st (fb x)) :: aal src e1))
  (hR:R ((xs.filter p).map f) e1):LcV K (none :: none :: src) (gTup K' 2 (aby (aay 0) (aby (aay 1) gNil))) tif te (xs.map fun x => .tuple [fa x,fb x]) e1 R:=by
 have hno':noIo (aal (none :: none :: src) e1)=true:=by
  show ((none :: none :: aal src e1).all fun s => !isIo s)=true
  rw [List.all_cons,List.all_cons]
  exact (Bool.and_eq_true _ _).mpr ⟨rfl,(Bool.and_eq_true _ _).mpr ⟨rfl,hno⟩⟩
 refine ⟨fun i ys e=>ys=((xs.take i).filter p).map f/\∃ o o',e=stO o :: stO o' :: aal src e1,⟨by simp,none,none,rfl⟩,?_,?_,?_⟩
 ·rintro i ys e ⟨_,o,o',rfl⟩
  exact ⟨⟨isIo_stO.symm,ac0⟩,⟨isIo_stO.symm,ac0⟩,adu adn⟩
 ·rintro i d ys e hd ⟨rfl,o,o',rfl⟩ B' hB
  rw [List.getElem?_map] at hd
  cases hx:xs[i]? with
  | none=>rw [hx] at hd;cases hd
  | some x =>
   rw [hx] at hd
   cases hd
   have hi:i < xs.length:=(List.getElem?_eq_some_iff.mp hx).1
   have et:xs.take (i+1)=xs.take i ++ [x]:=by rw [List.take_add_one,hx];rfl
   refine agg rfl (acl (aaz (acl (aaz (afi ?_)))))
   show EvT B' tif (some (.st (fa x)) :: some (.st (fb x)) :: aal src e1) _
   intro σ G H F Q I k
   refine h x (List.mem_of_getElem? hx) B' hB σ G H F Q I fun b G' H' F' e3 I' g' ⟨hb,he,hq⟩=>k b G' H' F' e3 I' g' ?_
   subst he
   by_cases hp:b=true
   ·rw [if_pos hp]
    intro σ G H F Q I k
    refine hq hp σ G H F Q I fun v G' H' F' d' e4 I' g' r' ⟨hy,he4⟩=>k v G' H' F' d' e4 I' g' r' ?_
    subst hy he4
    refine ⟨?_,?_,some _,some _,rfl⟩
    ·have:=List.length_filter_le p (xs.take i)
     simp only [List.length_map]
     have h2:(xs.take i).length<=i:=by simp;omega
     omega
    ·rw [et,List.filter_append,List.map_append]
     have:p x=true:=by rw [← hb];exact hp
     simp [this]
   ·rw [if_neg hp]
    refine ⟨?_,some _,some _,rfl⟩
    rw [et,List.filter_append,List.map_append]
    have:p x=false:=by rw [← hb];simpa using hp
    simp [this]
 ·rintro ys e ⟨rfl,o,o',rfl⟩
  rw [agj hno']
  simpa using hR
end
section
variable {R:Sl->Prop}
theorem ave {g:Int->Int->Int} {i j:Int} (h:R (.st (.int (g i j)))):Op2 (rI0 fun i j => .int (g i j)) (.int i) (.int j) R:=fun G H vx vy Q gh rx ry k=>by
 cases rx;cases ry
 exact ⟨i,j,rfl,rfl,k _ _ _ _ _ (Out.refl gh (.int _)) h⟩
theorem avf {g:Int->Int->Bool} {i j:Int} (h:R (.st (.bool (g i j)))):Op2 (rI0 fun i j => .bl (g i j)) (.int i) (.int j) R:=fun G H vx vy Q gh rx ry k=>by
 cases rx;cases ry
 exact ⟨i,j,rfl,rfl,k _ _ _ _ _ (Out.refl gh (.bl _)) h⟩
theorem ax2 {C:Int->Int->Prop} {g:Int->Int->Int} {i j:Int} (hc:C i j) (h:R (.st (.int (g i j)))):Op2 (rI C fun i j => .int (g i j)) (.int i) (.int j) R:=fun G H vx vy Q gh rx ry k=>by
 cases rx;cases ry
 exact ⟨i,j,rfl,rfl,hc,k _ _ _ _ _ (Out.refl gh (.int _)) h⟩
theorem ax3 {g:Int->Int} {i:Int} (h:R (.st (.int (g i)))):Op1 (rU fun i => .int (g i)) (.int i) R:=fun G H vx Q gh rx k=>by
 cases rx
 exact ⟨i,rfl,k _ _ _ _ _ (Out.refl gh (.int _)) h⟩
theorem avg {i j:Int} (h:R (.st (.bool (decide (i=j))))):Op2 rEq (.int i) (.int j) R:=fun G H vx vy Q gh rx ry k=>by
 cases rx;cases ry
 exact ap8 (k _ _ _ _ _ (Out.refl gh (.bl _)) h)
theorem avh {i j:Int} (h:R (.st (.bool (!decide (i=j))))):Op2 rNe (.int i) (.int j) R:=fun G H vx vy Q gh rx ry k=>by
 cases rx;cases ry
 exact axi (k _ _ _ _ _ (Out.refl gh (.bl _)) h)
theorem avi {i j:Bool} (h:R (.st (.bool (decide (i=j))))):Op2 rEq (.bool i) (.bool j) R:=fun G H vx vy Q gh rx ry k=>by
 cases rx;cases ry
 exact axj (k _ _ _ _ _ (Out.refl gh (.bl _)) h)
theorem ant {x y:PyData} (px:aaj x=true) (py:aaj y=true) (hd:x.depth<=60) (h:R (.st (.bool (PyData.eqv x y)))):Op2 rEqD x y R:=fun G H vx vy Q gh rx ry k =>
 ⟨x,y,(rx.rep px).same gh,(ry.rep py).same gh,px,py,hd,k _ _ _ _ _ (Out.refl gh (.bl _)) h⟩
theorem agk {x y:PyData} (px:aaj x=true) (py:aaj y=true) (hd:x.depth<=60) (h:R (.st (.bool (!PyData.eqv x y)))):Op2 rNeD x y R:=fun G H vx vy Q gh rx ry k =>
 ⟨x,y,(rx.rep px).same gh,(ry.rep py).same gh,px,py,hd,k _ _ _ _ _ (Out.refl gh (.bl _)) h⟩
theorem ae5 {neg:Bool} {x:PyData} {es:List PyData} (px:aaj x=true) (py:plainDs es=true) (hd:x.depth<=60) (h:R (.st (.bool (if neg then !es.any (fun z=>PyData.eqv z x) else es.any (fun z=>PyData.eqv z x))))):Op2 (rInD neg) x (.list es) R:=fun G H vx vy Q gh rx ry k =>
 ⟨x,es,(rx.rep px).same gh,.inl ((ry.rep (by simpa [aaj] using py)).same gh),px,py,hd,k _ _ _ _ _ (Out.refl gh (.bl _)) h⟩
theorem Rps.at {G:Hp} {vs:List V} {ds:List PyData} {i:Int} {d:PyData} (r:Rps G vs ds) (h:atI ds i=some d):∃ v,atI vs i=some v/\Rp G v d:=by
 unfold atI at h ⊢
 rw [r.length]
 cases e:ixN ds.length i with
 | none=>rw [e] at h;cases h
 | some j =>
  rw [e] at h
  exact r.get h
theorem avj {K:Frag} {ds:List PyData} {i:Int} {d:PyData} (hd:atI ds i=some d) (h:R (.st d)):Op2 (abw K) (.list ds) (.int i) R:=fun G H vx vy Q gh rx ry k=>by
 cases ry
 cases rx with
 | lst ha rs =>
  obtain ⟨v,hv,rv⟩:=rs.at hd
  exact afh (gh _ _ ha) hv (k _ _ _ _ _ (Out.refl gh rv) h)
theorem avk {K:Frag} {ds:List PyData} {i:Int} {d:PyData} (hd:atI ds i=some d) (h:R (.st d)):Op2 (abw K) (.tuple ds) (.int i) R:=fun G H vx vy Q gh rx ry k=>by
 cases ry
 cases rx with
 | tup ha rs =>
  obtain ⟨v,hv,rv⟩:=rs.at hd
  exact ar1 (gh _ _ ha) hv (k _ _ _ _ _ (Out.refl gh rv) h)
noncomputable def isNone:PyData->Bool
 | .none=>true
 | _=>false
theorem avl {G:Hp} {v:V} {x:PyData} (r:Rp G v x):decide (v=.non)=isNone x:=by cases r <;> rfl
theorem avm {x:PyData} (h:R (.st (.bool (isNone x)))):Op2 rIsN x .none R:=fun G H vx vy Q gh rx ry k=>by
 cases ry
 refine ⟨rfl,?_⟩
 rw [avl rx]
 exact k _ _ _ _ _ (Out.refl gh (.bl _)) h
theorem avn {xs ys:List PyData} (hl:xs.length+ys.length<=1000000) (h:R (.own (OL (xs ++ ys)))):Op2 rCat (.list xs) (.list ys) R:=fun G H vx vy Q gh rx ry k=>by
 cases rx with
 | lst ha ra =>
  cases ry with
  | lst hb rb =>
   refine axm (gh _ _ ha) (gh _ _ hb) ?_ fun p hp=>k _ _ _ _ _ (Out.newL gh hp (ra.append rb)) h
   rw [ra.length,rb.length];exact Nat.le_of_lt (big hl)
theorem avo {xs:List PyData} {n:Int} (h1 : -(2 ^ 63)<=n) (h2:n < 2 ^ 63) (hl:xs.length * n.toNat<=1000000) (h:R (.own (OL (List.replicate n.toNat xs).flatten))):Op2 rRep (.list xs) (.int n) R:=fun G H vx vy Q gh rx ry k=>by
 cases ry
 cases rx with
 | lst ha ra =>
  refine ⟨_,n,_,rfl,rfl,gh _ _ ha,h1,h2,?_,fun p hp=>k _ _ _ _ _ (Out.newL gh hp (ra.rep _)) h⟩
  rw [ra.length];exact Nat.le_of_lt (big hl)
theorem asj {K:Frag} {xs:List PyData} (h:R (.st (.int xs.length))):OpA (rLen K) [.list xs] R:=fun G H vs Q gh rs k=>by
 cases rs with
 | cons r t =>
  cases t
  cases r with
  | lst ha ra =>
   refine anb (gh _ _ ha) ?_
   rw [ra.length]
   exact k _ _ _ _ _ (Out.refl gh (.int _)) h
theorem asl {K:Frag} {xs:List PyData} (h:R (.st (.int xs.length))):OpA (rLen K) [.tuple xs] R:=fun G H vs Q gh rs k=>by
 cases rs with
 | cons r t =>
  cases t
  cases r with
  | tup ha ra =>
   refine auy (gh _ _ ha) ?_
   rw [ra.length]
   exact k _ _ _ _ _ (Out.refl gh (.int _)) h
theorem asm {i j:Int} (h:R (.st (.int (if j > i then j else i)))):OpA aka [.int i,.int j] R:=fun G H vs Q gh rs k=>by
 obtain rfl:vs=[V.int i,V.int j]:=Rps.ints_inv (ns:=[i,j]) rs
 exact anc (k _ _ _ _ _ (Out.refl gh (.int _)) h)
theorem asn {i j:Int} (h:R (.st (.int (if j < i then j else i)))):OpA akb [.int i,.int j] R:=fun G H vs Q gh rs k=>by
 obtain rfl:vs=[V.int i,V.int j]:=Rps.ints_inv (ns:=[i,j]) rs
 exact ane (k _ _ _ _ _ (Out.refl gh (.int _)) h)
theorem aso {b:Bool} (h:R (.st (.int (if b then 1 else 0)))):OpA akc [.bool b] R:=fun G H vs Q gh rs k=>by
 cases rs with
 | cons r t =>
  cases t;cases r
  exact anf (k _ _ _ _ _ (Out.refl gh (.int _)) h)
theorem acm {K:Frag} {ns:List Int} (hne:ns ≠ []) (h:∀ m,adb ns m->R (.st (.int m))):OpA (aep K) [.list (ns.map .int)] R:=fun G H vs Q gh rs k=>by
 cases rs with
 | cons r t =>
  cases t
  cases r with
  | lst ha ra =>
   have:=Rps.ints_inv ra
   subst this
   exact ⟨_,ns,rfl,.inl (SqL.of (gh _ _ ha)),hne,fun m hm=>k _ _ _ _ _ (Out.refl gh (.int _)) (h m hm)⟩
theorem alm {K:Frag} {ns:List Int} (hne:ns ≠ []) (h:∀ m,ao2 ns m->R (.st (.int m))):OpA (ao3 K) [.list (ns.map .int)] R:=fun G H vs Q gh rs k=>by
 cases rs with
 | cons r t =>
  cases t
  cases r with
  | lst ha ra =>
   have:=Rps.ints_inv ra
   subst this
   exact ⟨_,ns,rfl,.inl (SqL.of (gh _ _ ha)),hne,fun m hm=>k _ _ _ _ _ (Out.refl gh (.int _)) (h m hm)⟩
end
section
variable {B:Bs} {env:En} {QO:Sl->En->Prop} {Q':PyData->En->Prop} {te tl th:TE} {K:Frag}
noncomputable def cutD (xs:List PyData) (lo hi:Option Int):List PyData:=(xs.drop (HT.sIx xs.length 0 lo)).take (HT.sIx xs.length xs.length hi - HT.sIx xs.length 0 lo)
def EvOp (B:Bs) (t:TO) (env:En) (Q':Option Int->En->Prop):Prop:=∀ (σ:St) (G H:Hp) (F:Nat->Addr->Prop) (Q:Option Int->Hp->Prop),VI B G H σ env F->(∀ o G' H' F' env',VI B G' H' σ env' F'->Same G G'->Q' o env'->Q o H')->t σ H Q
theorem asp {QP:Option Int->En->Prop} (h:Ev B te env fun d e=>∃ i,d=.int i/\QP (some i) e):EvOp B (at9 te) env QP:=fun σ G H F Q I k =>
 h σ G H F _ I fun v G1 H1 F1 d e1 I1 g1 r1 z_=>by
  obtain ⟨i,ed,q⟩:=z_
  subst ed;cases r1
  exact ⟨i,rfl,k _ G1 H1 F1 e1 I1 g1 q⟩
theorem azp {i:Int} {R:Int->Prop} (h:R i):∃ j,PyData.int i=.int j/\R j:=⟨i,rfl,h⟩
theorem ai9 {tl th:TO} (h:Ev B te env fun d e1=>∃ ds,d=.list ds/\EvOp B tl e1 fun lo e2=>EvOp B th e2 fun hi e3=>QO (.own (OL (cutD ds lo hi))) e3):EvO B (tSl (rSlL K) te tl th) env QO:=fun σ G H F Q I k =>
 h σ G H F _ I fun v G1 H1 F1 d e1 I1 g1 r1 z_=>by
  obtain ⟨ds,ed,q1⟩:=z_
  subst ed
  cases r1 with
  | @lst a vs _ ha rs =>
   refine q1 σ G1 H1 F1 _ I1 fun lo G2 H2 F2 e2 I2 g2 q2=>q2 σ G2 H2 F2 _ I2 fun hi G3 H3 F3 e3 I3 g3 q3=>?_
   have rs3:=rs.same (g2.trans g3)
   refine ⟨a,vs,rfl,SqL.of (I3.gh _ _ (g3 _ _ (g2 _ _ ha))),fun p hp=>?_⟩
   have e:cutV vs lo hi=(vs.drop (HT.sIx ds.length 0 lo)).take (HT.sIx ds.length ds.length hi - HT.sIx ds.length 0 lo):=by unfold cutV;rw [rs.length]
   have o:=Out.newL (xs:=cutV vs lo hi) (ds:=cutD ds lo hi) I3.gh hp (by rw [e];exact (rs3.drop _).take _)
   exact k _ _ _ F3 _ _ e3 (I3.out o).1 (g1.trans (g2.trans (g3.trans o.gg))) (I3.out o).2 q3
theorem asq {tl th:TO} (h:Ev B te env fun d e1=>∃ ds,d=.list ds/\EvOp B tl e1 fun lo e2=>EvOp B th e2 fun hi e3=>Q' (.list (cutD ds lo hi)) e3):Ev B (tSl (rSlL K) te tl th) env Q':=abp (ai9 (by
 intro σ G H F Q I k
 refine h σ G H F Q I fun v G' H' F' d e1 I1 g1 r1 ⟨ds,ed,q⟩=>k v G' H' F' d e1 I1 g1 r1 ⟨ds,ed,?_⟩
 intro σ G H F Q I k
 refine q σ G H F Q I fun lo G' H' F' e I' g' q=>k lo G' H' F' e I' g' ?_
 intro σ G H F Q I k
 exact q σ G H F Q I fun hi G' H' F' e I' g' q=>k hi G' H' F' e I' g' (ad5 q)))
end
noncomputable def agl:PyData->Bool
 | .none | .bool _ | .int _ | .str _=>true
 | _=>false
theorem anu {G G':Hp} {v:V} {d:PyData} (r:Rp G v d) (h:agl d=true):Rp G' v d:=by
 cases r with
 | non=>exact .non
 | bl b=>exact .bl b
 | int i=>exact .int i
 | str x=>exact .str x
 | _=>simp [agl] at h
def Has (env:En) (i:Nat) (A:Own):Prop:=env[i]?=some (some (.own A))\/env[i]?=some (some (.io A))
section
variable {B:Bs} {env:En} {QO:Sl->En->Prop} {Q':PyData->En->Prop} {QT:Bool->En->Prop} {QE:En->Prop} {te ta tb tk:TE} {K:Frag} {i:Nat}
theorem VI.has {G H:Hp} {σ:St} {F:Nat->Addr->Prop} {A:Own} (I:VI B G H σ env F) (h:Has env i A):∃ v,σ[i]?=some (some v)/\A.P G H v (F i):=by
 rcases h with h | h
 ·obtain ⟨v,hv,q⟩:=I.sl i _ h;exact ⟨v,hv,q.1⟩
 ·obtain ⟨v,hv,q⟩:=I.sl i _ h;exact ⟨v,hv,q.1⟩
theorem VI.moment {G G1 G3 H H3:Hp} {σ:St} {F:Nat->Addr->Prop} {v:V} {s:Sl} {Fv:Addr->Prop} (I:VI B G H σ env F) (g1:Same G G1) (o:Out G1 H v G3 H3 s Fv):∃ G2,Same G G2/\VI B G2 H3 σ env F:=by
 refine ⟨fun a=>if H a=none then G3 a else G a,fun a u e=>?_,I.grow (fun a u e=>?_) (fun a u e=>?_) o.hh (fun a u e=>?_) fun a ks e=>?_⟩
 ·show (if H a=none then G3 a else G a)=some u;rw [if_neg (by rw [I.gh a u e];simp)];exact e
 ·rw [if_neg (by rw [I.gh a u e];simp)];exact e
 ·by_cases h:H a=none
  ·rw [if_pos h] at e;exact o.gh a u e
  ·rw [if_neg h] at e;exact o.hh _ _ (I.gh a u e)
 ·by_cases h:H a=none
  ·exact .inr h
  ·rw [if_neg h] at e;exact .inl e
 ·have f1:FT G1 H:=fun a ks e=>g1 _ _ (I.ft a ks e)
  by_cases h:H a=none
  ·rw [if_pos h];exact o.ft f1 a ks e
  ·rw [if_neg h]
   obtain ⟨u,hu⟩:=ao7 h
   have:=o.hh _ _ hu
   rw [e] at this
   exact I.ft a ks (by rw [hu,← this])
theorem ax4 {r:List V->Hp->VK->Prop} {A:Own} {dx:PyData} (hA:Has env i A) (fz:Frz A dx) (h:OpA r [dx] fun s=>∃ d,s=.st d/\agl d=true/\Q' d env):Ev B (tCB r (aa6 (tVar i) tNil)) env Q':=fun σ G H F Q I k=>by
 obtain ⟨v,hv,ap⟩:=I.has hA
 refine ⟨v,hv,h (jn G H (F i)) H [v] Q (ao8 I.gh) (.cons (fz _ _ _ _ ap (I.fg i) I.gh) .nil) fun w G3 H3 s Fv o ⟨d,es,hs,q3⟩=>?_⟩
 subst es
 obtain ⟨G4,g4,I4⟩:=I.moment (abl (I.fg i)) o
 exact k w G4 H3 F d env I4 g4 (anu o.ok.1 hs) q3
theorem x_sc {d:PyData} {R:PyData->Prop} (h1:agl d=true) (h:R d):∃ d',Sl.st d=.st d'/\agl d'=true/\R d':=⟨d,rfl,h1,h⟩
theorem ax5 {ds0:List PyData} (h0:Has env i (OL ds0)) (h:Ev B tb env fun y e2=>∃ ds k d,Has e2 i (OL ds)/\y=.int k/\atI ds k=some d/\Q' d e2):Ev B (tOp (abw K) (tVar i) tb) env Q':=fun σ G H F Q I k=>by
 obtain ⟨v,hv,_⟩:=I.has h0
 refine ⟨v,hv,h σ G H F _ I fun u G2 H2 F2 y e2 I2 g2 r2 ⟨ds,j,d,hA,ey,hat,q⟩=>?_⟩
 subst ey
 cases r2
 obtain ⟨v',hv',a,vs,ea,ha,rs,_⟩:=I2.has hA
 rw [hv] at hv';cases hv'
 subst ea
 obtain ⟨w,hw,rw'⟩:=rs.at hat
 exact afh ha hw (k w G2 H2 F2 d e2 I2 g2 rw' q)
theorem avp {ns:List Int} (e:env[i]?=some (some (.scr ns))) (hK:B.K=K) (q:Q' (.int ns.length) env):Ev B (tCB (rLen K) (aa6 (tVar i) tNil)) env Q':=fun σ G H F Q I k=>by
 subst hK
 obtain ⟨v0,hv,⟨a,ea,sq⟩,_⟩:=I.sl i _ e
 subst ea
 refine ⟨_,hv,auz (I.gh.seq sq) ?_⟩
 rw [List.length_map]
 exact k _ G H F _ env I (Same.refl _) (.int _) q
theorem ax6 {ns:List Int} (e:env[i]?=some (some (.scr ns))) (hK:B.K=K) (h:Ev B tb env fun y e2=>∃ j n,y=.int j/\atI ns j=some n/\Q' (.int n) e2):Ev B (tOp (abw K) (tVar i) tb) env Q':=fun σ G H F Q I k=>by
 subst hK
 obtain ⟨v0,hv,⟨a,ea,sq⟩,_⟩:=I.sl i _ e
 subst ea
 refine ⟨_,hv,h σ G H F _ I fun u G2 H2 F2 y e2 I2 g2 r2 ⟨j,n,ey,hat,q⟩=>?_⟩
 subst ey
 cases r2
 refine ar2 (I2.gh.seq (g2.seq sq)) (v:=.int n) ?_ (k _ G2 H2 F2 _ e2 I2 g2 (.int _) q)
 unfold atI at hat ⊢
 rw [List.length_map]
 cases e:ixN ns.length j with
 | none=>rw [e] at hat;cases hat
 | some l=>rw [e] at hat;simp at hat ⊢;exact hat
theorem VI.upd1 {G H:Hp} {σ:St} {F:Nat->Addr->Prop} {s:Sl} {A A':Own} {a:Addr} {o:HO} (I:VI B G H σ env F) (e:env[i]?=some (some s)) (hs:s=.own A\/s=.io A) (hv : σ[i]?=some (some (.ref a))) (hf:∀ b,F i b ↔ b=a) (hp:A'.P G (upd H a o) (.ref a) (· = a)) (nt:∀ xs,o ≠ .tup xs:=by intro _ z;cases z) :
  VI B G (upd H a o) σ (env.set i (some (reS s A'))) (putF F i (· = a)):=by
 refine I.change (A:=A') i e hv (fun b u hb eb=>by rw [aag (fun z=>hb ((hf b).mpr z))];exact eb) (fun b u eb=>?_) (fun b z=>⟨.inl ((hf b).mpr z),by rw [z];exact ⟨_,aam⟩⟩) hp (fun b ks e=>?_) ?_
 ·by_cases z:b=a
  ·rw [z];exact ⟨_,aam⟩
  ·rw [aag z];exact ⟨u,eb⟩
 ·by_cases z:b=a
  ·subst z;rw [aam] at e;exact absurd (Option.some.inj e) (nt _)
  ·rw [aag z] at e;exact I.ft b ks e
 ·rcases hs with rfl | rfl
  ·exact .inl ⟨rfl,A,rfl⟩
  ·exact .inr ⟨rfl,A,rfl⟩
theorem aqn {ds0:List PyData} (h0:Has env i (OL ds0)) (h:Ev B te env fun y e2=>∃ s ds,e2[i]?=some (some s)/\(s=.own (OL ds)\/s=.io (OL ds))/\ds.length<=999999/\Q' .none (e2.set i (some (reS s (OL (ds ++ [y])))))):Ev B (tBM K "list" ae0 (tVar i) (aa6 te tNil)) env Q':=fun σ G H F Q I k=>by
 obtain ⟨v,hv,a,vs,ea,ha,rs,_⟩:=I.has h0
 subst ea
 refine ⟨_,hv,.inl ⟨rfl,_,SqL.of ha⟩,h σ G H F _ I fun u G2 H2 F2 y e2 I2 g2 r2 ⟨s,ds,es,hs,hl,q⟩=>?_⟩
 have hA:Has e2 i (OL ds):=by rcases hs with rfl | rfl;exact .inl es;exact .inr es
 obtain ⟨v',hv',a',vs',ea',ha',rs',hf⟩:=I2.has hA
 rw [hv] at hv';cases hv';cases ea'
 refine afx ha' (by rw [rs'.length];exact big (by omega)) ?_
 exact k _ G2 _ _ _ _ (I2.upd1 (A':=OL (ds ++ [y])) es hs hv hf ⟨a,_,rfl,aam,rs'.append (.cons r2 .nil),fun b=>Iff.rfl⟩) g2 .non q
theorem apa {ds0:List PyData} (h0:Has env i (OL ds0)) (h:Ev B te env fun y e2=>∃ ds,e2[i]?=some (some (.own (OL ds)))/\ds.length<=999999/\Q' .none (e2.set i (some (.own (OL (ds ++ [y])))))):Ev B (tBM K "list" ae0 (tVar i) (aa6 te tNil)) env Q' :=
 aqn h0 fun σ G H F Q I k=>h σ G H F Q I fun v G' H' F' d e I' g r ⟨ds,h1,h2,q⟩=>k v G' H' F' d e I' g r ⟨_,ds,h1,.inl rfl,h2,q⟩
theorem asr {ds0:List PyData} (h0:Has env i (OL ds0)) (h:Ev B te env fun y e2=>∃ s ds j n d,y=.int j/\e2[i]?=some (some s)/\(s=.own (OL ds)\/s=.io (OL ds))/\-(2 ^ 63)<=j/\j < 2 ^ 63/\seqIndex? j ds.length=some n/\ds[n]?=some d/\Q' d (e2.set i (some (reS s (OL (ds.eraseIdx n)))))):Ev B (tBM K "list" ahb (tVar i) (aa6 te tNil)) env Q':=fun σ G H F Q I k=>by
 obtain ⟨v,hv,a,vs,ea,ha,rs,_⟩:=I.has h0
 subst ea
 refine ⟨_,hv,.inl ⟨rfl,_,SqL.of ha⟩,h σ G H F _ I fun u G2 H2 F2 y e2 I2 g2 r2 ⟨s,ds,j,n,d,ey,es,hs,b1,b2,hn,hd,q⟩=>?_⟩
 subst ey
 cases r2
 have hA:Has e2 i (OL ds):=by rcases hs with rfl | rfl;exact .inl es;exact .inr es
 obtain ⟨v',hv',a',vs',ea',ha',rs',hf⟩:=I2.has hA
 rw [hv] at hv';cases hv';cases ea'
 obtain ⟨w,hw,rw'⟩:=rs'.get hd
 refine aru ha' b1 b2 (by rw [rs'.length];exact hn) hw ?_
 exact k _ G2 _ _ _ _ (I2.upd1 (A':=OL (ds.eraseIdx n)) es hs hv hf ⟨a,_,rfl,aam,rs'.erase n,fun b=>Iff.rfl⟩) g2 rw' q
theorem ass {d:PyData} {ds0:List PyData} (h0:Has env i (OL ds0)) (h:Ev B tk env fun y e2=>∃ s ds k j,y=.int k/\e2[i]?=some (some s)/\(s=.own (OL ds)\/s=.io (OL ds))/\ixN ds.length k=some j/\QE (e2.set i (some (reS s (OL (ds.set j d)))))):EvG B (gSub (tVar i) tk aov) (.st d) env QE:=fun σ G H F v Fv Q I x k=>by
 obtain ⟨rv,_⟩:=x.ok
 obtain ⟨v1,hv,a,vs,ea,ha,rs,_⟩:=I.has h0
 subst ea
 refine ⟨_,hv,h σ G H F _ I fun u G2 H2 F2 y e2 I2 g2 r2 ⟨s,ds,n,j,ey,es,hs,hj,q⟩=>?_⟩
 subst ey
 cases r2
 have hA:Has e2 i (OL ds):=by rcases hs with rfl | rfl;exact .inl es;exact .inr es
 obtain ⟨v',hv',a',vs',ea',ha',rs',hf⟩:=I2.has hA
 rw [hv] at hv';cases hv';cases ea'
 refine ana ha' (by rw [rs'.length];exact hj) ?_
 exact k _ G2 _ _ _ (I2.upd1 (A':=OL (ds.set j d)) es hs hv hf ⟨a,_,rfl,aam,rs'.set (rv.same g2) j,fun b=>Iff.rfl⟩) g2 q
theorem avq {t:TS} {D':VEnds} {A:Own} {d:PyData} (i:Nat) (e:env[i]?=some (some (.own A))) (f:Frz A d) (h:EvS B t D' (env.set i (some (.st d)))):EvS B t D' env:=fun σ G H F D I r=>by
 obtain ⟨v,hv,rv,g,J⟩:=I.frz e f
 exact h σ _ H _ D J (r.later g)
end
noncomputable def tyD:PyData->String
 | .none => "NoneType" | .bool _ => "bool" | .int _ => "int" | .str _ => "str" | .list _ => "list" | .tuple _ => "tuple" | .dict _ => "dict"
def ad8 (T:String):Prop:=T = "int"\/T = "bool"\/T = "tuple"\/T = "list"\/T = "str"\/T = "dict"
noncomputable def isiD (T:String) (d:PyData):Bool:=tyD d == T || (T == "int" && tyD d == "bool")
theorem azq {K:Frag} {H:Hp} {v:V} {d:PyData} (r:Rp H v d):TyOf K H v (.type (tyD d)):=by
 cases r with
 | non=>exact .non
 | bl b=>exact .bl b
 | int i=>exact .int i
 | str x=>exact .str x
 | lst h _=>exact .lst h
 | tup h _=>exact .tup h
 | dk h _ _=>exact .dK h
 | dt h _ _=>exact .dT h
theorem azr {K:Frag} {T:String} (h:ad8 T) (d:PyData):kitOne K (.type (tyD d)) (.type T)=some (isiD T d):=by
 rcases h with rfl | rfl | rfl | rfl | rfl | rfl
 ·cases d with
  | none=>exact agz
  | bool _=>exact ak1
  | int _=>exact amn
  | str _=>exact amp
  | list _=>exact ak9
  | tuple _=>exact ajx
  | dict _=>exact alb
 ·cases d with
  | none=>exact agq
  | bool _=>exact ajp
  | int _=>exact ak3
  | str _=>exact ak6
  | list _=>exact aju
  | tuple _=>exact aig
  | dict _=>exact ajz
 ·cases d with
  | none=>exact af0
  | bool _=>exact aie
  | int _=>exact ajs
  | str _=>exact ajt
  | list _=>exact aif
  | tuple _=>exact ahh
  | dict _=>exact aij
 ·cases d with
  | none=>exact agr
  | bool _=>exact ajq
  | int _=>exact ak4
  | str _=>exact ak7
  | list _=>exact ajv
  | tuple _=>exact aih
  | dict _=>exact aj0
 ·cases d with
  | none=>exact ag0
  | bool _=>exact ak2
  | int _=>exact amo
  | str _=>exact amq
  | list _=>exact ala
  | tuple _=>exact ajy
  | dict _=>exact alc
 ·cases d with
  | none=>exact ags
  | bool _=>exact ajr
  | int _=>exact ak5
  | str _=>exact ak8
  | list _=>exact ajw
  | tuple _=>exact aii
  | dict _=>exact aj1
section
variable {B:Bs} {env:En} {QO:Sl->En->Prop} {Q':PyData->En->Prop} {QT:Bool->En->Prop} {QE:En->Prop} {te ta tb tk:TE} {K:Frag} {i:Nat}
theorem ax7 {T:String} (hT:ad8 T) (h:Ev B te env fun d e=>Q' (.bool (isiD T d)) e):Ev B (tCB (rIsi K) (aa6 te (aa6 (tC (.ty T)) tNil))) env Q':=fun σ G H F Q I k =>
 h σ G H F _ I fun v G1 H1 F1 d e1 I1 g1 r1 q1=>⟨v,T,_,_,rfl,azq (r1.same I1.gh),azr hT d,k _ G1 H1 F1 _ e1 I1 g1 (.bl _) q1⟩
theorem ax8:ad8 "int":=.inl rfl
theorem avr:ad8 "bool":=.inr (.inl rfl)
theorem ast:ad8 "tuple":=.inr (.inr (.inl rfl))
theorem avs:ad8 "list":=.inr (.inr (.inr (.inl rfl)))
theorem asu {A:Own} {D':VEnds} (e:env[i]?=some (some (.own A))) (q:D'.rt (.own A) (env.set i none)):EvS B (tRet (tVar i)) D' env:=ano (ar5 e q)
theorem azs {n m:Nat} {P:Prop} (h:n<=m) (q:P):n<=m/\P:=⟨h,q⟩
theorem ax9 {ds:List PyData} {e2:En} {R:List PyData->Prop} (e:e2[i]?=some (some (.own (OL ds)))) (hl:ds.length<=999999) (q:R ds):∃ ds,e2[i]?=some (some (.own (OL ds)))/\ds.length<=999999/\R ds:=⟨ds,e,hl,q⟩
theorem azt {ds:List PyData} {d:PyData} {k:Int} {e2:En} {R:PyData->Prop} (hA:Has e2 i (OL ds)) (h:atI ds k=some d) (q:R d):∃ ds k' d,Has e2 i (OL ds)/\PyData.int k=.int k'/\atI ds k'=some d/\R d:=⟨ds,k,d,hA,rfl,h,q⟩
theorem azu {ns:List Int} {n k:Int} {R:Int->Prop} (h:atI ns k=some n) (q:R n):∃ j n,PyData.int k=.int j/\atI ns j=some n/\R n:=⟨k,n,rfl,h,q⟩
theorem apb {ds:List PyData} {k:Int} {j:Nat} {e2:En} {R:Sl->List PyData->Nat->Prop} (e:e2[i]?=some (some (.own (OL ds)))) (hj:ixN ds.length k=some j) (q:R (.own (OL ds)) ds j):∃ s ds k' j,PyData.int k=.int k'/\e2[i]?=some (some s)/\(s=.own (OL ds)\/s=.io (OL ds))/\ixN ds.length k'=some j/\R s ds j:=⟨_,ds,k,j,rfl,e,.inl rfl,hj,q⟩
theorem aya {ds:List PyData} {k:Int} {j:Nat} {e2:En} {R:Sl->List PyData->Nat->Prop} (e:e2[i]?=some (some (.io (OL ds)))) (hj:ixN ds.length k=some j) (q:R (.io (OL ds)) ds j):∃ s ds k' j,PyData.int k=.int k'/\e2[i]?=some (some s)/\(s=.own (OL ds)\/s=.io (OL ds))/\ixN ds.length k'=some j/\R s ds j:=⟨_,ds,k,j,rfl,e,.inr rfl,hj,q⟩
theorem x_rt {A:Own} {e2:En} {R:Own->Prop} (e:e2[0]?=some (some (.io A))) (q:R A):∃ A',e2[0]?=some (some (.io A'))/\R A':=⟨A,e,q⟩
theorem x_st {b:Bool} {R:Bool->Prop} (h:R b):∃ c,Sl.st (.bool b)=.st (.bool c)/\R c:=⟨b,rfl,h⟩
theorem asv {ds:List PyData} {R:Bool->Prop} (h:R (!ds.isEmpty)):∃ k,TruD (.list ds) k/\R k:=⟨_,rfl,h⟩
theorem lenP {f:VP} {n:Nat} {vs:List V} {H:Hp} {Q:VK} {E:XK} (h:spP K f vs H Q E) (hf:∀ ss Q',f ss Q'->ss.length=n):vs.length=n:=by
 obtain ⟨G,ss,Q',_,_,ao,q,_⟩:=h
 rw [ao.length];exact hf ss Q' q
theorem lenI {f:VIo} {n:Nat} {vs:List V} {H:Hp} {Q:VK} {E:XK} (h:spI K f vs H Q E) (hf:∀ A ss Q',f A ss Q'->ss.length+1=n):vs.length=n:=by
 obtain ⟨v0,vr,G,R,A,ss,F0,Q',rfl,_,_,_,_,_,_,ao,q,_⟩:=h
 rw [List.length_cons,ao.length];exact hf A ss Q' q
theorem ahp {f:VIo} {t:TA} {E:XK} {A:Own} (h0:env[i]?=some (some (.io A))) (h:EvA B t env fun ds e1=>e1[i]?=some (some (.io A))/\f A (ds.map Sl.st) fun A' s=>QO s (e1.set i (some (.io A')))):EvO B (abz (spI K f) [] E (aa6 (tVar i) t)) env QO :=
 ai7 ⟨_,h0⟩ fun σ G H F Q I k=>h σ G H F Q I fun vs G' H' F' ds e1 I' g r ⟨h1,q⟩=>k vs G' H' F' ds e1 I' g r ⟨_,A,h1,.inr rfl,q⟩
theorem ahq {f:VIo} {t:TA} {E:XK} {A:Own} (h0:env[i]?=some (some (.own A))) (h:EvA B t env fun ds e1=>e1[i]?=some (some (.own A))/\f A (ds.map Sl.st) fun A' s=>QO s (e1.set i (some (.own A')))):EvO B (abz (spI K f) [] E (aa6 (tVar i) t)) env QO :=
 ai7 ⟨_,h0⟩ fun σ G H F Q I k=>h σ G H F Q I fun vs G' H' F' ds e1 I' g r ⟨h1,q⟩=>k vs G' H' F' ds e1 I' g r ⟨_,A,h1,.inl rfl,q⟩
theorem aqo {f:VIo} {t:TA} {E:XK} {A:Own} (h0:env[i]?=some (some (.io A))) (h:EvA B t env fun ds e1=>e1[i]?=some (some (.io A))/\f A (ds.map Sl.st) fun A' s=>FQ s fun d=>Q' d (e1.set i (some (.io A')))):Ev B (abz (spI K f) [] E (aa6 (tVar i) t)) env Q':=abp (ahp h0 h)
theorem aqp {f:VIo} {t:TA} {E:XK} {A:Own} (h0:env[i]?=some (some (.own A))) (h:EvA B t env fun ds e1=>e1[i]?=some (some (.own A))/\f A (ds.map Sl.st) fun A' s=>FQ s fun d=>Q' d (e1.set i (some (.own A')))):Ev B (abz (spI K f) [] E (aa6 (tVar i) t)) env Q':=abp (ahq h0 h)
theorem azv {P Q:Prop} (h:P) (q:Q):P/\Q:=⟨h,q⟩
theorem azw {src:List (Option Nat)} {wi:TI} {g:TG} {tif:TT} (nd:(src.filterMap id).Nodup) (h:EvI B wi env fun ds e1=>LcV B.K src g tif te ds e1 fun ys e2=>Q' (.list ys) e2):Ev B (tLC src wi g tif te) env Q':=abp (aqm nd fun σ G H F R I k=>h σ G H F R I fun J G' H' F' ds e1 I' g' it ⟨Jv,a,b,c,d⟩=>k J G' H' F' ds e1 I' g' it ⟨Jv,a,b,c,fun ys e q=>ad5 (d ys e q)⟩)
end
end VL
namespace VL
open PySem L2
section
variable {B:Bs} {QE:En->Prop} {Q':PyData->En->Prop} {s:Sl} {r:En} {A:Own} {d:PyData} {x0 x1 x2 x3 x4 x5 x6 x7 x8 x9 x10 x11 x12 x13 x14 x15 x16 x17 x18 x19 x20 x21 x22 x23 x24 x25:Option Sl}
theorem ayb (h:QE (x0 :: some s :: r)):EvG B (aay 1) s (x0 :: x1 :: r) QE:=aaz h
theorem ayc (h:QE (x0 :: x1 :: some s :: r)):EvG B (aay 2) s (x0 :: x1 :: x2 :: r) QE:=aaz h
theorem ayd (h:QE (x0 :: x1 :: x2 :: some s :: r)):EvG B (aay 3) s (x0 :: x1 :: x2 :: x3 :: r) QE:=aaz h
theorem aye (h:QE (x0 :: x1 :: x2 :: x3 :: some s :: r)):EvG B (aay 4) s (x0 :: x1 :: x2 :: x3 :: x4 :: r) QE:=aaz h
theorem ayf (h:QE (x0 :: x1 :: x2 :: x3 :: x4 :: some s :: r)):EvG B (aay 5) s (x0 :: x1 :: x2 :: x3 :: x4 :: x5 :: r) QE:=aaz h
theorem ayg (h:QE (x0 :: x1 :: x2 :: x3 :: x4 :: x5 :: some s :: r)):EvG B (aay 6) s (x0 :: x1 :: x2 :: x3 :: x4 :: x5 :: x6 :: r) QE:=aaz h
theorem ayh (h:QE (x0 :: x1 :: x2 :: x3 :: x4 :: x5 :: x6 :: some s :: r)):EvG B (aay 7) s (x0 :: x1 :: x2 :: x3 :: x4 :: x5 :: x6 :: x7 :: r) QE:=aaz h
end
end VL
namespace Gr
structure Ring (T:Int->Int->Prop) (a:Int) (k:Nat) (far:Int->Option Nat) (edge:List Int):Prop where
 lab:∀ v d,far v=some d ↔ (Dist T a v d/\d<=k)
 edg:∀ v,v∈edge ↔ Dist T a v k
structure Mid (T:Int->Int->Prop) (k:Nat) (far0:Int->Option Nat) (edge:List Int) (done:Int->Prop) (far:Int->Option Nat) (beyond:List Int):Prop where
 old:∀ v d,far0 v=some d->far v=some d
 new:∀ v,v∈beyond ↔ (far0 v=none/\far v ≠ none)
 val:∀ v d,far0 v=none->far v=some d->d=k+1/\∃ u,u∈edge/\T u v
 dn:∀ u w,done u->T u w->far w ≠ none
noncomputable def label (far:Int->Option Nat) (w:Int) (d:Nat):Int->Option Nat:=fun v=>if v=w then some d else far v
theorem label_same {far:Int->Option Nat} {w:Int} {d:Nat}:label far w d w=some d:=if_pos rfl
theorem label_ne {far:Int->Option Nat} {w v:Int} {d:Nat} (h:v ≠ w):label far w d v=far v:=if_neg h
variable {T:Int->Int->Prop} {a:Int} {k:Nat} {far0 far:Int->Option Nat} {edge beyond:List Int} {done:Int->Prop}
theorem Ring.start:Ring T a 0 (label (fun _=>none) a 0) [a]:=by
 refine ⟨fun v d=>?_,fun v=>?_⟩
 ·by_cases h:v=a
  ·subst h
   rw [label_same]
   constructor
   ·intro e;cases e;exact ⟨Dist.self T v,Nat.le_refl _⟩
   ·rintro ⟨h,_⟩;rw [h.uniq (Dist.self T v)]
  ·rw [label_ne h]
   constructor
   ·intro e;cases e
   ·rintro ⟨h1,h2⟩
    have:d=0:=by omega
    subst this
    cases h1.1
    exact absurd rfl h
 ·simp only [List.mem_singleton]
  constructor
  ·rintro rfl;exact Dist.self T v
  ·intro h;cases h.1;rfl
theorem Mid.start:Mid T k far0 edge (fun _=>False) far0 [] :=
 ⟨fun v d h=>h,fun v=>⟨fun h=>by simp at h,fun h=>absurd h.1 h.2⟩,fun v d h g=>(by rw [h] at g;cases g),fun u w h=>h.elim⟩
theorem Mid.add (m:Mid T k far0 edge done far beyond) {u w:Int} (hu:u∈edge) (t:T u w) (hw:far w=none):Mid T k far0 edge done (label far w (k+1)) (beyond ++ [w]):=by
 have h0:far0 w=none:=by
  cases e:far0 w with
  | none=>rfl
  | some d=>rw [m.old w d e] at hw;cases hw
 refine ⟨fun v d h=>?_,fun v=>?_,fun v d h g=>?_,fun x y hx hy=>?_⟩
 ·rw [label_ne (by rintro rfl;rw [h0] at h;cases h)];exact m.old v d h
 ·by_cases hv:v=w
  ·subst hv
   simp [label_same,h0]
  ·rw [label_ne hv]
   simp only [List.mem_append,List.mem_singleton,hv,or_false]
   exact m.new v
 ·by_cases hv:v=w
  ·subst hv
   rw [label_same] at g
   cases g
   exact ⟨rfl,u,hu,t⟩
  ·rw [label_ne hv] at g
   exact m.val v d h g
 ·by_cases hv:y=w
  ·subst hv;rw [label_same];simp
  ·rw [label_ne hv];exact m.dn x y hx hy
theorem Mid.did (m:Mid T k far0 edge done far beyond) {u:Int} (h:∀ w,T u w->far w ≠ none):Mid T k far0 edge (fun x=>done x\/x=u) far beyond :=
 ⟨m.old,m.new,m.val,fun x w hx t=>by rcases hx with hx | rfl;exact m.dn x w hx t;exact h w t⟩
theorem Mid.imp {done':Int->Prop} (m:Mid T k far0 edge done far beyond) (h:∀ u,done' u->done u):Mid T k far0 edge done' far beyond :=
 ⟨m.old,m.new,m.val,fun x w hx t=>m.dn x w (h x hx) t⟩
theorem Ring.next (r:Ring T a k far0 edge) (m:Mid T k far0 edge done far beyond) (hd:∀ u∈edge,done u):Ring T a (k+1) far beyond:=by
 have key:∀ v,far0 v=none->far v ≠ none->Dist T a v (k+1):=fun v h0 h1=>by
  cases e:far v with
  | none=>exact absurd e h1
  | some d =>
   obtain ⟨rfl,u,hu,t⟩:=m.val v d h0 e
   obtain ⟨e',he,h⟩:=((r.edg u).mp hu).next t
   by_cases hk:e'<=k
   ·rw [(r.lab v e').mpr ⟨h,hk⟩] at h0;cases h0
   ·have:e'=k+1:=by omega
    rw [← this];exact h
 have back:∀ v,Dist T a v (k+1)->far0 v=none/\far v ≠ none:=fun v h=>by
  refine ⟨?_,?_⟩
  ·cases e:far0 v with
   | none=>rfl
   | some d =>
    obtain ⟨h1,h2⟩:=(r.lab v d).mp e
    have:=h1.uniq h
    omega
  ·obtain ⟨u,t,hu⟩:=h.pred
   exact m.dn u v (hd u ((r.edg u).mpr hu)) t
 refine ⟨fun v d=>?_,fun v=>⟨fun h=>?_,fun h=>(m.new v).mpr (back v h)⟩⟩
 ·constructor
  ·intro e
   cases e0:far0 v with
   | some d0 =>
    rw [m.old v d0 e0] at e
    cases e
    obtain ⟨h1,h2⟩:=(r.lab v d).mp e0
    exact ⟨h1,by omega⟩
   | none =>
    have hk:=(m.val v d e0 e).1
    subst hk
    exact ⟨key v e0 (by rw [e];simp),Nat.le_refl _⟩
  ·rintro ⟨h,hk⟩
   by_cases hd':d<=k
   ·exact m.old v d ((r.lab v d).mpr ⟨h,hd'⟩)
   ·have e1:d=k+1:=by omega
    subst e1
    obtain ⟨h0,h1⟩:=back v h
    cases e:far v with
    | none=>exact absurd e h1
    | some d=>rw [(m.val v d h0 e).1]
 ·obtain ⟨h0,h1⟩:=(m.new v).mp h
  exact key v h0 h1
theorem Dist.down {v:Int}:∀ {d:Nat},Dist T a v d->∀ j,j<=d->∃ u,Dist T a u j
 | 0,h,j,hj=>⟨v,by rw [show j=0 by omega];exact h⟩
 | d+1,h,j,hj=>by
  by_cases e:j=d+1
  ·rw [e];exact ⟨v,h⟩
  ·obtain ⟨u,_,hu⟩:=h.pred
   exact Dist.down hu j (by omega)
noncomputable def farO (T:Int->Int->Prop) (a v:Int):Option Nat:=open Classical in if h:∃ d,Dist T a v d then some (Classical.choose h) else none
theorem farO_some {v:Int} {d:Nat}:farO T a v=some d ↔ Dist T a v d:=by
 unfold farO
 constructor
 ·intro h
  split at h
  ·rename_i hx
   cases h
   exact Classical.choose_spec hx
  ·cases h
 ·intro h
  have hx:∃ d,Dist T a v d:=⟨d,h⟩
  rw [dif_pos hx,(Classical.choose_spec hx).uniq h]
theorem farO_none {v:Int}:farO T a v=none ↔ ∀ d,¬ Dist T a v d:=by
 constructor
 ·intro h d hd
  rw [farO_some.mpr hd] at h;cases h
 ·intro h
  cases e:farO T a v with
  | none=>rfl
  | some d=>exact absurd (farO_some.mp e) (h d)
theorem anv {v:Int} {o:Option Nat} (h:∀ d,o=some d ↔ Dist T a v d):o=farO T a v:=by
 cases o with
 | some d=>exact (farO_some.mpr ((h d).mp rfl)).symm
 | none=>exact (farO_none.mpr fun d hd=>by cases (h d).mpr hd).symm
theorem Ring.fin (r:Ring T a k far0 []) (v:Int):far0 v=farO T a v:=by
 refine anv fun d=>?_
 rw [r.lab]
 refine ⟨fun h=>h.1,fun h=>⟨h,?_⟩⟩
 apply Classical.byContradiction
 intro hk
 obtain ⟨u,hu⟩:=h.down k (by omega)
 have:=(r.edg u).mpr hu
 simp at this
theorem Walk.app {u v w:Int} {i j:Nat} (h:Walk T u i v) (g:Walk T v j w):Walk T u (i+j) w:=by
 induction g with
 | refl=>exact h
 | step _ t ih=>exact .step ih t
theorem Walk.rev (hs:∀ u v,T u v->T v u) {u v:Int} {i:Nat} (h:Walk T u i v):Walk T v i u:=by
 induction h with
 | refl=>exact .refl
 | @step j x y _ t ih =>
  have:=(Walk.step (T:=T) (u:=y) .refl (hs _ _ t)).app ih
  rw [Nat.add_comm] at this
  exact this
theorem Dist.rev (hs:∀ u v,T u v->T v u) {u v:Int} {d:Nat} (h:Dist T u v d):Dist T v u d:=⟨h.1.rev hs,fun k w=>h.2 k (w.rev hs)⟩
theorem farO_comm (hs:∀ u v,T u v->T v u) (u v:Int):farO T u v=farO T v u:=anv fun d=>by
 rw [farO_some];exact ⟨fun h=>h.rev hs,fun h=>h.rev hs⟩
theorem Dist.lt {n:Nat} (hT:∀ u v,T u v->0<=v/\v < (n:Int)) (ha:0<=a/\a < (n:Int)) {v:Int} {d:Nat} (h:Dist T a v d):d < n:=by
 -- the places of a shortest way are unlike
 have key:∀ d v,Dist T a v d->∃ l:List Int,l.length=d+1/\l.Nodup/\∀ x∈l,(0<=x/\x < (n:Int))/\∃ j,j<=d/\Dist T a x j:=by
  intro d
  induction d with
  | zero =>
   intro v h
   have:v=a:=by cases h.1;rfl
   subst this
   exact ⟨[v],rfl,by simp,fun x hx=>by simp at hx;subst hx;exact ⟨ha,0,Nat.le_refl _,h⟩⟩
  | succ d ih =>
   intro v h
   obtain ⟨u,t,hu⟩:=h.pred
   obtain ⟨l,h1,h2,h3⟩:=ih u hu
   refine ⟨v :: l,by simp [h1],List.nodup_cons.mpr ⟨fun hm=>?_,h2⟩,fun x hx=>?_⟩
   ·obtain ⟨_,j,hj,hd⟩:=h3 v hm
    have:=hd.uniq h
    omega
   ·rcases List.mem_cons.mp hx with rfl | hx
    ·exact ⟨hT _ _ t,d+1,Nat.le_refl _,h⟩
    ·obtain ⟨q,j,hj,hd⟩:=h3 x hx
     exact ⟨q,j,by omega,hd⟩
 obtain ⟨l,h1,h2,h3⟩:=key d v h
 have few:∀ (n:Nat) (l:List Int),l.Nodup->(∀ v∈l,0<=v/\v < (n:Int))->l.length<=n:=by
  intro n
  induction n with
  | zero =>
   intro l _ h
   cases l with
   | nil=>simp
   | cons v r=>have:=h v (by simp);omega
  | succ n ih =>
   intro l hn h
   have h1:=ih (l.erase (n:Int)) (hn.erase _) fun v hv=>by
    have hm:=List.mem_of_mem_erase hv
    have hb:=h v hm
    have hne:v ≠ (n:Int):=by
     rintro rfl
     exact absurd hv (List.Nodup.not_mem_erase hn)
    omega
   have h2:l.length<=(l.erase (n:Int)).length+1:=by
    rw [List.length_erase]
    split <;> omega
   omega
 have:=few n l h2 fun x hx=>(h3 x hx).1
 omega
end Gr
namespace VL
open PySem PySem.Spec L2
theorem nodup_ix {α:Type} {xs:List α} (h:xs.Nodup) {i j:Nat} (hi:i < xs.length) (hj:j < xs.length) (e:xs[i]=xs[j]):i=j:=by
 have p:=List.pairwise_iff_getElem.mp h
 rcases Nat.lt_trichotomy i j with q | q | q
 ·exact absurd e (p i j hi hj q)
 ·exact q
 ·exact absurd e.symm (p j i hj hi q)
noncomputable def OLL (dss:List (List PyData)):Own where
 P:=fun G H v F=>∃ (a:Addr) (as:List Addr),v=.ref a/\H a=some (.lst (as.map V.ref))/\as.Nodup/\a ∉ as/\as.length=dss.length/\(∀ (i:Nat) b ds,as[i]?=some b->dss[i]?=some ds->∃ vs,H b=some (.lst vs)/\Rps G vs ds)/\∀ b,F b ↔ b=a\/b∈as
 mono:=fun ⟨a,as,e,h,n1,n2,l,r,f⟩ g hh=>⟨a,as,e,hh a _ ((f a).mpr (.inl rfl)) h,n1,n2,l,fun i b ds hb hd=>by
  obtain ⟨vs,h1,h2⟩:=r i b ds hb hd
  exact ⟨vs,hh b _ ((f b).mpr (.inr (List.mem_of_getElem? hb))) h1,h2.same g⟩,f⟩
 dom:=fun ⟨a,as,e,h,n1,n2,l,r,f⟩ b z=>by
  rcases (f b).mp z with rfl | z
  ·exact ⟨_,h⟩
  ·obtain ⟨i,hi,e⟩:=List.mem_iff_getElem.mp z
   have hb:as[i]?=some b:=by rw [List.getElem?_eq_getElem hi,e]
   obtain ⟨vs,h1,_⟩:=r i b _ hb (List.getElem?_eq_getElem (by rw [← l];exact hi))
   exact ⟨_,h1⟩
theorem aln {G:Hp}:∀ {vs:List V} {ds:List PyData},vs.length=ds.length->(∀ (i:Nat) v d,vs[i]?=some v->ds[i]?=some d->Rp G v d)->Rps G vs ds
 | [],[],_,_ => .nil
 | [],_ :: _,h,_=>by simp at h
 | _ :: _,[],h,_=>by simp at h
 | v :: vs,d :: ds,h,k => .cons (k 0 v d rfl rfl) (aln (by simpa using h) fun i v d h1 h2=>k (i+1) v d (by simpa using h1) (by simpa using h2))
theorem agm {dss:List (List PyData)}:Frz (OLL dss) (.list (dss.map .list)):=fun G H v F ⟨a,as,e,h,n1,n2,l,r,f⟩ n g=>by
 subst e
 refine .lst (by rw [agf ((f a).mpr (.inl rfl))];exact h) (aln (by simp [l]) fun i u d hu hd=>?_)
 rw [List.getElem?_map] at hu hd
 cases hb:as[i]? with
 | none=>rw [hb] at hu;cases hu
 | some b =>
  cases hds:dss[i]? with
  | none=>rw [hds] at hd;cases hd
  | some ds =>
   rw [hb] at hu;rw [hds] at hd
   cases hu;cases hd
   obtain ⟨vs,h1,h2⟩:=r i b ds hb hds
   exact .lst (by rw [agf ((f b).mpr (.inr (List.mem_of_getElem? hb)))];exact h1) (h2.same (abl n))
section
variable {B:Bs} {env:En} {QO:Sl->En->Prop} {Q':PyData->En->Prop} {D':VEnds} {K:Frag} {i:Nat}
theorem ayi {dss:List (List PyData)} {R:PyData->Prop} (h:R (.list (dss.map .list))):FQ (.own (OLL dss)) R:=⟨_,agm,h⟩
theorem avt {src:List (Option Nat)} {wi:TI} {j:Nat} (h:EvI B wi env fun ds e1=>ds.length<=1000000/\QO (.own (OLL (List.replicate ds.length []))) e1):EvO B (tLC src wi (aay j) tYes (tLst tNil)) env QO:=fun σ G H F Q I k=>by
 refine h σ G H F _ I fun J G1 H1 F1 ds e1 I1 g1 it ⟨hle,q⟩ acc hacc=>?_
 let W:Nat->List V->Hp->Prop:=fun n ys H=>∃ (as:List Addr) (G2:Hp),ys=as.map V.ref/\as.length=n/\as.Nodup/\acc ∉ as/\(∀ b∈as,H1 b=none/\G2 b=none/\H b=some (.lst []))/\H acc=some (.lst ys)/\G2 acc=none/\Same G1 G2/\Same G2 H/\Same H1 H/\(∀ a o,G2 a=some o->G1 a=some o\/H1 a=none)/\FT G2 H
 refine ⟨fun n m ys σI H=>m=ds.length - n/\n<=ds.length/\W n ys H,⟨ds.length,by simp,Nat.zero_le _,[],G1,rfl,rfl,List.nodup_nil,by simp,fun b hb=>by simp at hb,aam,I1.no_g hacc,Same.refl _,I1.gh.trans (abo hacc),abo hacc,fun a o e => .inl e,fun a ks e=>?_⟩,?_⟩
 ·by_cases z:a=acc
  ·subst z;rw [aam] at e;cases e
  ·rw [aag z] at e;exact I1.ft a ks e
 rintro n m ys σI H2 ⟨rfl,hn,as,G2,rfl,hl,nd,na,all,hac,ga,g2,gh2,hh2,gn2,ft2⟩
 refine ⟨hac,?_⟩
 by_cases hlt:n < ds.length
 ·refine .inr ⟨it.go n G2 H2 g2 gh2 hlt,fun ys' σ' H'=>W (n+1) ys' H',fun ys' σ' H' hw=>⟨ds.length - (n+1),by omega,rfl,hlt,hw⟩,fun x H3 y=>?_⟩
  obtain ⟨G3,o⟩:=it.yld n G2 H2 x H3 _ g2 gh2 ft2 (List.getElem?_eq_getElem hlt) y
  refine am9 (ap9 (acb (axh (ap7 ⟨by decide,fun p hp=>?_⟩))))
  have n2:H2 p=none:=ab8 o.hh hp
  have n1:H1 p=none:=ab8 hh2 n2
  have pa:p ≠ acc:=(aap (o.hh _ _ hac) hp).symm
  have pas:p ∉ as:=fun z=>by
   have:=o.hh _ _ (all p z).2.2
   rw [this] at hp;cases hp
  refine ⟨by rw [aag pa.symm];exact o.hh _ _ hac,by rw [List.length_map,hl];exact big (by omega),as ++ [p],G3,by simp,by simp [hl],?_,?_,fun b hb=>?_,aam,?_,g2.trans o.gg,fun a u e=>?_,fun a u e=>?_,fun a u e=>?_,fun a ks e=>?_⟩
  ·rw [List.nodup_append]
   exact ⟨nd,by simp,fun x hx y hy=>by simp at hy;subst hy;intro e;subst e;exact pas hx⟩
  ·intro z
   rcases List.mem_append.mp z with z | z
   ·exact na z
   ·exact pa (List.mem_singleton.mp z).symm
  ·have gb:∀ b,G2 b=none->(∃ u,H2 b=some u)->G3 b=none:=fun b h1 z_=>by
    obtain ⟨u,h2⟩:=z_
    cases e:G3 b with
    | none=>rfl
    | some w =>
     rcases o.gn b w e with e | e
     ·rw [h1] at e;cases e
     ·rw [h2] at e;cases e
   rcases List.mem_append.mp hb with hb | hb
   ·obtain ⟨h1,h2,h3⟩:=all b hb
    refine ⟨h1,gb b h2 ⟨_,h3⟩,?_⟩
    rw [aag (fun z:b=acc=>na (by rw [← z];exact hb)),aag (fun z:b=p=>pas (by rw [← z];exact hb))]
    exact o.hh _ _ h3
   ·have e:b=p:=by simpa using hb
    subst e
    exact ⟨n1,ab8 o.gh hp,by rw [aag pa,aam]⟩
  ·cases e:G3 acc with
   | none=>rfl
   | some w =>
    rcases o.gn acc w e with e | e
    ·rw [ga] at e;cases e
    ·rw [hac] at e;cases e
  ·have ap:a ≠ p:=aap (o.gh a u e) hp
   have aa:a ≠ acc:=by
    rintro rfl
    rcases o.gn _ u e with e | e
    ·rw [ga] at e;cases e
    ·rw [hac] at e;cases e
   rw [aag aa,aag ap];exact o.gh a u e
  ·have ap:a ≠ p:=aap e n1
   have aa:a ≠ acc:=aap e hacc
   rw [aag aa,aag ap];exact o.hh _ _ (hh2 a u e)
  ·rcases o.gn a u e with e | e
   ·exact gn2 a u e
   ·exact .inr (ab8 hh2 e)
  ·by_cases z:a=acc
   ·subst z;rw [aam] at e;cases e
   ·rw [aag z] at e
    by_cases y:a=p
    ·subst y;rw [aam] at e;cases e
    ·rw [aag y] at e;exact o.ft ft2 a ks e
 ·have e:n=ds.length:=by omega
  subst e
  refine .inl ⟨it.stop _ G2 H2 g2 gh2 rfl,?_⟩
  have I2:=I1.grow g2 gh2 hh2 gn2 ft2
  refine k (.ref acc) G2 H2 F1 (fun b=>b=acc\/b∈as) (.own (OLL (List.replicate ds.length []))) e1 I2 (g1.trans g2) ⟨⟨acc,as,rfl,hac,nd,na,by simp [hl],fun i b ds' hb hd=>?_,fun b=>Iff.rfl⟩,fun b z=>?_,fun b z=>?_,fun b z=>?_,fun j b z y=>?_⟩ q
  ·rw [List.getElem?_replicate] at hd
   split at hd
   ·cases hd;exact ⟨[],(all b (List.mem_of_getElem? hb)).2.2,.nil⟩
   ·cases hd
  ·rcases z with rfl | z
   ·exact I1.no_b hacc
   ·exact I1.no_b (all b z).1
  ·rcases z with rfl | z
   ·exact ga
   ·exact (all b z).2.1
  ·rcases z with rfl | z
   ·exact ⟨_,hac⟩
   ·exact ⟨_,(all b z).2.2⟩
  ·rcases z with rfl | z
   ·exact I1.no_f hacc j y
   ·exact I1.no_f (all b z).1 j y
theorem ahr {dss:List (List PyData)} {l j n:Nat} {k:Int} {y:PyData} {ds:List PyData} (e:env[i]?=some (some (.own (OLL dss)))) (ek:env[l]?=some (some (.st (.int k)))) (ey:env[j]?=some (some (.st y)))
  (hk:ixN dss.length k=some n) (hd:dss[n]?=some ds) (hl:ds.length<=999999) (q:Q' .none (env.set i (some (.own (OLL (dss.set n (ds ++ [y]))))))):Ev B (tBM K "list" ae0 (tOp (abw K) (tVar i) (tVar l)) (aa6 (tVar j) tNil)) env Q':=fun σ G H F Q I kk=>by
 obtain ⟨v,hv,⟨a,as,rfl,h,n1,n2,ln,r,f⟩,_⟩:=I.sl i _ e
 obtain ⟨vk,hvk,rk,_⟩:=I.sl l _ ek
 obtain ⟨vy,hvy,ry,_⟩:=I.sl j _ ey
 cases rk
 have hn:n < dss.length:=(List.getElem?_eq_some_iff.mp hd).1
 have hb:as[n]?=some (as[n]'(by omega)):=List.getElem?_eq_getElem _
 generalize as[n]'(by omega)=b at hb
 have hbm:b∈as:=List.mem_of_getElem? hb
 obtain ⟨vs,h1,h2⟩:=r n b ds hb hd
 have hat:atI (as.map V.ref) k=some (.ref b):=by
  unfold atI
  rw [List.length_map,ln,hk]
  simp [hb]
 refine ⟨_,hv,_,hvk,afh h hat ⟨.inl ⟨rfl,_,SqL.of h1⟩,_,hvy,afx h1 (by rw [h2.length];exact big (by omega)) ?_⟩⟩
 have hne:a ≠ b:=fun z=>n2 (z ▸ hbm)
 have J:=I.change (A:=OLL (dss.set n (ds ++ [y]))) (H2:=upd H b (.lst (vs ++ [vy]))) (F2:=F i) (os':=.own (OLL (dss.set n (ds ++ [y])))) i e hv (fun c o hc ec=>by rw [aag (fun z:c=b=>hc ((f c).mpr (.inr (by rw [z];exact hbm))))];exact ec)
  (fun c o ec=>by
   by_cases z:c=b
   ·rw [z];exact ⟨_,aam⟩
   ·rw [aag z];exact ⟨o,ec⟩)
  (fun c z=>⟨.inl z,by
   by_cases y:c=b
   ·rw [y];exact ⟨_,aam⟩
   ·rw [aag y];exact I.fo i c z⟩) ?_ (fun c ks e=>by
   by_cases z:c=b
   ·subst z;rw [aam] at e;cases e
   ·rw [aag z] at e;exact I.ft c ks e) (.inl ⟨rfl,_,rfl⟩)
 ·exact kk _ G _ _ _ _ J (Same.refl _) .non q
 ·refine ⟨a,as,rfl,by rw [aag hne];exact h,n1,n2,by simp [ln],fun m c es hc hes=>?_,f⟩
  by_cases hm:m=n
  ·subst hm
   rw [hb] at hc;cases hc
   rw [List.getElem?_set,if_pos rfl,if_pos hn] at hes
   cases hes
   exact ⟨_,aam,h2.append (.cons ry .nil)⟩
  ·rw [List.getElem?_set,if_neg (fun z=>hm z.symm)] at hes
   obtain ⟨us,h3,h4⟩:=r m c es hc hes
   refine ⟨us,?_,h4⟩
   rw [aag]
   ·exact h3
   ·rintro rfl
    have i1:=(List.getElem?_eq_some_iff.mp hb)
    have i2:=(List.getElem?_eq_some_iff.mp hc)
    obtain ⟨l1,e1⟩:=i1
    obtain ⟨l2,e2⟩:=i2
    exact hm (nodup_ix n1 l2 l1 (e2.trans e1.symm))
noncomputable def exO {α:Type} (f : α->Own):Own where
 P:=fun G H v F=>∃ x,(f x).P G H v F
 mono:=fun ⟨x,h⟩ g hh=>⟨x,(f x).mono h g hh⟩
 dom:=fun ⟨x,h⟩=>(f x).dom h
theorem VI.weakO {G H:Hp} {σ:St} {F:Nat->Addr->Prop} {A A':Own} (I:VI B G H σ env F) (e:env[i]?=some (some (.own A))) (h:∀ G H v F,A.P G H v F->A'.P G H v F):VI B G H σ (env.set i (some (.own A'))) F:=by
 refine ⟨I.gh,I.g0,I.gn,I.rs,I.rb,I.bh,I.fg,I.fr,I.fd,I.fo,fun j s es=>?_,by simp [I.ln],I.ft⟩
 by_cases hj:j=i
 ·subst hj
  rw [List.getElem?_set,if_pos rfl,if_pos (List.getElem?_eq_some_iff.mp e).1] at es
  cases es
  obtain ⟨v,hv,q⟩:=I.sl j _ e
  exact ⟨v,hv,h _ _ _ _ q.1,q.2⟩
 ·rw [List.getElem?_set,if_neg (fun z=>hj z.symm)] at es
  exact I.sl j s es
end
@[reducible] noncomputable def prD (p:Int × Int):PyData:=.tuple [.int p.1,.int p.2]
@[reducible] noncomputable def webD (n:Int) (es:List (Int × Int)):PyData:=.tuple [.int n,.list (es.map prD)]
def Tied (es:List (Int × Int)) (u v:Int):Prop:=(u,v)∈es\/(v,u)∈es
theorem Tied.symm {es:List (Int × Int)} {u v:Int} (h:Tied es u v):Tied es v u:=h.elim .inr .inl
def InN (n:Int) (es:List (Int × Int)):Prop:=∀ p∈es,0<=p.1/\p.1 < n/\0<=p.2/\p.2 < n
theorem Tied.in {n:Int} {es:List (Int × Int)} {u v:Int} (hi:InN n es) (h:Tied es u v):(0<=u/\u < n)/\0<=v/\v < n:=by
 rcases h with h | h
 ·have:=hi _ h;exact ⟨⟨this.1,this.2.1⟩,this.2.2⟩
 ·have:=hi _ h;exact ⟨⟨this.2.2.1,this.2.2.2⟩,this.1,this.2.1⟩
theorem Tied.snoc {es:List (Int × Int)} {i:Nat} {a b:Int} (h:es[i]?=some (a,b)) (u v:Int):Tied (es.take (i+1)) u v ↔ (Tied (es.take i) u v\/(u=a/\v=b))\/(u=b/\v=a):=by
 have e:es.take (i+1)=es.take i ++ [(a,b)]:=by rw [List.take_add_one,h];rfl
 unfold Tied
 rw [e]
 simp only [List.mem_append,List.mem_singleton,Prod.mk.injEq]
 constructor
 ·rintro ((h | ⟨rfl,rfl⟩) | (h | ⟨rfl,rfl⟩))
  ·exact .inl (.inl (.inl h))
  ·exact .inl (.inr ⟨rfl,rfl⟩)
  ·exact .inl (.inl (.inr h))
  ·exact .inr ⟨rfl,rfl⟩
 ·rintro (((h | h) | ⟨rfl,rfl⟩) | ⟨rfl,rfl⟩)
  ·exact .inl (.inl h)
  ·exact .inr (.inl h)
  ·exact .inl (.inr ⟨rfl,rfl⟩)
  ·exact .inr (.inr ⟨rfl,rfl⟩)
def TiedL (n:Int) (T:Int->Int->Prop) (tl:List (List Int)):Prop:=(tl.length:Int)=n/\∀ (i:Nat) ws,tl[i]?=some ws->∀ w,w∈ws ↔ T i w
noncomputable def oD:Option Nat->PyData
 | none => .none
 | some d => .int d
noncomputable def lab (n:Nat) (far:Int->Option Nat):List PyData:=(List.range n).map fun (i:Nat)=>oD (far (i:Int))
theorem acr {n:Nat} {far:Int->Option Nat}:(lab n far).length=n:=by simp [lab]
theorem ad9 {n:Nat} {far:Int->Option Nat} {i:Nat} (h:i < n):(lab n far)[i]?=some (oD (far i)):=by
 unfold lab
 rw [List.getElem?_map,List.getElem?_eq_getElem (by simpa using h)]
 simp
theorem ae6 {n:Nat} {far:Int->Option Nat} {v:Int} (h0:0<=v) (h:v < n):atI (lab n far) v=some (oD (far v)):=by
 have:=agd (xs:=lab n far) (j:=v.toNat) (ad9 (by omega))
 rwa [show ((v.toNat:Nat):Int)=v by omega] at this
theorem ahs {n:Nat} {v:Int} (h0:0<=v) (h:v < n):ixN n v=some v.toNat:=by
 unfold ixN;rw [if_pos h0,if_pos h]
theorem anw {n:Nat} {far:Int->Option Nat} {v:Int} {d:Nat} (h0:0<=v) (h:v < n):(lab n far).set v.toNat (.int d)=lab n (Gr.label far v d):=by
 apply List.ext_getElem?
 intro i
 rw [List.getElem?_set]
 by_cases e:v.toNat=i
 ·rw [if_pos e,if_pos (by rw [acr];omega),ad9 (by omega)]
  have:(i:Int)=v:=by omega
  rw [this,Gr.label_same];rfl
 ·rw [if_neg e]
  by_cases hi:i < n
  ·rw [ad9 hi,ad9 hi,Gr.label_ne (by omega)]
  ·rw [List.getElem?_eq_none_iff.mpr (by rw [acr];omega),List.getElem?_eq_none_iff.mpr (by rw [acr];omega)]
theorem aqq {n:Nat} {f g:Int->Option Nat} (h:∀ v,0<=v->v < (n:Int)->f v=g v):lab n f=lab n g:=by
 unfold lab
 apply List.map_congr_left
 intro i hi
 rw [h i (by omega) (by have:=List.mem_range.mp hi;omega)]
theorem avu {o:Option Nat}:isNone (oD o)=o.isNone:=by cases o <;> rfl
theorem ae7 {α:Type} {f : α->PyData} {xs:List α} {i:Int} {x : α} (h:atI xs i=some x):atI (xs.map f) i=some (f x):=by
 unfold atI at h ⊢
 rw [List.length_map]
 cases e:ixN xs.length i with
 | none=>rw [e] at h;cases h
 | some j=>rw [e] at h;simp at h ⊢;exact ⟨_,h,rfl⟩
theorem ade {α:Type} {xs:List α} {i:Int} {x : α} (h0:0<=i) (h:xs[i.toNat]?=some x):atI xs i=some x:=by
 have:=agd (xs:=xs) (j:=i.toNat) h
 rwa [show ((i.toNat:Nat):Int)=i by omega] at this
@[reducible] noncomputable def tlD (tl:List (List Int)):List (List PyData):=tl.map fun ws=>ws.map .int
theorem TiedL.get {n:Int} {T:Int->Int->Prop} {tl:List (List Int)} (h:TiedL n T tl) {v:Int} (h0:0<=v) (h1:v < n):∃ ws,tl[v.toNat]?=some ws/\∀ w,w∈ws ↔ T v w:=by
 have hl:v.toNat < tl.length:=by have:=h.1;omega
 refine ⟨tl[v.toNat],List.getElem?_eq_getElem hl,fun w=>?_⟩
 rw [h.2 _ _ (List.getElem?_eq_getElem hl) w,show ((v.toNat:Nat):Int)=v by omega]
theorem agn {tl:List (List Int)} {i:Nat} {ws:List Int} (h:tl[i]?=some ws):(tlD tl)[i]?=some (ws.map .int):=by
 rw [List.getElem?_map,h];rfl
theorem TiedL.put {n:Int} {T:Int->Int->Prop} {tl:List (List Int)} (h:TiedL n T tl) {v q:Int} {ws:List Int} (h0:0<=v) (h1:v < n) (hw:tl[v.toNat]?=some ws):TiedL n (fun a b=>T a b\/(a=v/\b=q)) (tl.set v.toNat (ws ++ [q])):=by
 refine ⟨by rw [List.length_set];exact h.1,fun i us hi w=>?_⟩
 rw [List.getElem?_set] at hi
 by_cases e:v.toNat=i
 ·rw [if_pos e] at hi
  have hl:v.toNat < tl.length:=(List.getElem?_eq_some_iff.mp hw).1
  rw [if_pos (by omega)] at hi
  cases hi
  have hv:(i:Int)=v:=by omega
  rw [List.mem_append,List.mem_singleton,h.2 i ws (by rw [← e];exact hw) w,hv]
  simp
 ·rw [if_neg e] at hi
  rw [h.2 i us hi w]
  exact ⟨.inl,fun z=>z.elim id fun z=>by omega⟩
theorem anx {tl:List (List Int)} {i:Nat} {ws:List Int}:(tlD tl).set i (ws.map .int)=tlD (tl.set i ws):=by
 unfold tlD;rw [List.map_set]
theorem TiedL.iff {n:Int} {T T':Int->Int->Prop} {tl:List (List Int)} (h:TiedL n T tl) (e:∀ u v,T u v ↔ T' u v):TiedL n T' tl:=⟨h.1,fun i ws hi w=>(h.2 i ws hi w).trans (e _ _)⟩
end VL
namespace VL
open PySem L2
noncomputable def cnt (far:Int->Option Nat):Nat->Nat
 | 0=>0
 | n+1=>cnt far n+(if far (n:Int)=none then 1 else 0)
theorem afr {far:Int->Option Nat} {w:Int} {d:Nat}:∀ {n:Nat},(w:Int) ≥ n->cnt (Gr.label far w d) n=cnt far n
 | 0,_=>rfl
 | n+1,h=>by
  unfold cnt
  rw [afr (by omega),Gr.label_ne (by omega)]
theorem aja {far:Int->Option Nat} {w:Int} {d:Nat} (h0:0<=w) (hw:far w=none):∀ {n:Nat},w < (n:Int)->cnt (Gr.label far w d) n+1=cnt far n
 | 0,h=>by omega
 | n+1,h=>by
  unfold cnt
  by_cases e:w=n
  ·subst e
   rw [afr (by omega),Gr.label_same,hw];simp
  ·rw [Gr.label_ne (by omega)]
   have:=aja h0 hw (n:=n) (d:=d) (by omega)
   omega
theorem avv (n:Nat):(List.replicate n [PyData.none]).flatten=lab n (fun _=>none):=by
 apply List.ext_getElem?
 intro i
 by_cases hi:i < n
 ·rw [ad9 hi]
  have:(List.replicate n [PyData.none]).flatten=List.replicate n PyData.none:=by
   clear hi
   induction n with
   | zero=>rfl
   | succ n ih=>rw [List.replicate_succ,List.flatten_cons,ih,List.replicate_succ];rfl
  rw [this,List.getElem?_replicate,if_pos hi];rfl
 ·rw [List.getElem?_eq_none_iff.mpr (by rw [am7];simp;omega),List.getElem?_eq_none_iff.mpr (by rw [acr];omega)]
theorem amr {α:Type} {f : α->PyData} {xs:List α}:(xs.map f).isEmpty=xs.isEmpty:=by cases xs <;> rfl
theorem adz {xs:List Int} {j:Nat} {u w:Int} (hu:xs[j]?=some u) (hm:w∈xs.take (j+1)):w∈xs.take j\/w=u:=by
 rw [List.take_add_one,hu] at hm
 rcases List.mem_append.mp hm with q | q
 ·exact .inl q
 ·exact .inr (by simpa using q)
theorem aqr {n:Nat} {far:Int->Option Nat}:plainDs (lab n far)=true:=by
 rw [aes]
 intro d hd
 obtain ⟨i,_,rfl⟩:=List.mem_map.mp hd
 cases far (i:Int) <;> rfl
theorem avw {n:Nat} {far:Int->Option Nat}:((lab n far).any fun z=>PyData.eqv z .none)=true ↔ ∃ v:Int,0<=v/\v < n/\far v=none:=by
 rw [List.any_eq_true]
 constructor
 ·rintro ⟨d,hd,e⟩
  obtain ⟨i,hi,rfl⟩:=List.mem_map.mp hd
  refine ⟨i,by omega,by have:=List.mem_range.mp hi;omega,?_⟩
  cases h:far (i:Int) with
  | none=>rfl
  | some d=>rw [h] at e;simp [oD,PyData.eqv] at e
 ·rintro ⟨v,h0,h1,h⟩
  refine ⟨oD (far v),?_,by rw [h];rfl⟩
  have:=ad9 (far:=far) (show v.toNat < n by omega)
  rw [show ((v.toNat:Nat):Int)=v by omega] at this
  exact List.mem_of_getElem? this
def Joined (n:Int) (es:List (Int × Int)):Prop:=∀ v,0<=v->v < n->∃ d,Gr.Dist (Tied es) 0 v d
end VL
namespace DI
open PySem PySem.W
def Raw (h:Heap) (d:Addr) (es:Array DictEntry) (ep:Nat):Prop:=∃ o,h.get? d=some o/\o.ExactDict/\o.data=.dict es ep
theorem Raw.keep {h h':Heap} {d:Addr} {es:Array DictEntry} {ep:Nat} (r:Raw h d es ep) (k:∀ o,h.get? d=some o->h'.get? d=some o):Raw h' d es ep:=let ⟨o,e,x⟩:=r;⟨o,k o e,x⟩
theorem Raw.ty {s:Shared} {d:Addr} {es:Array DictEntry} {ep:Nat} (r:Raw s.heap d es ep):s.TypeIs (.ref d) "dict":=let ⟨o,e,x,_⟩:=r;⟨o,e,x.1⟩
section
variable {prog:Program} {w:World} {A:Around} {E:Value->Shared->Prop} {s:Shared} {d it:Addr} {es:Array DictEntry} {ep i:Nat}
theorem asw {Q:Value->Shared->Prop} (hd:(d == sysModules)=false) (r:Raw s.heap d es ep)
  (hQ:Q (.ref s.heap.objs.size) { s with heap:=s.heap.push { cls:=.type "dict_keyiterator",data:=.fields #[.ref d,.int 0 0,.int es.size 0,.int ep 0] } }):wpAny (model prog w) A (pyIter (.ref d)) Q E s:=by
 obtain ⟨o,ho,hx,hdat⟩:=id r
 refine wpAny_pyIter_slot r.ty PySem.F.slot_dict_iter (wpAny_call_entry PySem.F.slot_dict_iter r.ty PySem.F.entry_dict_iter ?body (PySem.F.args_dict_iter_1 _))
 case body =>
  unfold Builtin.«dict.__iter__»
  refine wpAny_bind ?slot
  case slot =>
   unfold Builtin.Dict.dictSlotNone
   refine wpAny_bind (wpAny_notOrdered_dict r.ty ?pl)
   case pl =>
    show wpAny _ _ (pure (Value.ref d)) _ _ s
    refine wpAny_pure ?rest
    case rest =>
     show wpAny _ _ (Builtin.Dict.showsAll d >>= _) _ _ s
     unfold Builtin.Dict.showsAll
     rw [if_neg (by rw [hd];exact Bool.false_ne_true)]
     refine wpAny_bind (wpAny_pure (wpAny_bind (wpAny_dictEntries ho hdat (wpAny_bind (wpAny_dictEpoch ho hdat (wpAny_bind (wpAny_newObj_type (wpAny_pure ⟨_,rfl,"dict_keyiterator",_,⟨_,Heap.get?_push_size _ rfl,rfl⟩,PySem.F.slot_dict_keyiterator_next.lookup,?fin⟩))))))))
     case fin=>simpa [rawInt] using hQ
theorem asx {Q:Option Value->Shared->Prop} (hit:s.heap.IsKeyIter it d i es.size ep) (r:Raw s.heap d es ep) (hi:i < es.size)
  (hQ:∀ h',h'.IsKeyIter it d (i+1) es.size ep->Heap.SameBut it s.heap h'->Q (some es[i].key) { s with heap:=h' }):wpAny (model prog w) A (pyNext (.ref it)) Q E s:=by
 obtain ⟨o,ho,hc,hd⟩:=id hit
 obtain ⟨od,hod,hcd,hdd⟩:=r
 unfold pyNext
 refine wpAny_bind (wpAny_attempt (wpAny_callSpecial?_slot (name:=Str.ofString "__next__") hit.typeIs PySem.F.slot_dict_keyiterator_next (wpAny_call_entry PySem.F.slot_dict_keyiterator_next hit.typeIs PySem.F.entry_dict_keyiterator_next ?b (PySem.F.args_dict_keyiterator_next_1 _))))
 case b =>
  refine wpAny_bind (wpAny_pure (wpAny_bind (wpAny_bind ?c)))
  case c =>
   first | refine wpAny_bind (wpAny_typeNameOfWhole_keyiter hit.typeIs (wpAny_pure (wpAny_bind (wpAny_fieldsOf ho hd ?e)))) | refine wpAny_bind (wpAny_typeNameOf_keyiter hit.typeIs (wpAny_pure (wpAny_bind (wpAny_fieldsOf ho hd ?e))))
   case e =>
    simp only [show Builtin.Dict_items.ownsTuple "dict_keyiterator" = false by decide,Bool.false_eq_true,if_false]
    show wpAny _ _ (if (Value.ref d == Value.none)=true then _ else _) _ _ s;rw [if_neg (show ¬ ((Value.ref d == Value.none)=true) from Bool.false_ne_true)]
    refine wpAny_bind (wpAny_pure (wpAny_bind (wpAny_dictEntries hod hdd ?f)))
    case f =>
     rw [if_neg (by simp)];refine wpAny_bind (wpAny_pure (wpAny_bind (wpAny_dictEpoch hod hdd ?g)))
     case g =>
      rw [if_neg (by simp)];refine wpAny_pure ?h
      case h =>
       simp only [show ¬ ((i:Int) < 0) by omega,if_false,Int.toNat_natCast,Array.getElem?_eq_getElem hi];refine wpAny_bind ?j
       case j =>
        first | refine wpAny_bind (wpAny_typeNameOfWhole_keyiter hit.typeIs (wpAny_pure (wpAny_bind (wpAny_isOneOf_keyiter hit.typeIs ?k)))) | refine wpAny_bind (wpAny_typeNameOf_keyiter hit.typeIs (wpAny_pure (wpAny_bind (wpAny_isOneOf_keyiter hit.typeIs ?k))))
        case k =>
         show wpAny _ _ (setField (.ref it) 1 (rawInt ((i:Int)+1)) >>= _) _ _ s;refine wpAny_bind (wpAny_setField ho hd (by simp) ?l)
         case l =>
          have nx:(s.heap.update it (Obj.mapFields (·.setIfInBounds 1 (rawInt ((i:Int)+1))))).IsKeyIter it d (i+1) es.size ep:=⟨_,Heap.get?_update_self _ ho (Obj.isFreed_of_fields (Obj.data_mapFields hd _)),(Obj.cls_mapFields ..).trans hc,by rw [Obj.data_mapFields hd];simp [rawInt]⟩
          refine wpAny_bind (wpAny_holding (wpAny_bind (wpAny_isOneOf_keyiter (s:={ s with heap:=s.heap.update it (Obj.mapFields (·.setIfInBounds 1 (rawInt ((i:Int)+1)))) }) nx.typeIs ?m)))
          case m=>show wpAny _ _ (pure es[i].key) _ _ _;exact wpAny_pure (wpAny_pure ⟨_,rfl,wpAny_pure (hQ _ nx (Heap.SameBut.update ..))⟩)
theorem avx {Q:Option Value->Shared->Prop} (hh:A.handled=none) (hit:s.heap.IsKeyIter it d es.size es.size ep) (r:Raw s.heap d es ep) (hQ:∀ h',Heap.ExtBut it s.heap h'->Q none { s with heap:=h' }):wpAny (model prog w) A (pyNext (.ref it)) Q E s:=by
 obtain ⟨o,ho,hc,hd⟩:=id hit
 obtain ⟨od,hod,hcd,hdd⟩:=r
 unfold pyNext
 refine wpAny_bind (wpAny_attempt (wpAny_callSpecial?_slot (name:=Str.ofString "__next__") hit.typeIs PySem.F.slot_dict_keyiterator_next (wpAny_call_entry PySem.F.slot_dict_keyiterator_next hit.typeIs PySem.F.entry_dict_keyiterator_next ?b (PySem.F.args_dict_keyiterator_next_1 _))))
 case b =>
  refine wpAny_bind (wpAny_pure (wpAny_bind (wpAny_bind ?c)))
  case c =>
   first | refine wpAny_bind (wpAny_typeNameOfWhole_keyiter hit.typeIs (wpAny_pure (wpAny_bind (wpAny_fieldsOf ho hd ?e)))) | refine wpAny_bind (wpAny_typeNameOf_keyiter hit.typeIs (wpAny_pure (wpAny_bind (wpAny_fieldsOf ho hd ?e))))
   case e =>
    simp only [show Builtin.Dict_items.ownsTuple "dict_keyiterator" = false by decide,Bool.false_eq_true,if_false]
    show wpAny _ _ (if (Value.ref d == Value.none)=true then _ else _) _ _ s;rw [if_neg (show ¬ ((Value.ref d == Value.none)=true) from Bool.false_ne_true)]
    refine wpAny_bind (wpAny_pure (wpAny_bind (wpAny_dictEntries hod hdd ?f)))
    case f =>
     rw [if_neg (by simp)];refine wpAny_bind (wpAny_pure (wpAny_bind (wpAny_dictEpoch hod hdd ?g)))
     case g =>
      rw [if_neg (by simp)];refine wpAny_pure ?h
      case h =>
       simp only [show ¬ ((es.size:Int) < 0) by omega,if_false,Int.toNat_natCast,Array.getElem?_eq_none (Nat.le_refl es.size)];refine wpAny_bind ?j
       case j =>
        first | refine wpAny_bind (wpAny_typeNameOfWhole_keyiter hit.typeIs (wpAny_pure ?k)) | refine wpAny_bind (wpAny_typeNameOf_keyiter hit.typeIs (wpAny_pure ?k))
        case k =>
         show wpAny _ _ (setField (.ref it) 0 .none >>= _) _ _ s;refine wpAny_bind (wpAny_setField ho hd (by simp) ?l)
         case l =>
          show wpAny _ _ (newExc (.type "StopIteration") [] >>= _) _ _ _;refine wpAny_bind ?m
          case m =>
           simp only [newExc,newTuple];refine wpAny_bind (wpAny_newObj_type ?zz2 (by size_fits))
           case zz2 =>
            refine wpAny_bind (m:=firstArgMember _ _) (wpAny_of_eq (a:=Value.none) (by first | rfl | (simp only [firstArgMember];rfl)) (wpAny_newObj_type ?zz1 (by size_fits)))
            case zz1 =>
             simp only [raiseNew];refine wpAny_bind (wpAny_handled ?q)
             case q =>
              rw [show A.in1.handled=none from hh];refine wpAny_bind (wpAny_pure (wpAny_throw ?u1))
              case u1=>refine wpAny_bind (wpAny_isInstance (T:="StopIteration") (b:=true) ⟨_,Heap.get?_push_size _ rfl,rfl⟩ isSubtype_stop ?u2);exact wpAny_pure (hQ _ (((Heap.SameBut.update ..).extBut.push _).push _))
end
theorem walks {prog:Program} {w:World} {A:Around} (hh:A.handled=none) (I d:Addr) (hne:d ≠ I) (es:Array DictEntry) (ep:Nat) :
  Walks prog w A I [I,d] [I] es.size (fun i v=>(es[i]?).map (·.key)=some v) (fun i h=>h.IsKeyIter I d i es.size ep/\Raw h d es ep) where
 sub:=fun b hb=>by simp at hb;simp [hb]
 frame:=fun _ _ _ st hk=>⟨st.1.at fun o e=>hk I (by simp) o e,st.2.keep fun o e=>hk d (by simp) o e⟩
 item:=fun i s Q E hi st hQ=>asx st.1 st.2 hi fun h' nx sb=>hQ _ h' s.toks (by rw [Array.getElem?_eq_getElem hi];rfl) ⟨nx,st.2.keep fun o e=>sb.extBut d o hne e⟩ fun b o hb e=>sb.extBut b o (fun z=>hb (by simp [z])) e
 done:=fun s Q E st hQ=>avx hh st.1 st.2 fun h' eb=>hQ h' s.toks fun b o hb e=>eb b o (fun z=>hb (by simp [z])) e
 self:=fun _ _ _ _ st hQ=>wpAny_pyIter_keyiter st.1 hQ
end DI
namespace DI
open PySem PySem.W PyProof.Rows
section
variable {prog:Program} {w:World} {A:Around} {E:Value->Shared->Prop} {s:Shared}
theorem src (d:Addr) (es:Array DictEntry) (ep:Nat) (hd:(d == sysModules)=false):KdlSrc prog w "dict" d d es.size (fun i v=>(es[i]?).map (·.key)=some v) (fun h=>Raw h d es ep) where
 type:=fun s r=>r.ty
 there:=fun h r=>let ⟨o,e,_⟩:=r;⟨Heap.lt_size e,Heap.lt_size e⟩
 keep:=fun h h' r k=>r.keep fun o e=>k d (.inl rfl) o e
 notList:=by decide
 notTuple:=by decide
 hint:=fun A E s Q r q=>kdl_hint_dict r.ty q
 iter:=fun A s hh r=>⟨{ cls:=.type "dict_keyiterator",data:=.fields #[.ref d,.int 0 0,.int es.size 0,.int ep 0] },fun i h=>h.IsKeyIter s.heap.objs.size d i es.size ep/\Raw h d es ep,fun E Q q=>asw hd r q,
  walks hh s.heap.objs.size d (by obtain ⟨o,e,_⟩:=r;exact Nat.ne_of_lt (Heap.lt_size e)) es ep,⟨_,Heap.get?_push_size _ rfl,rfl,rfl⟩,r.keep fun o e=>Heap.get?_push_of_some _ e⟩
end
end DI
namespace TS
open PySem PySem.W PyProof.Rows
section
variable {prog:Program} {w:World} {A:Around} {E:Value->Shared->Prop} {s:Shared}
end
end TS
namespace L2
open PySem PySem.Spec PyProof.Rows
section
variable {X:Cx} {pins:List (Addr × Obj)} {σ:St} {H:Hp} {s:Shared} {h':Heap}
theorem Inv.turnNew {t':Nat} {ch:List Addr} {T:Addr} {o:HO} (I:Inv X pins σ H s) (f:∀ b∈ch,FpOk X pins H b) (k:∀ b u,b ∉ ch->s.heap.get? b=some u->h'.get? b=some u) (hT:s.heap.objs.size<=T) (new:ObjOk X.prog X.w (upd H T o) h' T o) :
  Inv X pins σ (upd H T o) { s with heap:=h',toks:=t' }:=by
 have hn:H T=none:=I.hok.fresh hT
 have nch:∀ b u,H b=some u->b ∉ ch:=fun b u e z=>by rw [(f b z).1] at e;cases e
 refine I.step (g':=s.gens) (d':=s.drawn) (ch:=ch) (fun b hb=>⟨(f b hb).2.2.2.1,(f b hb).2.1,(f b hb).2.2.2.2.1,(f b hb).2.2.2.2.2⟩) (fun b u _ _ hc e _=>k b u hc e) (fun b u _ _ hc e _=>⟨u.slots,k b u hc e⟩)
  (fun b u _ e n=>by rw [aag (Nat.ne_of_lt (Nat.lt_of_lt_of_le (Heap.lt_size e) hT))];exact n) (fun b u hc e=>⟨u,k b u hc e⟩) (fun b xs e=>by rw [aag (aap e hn)];exact e) (fun b u v e=>by rw [aag (aap e hn)];exact e)
  (fun b ps e=>⟨#[],by rw [aag (aap e hn),e];simp⟩) (fun m hm=>?_) (fun b u e=>?_) I.bare
 ·obtain ⟨u,es,ep,ho,r⟩:=hm
  exact ⟨u,es,ep,k _ u (fun z=>(f _ z).2.1 rfl) ho,r⟩
 ·by_cases hb:b=T
  ·subst hb;rw [aam] at e;cases e;exact new
  ·rw [aag hb] at e
   refine (I.hok b u e).stay (fun c v hc q=>k c v ?_ q) (fun c q=>by rw [aag (aap q hn)];exact q) fun c xs q=>by rw [aag (aap q hn)];exact q
   rcases hc with z | z
   ·rw [z];exact nch b u e
   ·exact nch c _ z
theorem Inv.turnedL {t':Nat} {ch:List Addr} (I:Inv X pins σ H s) (f:∀ b∈ch,FpOk X pins H b) (k:∀ b u,b ∉ ch->s.heap.get? b=some u->h'.get? b=some u):Inv X pins σ H { s with heap:=h',toks:=t' }:=by
 have nch:∀ b u,H b=some u->b ∉ ch:=fun b u e z=>by rw [(f b z).1] at e;cases e
 refine I.step (g':=s.gens) (d':=s.drawn) (ch:=ch) (fun b hb=>⟨(f b hb).2.2.2.1,(f b hb).2.1,(f b hb).2.2.2.2.1,(f b hb).2.2.2.2.2⟩) (fun b u _ _ hc e _=>k b u hc e) (fun b u _ _ hc e _=>⟨u.slots,k b u hc e⟩) (fun _ _ _ _ n=>n)
  (fun b u hc e=>⟨u,k b u hc e⟩) (fun _ _ e=>e) (fun _ _ _ e=>e) (fun b ps e=>⟨#[],by rw [e];simp⟩) (fun m hm=>?_) (fun b u e=>?_) I.bare
 ·obtain ⟨u,es,ep,ho,r⟩:=hm
  exact ⟨u,es,ep,k _ u (fun z=>(f _ z).2.1 rfl) ho,r⟩
 ·refine (I.hok b u e).stay (fun c v hc q=>k c v ?_ q) (fun _ q=>q) fun _ _ q=>q
  rcases hc with z | z
  ·rw [z];exact nch b u e
  ·exact nch c _ z
end
noncomputable def Ite (K:Frag) (a:Addr):It :=
 ⟨fun i H=>∃ xs x,SqL K H a xs/\xs[i]?=some x,fun i H x H'=>∃ p y,x=.ref p/\H p=none/\H'=upd H p (.tup [.int i,y])/\∀ xs,SqL K H a xs->xs[i]?=some y,fun i H=>∃ xs,SqL K H a xs/\xs.length<=i⟩
noncomputable def Itz (K:Frag) (a b:Addr):It :=
 ⟨fun i H=>∃ xs ys x y,SqL K H a xs/\SqL K H b ys/\xs[i]?=some x/\ys[i]?=some y,fun i H v H'=>∃ p x y,v=.ref p/\H p=none/\H'=upd H p (.tup [x,y])/\(∀ xs,SqL K H a xs->xs[i]?=some x)/\∀ ys,SqL K H b ys->ys[i]?=some y,
  fun i H=>∃ xs ys,SqL K H a xs/\SqL K H b ys/\min xs.length ys.length=i⟩
theorem aqs {P:Program} {w:World} {K:Frag} {elts:List Expr} {k:Nat} {pos:Pos} (a e it:Addr) (hei:e ≠ it) (hae:a ≠ e) (hai:a ≠ it) :
  Turn P w K (.Tuple elts k pos) (Ite K a) [e,it] e (fun i h=>(∃ old,IsEnum h e it i old)/\h.IsListIter it a i) where
 mem:=by simp
 obj:=fun i h st b hb=>by
  obtain ⟨⟨old,he⟩,o,e1,c,d⟩:=st
  rcases List.mem_cons.mp hb with rfl | hb
  ·exact ⟨_,he,fun v z=>by simp at z⟩
  ·have:b=it:=by simpa using hb
   subst this
   exact ⟨o,e1,fun v z=>by rw [d] at z;cases z⟩
 keep:=fun i h h' st q=>⟨let ⟨old,he⟩:=st.1;⟨old,q e (by simp) _ he⟩,st.2.at fun o x=>q it (by simp) o x⟩
 item:=by
  intro X hP hw hK hc i pins s σ H E I hf st hg
  subst hP hw hK
  obtain ⟨xs,x,hq,hx⟩:=hg
  obtain ⟨its,rv,p,hz⟩:=I.list hq
  obtain ⟨u,hu,ru⟩:=rv.get hx
  have hi:i < its.toArray.size:=by simpa using (List.getElem?_eq_some_iff.mp hu).1
  have W:=WalksT.enumerate (prog:=X.prog) (w:=X.w) (I.ok.hd hc) e it a hei hae hai its.toArray
  refine W.item i s _ _ hi ⟨st.1,st.2,p.isList⟩ fun T vals h1 tk hP hT isT mid kk=>⟨_,rfl,?_⟩
  obtain ⟨t,y,hy,rfl⟩:=hP
  have ey:y=u:=by
   have:its[i]?=some y:=by simpa using hy
   rw [hu] at this;cases this;rfl
  subst ey
  have aT:=W.apart i T _ mid
  refine W.go elts k pos i T { s with heap:=h1,toks:=tk } _ _ mid fun h2 st2 k2=>?_
  have isT2:IsTup h2 T #[.int i t,y]:=by
   obtain ⟨o,e1,e2,n,e3⟩:=isT
   exact ⟨o,k2 T o aT e1,e2,n,e3⟩
  refine ⟨.ref T,upd H T (.tup [.int i,x]),I.turnNew hf (fun b o hb q=>k2 b o hb (kk b o hb q)) hT ?_,rfl,⟨T,x,rfl,I.hok.fresh hT,rfl,fun ys hy=>by rw [I.list_inj hy hq];exact hx⟩,⟨?_,st2.2.1⟩,fun b hb=>?_⟩
  ·exact ⟨by show (2:Nat)<=sizeLine;decide,[.int i t,y],.cons ⟨t,rfl⟩ (.cons ru .nil),isT2⟩
  ·obtain ⟨old,q⟩:=st2.1
   exact ⟨old,by simpa using q⟩
  ·rw [aag]
   ·exact (hf b hb).1
   ·rintro rfl;exact aT hb
 done:=by
  intro X hP hw hK hc i pins s σ H E I hf st hg
  subst hP hw hK
  obtain ⟨xs,hq,hx⟩:=hg
  obtain ⟨its,rv,p,hz⟩:=I.list hq
  obtain ⟨⟨old,he⟩,hit⟩:=st
  have hl:=rv.length
  exact wpAny_pyNext_enum_end (I.ok.hd hc) he hit p.isList (by simp;omega) fun h2 eb=>⟨rfl,I.turnedL (t':=s.toks) hf fun b o hb q=>eb b o (fun z=>hb (by simp [z])) q⟩
 self:=fun A i s Q E st h=>by
  obtain ⟨⟨old,he⟩,_⟩:=st
  exact wpAny_pyIter_enum he h
section
variable {X:Cx} {elts:List Expr} {k:Nat} {tpos:Pos}
def auc (K:Frag) (ta:TA):TI:=fun σ H R=>ta σ H fun vs H1=>∃ a xs,vs=[.ref a]/\SqL K H1 a xs/\R (Ite K a) H1
theorem anz {a:Expr} {ta:TA} {p pos:Pos} (hg:Gl X "enumerate") (hm:X.mg "enumerate" = none) (ha:PA X [a] ta) (hs:starEach [a] X.env=[(false,eval a X.env)]:=by rfl):PI X (.Tuple elts k tpos) (.Call (.Name "enumerate" p) [a] [] pos) (auc X.K ta):=by
 intro pins s σ H R I h
 refine Call_ (acs I hg hm akw (PyProof.Rows.callWith_type1 (thn (ha pos pins s σ H _ I h) fun us s1 ⟨vs,H1,I1,r1,a,xs,ev,hq,q⟩=>?_) hs rfl))
 subst ev
 obtain ⟨u,rfl,ru⟩:=acf r1
 cases ru
 obtain ⟨its,rv,pl,hz⟩:=I1.list hq
 refine call_enumerate_list pl.isList fun h2 he hit hsz kp=>?_
 have hlt:a < s1.heap.objs.size:=by obtain ⟨o,n,e,_⟩:=pl;exact Heap.lt_size e
 refine wpAny_pyIter_enum he ⟨s1.heap.objs.size+1,[s1.heap.objs.size+1,s1.heap.objs.size],_,_,H1,rfl,I1.kept (t':=s1.toks) kp,aqs a _ _ (Nat.succ_ne_self _) (Nat.ne_of_lt (Nat.lt_succ_of_lt hlt)) (Nat.ne_of_lt hlt),⟨⟨_,he⟩,hit⟩,fun b hb=>?_,q⟩
 have hb':s1.heap.objs.size<=b:=by
  rcases List.mem_cons.mp hb with rfl | hb
  ·exact Nat.le_succ _
  ·have:b=s1.heap.objs.size:=by simpa using hb
   exact Nat.le_of_eq this.symm
 exact I1.fpOk hb' (I1.hok.fresh hb')
end
theorem asz {P:Program} {w:World} {K:Frag} {elts:List Expr} {k:Nat} {pos:Pos} (z TI TO i1 i2 l1 l2:Addr) (D:ZipApart z TI TO i1 i2 l1 l2) :
  Turn P w K (.Tuple elts k pos) (Itz K l1 l2) [z,TI,TO,i1,i2] z (fun i h=>IsZip h z TI TO .none/\IsPair h TI (.ref i1) (.ref i2)/\(∃ a b,IsPair h TO a b)/\h.IsListIter i1 l1 i/\h.IsListIter i2 l2 i) where
 mem:=by simp
 obj:=fun i h st b hb=>by
  obtain ⟨hz,hTI,⟨a,b',hTO⟩,⟨o1,e1,c1,d1⟩,⟨o2,e2,c2,d2⟩⟩:=st
  simp only [List.mem_cons,List.not_mem_nil,or_false] at hb
  rcases hb with rfl | rfl | rfl | rfl | rfl
  ·exact ⟨_,hz,fun v y=>by simp at y⟩
  ·exact ⟨_,hTI,fun v y=>by simp at y⟩
  ·exact ⟨_,hTO,fun v y=>by simp at y⟩
  ·exact ⟨o1,e1,fun v y=>by rw [d1] at y;cases y⟩
  ·exact ⟨o2,e2,fun v y=>by rw [d2] at y;cases y⟩
 keep:=fun i h h' st q=>by
  obtain ⟨hz,hTI,⟨a,b',hTO⟩,h1,h2⟩:=st
  exact ⟨q z (by simp) _ hz,q TI (by simp) _ hTI,⟨a,b',q TO (by simp) _ hTO⟩,h1.at fun o x=>q i1 (by simp) o x,h2.at fun o x=>q i2 (by simp) o x⟩
 item:=by
  intro X hP hw hK hc i pins s σ H E I hf st hg
  subst hP hw hK
  obtain ⟨xs,ys,x,y,hq1,hq2,hx,hy⟩:=hg
  obtain ⟨us,rv1,p1,_⟩:=I.list hq1
  obtain ⟨vs,rv2,p2,_⟩:=I.list hq2
  obtain ⟨u,hu,ru⟩:=rv1.get hx
  obtain ⟨v,hv,rv⟩:=rv2.get hy
  have hi:i < min us.toArray.size vs.toArray.size:=by
   have a1:=(List.getElem?_eq_some_iff.mp hu).1
   have a2:=(List.getElem?_eq_some_iff.mp hv).1
   simp;omega
  obtain ⟨hz,hTI,hTO,h1,h2⟩:=st
  have W:=WalksT.zip2 (prog:=X.prog) (w:=X.w) (I.ok.hd hc) z TI TO i1 i2 l1 l2 D us.toArray vs.toArray
  refine W.item i s _ _ hi ⟨hz,hTI,hTO,h1,h2,p1.isList,p2.isList⟩ fun T vals h3 tk hP hT isT mid kk=>⟨_,rfl,?_⟩
  obtain ⟨x',y',hx',hy',rfl⟩:=hP
  have ex:x'=u:=by
   have:us[i]?=some x':=by simpa using hx'
   rw [hu] at this;cases this;rfl
  have ey:y'=v:=by
   have:vs[i]?=some y':=by simpa using hy'
   rw [hv] at this;cases this;rfl
  subst ex ey
  have aT:=W.apart i T _ mid
  have sub:∀ b,b ∉ [z,TI,TO,i1,i2]->b ∉ [z,TO,i1,i2]:=fun b hb y=>hb (by simp at y ⊢;rcases y with y | y | y | y <;> simp [y])
  have Tt:T ∉ [z,TI,TO,i1,i2]:=fun y=>by
   have:=(hf T y).1
   obtain ⟨o,e,_⟩:=isT
   simp only [List.mem_cons,List.not_mem_nil,or_false] at y
   rcases y with rfl | rfl | rfl | rfl | rfl
   ·exact aT (by simp)
   ·exact absurd (Heap.lt_size hTI) (Nat.not_lt.mpr hT)
   ·exact aT (by simp)
   ·exact aT (by simp)
   ·exact aT (by simp)
  refine W.go elts k pos i T { s with heap:=h3,toks:=tk } _ _ mid fun h4 st4 k4=>?_
  have isT4:IsTup h4 T #[x',y']:=by
   obtain ⟨o,e1,e2,n,e3⟩:=isT
   exact ⟨o,k4 T o aT e1,e2,n,e3⟩
  refine ⟨.ref T,upd H T (.tup [x,y]),I.turnNew hf (fun b o hb q=>k4 b o (sub b hb) (kk b o (sub b hb) q)) hT ?_,rfl,⟨T,x,y,rfl,I.hok.fresh hT,rfl,fun zs hz'=>by rw [I.list_inj hz' hq1];exact hx,fun zs hz'=>by rw [I.list_inj hz' hq2];exact hy⟩,⟨st4.1,st4.2.1,st4.2.2.1,st4.2.2.2.1,st4.2.2.2.2.1⟩,fun b hb=>?_⟩
  ·exact ⟨by show (2:Nat)<=sizeLine;decide,[x',y'],.cons ru (.cons rv .nil),isT4⟩
  ·rw [aag]
   ·exact (hf b hb).1
   ·rintro rfl;exact Tt hb
 done:=by
  intro X hP hw hK hc i pins s σ H E I hf st hg
  subst hP hw hK
  obtain ⟨xs,ys,hq1,hq2,hx⟩:=hg
  obtain ⟨us,rv1,p1,_⟩:=I.list hq1
  obtain ⟨vs,rv2,p2,_⟩:=I.list hq2
  obtain ⟨hz,hTI,hTO,h1,h2⟩:=st
  have W:=WalksT.zip2 (prog:=X.prog) (w:=X.w) (I.ok.hd hc) z TI TO i1 i2 l1 l2 D us.toArray vs.toArray
  have ei:min us.toArray.size vs.toArray.size=i:=by
   rw [← hx,rv1.length,rv2.length];simp
  have sub:∀ b,b ∉ [z,TI,TO,i1,i2]->b ∉ [z,TO,i1,i2]:=fun b hb y=>hb (by simp at y ⊢;rcases y with y | y | y | y <;> simp [y])
  rw [← ei] at h1 h2
  exact W.done s _ _ ⟨hz,hTI,hTO,h1,h2,p1.isList,p2.isList⟩ fun h3 tk kk=>⟨rfl,I.turnedL (t':=tk) hf fun b o hb q=>kk b o (sub b hb) q⟩
 self:=fun A i s Q E st h=>wpAny_pyIter_zip st.1 h
theorem ayj {n a b:Nat} (h1:a < n) (h2:b < n):ZipApart (n+4) (n+2) (n+3) n (n+1) a b:=by constructor <;> (show (_:Nat) ≠ _;omega)
section
variable {X:Cx} {elts:List Expr} {k:Nat} {tpos:Pos}
def iZip (K:Frag) (ta:TA):TI:=fun σ H R=>ta σ H fun vs H1=>∃ a b xs ys,vs=[.ref a,.ref b]/\SqL K H1 a xs/\SqL K H1 b ys/\R (Itz K a b) H1
theorem aqt {a b:Expr} {ta:TA} {p pos:Pos} (hg:Gl X "zip") (hm:X.mg "zip" = none) (ha:PA X [a,b] ta) (hs:starEach [a,b] X.env=[(false,eval a X.env),(false,eval b X.env)]:=by rfl) (hs2:starEach [b] X.env=[(false,eval b X.env)]:=by rfl):PI X (.Tuple elts k tpos) (.Call (.Name "zip" p) [a,b] [] pos) (iZip X.K ta):=by
 intro pins s σ H R I h
 refine Call_ (acs I hg hm axp (PyProof.Rows.callWith_type1 (thn (ha pos pins s σ H _ I h) fun us s1 ⟨vs,H1,I1,r1,a,b,xs,ys,ev,hq1,hq2,q⟩=>?_) (by rw [hs,hs2]) (by rw [hs2];rfl)))
 subst ev
 obtain ⟨u,c,rfl,ru,rc⟩:=aj9 r1
 cases ru
 cases rc
 obtain ⟨_,_,p1,_⟩:=I1.list hq1
 obtain ⟨_,_,p2,_⟩:=I1.list hq2
 have l1:a < s1.heap.objs.size:=by obtain ⟨o,n,e,_⟩:=p1;exact Heap.lt_size e
 have l2:b < s1.heap.objs.size:=by obtain ⟨o,n,e,_⟩:=p2;exact Heap.lt_size e
 refine call_zip_2 p1.isList p2.isList fun h2 hz hTI hTO h1 h3 hsz kp=>?_
 refine wpAny_pyIter_zip hz ⟨s1.heap.objs.size+4,[s1.heap.objs.size+4,s1.heap.objs.size+2,s1.heap.objs.size+3,s1.heap.objs.size,s1.heap.objs.size+1],_,_,H1,rfl,I1.kept (t':=s1.toks) kp,asz _ _ _ _ _ a b (ayj l1 l2),⟨hz,hTI,⟨_,_,hTO⟩,h1,h3⟩,fun c hc=>?_,q⟩
 have hc':s1.heap.objs.size<=c:=by
  simp only [List.mem_cons,List.not_mem_nil,or_false] at hc
  rcases hc with rfl | rfl | rfl | rfl | rfl
  ·exact Nat.le_add_right _ 4
  ·exact Nat.le_add_right _ 2
  ·exact Nat.le_add_right _ 3
  ·exact Nat.le_refl _
  ·exact Nat.le_add_right _ 1
 exact I1.fpOk hc' (I1.hok.fresh hc')
end
theorem an0:∀ {xs:List V} {us:List Value},xs.length=us.length->(∀ (i:Nat) v u,xs[i]?=some v->us[i]?=some u->RelV v u)->Vals xs us
 | [],[],_,_ => .nil
 | [],_ :: _,h,_=>by simp at h
 | _ :: _,[],h,_=>by simp at h
 | x :: xs,u :: us,h,k => .cons (k 0 x u rfl rfl) (an0 (by simpa using h) fun i v w h1 h2=>k (i+1) v w (by simpa using h1) (by simpa using h2))
theorem ams (prog:Program) (w:World) (A:Around) {bs:List Bool} {us:List Value} (r:Vals (bs.map V.bl) us):TruthOf prog w A (fun i v=>us.toArray[i]?=some v) (fun i=>bs.getD i false):=by
 intro i v s Q E hP h
 have hv:us[i]?=some v:=by simpa using hP
 have hi:i < us.length:=(List.getElem?_eq_some_iff.mp hv).1
 have hb:i < bs.length:=by have:=r.length;simp at this;omega
 obtain ⟨u,hu,ru⟩:=r.get (i:=i) (x:=.bl bs[i]) (by simp [hb])
 rw [hv] at hu;cases hu
 cases (show v=Value.bool bs[i] from ru)
 have e:bs.getD i false=bs[i]:=by simp [List.getD,hb]
 have h':Q (bs.getD i false) s:=h
 rw [e] at h'
 exact wpAny_truthy_bool h'
section
variable {X:Cx}
theorem aqu (bs:List Bool):((List.range bs.length).all fun i=>bs.getD i false)=bs.all id:=by
 rw [Bool.eq_iff_iff,List.all_eq_true,List.all_eq_true]
 constructor
 ·intro h b hb
  obtain ⟨i,hi,e⟩:=List.mem_iff_getElem.mp hb
  have:=h i (List.mem_range.mpr hi)
  simp [List.getD,hi,e] at this
  exact this
 ·intro h i hi
  have hi':=List.mem_range.mp hi
  have:=h bs[i] (List.getElem_mem hi')
  simp [List.getD,hi'];exact this
def rAll (K:Frag):List V->Hp->VK->Prop:=fun xs H Q=>∃ (a:Addr) (bs:List Bool),xs=[.ref a]/\SqL K H a (bs.map V.bl)/\Q (.bl (bs.all id)) H
theorem ajb (hc:X.calm=true):aa7 X (.builtin "all") (rAll X.K):=by
 intro pins s σ H xs us Q I r h
 obtain ⟨a,bs,rfl,ha,q⟩:=h
 obtain ⟨u,rfl,ru⟩:=acf r
 cases ru
 obtain ⟨its,r1,p1,_⟩:=I.list ha
 have hl:a < s.heap.objs.size:=by obtain ⟨o,n,e,_⟩:=p1;exact Heap.lt_size e
 have hz:its.toArray.size=bs.length:=by have:=r1.length;simp at this;simp [this]
 refine call_all_walk (wpAny_pyIter_list p1.isList ⟨_,[s.heap.objs.size,a],_,_,_,_,_,rfl,Walks.list (A:=X.A.in1) (I.ok.hd hc) _ a (Nat.ne_of_lt hl) its.toArray,⟨⟨_,Heap.get?_push_size _ rfl,rfl,rfl⟩,p1.isList.push _⟩,ams _ _ _ r1,fun h2 tk kp=>?_⟩)
 rw [hz,aqu]
 refine ⟨.bl _,H,I.kept fun b o e=>kp b o (fun z=>?_) (Heap.get?_push_of_some _ e),rfl,q⟩
 exact absurd (Heap.lt_size e) (by rw [List.mem_singleton.mp z];exact Nat.lt_irrefl _)
def aqv (ta:TA):TE:=fun σ H Q=>ta σ H fun vs H1=>∃ j:Int,vs=[.int j]/\0<=j/\j<=1000000/\∀ l,H1 l=none->Q (.ref l) (upd H1 l (.lst ((List.range j.toNat).map fun (i:Nat)=>V.int (i:Int))))
theorem as0 {a:Expr} {ta:TA} {p1 p2 pos pos2:Pos} (hg:Gl X "list") (hm:X.mg "list" = none) (hg2:Gl X "range") (hm2:X.mg "range" = none) (hc:X.calm=true) (ha:PA X [a] ta) (hs:starEach [a] X.env=[(false,eval a X.env)]:=by rfl)
  (hs2:starEach [.Call (.Name "range" p2) [a] [] pos2] X.env=[(false,eval (.Call (.Name "range" p2) [a] [] pos2) X.env)]:=by rfl):PE X (.Call (.Name "list" p1) [.Call (.Name "range" p2) [a] [] pos2] [] pos) (aqv ta):=by
 intro pins s σ H Q I h
 refine Call_ (acs I hg hm ang (PyProof.Rows.callWith_type1 ?_ hs2 rfl))
 rw [hs2]
 refine Calls.spliced_cons (Call_ (acs I hg2 hm2 boot_range (PyProof.Rows.callWith_type1 (thn (ha pos2 pins s σ H _ I h) fun us s1 ⟨vs,H1,I1,r1,j,ev,j0,j1,q⟩=>?_) hs rfl)))
 subst ev
 obtain ⟨u,rfl,t,rfl⟩:=acf r1
 refine call_range_1 (Calls.spliced_nil ?_)
 have hr:IsRange (s1.heap.push { cls:=.type "range",data:=.fields #[.int 0 s1.toks,.int j t,.int 1 (s1.toks+1)] }) s1.heap.objs.size 0 j 1 s1.toks t (s1.toks+1):=Heap.get?_push_size _ rfl
 have hn:Builtin.Range.rangeSize 0 j 1=((j.toNat:Nat):Int):=by rw [rangeSize_one];split <;> omega
 refine call_list_range (s:={ s1 with heap:=s1.heap.push { cls:=.type "range",data:=.fields #[.int 0 s1.toks,.int j t,.int 1 (s1.toks+1)] },toks:=s1.toks+1+1 }) (I1.ok.hd hc) hr (small_one (by omega) (by omega) (by omega) (by omega)) hn (by omega) fun h2 tk acc c kp hS items=>?_
 have k2:∀ b o,s1.heap.get? b=some o->h2.get? b=some o:=fun b o e=>kp b o (Heap.get?_push_of_some _ e)
 have hfree:s1.heap.objs.size<=(s1.heap.push { cls:=.type "range",data:=.fields #[.int 0 s1.toks,.int j t,.int 1 (s1.toks+1)] }).objs.size:=by rw [Heap.size_push];exact Nat.le_succ _
 refine ⟨.ref _,_,I1.laid (t':=tk) (o:=.lst ((List.range j.toNat).map fun (i:Nat)=>V.int (i:Int))) k2 hfree ?_,rfl,q _ (I1.hok.fresh hfree)⟩
 refine ⟨by rw [List.length_map,List.length_range];exact Nat.le_of_lt (VL.big (by omega)),acc.toList,c,?_,by simpa using hS⟩
 obtain ⟨h1,h2'⟩:=items
 refine an0 (by simp [h1]) fun i v u hv hu=>?_
 have hu':acc[i]?=some u:=by simpa using hu
 obtain ⟨t',e'⟩:=h2' i u hu'
 rw [List.getElem?_map] at hv
 have hi:i < j.toNat:=by
  have:=(Array.getElem?_eq_some_iff.mp hu').1
  omega
 rw [List.getElem?_eq_getElem (by simpa using hi)] at hv
 simp at hv
 subst hv
 exact ⟨t',by rw [e'];simp⟩
end
section
variable {X:Cx} {pins:List (Addr × Obj)} {σ:St} {H:Hp} {s:Shared}
end
theorem KT.get {H:Hp}:∀ {kvs:List (List Key × V)} {xs:List (List Key × Addr × Value)} {i:Nat} {p:List Key × V},KT H kvs xs->kvs[i]?=some p->∃ q,xs[i]?=some q/\p.1=q.1/\H q.2.1=some (.tup (p.1.map kV))
 | _,_,_,_,.nil,e=>by simp at e
 | _,_,0,_,.cons r _,e=>by simp at e;subst e;exact ⟨_,rfl,r.1,r.2.1⟩
 | _,_,i+1,p,.cons _ t,e=>by
  obtain ⟨q,h1,h2⟩:=KT.get (i:=i) (p:=p) t (by simpa using e)
  exact ⟨q,by simpa using h1,h2⟩
section
variable {X:Cx} {tg:Expr}
end
end L2
namespace VL
open PySem PySem.Spec L2
noncomputable def enD (ds:List PyData):List PyData:=(List.range ds.length).map fun (i:Nat) => .tuple [.int (i:Int),ds.getD i .none]
noncomputable def zipD (xs ys:List PyData):List PyData:=(xs.zip ys).map fun p => .tuple [p.1,p.2]
theorem ad6 {ds:List PyData}:(enD ds).length=ds.length:=by simp [enD]
theorem an1 {ds:List PyData} {i:Nat} {d:PyData} (h:(enD ds)[i]?=some d):∃ x,ds[i]?=some x/\d=.tuple [.int (i:Int),x]:=by
 unfold enD at h
 rw [List.getElem?_map] at h
 by_cases hi:i < ds.length
 ·rw [List.getElem?_eq_getElem (by simpa using hi)] at h
  simp at h
  refine ⟨ds[i],List.getElem?_eq_getElem hi,?_⟩
  rw [← h]
  simp [hi]
 ·rw [List.getElem?_eq_none_iff.mpr (by simp;omega)] at h;cases h
theorem as4 {xs ys:List PyData} {i:Nat} {d:PyData} (h:(zipD xs ys)[i]?=some d):∃ x y,xs[i]?=some x/\ys[i]?=some y/\d=.tuple [x,y]:=by
 unfold zipD at h
 rw [List.getElem?_map] at h
 cases e:(xs.zip ys)[i]? with
 | none=>rw [e] at h;cases h
 | some p =>
  rw [e] at h
  cases h
  obtain ⟨h1,h2⟩:=List.getElem?_zip_eq_some.mp e
  exact ⟨p.1,p.2,h1,h2,rfl⟩
theorem Out.tup2 {G H:Hp} {p:Addr} {x y:V} {d e:PyData} (g:Same G H) (h:H p=none) (r1:Rp G x d) (r2:Rp G y e):Out G H (.ref p) (upd G p (.tup [x,y])) (upd H p (.tup [x,y])) (.st (.tuple [d,e])) (fun _=>False):=Out.newT g h (.cons r1 (.cons r2 .nil))
section
variable {B:Bs} {env:En} {QI:List PyData->En->Prop} {QO:Sl->En->Prop} {Q':PyData->En->Prop} {K:Frag} {i:Nat} {ta:TA}
theorem as6 (h:EvA B ta env fun vs e=>∃ ds,vs=[.list ds]/\QI (enD ds) e):EvI B (auc K ta) env QI:=fun σ G H F R I k =>
 h σ G H F _ I fun vs G1 H1 F1 ds e1 I1 g1 r1 z_=>by
  obtain ⟨xs,ed,q1⟩:=z_
  subst ed
  cases r1 with
  | cons r t =>
   cases t
   cases r with
   | @lst a us _ ha rs =>
    refine ⟨a,us,rfl,SqL.of (I1.gh _ _ ha),k _ G1 H1 F1 _ e1 I1 g1 ⟨fun i G' H' g h hi=>?_,fun i G' H' g h hi=>?_,fun i G' H' x H'' d g h ft hd y=>?_⟩ q1⟩
    ·have:i < us.length:=by rw [rs.length];rw [ad6] at hi;exact hi
     exact ⟨us,us[i],SqL.of (h _ _ (g _ _ ha)),List.getElem?_eq_getElem this⟩
    ·exact ⟨us,SqL.of (h _ _ (g _ _ ha)),by rw [rs.length];rw [ad6] at hi;exact Nat.le_of_eq hi.symm⟩
    ·obtain ⟨p,v,rfl,hp,rfl,hv⟩:=y
     obtain ⟨dx,hx,rfl⟩:=an1 hd
     obtain ⟨u,hu,ru⟩:=rs.get hx
     have:=hv us (SqL.of (h _ _ (g _ _ ha)))
     rw [hu] at this;cases this
     exact ⟨_,Out.tup2 h hp (.int _) (ru.same g)⟩
theorem avy (h:EvA B ta env fun vs e=>∃ xs ys,vs=[.list xs,.list ys]/\QI (zipD xs ys) e):EvI B (iZip K ta) env QI:=fun σ G H F R I k =>
 h σ G H F _ I fun vs G1 H1 F1 ds e1 I1 g1 r1 z_=>by
  obtain ⟨xs,ys,ed,q1⟩:=z_
  subst ed
  cases r1 with
  | cons r t =>
   cases t with
   | cons r2 t =>
    cases t
    cases r with
    | @lst a us _ ha rs =>
     cases r2 with
     | @lst b ws _ hb rs2 =>
      have hl:(zipD xs ys).length=min us.length ws.length:=by simp [zipD,rs.length,rs2.length]
      refine ⟨a,b,us,ws,rfl,SqL.of (I1.gh _ _ ha),SqL.of (I1.gh _ _ hb),k _ G1 H1 F1 _ e1 I1 g1 ⟨fun i G' H' g h hi=>?_,fun i G' H' g h hi=>?_,fun i G' H' x H'' d g h ft hd y=>?_⟩ q1⟩
      ·have h1:i < us.length:=by omega
       have h2:i < ws.length:=by omega
       exact ⟨us,ws,us[i],ws[i],SqL.of (h _ _ (g _ _ ha)),SqL.of (h _ _ (g _ _ hb)),List.getElem?_eq_getElem h1,List.getElem?_eq_getElem h2⟩
      ·exact ⟨us,ws,SqL.of (h _ _ (g _ _ ha)),SqL.of (h _ _ (g _ _ hb)),by rw [← hl];exact hi.symm⟩
      ·obtain ⟨p,v,w,rfl,hp,rfl,hv,hw⟩:=y
       obtain ⟨dx,dy,hx,hy,rfl⟩:=as4 hd
       obtain ⟨u,hu,ru⟩:=rs.get hx
       obtain ⟨u2,hu2,ru2⟩:=rs2.get hy
       have e1:=hv us (SqL.of (h _ _ (g _ _ ha)))
       have e2:=hw ws (SqL.of (h _ _ (g _ _ hb)))
       rw [hu] at e1;cases e1
       rw [hu2] at e2;cases e2
       exact ⟨_,Out.tup2 h hp (ru.same g) (ru2.same g)⟩
theorem RpT.len {G:Hp}:∀ {kvs:List (List Key × V)} {es:List (List Key × PyData)},RpT G kvs es->kvs.length=es.length/\kvs.map (·.1)=es.map (·.1)
 | _,_,.nil=>⟨rfl,rfl⟩
 | _,_,.cons _ t=>by
  obtain ⟨h1,h2⟩:=RpT.len t
  exact ⟨by simp [h1],by simp [h2]⟩
@[reducible] noncomputable def tiD (ns:List Int):PyData:=.tuple (ns.map .int)
def lexS (pss:List (List Int)):Prop:=pss.Pairwise fun x y=>HT.lexLt y x=false
theorem ag4 {G H:Hp} (ft:FT G H):∀ {vs:List V},(∀ v∈vs,TupI H v)->Rps G vs ((vs.map (kH H)).map tiD)
 | [],_ => .nil
 | v :: vs,h=>by
  obtain ⟨t,ns,rfl,e,_⟩:=h v List.mem_cons_self
  rw [List.map_cons,List.map_cons,ahj e]
  have:(ns.map V.int)=(ns.map (fun i=>(Sum.inl i:Key))).map kV:=by rw [List.map_map];rfl
  refine .cons (.tup ?_ (Rps.ints ns)) (ag4 ft fun u hu=>h u (List.mem_cons_of_mem _ hu))
  rw [this];exact ft t _ (by rw [← this];exact e)
theorem aet {G H:Hp} (gh:Same G H):∀ {vs:List V} {pss:List (List Int)},Rps G vs (pss.map tiD)->(∀ ns∈pss,ns ≠ [])->(∀ v∈vs,TupI H v)/\vs.map (kH H)=pss
 | _,[],.nil,_=>⟨fun v hv=>by simp at hv,rfl⟩
 | v :: vs,ns :: pss,.cons r t,hn=>by
  obtain ⟨i1,i2⟩:=aet gh t fun ms hm=>hn ms (List.mem_cons_of_mem _ hm)
  cases r with
  | tup h rs =>
   have:=Rps.ints_inv rs
   subst this
   have e:=gh _ _ h
   refine ⟨fun u hu=>?_,by rw [List.map_cons,ahj e,i2]⟩
   rcases List.mem_cons.mp hu with rfl | hu
   ·exact ⟨_,ns,rfl,e,hn ns List.mem_cons_self⟩
   ·exact i1 u hu
theorem aqw {pss:List (List Int)} (hn:∀ ns∈pss,ns ≠ []) (h64:pss.length < 64) (h:EvA B ta env fun ds e=>ds=[.list (pss.map tiD)]/\∀ qss:List (List Int),qss.Perm pss->lexS qss->QO (.own (OL (qss.map tiD))) e):EvO B (tCB (ahk K) ta) env QO:=fun σ G H F Q I k =>
 h σ G H F _ I fun vs G1 H1 F1 ds e1 I1 g1 r1 z_=>by
  obtain ⟨ed,q1⟩:=z_
  subst ed
  cases r1 with
  | cons r t =>
   cases t
   cases r with
   | @lst a us _ ha rs =>
    obtain ⟨t1,t2⟩:=aet I1.gh rs hn
    refine ⟨a,us,rfl,SqL.of (I1.gh _ _ ha),t1,by have:=rs.length;rw [List.length_map] at this;omega,fun ws p hp hs hf=>?_⟩
    have tw:∀ v∈ws,TupI H1 v:=fun v hv=>t1 v (hp.mem_iff.mp hv)
    have o:=Out.newL I1.gh hf (ag4 I1.ft tw)
    refine k _ _ _ F1 _ _ e1 (I1.out o).1 (g1.trans o.gg) (I1.out o).2 (q1 _ ?_ ?_)
    ·have:=hp.map (kH H1);rw [t2] at this;exact this
    ·unfold lexS;rw [List.pairwise_map];exact hs
end
section
variable {B:Bs} {env:En} {QO:Sl->En->Prop} {Q':PyData->En->Prop} {K:Frag} {i:Nat} {ta:TA} {R:Sl->Prop}
theorem Rps.bools_inv {G:Hp}:∀ {bs:List Bool} {vs:List V},Rps G vs (bs.map PyData.bool)->vs=bs.map V.bl
 | [],_,.nil=>rfl
 | b :: bs,_,.cons r t=>by
  cases r
  rw [Rps.bools_inv t];rfl
theorem an2 {bs:List Bool} (h:R (.st (.bool (bs.all id)))):OpA (rAll K) [.list (bs.map .bool)] R:=fun G H vs Q gh rs k=>by
 cases rs with
 | cons r t =>
  cases t
  cases r with
  | lst ha ra =>
   have:=Rps.bools_inv ra
   subst this
   exact ⟨_,bs,rfl,SqL.of (gh _ _ ha),k _ _ _ _ _ (Out.refl gh (.bl _)) h⟩
theorem aqx {G:Hp} (n:Nat):Rps G ((List.range n).map fun (i:Nat)=>V.int (i:Int)) (rngD 0 n):=by
 unfold rngD
 refine aln (by simp) fun i v d hv hd=>?_
 rw [List.getElem?_map] at hv hd
 cases e:(List.range n)[i]? with
 | none=>rw [e] at hv;cases hv
 | some m=>rw [e] at hv hd;cases hv;cases hd;show Rp G (.int (m:Int)) (.int (0+(m:Int)));rw [Int.zero_add];exact .int _
theorem aqy (h:EvA B ta env fun ds e=>∃ j:Int,ds=[.int j]/\0<=j/\j<=1000000/\QO (.own (OL (rngD 0 j.toNat))) e):EvO B (aqv ta) env QO:=fun σ G H F Q I k =>
 h σ G H F _ I fun vs G1 H1 F1 ds e1 I1 g1 r1 z_=>by
  obtain ⟨j,ed,j0,j1,q1⟩:=z_
  subst ed
  obtain rfl:vs=[V.int j]:=Rps.ints_inv (ns:=[j]) r1
  refine ⟨j,rfl,j0,j1,fun p hp=>?_⟩
  have o:=Out.newL I1.gh hp (aqx j.toNat)
  exact k _ _ _ F1 _ _ e1 (I1.out o).1 (g1.trans o.gg) (I1.out o).2 q1
end
section
variable {κ:Type} [DecidableEq κ] {α:Type}
noncomputable def valD (es:List (κ × α)) (k : κ):Option α:=(es.find? fun e=>decide (e.1=k)).map (·.2)
noncomputable def putD (es:List (κ × α)) (k : κ) (d : α):List (κ × α):=if (es.any fun e=>decide (e.1=k))=true then es.map (fun e=>if e.1=k then (e.1,d) else e) else es ++ [(k,d)]
end
theorem RpK.val {G:Hp} {k:Key}:∀ {kvs:List (Key × V)} {es:List (Key × PyData)},RpK G kvs es->(valD es k=none->valV kvs k=none)/\∀ d,valD es k=some d->∃ v,valV kvs k=some v/\Rp G v d
 | _,_,.nil=>⟨fun _=>rfl,fun d h=>by cases h⟩
 | _,_,.cons (k:=k') r t=>by
  obtain ⟨i1,i2⟩:=RpK.val (k:=k) t
  by_cases e:k'=k
  ·refine ⟨fun h=>by simp [valD,e] at h,fun d h=>?_⟩
   simp [valD,e] at h
   subst h
   exact ⟨_,by simp [valV,e],r⟩
  ·refine ⟨fun h=>?_,fun d h=>?_⟩
   ·simp [valV,e];simp [valD,e] at h
    have:=i1 (by simp [valD];exact h)
    simpa [valV] using this
   ·obtain ⟨v,h1,h2⟩:=i2 d (by simpa [valD,e] using h)
    exact ⟨v,by simpa [valV,e] using h1,h2⟩
theorem RpK.any {G:Hp} {k:Key}:∀ {kvs:List (Key × V)} {es:List (Key × PyData)},RpK G kvs es->(kvs.any fun e=>decide (e.1=k))=es.any fun e=>decide (e.1=k)
 | _,_,.nil=>rfl
 | _,_,.cons r t=>by simp [RpK.any t]
theorem RpK.map {G:Hp} {k:Key} {v:V} {d:PyData} (h:Rp G v d):∀ {kvs:List (Key × V)} {es:List (Key × PyData)},RpK G kvs es->RpK G (kvs.map fun e=>if e.1=k then (e.1,v) else e) (es.map fun e=>if e.1=k then (e.1,d) else e)
 | _,_,.nil => .nil
 | _,_,.cons (k:=k') r t=>by
  by_cases e:k'=k
  ·simp only [List.map_cons,e,if_true];exact .cons h (RpK.map h t)
  ·simp only [List.map_cons,e,if_false];exact .cons r (RpK.map h t)
theorem RpK.append {G:Hp}:∀ {a b:List (Key × V)} {c d:List (Key × PyData)},RpK G a c->RpK G b d->RpK G (a ++ b) (c ++ d)
 | _,_,_,_,.nil,s=>s
 | _,_,_,_,.cons r t,s => .cons r (RpK.append t s)
theorem RpT.any {G:Hp} {k:List Key}:∀ {kvs:List (List Key × V)} {es:List (List Key × PyData)},RpT G kvs es->(kvs.any fun e=>decide (e.1=k))=es.any fun e=>decide (e.1=k)
 | _,_,.nil=>rfl
 | _,_,.cons r t=>by simp [RpT.any t]
theorem RpT.map {G:Hp} {k:List Key} {v:V} {d:PyData} (h:Rp G v d):∀ {kvs:List (List Key × V)} {es:List (List Key × PyData)},RpT G kvs es->RpT G (kvs.map fun e=>if e.1=k then (e.1,v) else e) (es.map fun e=>if e.1=k then (e.1,d) else e)
 | _,_,.nil => .nil
 | _,_,.cons (k:=k') r t=>by
  by_cases e:k'=k
  ·simp only [List.map_cons,e,if_true];exact .cons h (RpT.map h t)
  ·simp only [List.map_cons,e,if_false];exact .cons r (RpT.map h t)
theorem RpT.append {G:Hp}:∀ {a b:List (List Key × V)} {c d:List (List Key × PyData)},RpT G a c->RpT G b d->RpT G (a ++ b) (c ++ d)
 | _,_,_,_,.nil,s=>s
 | _,_,_,_,.cons r t,s => .cons r (RpT.append t s)
theorem RpK.length {G:Hp}:∀ {kvs:List (Key × V)} {es:List (Key × PyData)},RpK G kvs es->kvs.length=es.length
 | _,_,.nil=>rfl
 | _,_,.cons _ t=>by simp [RpK.length t]
section
variable {B:Bs} {env:En} {QO:Sl->En->Prop} {Q':PyData->En->Prop} {D':VEnds} {i:Nat} {te ty tv td:TE}
end
section
variable {B:Bs} {env:En} {QO:Sl->En->Prop} {Q':PyData->En->Prop} {QE:En->Prop} {D':VEnds} {K:Frag} {i:Nat} {ta:TA}
theorem aqz (h:EvA B ta env fun ds e=>∃ ns:List Int,ds=[.list (ns.map .int)]/\ns.length < 64/\∀ ns':List Int,ns'.Perm ns->ns'.Pairwise (·<=·)->QO (.own (OL (ns'.map .int))) e):EvO B (tCB (ak0 K) ta) env QO:=fun σ G H F Q I k =>
 h σ G H F _ I fun vs G1 H1 F1 ds e1 I1 g1 r1 z_=>by
  obtain ⟨ns,ed,hl,q1⟩:=z_
  subst ed
  cases r1 with
  | cons r t =>
   cases t
   cases r with
   | @lst a us _ ha rs =>
    have:=Rps.ints_inv rs
    subst this
    refine ⟨a,ns,rfl,SqL.of (I1.gh _ _ ha),hl,fun ns' p hp hs hf=>?_⟩
    have o:=Out.newL I1.gh hf (Rps.ints ns')
    exact k _ _ _ F1 _ _ e1 (I1.out o).1 (g1.trans o.gg) (I1.out o).2 (q1 _ hp hs)
theorem x_en {ds:List PyData} {R:List PyData->Prop} (h:R ds):∃ xs,[PyData.list ds]=[.list xs]/\R xs:=⟨ds,rfl,h⟩
theorem azx {xs ys:List PyData} {R:List PyData->List PyData->Prop} (h:R xs ys):∃ us vs,[PyData.list xs,.list ys]=[.list us,.list vs]/\R us vs:=⟨xs,ys,rfl,h⟩
theorem avz {j:Int} {R:Int->Prop} (h0:0<=j) (h1:j<=1000000) (h:R j):∃ i:Int,[PyData.int j]=[.int i]/\0<=i/\i<=1000000/\R i:=⟨j,rfl,h0,h1,h⟩
end
def ltP (p q:Int × Int):Prop:=p.1 < q.1\/(p.1=q.1/\p.2 < q.2)
@[reducible] noncomputable def p2 (p:Int × Int):List Int:=[p.1,p.2]
theorem lex2 (p q:Int × Int):HT.lexLt (p2 p) (p2 q)=true ↔ ltP p q:=by
 obtain ⟨a,b⟩:=p
 obtain ⟨c,d⟩:=q
 simp [p2,HT.lexLt,ltP]
 split <;> omega
theorem apc {qss:List (List Int)} {ps:List (Int × Int)} (h:qss.Perm (ps.map p2)):∃ qs:List (Int × Int),qss=qs.map p2/\qs.Perm ps:=by
 refine ⟨qss.map fun l=>(l.getD 0 0,l.getD 1 0),?_,?_⟩
 ·rw [List.map_map]
  symm
  conv=>rhs;rw [← List.map_id qss]
  apply List.map_congr_left
  intro l hl
  obtain ⟨p,_,rfl⟩:=List.mem_map.mp (h.mem_iff.mp hl)
  rfl
 ·have:=h.map fun l=>(l.getD 0 0,l.getD 1 0)
  rw [List.map_map] at this
  have e:((fun l:List Int=>(l.getD 0 0,l.getD 1 0)) ∘ p2)=id:=by funext p;rfl
  rw [e,List.map_id] at this
  exact this
def Rise (es:List (Int × Int)):Prop:=es.Pairwise ltP
theorem ae8 (p:Int × Int):¬ ltP p p:=by unfold ltP;omega
theorem av0 (p q:Int × Int):ltP p q\/p=q\/ltP q p:=by
 obtain ⟨a,b⟩:=p
 obtain ⟨c,d⟩:=q
 unfold ltP
 simp only [Prod.mk.injEq]
 omega
theorem alo {p q r:Int × Int} (h:ltP p q) (g:ltP q r):ltP p r:=by unfold ltP at *;omega
theorem an3 {qs ps:List (Int × Int)} (hp:qs.Perm ps) (hn:ps.Nodup) (hs:lexS (qs.map p2)):Rise qs:=by
 have hn':qs.Nodup:=hp.nodup_iff.mpr hn
 unfold lexS at hs
 rw [List.pairwise_map] at hs
 unfold Rise
 refine (List.Pairwise.and hs hn').imp fun {p q} h=>?_
 have h1:¬ ltP q p:=fun z=>by rw [(lex2 q p).mpr z] at h;exact absurd h.1 (by simp)
 rcases av0 p q with z | z | z
 ·exact z
 ·exact absurd z h.2
 ·exact absurd z h1
theorem Rise.nodup {es:List (Int × Int)} (h:Rise es):es.Nodup:=h.imp fun {p q} z (e:p=q)=>ae8 q (by rw [e] at z;exact z)
theorem Rise.eq:∀ {as bs:List (Int × Int)},Rise as->Rise bs->(∀ p,p∈as ↔ p∈bs)->as=bs
 | [],[],_,_,_=>rfl
 | [],b :: _,_,_,h=>by have:=(h b).mpr List.mem_cons_self;simp at this
 | a :: _,[],_,_,h=>by have:=(h a).mp List.mem_cons_self;simp at this
 | a :: as,b :: bs,ha,hb,h=>by
  obtain ⟨ha1,ha2⟩:=List.pairwise_cons.mp ha
  obtain ⟨hb1,hb2⟩:=List.pairwise_cons.mp hb
  have e:a=b:=by
   rcases List.mem_cons.mp ((h a).mp List.mem_cons_self) with e | e
   ·exact e
   ·rcases List.mem_cons.mp ((h b).mpr List.mem_cons_self) with e2 | e2
    ·exact e2.symm
    ·exact absurd (alo (ha1 b e2) (hb1 a e)) (ae8 a)
  subst e
  have:=Rise.eq ha2 hb2 fun p=>by
   have hp:=h p
   simp only [List.mem_cons] at hp
   constructor
   ·intro m
    rcases hp.mp (.inr m) with e | e
    ·subst e;exact absurd (ha1 p m) (ae8 p)
    ·exact e
   ·intro m
    rcases hp.mpr (.inr m) with e | e
    ·subst e;exact absurd (hb1 p m) (ae8 p)
    ·exact e
  rw [this]
structure WebOk (n:Int) (es:List (Int × Int)):Prop where
 lo:1<=n
 hi:n<=60
 inn:∀ p∈es,0<=p.1/\p.1 < p.2/\p.2 < n
 rise:Rise es
theorem ajc {n:Nat} {es:List (Int × Int)} (hn:es.Nodup) (hi:∀ p∈es,0<=p.1/\p.1 < (n:Int)/\0<=p.2/\p.2 < (n:Int)):es.length<=n * n:=by
 have h1:(es.map fun (p:Int × Int)=>p.1 * (n:Int)+p.2).Nodup:=by
  unfold List.Nodup
  rw [List.pairwise_map]
  refine List.Pairwise.imp_of_mem ?_ hn
  intro p q hp hq hne e
  have a:=hi p hp
  have b:=hi q hq
  apply hne
  have e1:p.1=q.1:=by
   rcases Int.lt_trichotomy p.1 q.1 with z | z | z
   ·have:(p.1+1) * n<=q.1 * n:=Int.mul_le_mul_of_nonneg_right (by omega) (by omega)
    rw [Int.add_mul] at this;omega
   ·exact z
   ·have:(q.1+1) * n<=p.1 * n:=Int.mul_le_mul_of_nonneg_right (by omega) (by omega)
    rw [Int.add_mul] at this;omega
  rw [e1] at e
  exact Prod.ext e1 (by omega)
 have:=L2.few_places (n * n) _ h1 fun v hv=>by
  obtain ⟨p,hp,rfl⟩:=List.mem_map.mp hv
  have a:=hi p hp
  have h2:0<=p.1 * (n:Int):=Int.mul_nonneg a.1 (by omega)
  have h3:(p.1+1) * (n:Int)<=n * n:=Int.mul_le_mul_of_nonneg_right (by omega) (by omega)
  rw [Int.add_mul] at h3
  push_cast
  omega
 simpa using this
theorem WebOk.len {n:Int} {es:List (Int × Int)} (h:WebOk n es):es.length<=3600:=by
 have:=ajc (n:=n.toNat) h.rise.nodup fun p hp=>by have:=h.inn p hp;have:=h.lo;omega
 have h2:n.toNat<=60:=by have:=h.hi;omega
 exact Nat.le_trans this (Nat.mul_le_mul h2 h2)
noncomputable def kE (ps:List (Int × Int)):List (List Key × PyData):=ps.map fun p=>([Sum.inl p.1,Sum.inl p.2],.bool true)
noncomputable def addP (ps:List (Int × Int)) (p:Int × Int):List (Int × Int):=if p∈ps then ps else ps ++ [p]
theorem addP_mem {ps:List (Int × Int)} {p q:Int × Int}:q∈addP ps p ↔ q∈ps\/q=p:=by
 unfold addP
 split
 ·rename_i h
  exact ⟨.inl,fun z=>z.elim id fun e=>e ▸ h⟩
 ·simp
theorem apd {ps:List (Int × Int)} {p:Int × Int} (h:ps.Nodup):(addP ps p).Nodup:=by
 unfold addP
 split
 ·exact h
 ·rename_i hn
  rw [List.nodup_append]
  exact ⟨h,by simp,fun x hx y hy=>by simp at hy;subst hy;rintro rfl;exact hn hx⟩
theorem aht (ps:List (Int × Int)):(ps.map p2).map tiD=ps.map prD:=by rw [List.map_map];rfl
theorem aud {ps:List (Int × Int)}:∀ ns∈ps.map p2,ns ≠ []:=fun ns h=>by
 obtain ⟨p,_,rfl⟩:=List.mem_map.mp h
 simp
section
variable {B:Bs} {env:En} {QO:Sl->En->Prop} {K:Frag} {i:Nat} {ta:TA}
theorem af3 {ps:List (Int × Int)} (h64:ps.length < 64) (h:EvA B ta env fun ds e=>ds=[.list (ps.map prD)]/\∀ qs:List (Int × Int),qs.Perm ps->lexS (qs.map p2)->QO (.own (OL (qs.map prD))) e):EvO B (tCB (ahk K) ta) env QO :=
 aqw (pss:=ps.map p2) aud (by rw [List.length_map];exact h64) fun σ G H F Q I k=>h σ G H F Q I fun vs G' H' F' ds e I' g r ⟨h1,q⟩=>k vs G' H' F' ds e I' g r ⟨by rw [aht];exact h1,fun qss hp hs=>by
  obtain ⟨qs,rfl,hq⟩:=apc hp
  rw [aht];exact q qs hq hs⟩
end
noncomputable def OW (d:PyData) (ds:List PyData):Own where
 P:=fun G H v F=>∃ t l u vs,v=.ref t/\H t=some (.tup [u,.ref l])/\Rp G u d/\H l=some (.lst vs)/\Rps G vs ds/\∀ b,F b ↔ b=t\/b=l
 mono:=fun ⟨t,l,u,vs,e,h1,r1,h2,r2,f⟩ g hh=>⟨t,l,u,vs,e,hh t _ ((f t).mpr (.inl rfl)) h1,r1.same g,hh l _ ((f l).mpr (.inr rfl)) h2,r2.same g,f⟩
 dom:=fun ⟨t,l,u,vs,e,h1,r1,h2,r2,f⟩ b z=>by
  rcases (f b).mp z with rfl | rfl
  ·exact ⟨_,h1⟩
  ·exact ⟨_,h2⟩
theorem alp {d:PyData} {ds:List PyData}:Frz (OW d ds) (.tuple [d,.list ds]):=fun G H v F ⟨t,l,u,vs,e,h1,r1,h2,r2,f⟩ n g=>by
 subst e
 exact .tup (by rw [agf ((f t).mpr (.inl rfl))];exact h1) (.cons (r1.same (abl n)) (.cons (.lst (by rw [agf ((f l).mpr (.inr rfl))];exact h2) (r2.same (abl n))) .nil))
theorem aue {d:PyData} {ds:List PyData} {R:PyData->Prop} (h:R (.tuple [d,.list ds])):FQ (.own (OW d ds)) R:=⟨_,alp,h⟩
section
variable {B:Bs} {env:En} {QO:Sl->En->Prop} {Q':PyData->En->Prop} {K:Frag} {i j:Nat} {ta te:TE}
theorem alq {u:V} {l:Addr} {ks:List Key}:HO.tup [u,.ref l] ≠ .tup (ks.map kV):=by
 intro z
 injection z with z
 match ks,z with
 | [],z=>cases z
 | [_],z=>cases z
 | [_,k],z =>
  simp at z
  cases k <;> simp [kV] at z
 | _ :: _ :: _ :: _,z=>simp at z
theorem as7 {ds0:List PyData} (h0:env[j]?=some (some (.own (OL ds0)))) (h:Ev B ta env fun d e1=>∃ ds,e1[j]?=some (some (.own (OL ds)))/\QO (.own (OW d ds)) (e1.set j none)):EvO B (tTup (aa6 ta (aa6 (tVar j) tNil))) env QO:=fun σ G H F Q I k =>
 h σ G H F _ I fun v G1 H1 F1 d e1 I1 g1 r1 z_=>by
  obtain ⟨ds,ej,q⟩:=z_
  obtain ⟨w,hw,⟨l,vs,rfl,hl,rs,hf⟩,hb⟩:=I1.sl j _ ej
  refine ⟨_,hw,⟨by show (2:Nat)<=sizeLine;decide,fun p hp=>?_⟩⟩
  have Fl:F1 j l:=(hf l).mpr rfl
  have pl:p ≠ l:=(aap hl hp).symm
  have D:=I1.drop j
  have nF:∀ m a,(a=p\/a=l)->¬ putF F1 j (fun _=>False) m a:=fun m a ha z=>by
   by_cases hm:m=j
   ·subst hm;exact putF_same.mp z
   ·rw [aa5 hm] at z
    rcases ha with rfl | rfl
    ·exact I1.no_f hp m z
    ·exact hm (I1.fd m j a z Fl)
  have J:VI B G1 (upd H1 p (.tup [v,.ref l])) σ (e1.set j none) (putF F1 j fun _=>False):=D.grow (Same.refl _) (I1.gh.trans (abo hp)) (abo hp) (fun a o e => .inl e) fun a ks e=>by
   by_cases z:a=p
   ·subst z;rw [aam] at e;exact absurd (Option.some.inj e) alq
   ·rw [aag z] at e;exact I1.ft a ks e
  refine k _ G1 _ _ (fun a=>a=p\/a=l) (.own (OW d ds)) _ J g1 ⟨⟨p,l,v,vs,rfl,aam,r1,by rw [aag pl.symm];exact hl,rs,fun b=>Iff.rfl⟩,fun a z=>?_,fun a z=>?_,fun a z=>?_,fun m a z=>nF m a z⟩ q
  ·rcases z with rfl | rfl
   ·exact I1.no_b hp
   ·exact hb a Fl
  ·rcases z with rfl | rfl
   ·exact I1.no_g hp
   ·exact I1.fg j a Fl
  ·rcases z with rfl | rfl
   ·exact ⟨_,aam⟩
   ·exact ⟨_,by rw [aag pl.symm];exact hl⟩
theorem x_ow {ds:List PyData} {e1:En} {R:List PyData->Prop} (e:e1[j]?=some (some (.own (OL ds)))) (q:R ds):∃ ds,e1[j]?=some (some (.own (OL ds)))/\R ds:=⟨ds,e,q⟩
end
section
variable {B:Bs} {env:En} {Q':PyData->En->Prop} {D':VEnds} {i:Nat} {ty tv:TE}
end
section
variable {R:Sl->Prop} {K:Frag}
theorem av1 {p q:Int × Int} (h:R (.st (.bool (HT.lexLt (p2 p) (p2 q))))):Op2 (rLtT K) (prD p) (prD q) R:=fun G H vx vy Q gh rx ry k=>by
 cases rx with
 | tup ha ra =>
  cases ry with
  | tup hb rb =>
   have e1:=Rps.ints_inv (ns:=p2 p) ra
   have e2:=Rps.ints_inv (ns:=p2 q) rb
   subst e1 e2
   exact ⟨_,_,p2 p,p2 q,rfl,rfl,SqT.of (gh _ _ ha),SqT.of (gh _ _ hb),k _ _ _ _ _ (Out.refl gh (.bl _)) h⟩
end
theorem ajd (p:Int × Int):aaj (prD p)=true:=rfl
theorem afn (ps:List (Int × Int)):plainDs (ps.map prD)=true:=by
 rw [aes]
 intro d hd
 obtain ⟨p,_,rfl⟩:=List.mem_map.mp hd
 rfl
theorem an4 (p q:Int × Int):PyData.eqv (prD p) (prD q)=decide (p=q):=by
 rw [Bool.eq_iff_iff,afz _ _ rfl rfl,decide_eq_true_iff]
 constructor
 ·intro h
  simp [prD] at h
  exact Prod.ext h.1 h.2
 ·rintro rfl;rfl
theorem an5 (ps:List (Int × Int)) (q:Int × Int):((ps.map prD).any fun z=>PyData.eqv z (prD q))=decide (q∈ps):=by
 rw [Bool.eq_iff_iff,List.any_eq_true,decide_eq_true_iff]
 constructor
 ·rintro ⟨d,hd,e⟩
  obtain ⟨p,hp,rfl⟩:=List.mem_map.mp hd
  rw [an4] at e
  rw [← of_decide_eq_true e];exact hp
 ·intro h
  exact ⟨prD q,List.mem_map.mpr ⟨q,h,rfl⟩,by rw [an4];exact decide_eq_true rfl⟩
theorem agx {ds:List PyData} {m:Nat} (h:∀ d∈ds,d.depth<=m):PyData.depthAll ds<=m:=by
 induction ds with
 | nil=>simp [PyData.depthAll]
 | cons d ds ih =>
  simp only [PyData.depthAll]
  exact Nat.max_le.mpr ⟨h d List.mem_cons_self,ih fun e he=>h e (List.mem_cons_of_mem _ he)⟩
theorem af4 (p:Int × Int):(prD p).depth<=1:=by simp [prD,PyData.depth,PyData.depthAll]
theorem alr {d:PyData} (h:aaj d=true):PyData.eqv d d=true:=(afz d d h h).mpr rfl
end VL
namespace VL
theorem als {α:Type} (R : α->α->Prop) (tr:∀ {a b c},R a b->R b c->R a c) {xs:List α}:xs.Pairwise R ↔ ∀ i (h:i+1 < xs.length),R (xs[i]'(by omega)) xs[i+1]:=by
 constructor
 ·intro h i hi
  exact List.pairwise_iff_getElem.mp h i (i+1) (by omega) hi (by omega)
 ·intro h
  rw [List.pairwise_iff_getElem]
  intro i j hi hj hij
  induction j with
  | zero=>omega
  | succ j ih =>
   by_cases e:i=j
   ·subst e;exact h i hj
   ·exact tr (ih (by omega) (by omega)) (h j hj)
end VL
namespace VL
open PySem PySem.Spec L2
section
variable {B:Bs} {env:En} {Q':PyData->En->Prop} {K:Frag} {E:XK} {i:Nat}
theorem as8 {f:VP} {t:TA} {A0:Own} (h0:Has env i A0) (h:EvA B t env fun ds e1=>∃ A d,Has e1 i A/\Frz A d/\f (.st d :: ds.map Sl.st) fun s=>∃ d',s=.st d'/\agl d'=true/\Q' d' e1):Ev B (abz (spP K f) [] E (aa6 (tVar i) t)) env Q':=fun σ G H F Q I k=>by
 unfold abz
 simp only [List.append_nil]
 obtain ⟨v,hv,_⟩:=I.has h0
 refine ⟨v,hv,h σ G H F _ I fun vs G1 H1 F1 ds e1 I1 g1 r1 ⟨A,d,hA,fz,q1⟩=>?_⟩
 obtain ⟨v',hv',ap⟩:=I1.has hA
 rw [hv] at hv';cases hv'
 have js:=abl (H:=H1) (I1.fg i)
 refine ⟨jn G1 H1 (F1 i),_,_,ao8 I1.gh,fun a ks e=>js _ _ (I1.ft a ks e),.cons (s:=.st d) (fz _ _ _ _ ap (I1.fg i) I1.gh) (ArgsOk.of (r1.same js)),q1,fun s q u G' H' Fv o=>?_⟩
 obtain ⟨d',rfl,hs,q⟩:=q
 obtain ⟨G4,g4,I4⟩:=I1.moment js o
 exact k u G4 H' F1 d' e1 I4 (g1.trans g4) (anu o.ok.1 hs) q
end
end VL
namespace VL
open PySem L2
theorem azy {B:Bs} {t:TS} {D':VEnds} {e:En} (h:EvS B t D' e):EvS B t D' e:=h
theorem azz {B:Bs} {g:TG} {s:Sl} {e:En} {Q:En->Prop} (h:EvG B g s e Q):EvG B g s e Q:=h
theorem ayk {B:Bs} {g:TGs} {s:List PyData} {e:En} {Q:En->Prop} (h:EvGs B g s e Q):EvGs B g s e Q:=h
theorem g_Ev {B:Bs} {t:TE} {e:En} {Q:PyData->En->Prop} (h:Ev B t e Q):Ev B t e Q:=h
theorem az0 {B:Bs} {t:TE} {e:En} {Q:Sl->En->Prop} (h:EvO B t e Q):EvO B t e Q:=h
theorem az1 {B:Bs} {t:TT} {e:En} {Q:Bool->En->Prop} (h:EvT B t e Q):EvT B t e Q:=h
theorem az2 {B:Bs} {t:TA} {e:En} {Q:List PyData->En->Prop} (h:EvA B t e Q):EvA B t e Q:=h
theorem az3 {B:Bs} {t:TI} {e:En} {Q:List PyData->En->Prop} (h:EvI B t e Q):EvI B t e Q:=h
theorem ayl {B:Bs} {t:TO} {e:En} {Q:Option Int->En->Prop} (h:EvOp B t e Q):EvOp B t e Q:=h
theorem az4 {r:R2} {x y:PyData} {R:Sl->Prop} (h:Op2 r x y R):Op2 r x y R:=h
theorem az5 {r:V->Hp->VK->Prop} {x:PyData} {R:Sl->Prop} (h:Op1 r x R):Op1 r x R:=h
theorem az6 {r:List V->Hp->VK->Prop} {x:List PyData} {R:Sl->Prop} (h:OpA r x R):OpA r x R:=h
theorem g_FQ {s:Sl} {R:PyData->Prop} (h:FQ s R):FQ s R:=h
theorem av2 {ds:List PyData} {R:List PyData->Prop} (h:ake ds R):ake ds R:=h
theorem av3 {ds:List PyData} {R:List PyData->Prop} (h:akf ds R):akf ds R:=h
structure PsOk (n:Int) (ps:List (Int × Int)):Prop where
 nd:ps.Nodup
 inn:∀ p∈ps,0<=p.1/\p.1 < p.2/\p.2 < n
theorem PsOk.nil (n:Int):PsOk n []:=⟨List.nodup_nil,fun p hp=>by simp at hp⟩
theorem PsOk.add {n a b:Int} {ps:List (Int × Int)} (h:PsOk n ps) (h0:0<=a) (h1:a < b) (h2:b < n):PsOk n (addP ps (a,b)) :=
 ⟨apd h.nd,fun p hp=>by
  rcases addP_mem.mp hp with q | q
  ·exact h.inn p q
  ·subst q;exact ⟨h0,h1,h2⟩⟩
theorem PsOk.len {n:Int} {ps:List (Int × Int)} (h:PsOk n ps) (hn:n<=100):ps.length<=10000:=by
 by_cases h0:0<=n
 ·have:=ajc (n:=n.toNat) h.nd fun p hp=>by have:=h.inn p hp;omega
  have h2:n.toNat<=100:=by omega
  exact Nat.le_trans this (Nat.mul_le_mul h2 h2)
 ·cases ps with
  | nil=>simp
  | cons p r=>have:=h.inn p List.mem_cons_self;omega
def Tr (n:Int) (ps:List (Int × Int)):Prop:=∀ k,1<=k->k < n->∃ h,0<=h/\h < k/\(h,k)∈ps
theorem Tr.add {n:Int} {ps:List (Int × Int)} {p:Int × Int} (h:Tr n ps):Tr n (addP ps p):=fun k k1 k2=>by
 obtain ⟨x,a,b,c⟩:=h k k1 k2
 exact ⟨x,a,b,addP_mem.mpr (.inl c)⟩
def Conn (n:Int) (T:Int->Int->Prop):Prop:=∀ u v,0<=u->u < n->0<=v->v < n->∃ k,Gr.Walk T u k v
theorem Tr.conn {n:Int} {ps:List (Int × Int)} (h:Tr n ps):Conn n (Tied ps):=by
 have key:∀ (m:Nat) (v:Int),v=m->v < n->∃ k,Gr.Walk (Tied ps) 0 k v:=by
  intro m
  induction m using Nat.strongRecOn with
  | ind m ih =>
   intro v hv hn
   by_cases h0:m=0
   ·subst h0;have:v=0:=by omega
    subst this;exact ⟨0,.refl⟩
   ·obtain ⟨x,a,b,c⟩:=h v (by omega) hn
    obtain ⟨k,w⟩:=ih x.toNat (by omega) x (by omega) (by omega)
    exact ⟨k+1,.step w (.inl c)⟩
 intro u v u0 u1 v0 v1
 obtain ⟨k,w⟩:=key u.toNat u (by omega) u1
 obtain ⟨j,x⟩:=key v.toNat v (by omega) v1
 exact ⟨k+j,(w.rev fun _ _ t=>t.symm).app x⟩
theorem Conn.joined {n:Int} {es:List (Int × Int)} (h:Conn n (Tied es)) (h0:0 < n):Joined n es:=fun v v0 v1=>by
 obtain ⟨k,w⟩:=h 0 v (by omega) (by omega) v0 v1
 obtain ⟨d,_,hd⟩:=Gr.Dist.of_walk w
 exact ⟨d,hd⟩
theorem Joined.conn {n:Int} {es:List (Int × Int)} (h:Joined n es):Conn n (Tied es):=fun u v u0 u1 v0 v1=>by
 obtain ⟨d,hd⟩:=h u u0 u1
 obtain ⟨e,he⟩:=h v v0 v1
 exact ⟨d+e,(hd.1.rev fun _ _ t=>t.symm).app he.1⟩
theorem Conn.mono {n:Int} {T T':Int->Int->Prop} (h:Conn n T) (g:∀ u v,T u v->T' u v):Conn n T':=fun u v u0 u1 v0 v1=>by
 obtain ⟨k,w⟩:=h u v u0 u1 v0 v1
 exact ⟨k,w.rec .refl fun _ t ih => .step ih (g _ _ t)⟩
def Order (n:Int) (row:List Int):Prop:=row.Perm ((List.range n.toNat).map fun (i:Nat)=>(i:Int))
theorem Order.len {n:Int} {row:List Int} (h:Order n row):row.length=n.toNat:=by have:=h.length_eq;simpa using this
theorem Order.nodup {n:Int} {row:List Int} (h:Order n row):row.Nodup:=by
 refine h.nodup_iff.mpr ?_
 unfold List.Nodup
 rw [List.pairwise_map]
 exact List.nodup_range.imp fun {a b} hab e=>hab (by omega)
theorem Order.mem {n:Int} {row:List Int} (h:Order n row) {v:Int}:v∈row ↔ 0<=v/\v < n:=by
 rw [h.mem_iff,List.mem_map]
 constructor
 ·rintro ⟨i,hi,rfl⟩
  have:=List.mem_range.mp hi
  omega
 ·rintro ⟨h0,h1⟩
  exact ⟨v.toNat,List.mem_range.mpr (by omega),by omega⟩
theorem Order.get {n:Int} {row:List Int} (h:Order n row) {a:Int} (h0:0<=a) (h1:a < n):∃ x,row[a.toNat]?=some x/\atI row a=some x/\0<=x/\x < n:=by
 have hl:a.toNat < row.length:=by rw [h.len];omega
 have e:row[a.toNat]?=some row[a.toNat]:=List.getElem?_eq_getElem hl
 have:=h.mem.mp (List.mem_of_getElem? e)
 exact ⟨_,e,ade h0 e,this.1,this.2⟩
theorem Order.inj {n:Int} {row:List Int} (h:Order n row) {a b x:Int} (a0:0<=a) (b0:0<=b) (ha:row[a.toNat]?=some x) (hb:row[b.toNat]?=some x):a=b:=by
 obtain ⟨l1,e1⟩:=List.getElem?_eq_some_iff.mp ha
 obtain ⟨l2,e2⟩:=List.getElem?_eq_some_iff.mp hb
 have:=nodup_ix h.nodup l1 l2 (e1.trans e2.symm)
 omega
theorem Order.id (n:Int):Order n ((List.range n.toNat).map fun (i:Nat)=>(i:Int)):=List.Perm.refl _
noncomputable def aa2 (row:List Int) (a:Int):Int:=row.getD a.toNat 0
noncomputable def reP (row:List Int) (p:Int × Int):Int × Int:=if aa2 row p.1 < aa2 row p.2 then (aa2 row p.1,aa2 row p.2) else (aa2 row p.2,aa2 row p.1)
theorem Order.at {n:Int} {row:List Int} (h:Order n row) {a:Int} (h0:0<=a) (h1:a < n):row[a.toNat]?=some (aa2 row a)/\0<=aa2 row a/\aa2 row a < n:=by
 obtain ⟨x,e,_,x0,x1⟩:=h.get h0 h1
 have:aa2 row a=x:=by unfold aa2;rw [List.getD_eq_getElem?_getD,e];rfl
 rw [this];exact ⟨e,x0,x1⟩
theorem Order.atI {n:Int} {row:List Int} (h:Order n row) {a:Int} (h0:0<=a) (h1:a < n):L2.atI row a=some (aa2 row a):=ade h0 (h.at h0 h1).1
theorem Order.ne {n:Int} {row:List Int} (h:Order n row) {a b:Int} (a0:0<=a) (a1:a < n) (b0:0<=b) (b1:b < n) (hab:a ≠ b):aa2 row a ≠ aa2 row b:=fun e=>by
 have h1:=(h.at a0 a1).1
 have h2:=(h.at b0 b1).1
 rw [e] at h1
 exact hab (h.inj a0 b0 h1 h2)
theorem PsOk.re {n:Int} {ps:List (Int × Int)} {row:List Int} (h:PsOk n ps) (o:Order n row):PsOk n (ps.map (reP row)):=by
 have inn:∀ p∈ps,0<=(reP row p).1/\(reP row p).1 < (reP row p).2/\(reP row p).2 < n:=fun p hp=>by
  obtain ⟨p0,p1,p2⟩:=h.inn p hp
  have a:=o.at p0 (by omega)
  have b:=o.at (a:=p.2) (by omega) p2
  have ne:=o.ne p0 (by omega) (by omega) p2 (by omega)
  unfold reP
  split <;> dsimp only <;> omega
 refine ⟨?_,fun q hq=>by obtain ⟨p,hp,rfl⟩:=List.mem_map.mp hq;exact inn p hp⟩
 unfold List.Nodup
 rw [List.pairwise_map]
 refine List.Pairwise.imp_of_mem ?_ h.nd
 intro p q hp hq hne e
 apply hne
 obtain ⟨p0,p1,p2⟩:=h.inn p hp
 obtain ⟨q0,q1,q2⟩:=h.inn q hq
 have inj:∀ a b,0<=a->a < n->0<=b->b < n->aa2 row a=aa2 row b->a=b:=fun a b a0 a1 b0 b1 e=>by
  apply Classical.byContradiction
  intro hab
  exact o.ne a0 a1 b0 b1 hab e
 have d1:=inj p.1 q.1 p0 (by omega) q0 (by omega)
 have d2:=inj p.2 q.2 (by omega) p2 (by omega) q2
 have d3:=inj p.1 q.2 p0 (by omega) (by omega) q2
 have d4:=inj p.2 q.1 (by omega) p2 q0 (by omega)
 unfold reP at e
 split at e <;> split at e <;> simp only [Prod.mk.injEq] at e
 ·exact Prod.ext (d1 e.1) (d2 e.2)
 ·have:=d3 e.1;have:=d4 e.2;omega
 ·have:=d4 e.1;have:=d3 e.2;omega
 ·exact Prod.ext (d1 e.2) (d2 e.1)
theorem Tied.re {ps:List (Int × Int)} {row:List Int} {u v:Int} (h:Tied ps u v):Tied (ps.map (reP row)) (aa2 row u) (aa2 row v):=by
 have key:∀ a b,(a,b)∈ps->Tied (ps.map (reP row)) (aa2 row a) (aa2 row b):=fun a b hm=>by
  have:=List.mem_map_of_mem (f:=reP row) hm
  unfold reP at this
  dsimp only at this
  split at this
  ·exact .inl this
  ·exact .inr this
 rcases h with h | h
 ·exact key u v h
 ·exact (key v u h).symm
theorem Conn.re {n:Int} {ps:List (Int × Int)} {row:List Int} (h:Conn n (Tied ps)) (o:Order n row):Conn n (Tied (ps.map (reP row))):=fun u v u0 u1 v0 v1=>by
 have back:∀ x,0<=x->x < n->∃ a,0<=a/\a < n/\aa2 row a=x:=fun x x0 x1=>by
  obtain ⟨i,hi,e⟩:=List.mem_iff_getElem.mp (o.mem.mpr ⟨x0,x1⟩)
  refine ⟨i,by omega,by rw [o.len] at hi;omega,?_⟩
  unfold aa2
  simp [hi,e]
 obtain ⟨a,a0,a1,rfl⟩:=back u u0 u1
 obtain ⟨b,b0,b1,rfl⟩:=back v v0 v1
 obtain ⟨k,w⟩:=h a b a0 a1 b0 b1
 exact ⟨k,w.rec .refl fun _ t ih => .step ih t.re⟩
theorem Tied.perm {qs ps:List (Int × Int)} (h:qs.Perm ps) {u v:Int}:Tied qs u v ↔ Tied ps u v:=by unfold Tied;rw [h.mem_iff,h.mem_iff]
theorem as9 {n:Int} {ps qs:List (Int × Int)} (h0:1<=n) (h1:n<=60) (h:PsOk n ps) (hp:qs.Perm ps) (hs:lexS (qs.map p2)):WebOk n qs:=⟨h0,h1,fun p hm=>h.inn p (hp.mem_iff.mp hm),an3 hp h.nd hs⟩
theorem WebOk.ps {n:Int} {es:List (Int × Int)} (h:WebOk n es):PsOk n es:=⟨h.rise.nodup,h.inn⟩
theorem ahu {α:Type}:∀ {l:List α} {k:Nat} {x : α},l[k]?=some x->(x :: l.eraseIdx k).Perm l
 | [],_,_,h=>by simp at h
 | a :: l,0,x,h=>by simp at h;subst h;exact List.Perm.refl _
 | a :: l,k+1,x,h=>by
  have ih:=ahu (l:=l) (k:=k) (x:=x) (by simpa using h)
  exact (List.Perm.swap a x _).trans (ih.cons a)
theorem ape {n:Int} {row left:List Int} {k:Nat} {x:Int} (h:Order n (row ++ left)) (hx:left[k]?=some x):Order n ((row ++ [x]) ++ left.eraseIdx k):=by
 refine List.Perm.trans ?_ h
 rw [List.append_assoc]
 refine List.Perm.append_left row ?_
 exact ahu hx
section
variable {B:Bs} {env:En} {g:TG} {tif:TT} {te:TE} {K:Frag} {src:List (Option Nat)} {ds:List PyData} {e1:En} {R:List PyData->En->Prop}
end
theorem av4 (n:Nat):rngD 0 n=((List.range n).map fun (i:Nat)=>(i:Int)).map PyData.int:=by simp [rngD]
theorem abc {B:Bs} {g:TG} {A:Own} {d:PyData} {env:En} {QE:En->Prop} (f:Frz A d) (h:EvG B g (.st d) env QE):EvG B g (.own A) env QE:=fun σ G H F v Fv Q I x k =>
 h σ _ H F v _ Q (I.freeze x.fb x.fd x.fg) (adt (f G H v Fv x.ok x.fg I.gh)) fun σ' G' H' F' e' I' g' q=>k σ' G' H' F' e' I' ((abl x.fg).trans g') q
end VL
namespace VL
open PySem PySem.Spec L2
def aef (e:En):Prop:=∀ (j:Nat) (s:Sl),e[j]?=some (some s)->(∃ d,s=.st d)\/∃ ns:List Int,s=.scr ns
def Sls (K:Frag) (G:Hp) (σ:St) (e:En):Prop:=∀ (j:Nat) (s:Sl),e[j]?=some (some s)->∃ v,σ[j]?=some (some v)/\((∃ d,s=.st d/\Rp G v d)\/∃ (ns:List Int) (a:Addr),s=.scr ns/\v=.ref a/\SqL K G a (ns.map V.int))
theorem Sls.same {K:Frag} {G G':Hp} {σ:St} {e:En} (h:Sls K G σ e) (g:Same G G'):Sls K G' σ e:=fun j s es=>by
 obtain ⟨v,hv,q⟩:=h j s es
 refine ⟨v,hv,?_⟩
 rcases q with ⟨d,e1,r⟩ | ⟨ns,a,e1,e2,r⟩
 ·exact .inl ⟨d,e1,r.same g⟩
 ·exact .inr ⟨ns,a,e1,e2,g.seq r⟩
noncomputable def bsC (K:Frag) (G H:Hp) (σ:St):Bs:=⟨K,G,H,H,σ,noF⟩
theorem aje {K:Frag} {G H:Hp} {σ:St} {e:En} (gh:Same G H) (ft:FT G H) (ln : σ.length=e.length) (sl:Sls K G σ e):VI (bsC K G H σ) G H σ e noF:=by
 refine ⟨gh,Same.refl _,fun a o e => .inl e,Same.refl _,Same.refl _,fun a o e=>⟨o,e⟩,fun i a z=>z.elim,fun i a z=>z.elim,fun i j a z=>z.elim,fun i a z=>z.elim,fun i s es=>?_,ln,ft⟩
 obtain ⟨v,hv,q⟩:=sl i s es
 refine ⟨v,hv,?_⟩
 rcases q with ⟨d,e1,r⟩ | ⟨ns,a,e1,e2,r⟩
 ·subst e1;exact ⟨r,fun a z=>z⟩
 ·subst e1;exact ⟨⟨a,e2,r⟩,fun a z=>z⟩
theorem ahv {B:Bs} {K:Frag} {G H:Hp} {σ:St} {e:En} {F:Nat->Addr->Prop} (I:VI B G H σ e F) (c:aef e) (hK:B.K=K:=by rfl):Sls K G σ e:=fun j s es=>by
 subst hK
 obtain ⟨v,hv,q⟩:=I.sl j s es
 refine ⟨v,hv,?_⟩
 rcases c j s es with ⟨d,rfl⟩ | ⟨ns,rfl⟩
 ·exact .inl ⟨d,rfl,q.1⟩
 ·obtain ⟨⟨a,ea,sq⟩,_⟩:=q
  exact .inr ⟨ns,a,rfl,ea,sq⟩
def LcV2 (K:Frag) (src:List (Option Nat)) (g:TG) (tif:TT) (wi2:TI) (g2:TG) (tif2:TT) (te:TE) (ds:List PyData) (e1:En) (R:List PyData->Prop):Prop:=∃ J:Nat->List PyData->En->Prop,J 0 [] (aal src e1)/\(∀ i ys e,J i ys e->aef e) /\
 (∀ i d ys e,ds[i]?=some d->J i ys e->∀ B':Bs,B'.K=K->EvG B' g (.st d) e fun e2=>EvT B' tif e2 fun b e3=>if b=true then EvI B' wi2 e3 fun ds2 e4=>∃ J2:Nat->List PyData->En->Prop,J2 0 ys e4/\(∀ j ys e,J2 j ys e->aef e) /\
  (∀ j d2 ys2 e,ds2[j]?=some d2->J2 j ys2 e->∀ B2:Bs,B2.K=K->EvG B2 g2 (.st d2) e fun e5=>EvT B2 tif2 e5 fun b e6=>if b=true then Ev B2 te e6 fun y e7=>ys2.length<=999999/\J2 (j+1) (ys2 ++ [y]) e7 else J2 (j+1) ys2 e6)/\(∀ ys2 e,J2 ds2.length ys2 e->J (i+1) ys2 e) else J (i+1) ys e3)/\∀ ys e,J ds.length ys e->R ys
section
variable {B:Bs} {env:En}
theorem an6 {src:List (Option Nat)} {wi:TI} {g:TG} {tif:TT} {wi2:TI} {g2:TG} {tif2:TT} {te:TE} {QO:Sl->En->Prop} (h:EvI B wi env fun ds e1=>LcV2 B.K src g tif wi2 g2 tif2 te ds e1 fun ys=>QO (.own (OL ys)) e1):EvO B (tLC2 src wi g tif wi2 g2 tif2 te) env QO:=fun σ G H F Q I k=>by
 refine h σ G H F _ I fun J G1 H1 F1 ds e1 I1 g1 it ⟨Jv,j0,jc,js,jd⟩ acc hacc=>?_
 have fa:∀ j,¬ F1 j acc:=I1.no_f hacc
 have hb:B.H acc=none:=I1.no_b hacc
 -- between two turns
 let Wv:(List PyData->En->Prop)->List V->St->Hp->Prop:=fun J ys σI H=>∃ G2 e yd,VI B G2 H σ e1 F1/\Same G1 G2/\H acc=some (.lst ys)/\Rps G2 ys yd/\G2 acc=none/\J yd e/\σI.length=e.length/\Sls B.K G2 σI e
 -- out of a frame within
 have leave:∀ {G3 H3:Hp} {σI:St} {ys:List V},VI B G3 H3 σ e1 F1->G3 acc=none->H3 acc=some (.lst ys)->∀ {G4 H4:Hp} {σ4:St} {F4:Nat->Addr->Prop} {e4:En},VI (bsC B.K G3 H3 σI) G4 H4 σ4 e4 F4->VI B G4 H4 σ e1 F1/\G4 acc=none/\H4 acc=some (.lst ys):=by
  intro G3 H3 σI ys I3 ga ac G4 H4 σ4 F4 e4 I4
  refine ⟨I3.grow I4.g0 I4.gh I4.rs I4.gn I4.ft,?_,I4.rs _ _ ac⟩
  cases e':G4 acc with
  | none=>rfl
  | some u =>
   rcases I4.gn acc u e' with q | q
   ·change G3 acc=_ at q;rw [ga] at q;cases q
   ·change H3 acc=_ at q;rw [ac] at q;cases q
 have step:∀ {G2 H2:Hp} {ys:List V} {x:V} {G3 H3:Hp} {d:PyData},VI B G2 H2 σ e1 F1->G2 acc=none->H2 acc=some (.lst ys)->Out G2 H2 x G3 H3 (.st d) (fun _=>False)->VI B G3 H3 σ e1 F1/\G3 acc=none/\H3 acc=some (.lst ys):=by
  intro G2 H2 ys x G3 H3 d I2 ga ac o
  refine ⟨(I2.out o).1,?_,o.hh _ _ ac⟩
  cases e':G3 acc with
  | none=>rfl
  | some u =>
   rcases o.gn acc u e' with q | q
   ·rw [ga] at q;cases q
   ·rw [ac] at q;cases q
 refine ⟨fun i m ys σI H=>m=ds.length - i/\i<=ds.length/\Wv (Jv i) ys σI H,⟨ds.length,by simp,Nat.zero_le _,?_⟩,?_⟩
 ·refine ⟨G1,aal src e1,[],I1.aside (fun _ z=>nomatch z) (I1.no_g hacc) fa hb,Same.refl _,aam,.nil,I1.no_g hacc,j0,by simp [pick,aal],fun j s e=>?_⟩
  obtain ⟨i,t,hs,ht,hp⟩:=af2 e
  obtain ⟨v,hv,q⟩:=I1.sl i t ht
  refine ⟨v,alj hs hv,?_⟩
  cases t with
  | st d=>cases hp;exact .inl ⟨d,rfl,q.1⟩
  | scr ns =>
   cases hp
   obtain ⟨⟨a,ea,sq⟩,_⟩:=q
   exact .inr ⟨ns,a,rfl,ea,sq⟩
  | own A=>cases hp;rcases jc _ _ _ j0 j _ e with ⟨d,z⟩ | ⟨ns,z⟩ <;> cases z
  | io A=>cases hp;rcases jc _ _ _ j0 j _ e with ⟨d,z⟩ | ⟨ns,z⟩ <;> cases z
 ·rintro i m ys σI H2 ⟨rfl,hi,G2,e,yd,I2,g2',hac,ry,ga,jv,ln,sl⟩
  by_cases hlt:i < ds.length
  ·refine .inr ⟨it.go i G2 H2 g2' I2.gh hlt,Wv (Jv (i+1)),fun ys' σ' H' hw=>⟨ds.length - (i+1),by omega,rfl,hlt,hw⟩,fun x H3 y=>?_⟩
   obtain ⟨G3,o⟩:=it.yld i G2 H2 x H3 _ g2' I2.gh I2.ft (List.getElem?_eq_getElem hlt) y
   obtain ⟨I3,ga3,ac3⟩:=step I2 ga hac o
   have E3:=aje (K:=B.K) I3.gh I3.ft ln (sl.same o.gg)
   refine js i _ yd e (List.getElem?_eq_getElem hlt) jv (bsC B.K G3 H3 σI) rfl σI G3 H3 _ x _ _ E3 (adt o.ok.1) fun σ4 G4 H4 F4 e4 I4 g4 q4=>?_
   refine q4 σ4 G4 H4 F4 _ I4 fun b G5 H5 F5 e5 I5 g5 q5=>?_
   have ry5:=ry.same (o.gg.trans (g4.trans g5))
   have s5:=g2'.trans (o.gg.trans (g4.trans g5))
   cases b with
   | false =>
    rw [if_neg Bool.false_ne_true] at q5 ⊢
    obtain ⟨K5,ga5,ac5⟩:=leave I3 ga3 ac3 I5
    exact ⟨G5,e5,yd,K5,s5,ac5,ry5,ga5,q5,I5.ln,ahv I5 (jc _ _ _ q5)⟩
   | true =>
    rw [if_pos rfl] at q5 ⊢
    refine q5 σ4 G5 H5 F5 _ I5 fun J2 G6 H6 F6 ds2 e6 I6 g6 it2 ⟨Jw,w0,wc,ws,wd⟩=>?_
    obtain ⟨K6,ga6,ac6⟩:=leave I3 ga3 ac3 I6
    have s6:=s5.trans g6
    let Wi:Nat->List V->St->Hp->Prop:=fun j ys σI H=>∃ G2 e yd,VI B G2 H σ e1 F1/\Same G6 G2/\H acc=some (.lst ys)/\Rps G2 ys yd/\G2 acc=none/\Jw j yd e/\σI.length=e.length/\Sls B.K G2 σI e
    refine ⟨fun j m ys σI H=>m=ds2.length - j/\j<=ds2.length/\Wi j ys σI H,⟨ds2.length,by simp,Nat.zero_le _,G6,e6,yd,K6,Same.refl _,ac6,ry5.same g6,ga6,w0,I6.ln,ahv I6 (wc _ _ _ w0)⟩,?_⟩
    rintro j m zs σJ H7 ⟨rfl,hj,G7,e7,zd,I7,g7,ac7,rz,ga7,jw,ln7,sl7⟩
    refine ⟨ac7,?_⟩
    by_cases hlt2:j < ds2.length
    ·refine .inr ⟨it2.go j G7 H7 g7 I7.gh hlt2,Wi (j+1),fun ys' σ' H' hw=>⟨ds2.length - (j+1),by omega,rfl,hlt2,hw⟩,fun x2 H8 y2=>?_⟩
     obtain ⟨G8,o2⟩:=it2.yld j G7 H7 x2 H8 _ g7 I7.gh I7.ft (List.getElem?_eq_getElem hlt2) y2
     obtain ⟨I8,ga8,ac8⟩:=step I7 ga7 ac7 o2
     have E8:=aje (K:=B.K) I8.gh I8.ft ln7 (sl7.same o2.gg)
     refine ws j _ zd e7 (List.getElem?_eq_getElem hlt2) jw (bsC B.K G8 H8 σJ) rfl σJ G8 H8 _ x2 _ _ E8 (adt o2.ok.1) fun σ9 G9 H9 F9 e9 I9 g9 q9=>?_
     refine q9 σ9 G9 H9 F9 _ I9 fun b GA HA FA eA IA gA qA=>?_
     cases b with
     | false =>
      rw [if_neg Bool.false_ne_true] at qA ⊢
      obtain ⟨KA,gaA,acA⟩:=leave I8 ga8 ac8 IA
      have sA:=o2.gg.trans (g9.trans gA)
      exact ⟨GA,eA,zd,KA,g7.trans sA,acA,rz.same sA,gaA,qA,IA.ln,ahv IA (wc _ _ _ qA)⟩
     | true =>
      rw [if_pos rfl] at qA ⊢
      refine qA σ9 GA HA FA _ IA fun yv GB HB FB dB eB IB gB rB ⟨lB,qB⟩=>?_
      obtain ⟨KB,gaB,acB⟩:=leave I8 ga8 ac8 IB
      have sB:=o2.gg.trans (g9.trans (gA.trans gB))
      have rzB:=rz.same sB
      refine ⟨acB,by rw [rzB.length];exact Nat.lt_of_le_of_lt lB (by decide),GB,eB,zd ++ [dB],KB.aside (fun _ z=>nomatch z) gaB fa hb,g7.trans sB,aam,rzB.append (.cons rB .nil),gaB,qB,IB.ln,ahv IB (wc _ _ _ qB)⟩
    ·have ej:j=ds2.length:=by omega
     subst ej
     refine .inl ⟨it2.stop _ G7 H7 g7 I7.gh rfl,G7,e7,zd,I7,s6.trans g7,ac7,rz,ga7,wd _ _ jw,ln7,sl7⟩
  ·have ei:i=ds.length:=by omega
   subst ei
   refine .inl ⟨it.stop _ G2 H2 g2' I2.gh rfl,?_⟩
   refine k (.ref acc) G2 H2 F1 (· = acc) (.own (OL yd)) e1 I2 (g1.trans g2') ⟨⟨acc,ys,rfl,hac,ry,fun b=>Iff.rfl⟩,fun a z=>by rw [z];exact hb,fun a z=>by rw [z];exact ga,fun a z=>by rw [z];exact ⟨_,hac⟩,fun j a z=>by rw [z];exact fa j⟩ (jd _ _ jv)
end
theorem abj {o:Option PyData} {e:En} (h:aef e):aef (stO o :: e):=fun j s es=>by
 cases j with
 | zero =>
  cases o with
  | none=>simp [stO] at es
  | some d =>
   have:s=.st d:=by simpa [stO] using es.symm
   exact .inl ⟨d,this⟩
 | succ j=>exact h j s (by simpa using es)
section
variable {B:Bs} {env:En} {Q':PyData->En->Prop} {QO:Sl->En->Prop} {c:TT} {ta tb:TE}
theorem aym {src:List (Option Nat)} {wi:TI} {g:TG} {tif:TT} {wi2:TI} {g2:TG} {tif2:TT} {te:TE} (h:EvI B wi env fun ds e1=>LcV2 B.K src g tif wi2 g2 tif2 te ds e1 fun ys=>Q' (.list ys) e1):Ev B (tLC2 src wi g tif wi2 g2 tif2 te) env Q':=abp (an6 fun σ G H F R I k=>h σ G H F R I fun J G1 H1 F1 ds e1 I1 g1 it ⟨Jv,a,b,c,d⟩=>k J G1 H1 F1 ds e1 I1 g1 it ⟨Jv,a,b,c,fun ys e q=>ad5 (d ys e q)⟩)
end
noncomputable def ayn (e:En):Bool:=e.all fun o=>match o with | some (.own _)=>false | some (.io _)=>false | _=>true
theorem aq0 {e:En} (h:ayn e=true):aef e:=fun j s es=>by
 have:=List.all_eq_true.mp h (some s) (List.mem_of_getElem? es)
 cases s with
 | st d=>exact .inl ⟨d,rfl⟩
 | scr ns=>exact .inr ⟨ns,rfl⟩
 | own A=>simp at this
 | io A=>simp at this
end VL
namespace VL
open PySem PySem.Spec L2 PyProof.Rows
theorem aik {G:Hp}:∀ {vs:List V} {ds:List PyData} {i:Nat} {v:V} {d:PyData},Rps G vs ds->vs[i]?=some v->ds[i]?=some d->Rp G v d
 | _,_,0,_,_,.cons r _,e1,e2=>by simp at e1 e2;subst e1 e2;exact r
 | _,_,i+1,_,_,.cons _ t,e1,e2=>aik t (i:=i) (by simpa using e1) (by simpa using e2)
theorem ata {K:Frag} {ds:List PyData} {R:Sl->Prop} (hc:∀ d∈ds,∀ e∈ds,cmpD d e=true) (hp:∀ d∈ds,aaj d=true/\d.depth<=60) (h0:ds=[]->R (.st .none)) (h1:∀ d,ds[argBest (HT.btD ds) (ds.length - 1)]?=some d->R (.st d)):OpA (ao6 K) [.list ds] R:=fun G H vs Q gh rs k=>by
 cases rs with
 | cons r t =>
  cases t
  cases r with
  | @lst a xs ds ha ra =>
   have hl:=ra.length
   refine ⟨a,xs,ds,rfl,SqL.of (gh _ _ ha),hl,fun i v d ev ed=>((aik ra ev ed).rep (hp d (List.mem_of_getElem? ed)).1).same gh,hc,hp,fun e=>?_,fun v ev=>?_⟩
   ·exact k _ _ _ _ _ (Out.refl gh .non) (h0 (List.length_eq_zero_iff.mp (by rw [← hl,e];rfl)))
   ·rw [hl] at ev
    have hi:=(List.getElem?_eq_some_iff.mp ev).1
    have ed:ds[argBest (HT.btD ds) (ds.length - 1)]?=some (ds[argBest (HT.btD ds) (ds.length - 1)]'(by omega)):=List.getElem?_eq_getElem (by omega)
    exact k _ _ _ _ _ (Out.refl gh (aik ra ev ed)) (h1 _ ed)
theorem an7 {bt:Nat->Nat->Bool}:∀ (m:Nat),argBest bt m<=m
 | 0=>Nat.le_refl _
 | m+1=>by
  have:=an7 (bt:=bt) m
  simp only [argBest]
  split <;> omega
theorem an8 {bt:Nat->Nat->Bool} {n:Nat} (ir:∀ i,i < n->bt i i=false) (tr:∀ i j k,i < n->j < n->k < n->bt i j=true->bt j k=true->bt i k=true):∀ (m:Nat),m < n->∀ i,i<=m->bt i (argBest bt m)=false
 | 0,hm,i,hi=>by
  have:i=0:=by omega
  subst this;exact ir 0 hm
 | m+1,hm,i,hi=>by
  have ih:=an8 ir tr m (by omega)
  have hb:=an7 (bt:=bt) m
  simp only [argBest]
  by_cases h:bt (m+1) (argBest bt m)=true
  ·rw [if_pos h]
   by_cases hi':i=m+1
   ·subst hi';exact ir _ hm
   ·cases e:bt i (m+1) with
    | false=>rfl
    | true =>
     have:=tr i (m+1) (argBest bt m) (by omega) hm (by omega) e h
     rw [ih i (by omega)] at this;cases this
  ·rw [if_neg h]
   by_cases hi':i=m+1
   ·subst hi';simpa using h
   ·exact ih i (by omega)
noncomputable abbrev Z3:=Int × (Int × Int)
@[reducible] noncomputable def z3D (z:Z3):PyData:=.tuple [.int z.1,prD z.2]
def lt3 (y z:Z3):Prop:=y.1 < z.1\/(y.1=z.1/\ltP y.2 z.2)
theorem av5 (z:Z3):¬ lt3 z z:=by
 rintro (h | ⟨_,h⟩)
 ·omega
 ·exact ae8 _ h
theorem ayo {x y z:Z3} (h:lt3 x y) (g:lt3 y z):lt3 x z:=by
 rcases h with h | ⟨h,h'⟩ <;> rcases g with g | ⟨g,g'⟩
 ·exact .inl (by omega)
 ·exact .inl (by omega)
 ·exact .inl (by omega)
 ·exact .inr ⟨by omega,alo h' g'⟩
theorem ayp (y z:Z3):ltv (z3D y) (z3D z)=true ↔ lt3 y z:=by
 obtain ⟨a,b,c⟩:=y
 obtain ⟨d,e,f⟩:=z
 simp only [z3D,prD,ltv,ltvs,PyData.eqv,lt3,ltP]
 by_cases h1:a=d <;> by_cases h2:b=e <;> by_cases h3:c=f <;> simp [h1,h2,h3,ltv,ltvs,PyData.eqv,PyData.eqvAll] <;> omega
theorem z3_ok {zs:List Z3}:(∀ d∈zs.map z3D,∀ e∈zs.map z3D,cmpD d e=true)/\∀ d∈zs.map z3D,aaj d=true/\d.depth<=60:=by
 refine ⟨fun d hd e he=>?_,fun d hd=>?_⟩
 ·obtain ⟨y,_,rfl⟩:=List.mem_map.mp hd
  obtain ⟨z,_,rfl⟩:=List.mem_map.mp he
  simp [cmpD,cmpDs]
 ·obtain ⟨y,_,rfl⟩:=List.mem_map.mp hd
  exact ⟨rfl,by simp [PyData.depth,PyData.depthAll]⟩
theorem av6 {zs:List Z3} {d:PyData} (ed:(zs.map z3D)[argBest (HT.btD (zs.map z3D)) ((zs.map z3D).length - 1)]?=some d):∃ z∈zs,d=z3D z/\∀ y∈zs,¬ lt3 y z:=by
 have hg:∀ i j,i < zs.length->j < zs.length->(HT.btD (zs.map z3D) i j=true ↔ lt3 (zs.getD i (0,0,0)) (zs.getD j (0,0,0))):=fun i j hi hj=>by
  rw [← ayp]
  unfold HT.btD
  rw [List.getD_eq_getElem?_getD,List.getD_eq_getElem?_getD,List.getD_eq_getElem?_getD,List.getD_eq_getElem?_getD,List.getElem?_map,List.getElem?_map,List.getElem?_eq_getElem hi,List.getElem?_eq_getElem hj]
  simp
 rw [List.length_map] at ed
 generalize hk:argBest (HT.btD (zs.map z3D)) (zs.length - 1)=b at ed
 rw [List.getElem?_map] at ed
 cases ez:zs[b]? with
 | none=>rw [ez] at ed;cases ed
 | some z =>
  rw [ez] at ed
  cases ed
  have hb:=(List.getElem?_eq_some_iff.mp ez).1
  refine ⟨z,List.mem_of_getElem? ez,rfl,fun y hy hlt=>?_⟩
  obtain ⟨i,hi,ey⟩:=List.mem_iff_getElem.mp hy
  have key:=an8 (bt:=HT.btD (zs.map z3D)) (n:=zs.length) (fun i hi=>by
    cases e:HT.btD (zs.map z3D) i i with
    | false=>rfl
    | true=>exact absurd ((hg i i hi hi).mp e) (av5 _)) (fun i j k hi hj hk' a b=>(hg i k hi hk').mpr (ayo ((hg i j hi hj).mp a) ((hg j k hj hk').mp b))) (zs.length - 1) (by omega) i (by omega)
  rw [hk] at key
  have:HT.btD (zs.map z3D) i b=true:=(hg i b hi hb).mpr (by
   rw [List.getD_eq_getElem?_getD,List.getD_eq_getElem?_getD,ez,List.getElem?_eq_getElem hi]
   simpa [ey] using hlt)
  rw [key] at this;cases this
theorem atb {K:Frag} {zs:List Z3} {R:Sl->Prop} (h0:zs=[]->R (.st .none)) (h1:∀ z∈zs,(∀ y∈zs,¬ lt3 y z)->R (.st (z3D z))):OpA (ao6 K) [.list (zs.map z3D)] R :=
 ata z3_ok.1 z3_ok.2 (fun e=>h0 (by simpa using e)) fun d ed=>by
  obtain ⟨z,hz,rfl,hm⟩:=av6 ed
  exact h1 z hz hm
end VL
namespace VL
open PySem PySem.Spec L2
section
variable {B:Bs} {env:En} {QO:Sl->En->Prop} {i:Nat}
end
section
variable {X:Cx}
end
section
variable {R:Sl->Prop}
end
end VL
namespace L2
open PySem PySem.Spec PyProof.Rows
noncomputable def isV (k:Int):Value->Bool
 | .int a _=>decide (a=k)
 | _=>false
theorem alt {ns:List Int} {us:List Value} (r:Vals (ns.map V.int) us) (k:Int):∀ i (h:i < us.length) (h':i < ns.length),isV k us[i]=decide (ns[i]=k):=by
 induction ns generalizing us with
 | nil=>intro i h h';simp at h'
 | cons n ns ih =>
  rw [List.map_cons] at r
  cases r with
  | cons r1 r2 =>
   obtain ⟨t,e⟩:=r1
   subst e
   intro i h h'
   cases i with
   | zero=>rfl
   | succ i=>exact ih r2 i (by simpa using h) (by simpa using h')
theorem apf {ns:List Int} {us:List Value} (r:Vals (ns.map V.int) us) (k:Int) (t:Tok):∀ y∈us,MeetsSeq.EqGives y (.int k t) (isV k y):=by
 induction ns generalizing us with
 | nil=>rw [List.map_nil] at r;cases r;intro y hy;simp at hy
 | cons n ns ih =>
  rw [List.map_cons] at r
  cases r with
  | cons r1 r2 =>
   obtain ⟨u,e⟩:=r1
   subst e
   intro y hy
   rcases List.mem_cons.mp hy with rfl | hy
   ·exact MeetsSeq.EqGives.int n k u t
   ·exact ih r2 y hy
section
variable {X:Cx}
def aq1:V->List V->Hp->VK->Prop:=fun x vs H Q=>∃ (l:Addr) (ns:List Int) (k:Int) (j:Nat),x=.ref l/\vs=[.int k]/\H l=some (.lst (ns.map V.int))/\ns[j]?=some k/\(∀ m,m < j->ns[m]? ≠ some k)/\Q (.int j) H
theorem ag5:MtM X "list.index" aq1:=by
 intro pins s σ H x vs v us Q I rx rv h
 obtain ⟨l,ns,k,j,rfl,rfl,hH,hj,hno,q⟩:=h
 cases rx
 obtain ⟨u,rfl,ru⟩:=rv.one
 obtain ⟨t,rfl⟩:=ru
 obtain ⟨z,its,n,r,hl,e⟩:=I.lstM hH
 rw [List.length_map] at hl z
 obtain ⟨hj1,hj2⟩:=List.getElem?_eq_some_iff.mp hj
 have hz:sizeLine < 2 ^ 62:=by decide
 refine call_meets F.slot_list_index ⟨_,e,rfl⟩ F.entry_list_index (F.args_list_index_2 _ _)
  (MeetsSeq.list_index l its.toArray n (.int k t) (isV k) (fun y hy=>apf r k t y (by simpa using hy)) j (by rw [List.size_toArray];omega) (by omega) ?_ (fun m hm hlt=>?_)) ⟨e,?_⟩
 ·rw [List.getElem_toArray,alt r k j (by omega) hj1,decide_eq_true hj2]
 ·have hm':m < ns.length:=by omega
  rw [List.getElem_toArray,alt r k m (by omega) hm']
  exact decide_eq_false fun e=>hno m hlt (by rw [List.getElem?_eq_getElem hm',e])
 ·exact ⟨.int j,H,I.tok _,⟨_,rfl⟩,q⟩
variable {e est:Expr} {te:TE} {ts:TO} {pos p2:Pos}
end
end L2
namespace VL
open PySem PySem.Spec L2
section
variable {B:Bs} {env:En} {QO:Sl->En->Prop} {Q':PyData->En->Prop} {te tl:TE} {ts:TO} {K:Frag} {i:Nat}
theorem Rps.rev {G:Hp}:∀ {vs:List V} {ds:List PyData},Rps G vs ds->Rps G vs.reverse ds.reverse
 | _,_,.nil => .nil
 | _,_,.cons r t=>by
  rw [List.reverse_cons,List.reverse_cons]
  exact (Rps.rev t).append (.cons r .nil)
theorem atc (h:Ev B tl env fun x e1=>∃ ns:List Int,x=.list (ns.map .int)/\Ev B te e1 fun y e2=>∃ (k:Int) (j:Nat),y=.int k/\ns[j]?=some k/\(∀ m,m < j->ns[m]? ≠ some k)/\Q' (.int j) e2):Ev B (tBM K "list" aq1 tl (aa6 te tNil)) env Q':=fun σ G H F Q I k =>
 h σ G H F _ I fun v G1 H1 F1 d e1 I1 g1 r1 z_=>by
  obtain ⟨ns,ed,q1⟩:=z_
  subst ed
  cases r1 with
  | @lst a vs _ ha rs =>
   have ev:vs=ns.map V.int:=rs.ints_inv
   subst ev
   refine ⟨.inl ⟨rfl,_,SqL.of (I1.gh _ _ ha)⟩,q1 σ G1 H1 F1 _ I1 fun u G2 H2 F2 y e2 I2 g2 r2 ⟨c,j,ey,h1,h2,q⟩=>?_⟩
   subst ey
   cases r2
   exact ⟨a,ns,c,j,rfl,rfl,I2.gh _ _ (g2 _ _ ha),h1,h2,k _ G2 H2 F2 _ e2 I2 (g1.trans g2) (.int _) q⟩
end
theorem auf {α:Type} [DecidableEq α]:∀ {as bs:List α},as.Nodup->(∀ a∈as,a∈bs)->as.length<=bs.length
 | [],_,_,_=>Nat.zero_le _
 | a :: as,bs,hn,hs=>by
  have ha:a∈bs:=hs a (List.mem_cons_self ..)
  have hn':=List.nodup_cons.mp hn
  have h:=auf (bs:=bs.erase a) hn'.2 fun x hx=>(List.mem_erase_of_ne (show x ≠ a from fun e=>hn'.1 (by rw [← e];exact hx))).mpr (hs x (List.mem_cons_of_mem _ hx))
  rw [List.length_erase_of_mem ha] at h
  have:0 < bs.length:=List.length_pos_of_mem ha
  simp only [List.length_cons]
  omega
structure But (n:Int) (es rem:List (Int × Int)):Prop where
 rise:Rise es
 inn:∀ p∈es,0<=p.1/\p.1 < p.2/\p.2 < n
 all:∀ p:Int × Int,0<=p.1->p.1 < p.2->p.2 < n->p∈es\/p∈rem
theorem But.len {n:Int} {es rem:List (Int × Int)} (h:But n es rem) (hn:8<=n) (hr:rem.length<=5):2<=es.length:=by
 have:=auf (as:=[((0:Int),(1:Int)),(0,2),(0,3),(0,4),(0,5),(0,6),(0,7)]) (bs:=es ++ rem) (by decide) (fun p hp=>by
  have:0<=p.1/\p.1 < p.2/\p.2 < 8:=by
   simp only [List.mem_cons,List.not_mem_nil,or_false] at hp
   rcases hp with rfl | rfl | rfl | rfl | rfl | rfl | rfl <;> decide
  exact List.mem_append.mpr (h.all p this.1 this.2.1 (by omega)))
 simp at this
 omega
theorem But.web {n:Int} {es rem:List (Int × Int)} (h:But n es rem) (hn:8<=n) (h2:n<=60):WebOk n es:=⟨by omega,h2,h.inn,h.rise⟩
end VL
namespace PopT
open PySem PyProof.Rows
section
variable {prog:Program} {w:World} {K:Type} [DecidableEq K] {knd:HeapKind prog w K} {A:Around} {E:Value->Shared->Prop} {s:Shared}
end
end PopT
namespace L2
open PySem PySem.Spec PySem.W PyProof.Rows
theorem KT.at {H:Hp} {kvs:List (List Key × V)} {xs:List (List Key × Addr × Value)} (r:KT H kvs xs):∀ {j:Nat} {k:List Key} {v:V},kvs[j]?=some (k,v)->∃ p:Addr × Value,xs[j]?=some (k,p)/\RelV v p.2:=by
 induction r with
 | nil=>intro j k v e;simp at e
 | @cons p q ps qs hq t ih =>
  intro j k v e
  cases j with
  | zero =>
   have e:p=(k,v):=by simpa using e
   subst e
   exact ⟨q.2,by rw [List.getElem?_cons_zero,show k=q.1 from hq.1],hq.2.2⟩
  | succ j=>exact ih (by simpa using e)
theorem KT.erase {H:Hp} {kvs:List (List Key × V)} {xs:List (List Key × Addr × Value)} (r:KT H kvs xs):∀ (j:Nat),KT H (kvs.eraseIdx j) (xs.eraseIdx j):=by
 induction r with
 | nil=>intro j;exact .nil
 | @cons p q ps qs hq t ih =>
  intro j
  cases j with
  | zero=>exact t
  | succ j=>exact .cons hq (ih j)
section
variable {X:Cx} {pins:List (Addr × Obj)} {σ:St} {H:Hp} {s:Shared} {a b:Addr} {A:Around} {E:Value->Shared->Prop}
end
section
variable {X:Cx} {o e f:Expr} {apos cpos:Pos} {td ty tx:TE}
end
end L2
namespace DNe
open PySem PyProof.Rows
end DNe
namespace L2
open PySem PySem.Spec PySem.W PyProof.Rows
end L2
namespace DNe
open PySem PyProof.Rows
section
variable {prog:Program} {w:World} {A:Around} {E:Value->Shared->Prop} {s:Shared}
end
end DNe
namespace L2
open PySem PySem.Spec PySem.W PyProof.Rows
end L2
namespace VL
open PySem PySem.Spec L2
section
variable {B:Bs} {env:En} {Q':PyData->En->Prop} {QO:Sl->En->Prop} {i:Nat} {ty:TE}
theorem RpT.at {G:Hp}:∀ {kvs:List (List Key × V)} {es:List (List Key × PyData)},RpT G kvs es->∀ {j:Nat} {ks:List Key} {d:PyData},es[j]?=some (ks,d)->∃ v,kvs[j]?=some (ks,v)/\Rp G v d
 | _,_,.nil,j,ks,d,e=>by simp at e
 | _,_,.cons (k:=k) (v:=v) (d:=d0) h t,0,ks,d,e=>by
  have e:(k,d0)=(ks,d):=by simpa using e
  cases e
  exact ⟨v,rfl,h⟩
 | _,_,.cons h t,j+1,ks,d,e=>by
  obtain ⟨v,e1,r⟩:=RpT.at t (j:=j) (by simpa using e)
  exact ⟨v,by simpa using e1,r⟩
theorem RpT.erase {G:Hp}:∀ {kvs:List (List Key × V)} {es:List (List Key × PyData)},RpT G kvs es->∀ (j:Nat),RpT G (kvs.eraseIdx j) (es.eraseIdx j)
 | _,_,.nil,_ => .nil
 | _,_,.cons _ t,0=>t
 | _,_,.cons h t,j+1 => .cons h (RpT.erase t j)
end
end VL
namespace DictL
open PySem PyProof.Rows
section
variable {prog:Program} {w:World} {A:Around} {R:Result->Shared->Prop} {I:Addr} {fp wr:List Addr} {n:Nat} {P:Nat->Value->Prop} {St:Nat->Heap->Prop} {K:Type} [DecidableEq K] {knd:KeyKind prog w K}
end
section
variable {prog:Program} {w:World} {A:Around} {E:Value->Shared->Prop} {s:Shared}
end
section
variable {prog:Program} {w:World} {A:Around} {E:Value->Shared->Prop} {s:Shared} {K:Type} [DecidableEq K] {knd:KeyKind prog w K}
end
end DictL
namespace L2
open PySem PySem.W PyProof.Rows
section
variable {K:Type} [DecidableEq K]
end
section
variable {X:Cx}
end
end L2
namespace VL
open PySem PySem.Spec L2
section
variable {B:Bs} {env:En} {QO:Sl->En->Prop} {Q':PyData->En->Prop} {D':VEnds} {K:Frag} {i:Nat}
end
section
variable {B:Bs} {env:En} {QO:Sl->En->Prop} {Q':PyData->En->Prop} {K:Frag} {i:Nat}
end
theorem adw {α:Type} {K:Frag} {src:List (Option Nat)} {e1:En} {te:TE} {tif:TT} {R:List PyData->En->Prop} {xs:List α} {f : α->PyData} (g : α->PyData) (p : α->Bool) (hno:noIo (aal src e1)=true) (hl:xs.length<=999999)
  (h:∀ x∈xs,∀ B':Bs,B'.K=K->EvT B' tif (some (.st (f x)) :: aal src e1) fun b e3=>b=p x/\e3=some (.st (f x)) :: aal src e1/\(b=true->Ev B' te (some (.st (f x)) :: aal src e1) fun y e4=>y=g x/\e4=some (.st (f x)) :: aal src e1))
  (hR:R ((xs.filter p).map g) e1):LcV K (none :: src) (aay 0) tif te (xs.map f) e1 R:=by
 have hno':noIo (aal (none :: src) e1)=true:=by
  show ((none :: aal src e1).all fun s => !isIo s)=true
  rw [List.all_cons]
  exact (Bool.and_eq_true _ _).mpr ⟨rfl,hno⟩
 refine ⟨fun i ys e=>ys=((xs.take i).filter p).map g/\∃ o,e=stO o :: aal src e1,⟨by simp,none,rfl⟩,?_,?_,?_⟩
 ·rintro i ys e ⟨_,o,rfl⟩
  exact ⟨⟨isIo_stO.symm,ac0⟩,adu adn⟩
 ·rintro i d ys e hd ⟨rfl,o,rfl⟩ B' hB
  rw [List.getElem?_map] at hd
  cases hx:xs[i]? with
  | none=>rw [hx] at hd;cases hd
  | some x =>
  rw [hx] at hd
  cases hd
  have hi:i < xs.length:=(List.getElem?_eq_some_iff.mp hx).1
  have et:xs.take (i+1)=xs.take i ++ [x]:=by rw [List.take_add_one,hx];rfl
  refine aaz ?_
  show EvT B' tif (some (.st (f x)) :: aal src e1) _
  intro σ G H F Q I k
  refine h x (List.mem_of_getElem? hx) B' hB σ G H F Q I fun b G' H' F' e3 I' g' ⟨hb,he,hq⟩=>k b G' H' F' e3 I' g' ?_
  subst he
  by_cases hp:b=true
  ·rw [if_pos hp]
   intro σ G H F Q I k
   refine hq hp σ G H F Q I fun v G' H' F' d' e4 I' g' r' ⟨hy,he4⟩=>k v G' H' F' d' e4 I' g' r' ?_
   subst hy he4
   refine ⟨?_,?_,some _,rfl⟩
   ·have:=List.length_filter_le p (xs.take i)
    simp only [List.length_map]
    have h2:(xs.take i).length<=i:=by simp;omega
    omega
   ·rw [et,List.filter_append,List.map_append]
    have:p x=true:=by rw [← hb];exact hp
    simp [this]
  ·rw [if_neg hp]
   refine ⟨?_,some _,rfl⟩
   rw [et,List.filter_append,List.map_append]
   have:p x=false:=by rw [← hb];simpa using hp
   simp [this]
 ·rintro ys e ⟨rfl,o,rfl⟩
  rw [agj hno',List.length_map,List.take_length]
  exact hR
section
variable {B:Bs} {env:En} {QO:Sl->En->Prop} {Q':PyData->En->Prop} {K:Frag} {i:Nat}
theorem atd {ta tb:TE} (h:Ev B ta env fun d e1=>EvO B tb e1 fun s e2=>∃ ds,s=.own (OL ds)/\QO (.own (OW d ds)) e2):EvO B (tTup (aa6 ta (aa6 tb tNil))) env QO:=fun σ G H F Q I k =>
 h σ G H F _ I fun v G1 H1 F1 d e1 I1 g1 r1 h2=>h2 σ G1 H1 F1 _ I1 fun w G2 H2 F2 Fv s e2 I2 g2 x z_=>by
  obtain ⟨ds,es,q⟩:=z_
  subst es
  obtain ⟨l,vs,rfl,hl,rs,hf⟩:=x.ok
  refine ⟨show (2:Nat)<=sizeLine by rw [sizeLine_eq];decide,fun p hp=>?_⟩
  have pl:p ≠ l:=(aap hl hp).symm
  have J:VI B G2 (upd H2 p (.tup [v,.ref l])) σ e2 F2:=I2.grow (Same.refl _) (I2.gh.trans (abo hp)) (abo hp) (fun a o e => .inl e) fun a ks e=>by
   by_cases z:a=p
   ·subst z;rw [aam] at e;exact absurd (Option.some.inj e) alq
   ·rw [aag z] at e;exact I2.ft a ks e
  refine k _ G2 _ _ (fun a=>a=p\/a=l) (.own (OW d ds)) _ J (g1.trans g2) ⟨⟨p,l,v,vs,rfl,aam,r1.same g2,by rw [aag pl.symm];exact hl,rs,fun b=>Iff.rfl⟩,fun a z=>?_,fun a z=>?_,fun a z=>?_,fun m a z=>?_⟩ q
  ·rcases z with rfl | rfl
   ·exact I2.no_b hp
   ·exact x.fb a ((hf a).mpr rfl)
  ·rcases z with rfl | rfl
   ·exact I2.no_g hp
   ·exact x.fg a ((hf a).mpr rfl)
  ·rcases z with rfl | rfl
   ·exact ⟨_,aam⟩
   ·exact ⟨_,by rw [aag pl.symm];exact hl⟩
  ·rcases z with rfl | rfl
   ·exact I2.no_f hp m
   ·exact x.fd m a ((hf a).mpr rfl)
end
end VL
namespace L2
open PySem PySem.W PyProof.Rows
section
variable {X:Cx}
end
end L2
namespace VL
open PySem PySem.Spec L2
section
variable {B:Bs} {env:En} {Q':PyData->En->Prop} {R:Sl->Prop} {td:TE}
end
end VL
namespace SS
open PySem
theorem ail {l:List Nat} (hr:l.Pairwise (· < ·)) {i j:Nat} (hij:i<=j) (hj:j < l.length):l[i]'(by omega)<=l[j]:=by
 by_cases e:i=j
 ·subst e;exact Nat.le_refl _
 ·exact Nat.le_of_lt (List.pairwise_iff_getElem.mp hr i j (by omega) hj (by omega))
theorem ag6 (xs:Array Nat) (j:Nat) (hr:xs.toList.Pairwise (· < ·)):∀ (fuel lo hi:Nat),hi - lo<=fuel->lo<=hi->hi<=xs.size->(∀ i (h:i < xs.toList.length),i < lo->xs.toList[i] < j)->(∀ i (h:i < xs.toList.length),hi<=i->j<=xs.toList[i]) ->
  SetTable.below.go xs j fuel lo hi<=xs.size/\(∀ i (h:i < xs.toList.length),i < SetTable.below.go xs j fuel lo hi->xs.toList[i] < j)/\(∀ i (h:i < xs.toList.length),SetTable.below.go xs j fuel lo hi<=i->j<=xs.toList[i])
 | 0,lo,hi,h1,h2,h3,h4,h5=>by
  unfold SetTable.below.go
  have:lo=hi:=by omega
  subst this
  exact ⟨h3,h4,h5⟩
 | fuel+1,lo,hi,h1,h2,h3,h4,h5=>by
  unfold SetTable.below.go
  by_cases hl:lo < hi
  ·rw [if_pos hl]
   have hm:(lo+hi) / 2 < xs.size:=by omega
   have hm':(lo+hi) / 2 < xs.toList.length:=by simpa using hm
   have eg:xs.getD ((lo+hi) / 2) j=xs.toList[(lo+hi) / 2]:=by simp [Array.getD,hm]
   dsimp only
   rw [eg]
   split
   ·rename_i hlt
    refine ag6 xs j hr fuel _ hi (by omega) (by omega) h3 (fun i h hi'=>?_) h5
    exact Nat.lt_of_le_of_lt (ail hr (by omega) hm') hlt
   ·rename_i hge
    refine ag6 xs j hr fuel lo _ (by omega) (by omega) (by omega) h4 (fun i h hi'=>?_)
    exact Nat.le_trans (by omega) (ail hr hi' h)
  ·rw [if_neg hl]
   have:lo=hi:=by omega
   subst this
   exact ⟨h3,h4,h5⟩
theorem below_ok (xs:Array Nat) (j:Nat) (hr:xs.toList.Pairwise (· < ·)) :
  SetTable.below xs j<=xs.size/\(∀ i (h:i < xs.toList.length),i < SetTable.below xs j->xs.toList[i] < j)/\(∀ i (h:i < xs.toList.length),SetTable.below xs j<=i->j<=xs.toList[i]) :=
 ag6 xs j hr _ 0 _ (by omega) (by omega) (Nat.le_refl _) (fun i h hi=>by omega) (fun i h hi=>by simp at h;omega)
theorem apg (xs:Array Nat) (hr:xs.toList.Pairwise (· < ·)) (i:Nat) (hi:i < xs.toList.length):SetTable.below xs (xs.toList[i] + 1)=i+1:=by
 obtain ⟨h1,h2,h3⟩:=below_ok xs (xs.toList[i] + 1) hr
 rcases Nat.lt_trichotomy (SetTable.below xs (xs.toList[i] + 1)) (i+1) with h | h | h
 ·have:=h3 i hi (by omega);omega
 ·exact h
 ·have hs:i+1 < xs.toList.length:=by simp;omega
  have a:=h2 (i+1) hs (by omega)
  have b:=List.pairwise_iff_getElem.mp hr i (i+1) hi hs (by omega)
  omega
theorem aph (xs:Array Nat) (hr:xs.toList.Pairwise (· < ·)):SetTable.below xs 0=0:=by
 obtain ⟨h1,h2,h3⟩:=below_ok xs 0 hr
 rcases Nat.eq_zero_or_pos (SetTable.below xs 0) with h | h
 ·exact h
 ·have:=h2 0 (by simp;omega) (by omega);omega
theorem put_rise {xs:Array Nat} {j:Nat} (hr:xs.toList.Pairwise (· < ·)) (hn:xs[SetTable.below xs j]? ≠ some j):(SetTable.insertAt xs (SetTable.below xs j) j).toList.Pairwise (· < ·):=by
 obtain ⟨h1,h2,h3⟩:=below_ok xs j hr
 rw [SetTable.toList_insertAt]
 generalize SetTable.below xs j=p at h1 h2 h3 hn ⊢
 rw [← Array.getElem?_toList] at hn
 generalize xs.toList=l at hr h2 h3 hn ⊢
 have lo:∀ x∈l.take p,x < j:=fun x hx=>by
  obtain ⟨i,hi,e⟩:=List.mem_take_iff_getElem.mp hx
  rw [← e];exact h2 i (by omega) (by omega)
 have up:∀ x∈l.drop p,j < x:=fun x hx=>by
  obtain ⟨i,hi,e⟩:=List.mem_drop_iff_getElem.mp hx
  have hp:p < l.length:=by omega
  have ne:l[p] ≠ j:=fun e=>hn (by rw [List.getElem?_eq_getElem hp,e])
  have a:=h3 p hp (Nat.le_refl _)
  have b:=ail hr (show p<=p+i by omega) (by omega:p+i < l.length)
  have e':l[p+i]=x:=by rw [← e]
  omega
 rw [List.pairwise_append]
 refine ⟨hr.sublist (List.take_sublist _ _),List.pairwise_cons.mpr ⟨up,hr.sublist (List.drop_sublist _ _)⟩,fun a ha b hb=>?_⟩
 rcases List.mem_cons.mp hb with rfl | hb
 ·exact lo a ha
 ·exact Nat.lt_trans (lo a ha) (up b hb)
structure TbI (bt:Bool) (t:SetTable):Prop where
 led:bt=false->t.led=true
 dum:t.dummies = #[]
 ris:t.plain=true->t.place.toList.Pairwise (· < ·)
theorem TbI.fresh (bt:Bool) (f m:Nat):TbI bt (.fresh f m (!bt)):=⟨fun h=>by subst h;rfl,rfl,fun _=>List.Pairwise.nil⟩
theorem has_nil (j:Nat):SetTable.has #[] j=false:=by unfold SetTable.has;simp
theorem TbI.put {bt:Bool} {t:SetTable} (x:TbI bt t) {j:Nat} (hs:t.slot j=.empty):TbI bt (t.put j).1:=by
 refine ⟨x.led,?_,fun h=>?_⟩
 ·show (if SetTable.has t.dummies j=true then _ else t.dummies) = #[]
  rw [x.dum,has_nil];rfl
 ·show (SetTable.insertAt t.place (SetTable.below t.place j) j).toList.Pairwise (· < ·)
  refine put_rise (x.ris h) fun e=>?_
  unfold SetTable.slot at hs
  dsimp only at hs
  rw [e] at hs
  simp at hs
theorem live_rise (owner:Array (Option Nat)) (m:Nat):(((List.range m).filterMap fun j=>(owner.getD j none).map (j,·)).map (·.1)).Pairwise (· < ·):=by
 rw [List.pairwise_map,List.pairwise_filterMap]
 refine List.pairwise_lt_range.imp ?_
 intro a b hab p hp q hq
 cases h1:owner.getD a none with
 | none=>rw [h1] at hp;cases hp
 | some i =>
  cases h2:owner.getD b none with
  | none=>rw [h2] at hq;cases hq
  | some k=>rw [h1] at hp;rw [h2] at hq;cases hp;cases hq;exact hab
theorem ajf {α:Type} (next:Nat->Nat):∀ (n k:Nat) (left:List α) (out:Array α),left.length=n->(pickOrder.go next n k left out).toList.Perm (out.toList ++ left)
 | 0,k,left,out,h=>by
  unfold pickOrder.go
  rw [List.eq_nil_of_length_eq_zero h];simp
 | n+1,k,left,out,h=>by
  unfold pickOrder.go
  have hl:next k % left.length < left.length:=Nat.mod_lt _ (by omega)
  rw [List.getElem?_eq_getElem hl]
  dsimp only
  refine (ajf next n (k+1) _ _ (by rw [List.length_eraseIdx];split <;> omega)).trans ?_
  rw [Array.toList_push,List.append_assoc]
  refine List.Perm.append_left _ ?_
  have e:left=left.take (next k % left.length) ++ left[next k % left.length] :: left.drop (next k % left.length+1):=by
   rw [← List.drop_eq_getElem_cons hl,List.take_append_drop]
  rw [List.eraseIdx_eq_take_drop_succ]
  refine List.Perm.trans ?_ (List.Perm.of_eq e.symm)
  rw [List.singleton_append]
  exact List.perm_middle.symm
theorem aim {α:Type} (next:Nat->Nat) (xs:Array α):(pickOrder next xs).toList.Perm xs.toList:=by
 unfold pickOrder
 simpa using ajf next xs.size 0 xs.toList #[] (by simp)
end SS
namespace SS
open PySem PySem.W PyProof.Rows
section
variable {prog:Program} {w:World} {A:Around} {E:Value->Shared->Prop} {s:Shared}
noncomputable def bt (w:World):Bool:=w.params.followText "set-order"
noncomputable def kE (e:Int × Value):Int:=match e.2 with | .int k _=>k | _=>0
def az7 (prog:Program) (w:World) (e:Int × Value):Prop:=e.1=(intKind prog w).hash (kE e)/\∃ t,e.2=.int (kE e) t
def SetR (prog:Program) (w:World) (a:Addr) (es:Array (Int × Value)) (ep:Nat) (t:SetTable) (h:Heap):Prop :=
 ∃ o,h.get? a=some o/\o.ExactSet/\o.data=.set es ep t/\t.fits es.size=true/\TbI (bt w) t
def SetI (prog:Program) (w:World) (a:Addr) (L:List Int) (h:Heap):Prop:=∃ es ep t,SetR prog w a es ep t h/\(∀ e∈es.toList,az7 prog w e)/\(es.toList.map kE).Perm L
theorem SetR.at {a:Addr} {es:Array (Int × Value)} {ep:Nat} {t:SetTable} {h h':Heap} (x:SetR prog w a es ep t h) (k:∀ o,h.get? a=some o->h'.get? a=some o):SetR prog w a es ep t h':=let ⟨o,e,r⟩:=x;⟨o,k o e,r⟩
theorem SetI.at {a:Addr} {L:List Int} {h h':Heap} (x:SetI prog w a L h) (k:∀ o,h.get? a=some o->h'.get? a=some o):SetI prog w a L h':=let ⟨es,ep,t,r,p⟩:=x;⟨es,ep,t,r.at k,p⟩
theorem SetR.put {a:Addr} {es es':Array (Int × Value)} {ep:Nat} {t t':SetTable} {h:Heap} (x:SetR prog w a es ep t h) (hf:t'.fits es'.size=true) (hT:TbI (bt w) t'):SetR prog w a es' (ep+1) t' (h.update a (Obj.putSet es' t')):=by
 obtain ⟨o,ho,hx,hd,_⟩:=x
 have hg':(h.update a (Obj.putSet es' t')).get? a=some { o with data:=.set es' (ep+1) t' }:=by
  have:=Heap.get?_update_self (Obj.putSet es' t') ho (by rw [putSet_of es' t' hd];rfl)
  rw [putSet_of es' t' hd] at this;exact this
 exact ⟨_,hg',hx,rfl,hf,hT⟩
end
section
variable {prog:Program} {w:World} {A:Around} {E:Value->Shared->Prop} {s:Shared}
noncomputable def abu (w:World):Obj:={ cls:=.type "set",dict:=none,data:=.set #[] 0 (.fresh 0 0 (!bt w)) }
theorem ate (a:Value) {Q₁:Value->Shared->Prop} (h:Q₁ (.ref s.heap.objs.size) { s with heap:=s.heap.push (abu w) }) :
  codeAny (model prog w) A (.call (.builtin "set.__new__") ⟨[.type "set",a],[]⟩) (wants Q₁ E) s:=by
 refine codeAny_of_tree ?_
 show wpAny _ A.in1 (do checkBuiltinCall "set.__new__" ⟨[.type "set",a],[]⟩;again (.builtin "set.__new__" ⟨[.type "set",a],[]⟩)) _ _ s
 refine wpAny_bind (wpAny_of_eq (PySem.F.newCall_set_1 a) (wpAny_pure ⟨plainId_quiet PySem.F.plain_set_new _,codeAny_builtin PySem.F.entry_set_new ?_⟩))
 rw [Around.under_plainId PySem.F.plain_set_new _]
 unfold Builtin.«set.__new__» Builtin.Frozenset.newClass
 have hsub:=sub_set_self
 obtain ⟨hp,g,d,tk,os⟩:=s
 dsimp only
 wp_walk
 refine wpAny_askSetting (wpAny_pure ?_)
 dsimp only
 simp only [newObj]
 refine wpAny_bind (wpAny_alloc (wpAny_pure ?_))
 exact wpAny_pure h
section
variable {R:Result->Shared->Prop} {I:Addr} {fp wr:List Addr} {n:Nat} {P:Nat->Value->Prop} {St:Nat->Heap->Prop}
end
end
theorem slot_it_next:Slot "set_iterator" "__next__" "set_iterator.__next__" :=
 .of (owner:="set_iterator") (n:="__next__") (by rw [typeLookup_type,builtinLookup_eq_fast];kernel_rfl) (by decide +kernel) (by decide +kernel) (by decide +kernel)
  (by first | exact .inl (by decide +kernel) | exact .inr (by decide +kernel)) (by rw [isSubtype_type];kernel_rfl)
theorem af5:Slot "set_iterator" "__iter__" "set_iterator.__iter__" :=
 .of (owner:="set_iterator") (n:="__iter__") (by rw [typeLookup_type,builtinLookup_eq_fast];kernel_rfl) (by decide +kernel) (by decide +kernel) (by decide +kernel)
  (by first | exact .inl (by decide +kernel) | exact .inr (by decide +kernel)) (by rw [isSubtype_type];kernel_rfl)
theorem alu:Manifest.owners.lookup (String.ofList ['r','o','t','a','r','e','t','i','_','t','e','s'].reverse)=some Manifest.sig_set_iterator:=by kernel_rfl
theorem alv (a:Value):argsOk "set_iterator.__next__" ⟨[a],[]⟩:=by
 unfold argsOk;rw [signature?_of (id:="set_iterator.__next__") (n:=['_','_','t','x','e','n','_','_']) (o:=['r','o','t','a','r','e','t','i','_','t','e','s']) (by kernel_rfl) alu];kernel_rfl
theorem alw (a:Value):argsOk "set_iterator.__iter__" ⟨[a],[]⟩:=by
 unfold argsOk;rw [signature?_of (id:="set_iterator.__iter__") (n:=['_','_','r','e','t','i','_','_']) (o:=['r','o','t','a','r','e','t','i','_','t','e','s']) (by kernel_rfl) alu];kernel_rfl
theorem aj2:entryFor table "set_iterator.__next__" = some Builtin.«set_iterator.__next__»:=entryFor_of_tree (by kernel_rfl)
theorem aj3:entryFor table "set_iterator.__iter__" = some Builtin.«dict_keyiterator.__iter__»:=entryFor_alias (id':="dict_keyiterator.__iter__") (by kernel_rfl) rfl (by decide +kernel) (by kernel_rfl)
theorem ain:entryFor table "set.__iter__" = some Builtin.«frozenset.__iter__»:=entryFor_alias (id':="frozenset.__iter__") (by kernel_rfl) rfl (by decide +kernel) (by kernel_rfl)
section
variable {prog:Program} {w:World} {A:Around} {E:Value->Shared->Prop} {s:Shared} {a I:Addr} {es:Array (Int × Value)} {ep:Nat} {t:SetTable}
def IsIt (h:Heap) (I:Addr) (vs:Array Value):Prop:=∃ o,h.get? I=some o/\o.cls=.type "set_iterator"/\o.data=.fields vs
theorem IsIt.ty {vs:Array Value} (x:IsIt s.heap I vs):s.TypeIs (.ref I) "set_iterator":=let ⟨o,e,c,_⟩:=x;⟨o,e,c⟩
theorem IsIt.at {h h':Heap} {vs:Array Value} (x:IsIt h I vs) (k:∀ o,h.get? I=some o->h'.get? I=some o):IsIt h' I vs:=let ⟨o,e,r⟩:=x;⟨o,k o e,r⟩
theorem SetR.ty (x:SetR prog w a es ep t s.heap):s.TypeIs (.ref a) "set":=let ⟨o,e,c,_⟩:=x;⟨o,e,c.1⟩
theorem adi {Q:(Array (Int × Value) × Nat × SetTable)->Shared->Prop} (x:SetR prog w a es ep t s.heap) (h:Q (es,ep,t) s):wpAny (model prog w) A (setState a) Q E s:=let ⟨_,ho,_,hd,hf,_⟩:=x;wpAny_setState_of ho hd hf h
theorem afo {Q:Array (Int × Value)->Shared->Prop} (x:SetR prog w a es ep t s.heap) (h:Q es s):wpAny (model prog w) A (setEntries a) Q E s:=by
 unfold setEntries;exact wpAny_bind (adi x (wpAny_pure h))
theorem alx {Q:Nat->Shared->Prop} (x:SetR prog w a es ep t s.heap) (h:Q ep s):wpAny (model prog w) A (setEpoch a) Q E s:=by
 unfold setEpoch;exact wpAny_bind (adi x (wpAny_pure h))
theorem aio {Q:Bool->Shared->Prop} (h:Q (bt w) s):wpAny (model prog w) A setsByText Q E s:=by
 unfold setsByText;exact wpAny_bind (wpAny_askSetting (wpAny_pure h))
theorem aq2 {M:Model} {src:Source} {n:Nat} {Q:Nat->Shared->Prop} (hn:0 < n) (h:∀ i d,i < n->Q i { s with drawn:=d }):wpAny M A (choose src n) Q E s:=fun Γ p _=>by
 unfold choose
 rw [Sem.wp_choose]
 exact ⟨by omega,h _ _ (Nat.mod_lt _ hn)⟩
theorem an9 {α:Type} {M:Model}:∀ (n:Nat) (xs:List α) (s:Shared) (Q:List α->Shared->Prop),xs.length=n->(∀ ys d,ys.Perm xs->Q ys { s with drawn:=d })->wpAny M A (drawOrder n xs) Q E s
 | 0,xs,s,Q,hn,h=>by
  unfold drawOrder
  rw [List.eq_nil_of_length_eq_zero hn] at h
  exact wpAny_pure (h [] s.drawn (List.Perm.refl _))
 | n+1,[],s,Q,hn,h=>by cases hn
 | n+1,x :: xs,s,Q,hn,h=>by
  unfold drawOrder
  refine wpAny_bind (aq2 (by simp) fun i d hi=>?_)
  rw [List.getElem?_eq_getElem hi]
  dsimp only
  refine wpAny_bind (an9 n _ _ _ (by rw [List.length_eraseIdx];split <;> omega) fun ys d' hp=>wpAny_pure ?_)
  refine h _ d' ?_
  have e:(x :: xs)=(x :: xs).take i ++ (x :: xs)[i] :: (x :: xs).drop (i+1):=by
   rw [← List.drop_eq_getElem_cons hi,List.take_append_drop]
  refine (hp.cons _).trans ?_
  rw [List.eraseIdx_eq_take_drop_succ]
  refine List.Perm.trans ?_ (List.Perm.of_eq e.symm)
  exact List.perm_middle.symm
noncomputable def dr (w:World) (es:Array (Int × Value)) (t:SetTable):Bool:=!bt w && (!t.plain && decide (es.size > 1))
noncomputable def itO (f:Value) (a:Addr) (n ep:Nat):Obj:={ cls:=.type "set_iterator",data:=.fields #[f,rawInt (0:Nat),.ref a,rawInt n,rawInt ep] }
noncomputable def tuO (pl:List Nat):Obj:={ cls:=.type "tuple",data:=.seq (pl.map fun (i:Nat)=>rawInt i).toArray }
theorem av7 {Q:Value->Shared->Prop} (x:SetR prog w a es ep t s.heap) (hz:es.size<=sizeLine)
  (h1:dr w es t=false->Q (.ref s.heap.objs.size) { s with heap:=s.heap.push (itO (rawInt (0:Nat)) a es.size ep) })
  (h2:dr w es t=true->∀ pl d,pl.Perm (List.range es.size)->Q (.ref (s.heap.objs.size+1)) { s with heap:=(s.heap.push (tuO pl)).push (itO (.ref s.heap.objs.size) a es.size ep),drawn:=d }):wpAny (model prog w) A (pyIter (.ref a)) Q E s:=by
 refine wpAny_pyIter_slot x.ty PySem.F.slot_set_iter (wpAny_call_entry PySem.F.slot_set_iter x.ty ain ?body (PySem.F.args_set_iter_1 _))
 unfold Builtin.«frozenset.__iter__»
 show wpAny _ _ (Builtin.Frozenset.sizeOf a >>= _) _ _ s
 unfold Builtin.Frozenset.sizeOf
 refine wpAny_bind (wpAny_bind (afo x (wpAny_pure ?_)))
 unfold setDrawn
 refine wpAny_bind (wpAny_bind (adi x (wpAny_bind (aio (wpAny_pure ?_)))))
 show wpAny _ _ (if dr w es t=true then _ else _) _ _ s
 cases hd:dr w es t
 ·rw [if_neg (by decide)]
  refine wpAny_bind (wpAny_pure (wpAny_bind (alx x ?_)))
  unfold newFields
  refine wpAny_bind (wpAny_newObj_type (wpAny_pure ⟨_,rfl,"set_iterator",_,⟨_,Heap.get?_push_size _ rfl,rfl⟩,slot_it_next.lookup,h1 hd⟩))
 ·rw [if_pos rfl]
  refine wpAny_bind (an9 es.size (List.range es.size) s _ (by simp) fun pl d hp=>?_)
  refine wpAny_bind (wpAny_newTuple ?_ (by rw [List.length_map,hp.length_eq,List.length_range];exact hz))
  refine wpAny_bind (alx (x.at fun o e=>Heap.get?_push_of_some _ e) ?_)
  unfold newFields
  refine wpAny_bind (wpAny_newObj_type (wpAny_pure ⟨_,rfl,"set_iterator",_,⟨_,Heap.get?_push_size _ rfl,rfl⟩,slot_it_next.lookup,?_⟩))
  have:=h2 hd pl d hp
  simp only [Heap.size_push]
  exact this
end
section
variable {prog:Program} {w:World} {A:Around} {E:Value->Shared->Prop} {s:Shared} {a I:Addr} {es:Array (Int × Value)} {ep:Nat} {t:SetTable}
noncomputable def ord (w:World) (a:Addr) (es:Array (Int × Value)) (ep:Nat):List (Int × Value):=if bt w=true then (pickOrder (w.params.setOrder a ep) es).toList else es.toList
theorem ord_perm:(ord w a es ep).Perm es.toList:=by
 unfold ord;split
 ·exact aim _ _
 ·exact List.Perm.refl _
noncomputable def sl (t:SetTable):Nat->Nat
 | 0=>0
 | i+1=>t.place.getD i 0+1
theorem api (x:SetR prog w a es ep t s.heap) (hb:bt w=false) (hd:dr w es t=false):t.place.toList.Pairwise (· < ·):=by
 obtain ⟨o,_,_,_,hf,hT⟩:=x
 unfold dr at hd
 rw [hb] at hd
 cases hp:t.plain with
 | true=>exact hT.ris hp
 | false =>
  rw [hp] at hd
  have h1:es.size<=1:=by simpa using hd
  have h2:t.place.toList.length<=1:=by
   simp only [SetTable.fits,Bool.and_eq_true,beq_iff_eq] at hf
   rw [Array.length_toList];omega
  match hl:t.place.toList with
  | []=>exact .nil
  | [y]=>exact List.pairwise_singleton _ _
  | y :: z :: r=>rw [hl] at h2;simp at h2
theorem av8 {slot i:Nat} {Q:Option (Value × Nat)->Shared->Prop} (x:SetR prog w a es ep t s.heap) (hd:dr w es t=false) (hs:bt w=false->slot=sl t i) (hi:i<=es.size)
  (h1:∀ e nx,(ord w a es ep)[i]?=some e->(bt w=false->nx=sl t (i+1))->Q (some (e.2,nx)) s) (h2:i=es.size->Q none s):wpAny (model prog w) A (setNext a slot i ep) Q E s:=by
 unfold setNext
 refine wpAny_bind (adi x ?_)
 dsimp only
 refine wpAny_bind (aio ?_)
 cases hb:bt w with
 | true =>
  rw [if_pos rfl]
  rw [if_neg (by simp)]
  refine wpAny_bind ?_
  unfold setWalk
  refine wpAny_bind (adi x ?_)
  dsimp only
  refine wpAny_bind (aio ?_)
  rw [hb,if_pos rfl]
  refine wpAny_bind (wpAny_askSetting (wpAny_pure (wpAny_pure ?_)))
  show Q ((pickOrder (w.params.setOrder a ep) es)[i]?.map fun e=>(e.2,slot)) s
  have eo:ord w a es ep=(pickOrder (w.params.setOrder a ep) es).toList:=by unfold ord;rw [hb,if_pos rfl]
  rw [← Array.getElem?_toList,← eo]
  cases he:(ord w a es ep)[i]? with
  | none =>
   refine h2 ?_
   have:=List.getElem?_eq_none_iff.mp he
   rw [ord_perm.length_eq,Array.length_toList] at this
   omega
  | some e=>exact h1 e slot he fun z=>by rw [hb] at z;cases z
 | false =>
  rw [if_neg (by decide)]
  have hpr:=api x hb hd
  obtain ⟨o,ho,hx,hdt,hf,hT⟩:=id x
  have hps:t.place.size=es.size:=by
   simp only [SetTable.fits,Bool.and_eq_true,beq_iff_eq] at hf;exact hf.1
  have hbl:SetTable.below t.place slot=i:=by
   rw [hs hb]
   cases i with
   | zero=>exact aph _ hpr
   | succ j =>
    have hj:j < t.place.toList.length:=by rw [Array.length_toList];omega
    have e:t.place.getD j 0=t.place.toList[j]:=by simp [Array.getD,show j < t.place.size by omega]
    show SetTable.below t.place (t.place.getD j 0+1)=j+1
    rw [e];exact apg _ hpr j hj
  refine wpAny_bind (wpAny_pure ?_)
  have hdr:(!t.plain && decide (es.size > 1))=false:=by unfold dr at hd;rw [hb] at hd;exact hd
  show wpAny _ _ (if (!t.plain && decide (es.size > 1))=true then _ else _) _ _ s
  rw [hdr,if_neg (by decide)]
  refine wpAny_bind ?_
  show wpAny _ _ (if (!t.led && !es.isEmpty)=true then _ else _) _ _ s
  rw [hT.led hb]
  rw [if_neg (by simp)]
  refine wpAny_pure ?_
  rw [hbl]
  have eo:ord w a es ep=es.toList:=by unfold ord;rw [hb,if_neg (by decide)]
  rcases Nat.lt_or_ge i es.size with hlt | hge
  ·have e1:es[i]?=some es[i]:=Array.getElem?_eq_getElem hlt
   have e2:t.place[i]?=some t.place[i]:=Array.getElem?_eq_getElem (by omega)
   rw [e1,e2]
   refine wpAny_pure (h1 es[i] _ (by rw [eo,Array.getElem?_toList];exact e1) fun _=>?_)
   show t.place[i] + 1=t.place.getD i 0+1
   simp [Array.getD,show i < t.place.size by omega]
  ·have e1:es[i]?=none:=Array.getElem?_eq_none_iff.mpr hge
   rw [e1]
   exact wpAny_pure (h2 (by omega))
theorem upd2 {h:Heap} {f x b n e:Value} {i:Value} (hit:IsIt h I #[f,i,x,n,e]) (j:Nat) (v:Value) (vs:Array Value) (hv : #[f,i,x,n,e].setIfInBounds j v=vs):IsIt (h.update I (Obj.mapFields (·.setIfInBounds j v))) I vs:=by
 obtain ⟨o,ho,hc,hd⟩:=hit
 exact ⟨_,Heap.get?_update_self _ ho (Obj.isFreed_of_fields (Obj.data_mapFields hd _)),(Obj.cls_mapFields ..).trans hc,by rw [Obj.data_mapFields hd,hv]⟩
theorem adj {vs:Array Value} {i:Nat} {x:Value} {Q:Unit->Shared->Prop} (hit:IsIt s.heap I vs) (hi:i < vs.size) (h:Q () { s with heap:=s.heap.update I (Obj.mapFields (·.setIfInBounds i x)) }):wpAny (model prog w) A (setField (.ref I) i x) Q E s:=by
 obtain ⟨o,ho,hc,hd⟩:=hit
 exact wpAny_setField ho hd hi h
theorem aoa {vs:Array Value} {Q:Option Value->Shared->Prop} (hit:IsIt s.heap I vs)
  (h:wpAny (model prog w) A.in1 (Builtin.«set_iterator.__next__» ⟨[.ref I],[]⟩) (fun fin s'=>∃ v,fin=.done (.ret v)/\Q (some v) s') (fun e s'=>wpAny (model prog w) A (do if ← isInstance e (.type "StopIteration") then pure none else throw e) Q E s') s) :
  wpAny (model prog w) A (pyNext (.ref I)) Q E s:=by
 unfold pyNext
 refine wpAny_bind (wpAny_attempt (wpAny_callSpecial?_slot (name:=Str.ofString "__next__") hit.ty slot_it_next (wpAny_call_entry slot_it_next hit.ty aj2 ?b (alv _))))
 case b =>
  refine wpAny_mono h ?_ ?_
  ·rintro fin s' ⟨v,rfl,q⟩
   exact ⟨v,rfl,wpAny_pure q⟩
  ·intro e s' q;exact q
theorem aob {Q:Option Value->Shared->Prop} {F:Type} {Qf:F->Shared->Prop} (hh:A.handled=none) (h:∀ h',(∀ b o,s.heap.get? b=some o->h'.get? b=some o)->Q none { s with heap:=h' }) :
  wpAny (model prog w) A.in1 (newExc (.type "StopIteration") [] >>= fun e=>(raiseNew e:Sem F)) Qf (fun e s'=>wpAny (model prog w) A (do if ← isInstance e (.type "StopIteration") then pure none else throw e) Q E s') s:=by
 refine wpAny_bind ?_
 simp only [newExc,newTuple];refine wpAny_bind (wpAny_newObj_type ?_ (by size_fits))
 refine wpAny_bind (m:=firstArgMember _ _) (wpAny_of_eq (a:=Value.none) (by first | rfl | (simp only [firstArgMember];rfl)) (wpAny_newObj_type ?_ (by size_fits)))
 simp only [raiseNew];refine wpAny_bind (wpAny_handled ?_)
 rw [show A.in1.handled=none from hh];refine wpAny_bind (wpAny_pure (wpAny_throw ?_))
 refine wpAny_bind (wpAny_isInstance (T:="StopIteration") (b:=true) ⟨_,Heap.get?_push_size _ rfl,rfl⟩ isSubtype_stop ?_)
 exact wpAny_pure (h _ fun b o e=>Heap.get?_push_of_some _ (Heap.get?_push_of_some _ e))
theorem aoc {slot i:Nat} {Q:Option Value->Shared->Prop} (hh:A.handled=none) (hne:a ≠ I) (hit:IsIt s.heap I #[rawInt slot,rawInt i,.ref a,rawInt es.size,rawInt ep]) (x:SetR prog w a es ep t s.heap) (hd:dr w es t=false) (hs:bt w=false->slot=sl t i) (hi:i<=es.size)
  (h1:∀ e (nx:Nat) h',(ord w a es ep)[i]?=some e->(bt w=false->nx=sl t (i+1))->IsIt h' I #[rawInt nx,rawInt ((i+1:Nat):Int),.ref a,rawInt es.size,rawInt ep]->(∀ b o,b ≠ I->s.heap.get? b=some o->h'.get? b=some o)->Q (some e.2) { s with heap:=h' })
  (h2:i=es.size->∀ h',(∀ b o,b ≠ I->s.heap.get? b=some o->h'.get? b=some o)->Q none { s with heap:=h' }):wpAny (model prog w) A (pyNext (.ref I)) Q E s:=by
 refine aoa hit ?_
 obtain ⟨o,ho,hc,hdt⟩:=id hit
 unfold Builtin.«set_iterator.__next__»
 refine wpAny_bind (wpAny_pure (wpAny_bind (wpAny_fieldsOf ho hdt ?_)))
 show wpAny _ _ (setEntries a >>= _) _ _ s
 refine wpAny_bind (afo x ?_)
 rw [if_neg (by simp)]
 show wpAny _ _ (setNext a slot i ep >>= _) _ _ s
 refine wpAny_bind (av8 x hd hs hi (fun e nx he hn=>?_) fun hz=>?_)
 ·dsimp only
  refine wpAny_bind (adj hit (by simp) ?_)
  have hit1:=upd2 (b:=.none) hit 0 (rawInt nx) #[rawInt nx,rawInt i,.ref a,rawInt es.size,rawInt ep] rfl
  refine wpAny_bind (adj (s:={ s with heap:=_ }) hit1 (by simp) ?_)
  have hit2:=upd2 (b:=.none) hit1 1 (rawInt ((i+1:Nat):Int)) #[rawInt nx,rawInt ((i+1:Nat):Int),.ref a,rawInt es.size,rawInt ep] rfl
  refine wpAny_pure ⟨_,rfl,h1 e nx _ he hn hit2 fun b o hb e=>?_⟩
  exact (Heap.get?_update_other _ _ (Ne.symm hb)).trans ((Heap.get?_update_other _ _ (Ne.symm hb)).trans e)
 ·dsimp only
  refine wpAny_bind (adj hit (by simp) ?_)
  refine aob (s:={ s with heap:=s.heap.update I _ }) hh fun h' k=>h2 hz h' fun b o hb e=>k b o ((Heap.get?_update_other _ _ (Ne.symm hb)).trans e)
theorem aod {vs:Array Value} {Q:Value->Shared->Prop} (hit:IsIt s.heap I vs) (h:Q (.ref I) s):wpAny (model prog w) A (pyIter (.ref I)) Q E s:=by
 refine wpAny_pyIter_slot hit.ty af5 (wpAny_call_entry af5 hit.ty aj3 ?_ (alw _))
 show wpAny _ _ (ret (.ref I)) _ _ s
 exact wpAny_pure ⟨_,rfl,"set_iterator",_,hit.ty,slot_it_next.lookup,h⟩
theorem walks (hh:A.handled=none) (hne:a ≠ I) (hd:dr w es t=false):Walks prog w A I [I,a] [I] es.size (fun i v=>((ord w a es ep).map (·.2))[i]?=some v)
  (fun i h=>∃ slot:Nat,IsIt h I #[rawInt slot,rawInt i,.ref a,rawInt es.size,rawInt ep]/\SetR prog w a es ep t h/\(bt w=false->slot=sl t i)) where
 sub:=fun b hb=>by simp at hb;simp [hb]
 frame:=fun _ _ _ st hk=>let ⟨slot,h1,h2,h3⟩:=st;⟨slot,h1.at fun o e=>hk I (by simp) o e,h2.at fun o e=>hk a (by simp) o e,h3⟩
 item:=fun i s Q E hi st hQ=>by
  obtain ⟨slot,h1,h2,h3⟩:=st
  refine aoc hh hne h1 h2 hd h3 (Nat.le_of_lt hi) (fun e nx h' he hn hit k=>?_) fun hz=>by omega
  exact hQ _ h' s.toks (by rw [List.getElem?_map,he];rfl) ⟨nx,hit,h2.at fun o e=>k a o hne e,hn⟩ fun b o hb e=>k b o (fun z=>hb (by simp [z])) e
 done:=fun s Q E st hQ=>by
  obtain ⟨slot,h1,h2,h3⟩:=st
  refine aoc hh hne h1 h2 hd h3 (Nat.le_refl _) (fun e nx h' he hn hit k=>?_) fun hz h' k=>hQ h' s.toks fun b o hb e=>k b o (fun z=>hb (by simp [z])) e
  have:=(List.getElem?_eq_some_iff.mp he).1
  rw [ord_perm.length_eq,Array.length_toList] at this
  omega
 self:=fun _ _ _ _ st hQ=>let ⟨_,h1,_,_⟩:=st;aod h1 hQ
theorem aug {i:Nat} {tu:Addr} {pl:List Nat} {Q:Option Value->Shared->Prop} (hh:A.handled=none) (hit:IsIt s.heap I #[.ref tu,rawInt i,.ref a,rawInt es.size,rawInt ep]) (hT:s.heap.get? tu=some (tuO pl)) (x:SetR prog w a es ep t s.heap) (hp:pl.Perm (List.range es.size)) (hi:i<=es.size)
  (h1:∀ e h' j,pl[i]?=some j->es[j]?=some e->IsIt h' I #[.ref tu,rawInt ((i+1:Nat):Int),.ref a,rawInt es.size,rawInt ep]->(∀ b o,b ≠ I->s.heap.get? b=some o->h'.get? b=some o)->Q (some e.2) { s with heap:=h' })
  (h2:i=es.size->∀ h',(∀ b o,b ≠ I->s.heap.get? b=some o->h'.get? b=some o)->Q none { s with heap:=h' }):wpAny (model prog w) A (pyNext (.ref I)) Q E s:=by
 refine aoa hit ?_
 obtain ⟨o,ho,hc,hdt⟩:=id hit
 unfold Builtin.«set_iterator.__next__»
 refine wpAny_bind (wpAny_pure (wpAny_bind (wpAny_fieldsOf ho hdt ?_)))
 show wpAny _ _ (setEntries a >>= _) _ _ s
 refine wpAny_bind (afo x ?_)
 rw [if_neg (by simp)]
 show wpAny _ _ (seqItems? (.ref tu) >>= _) _ _ s
 refine wpAny_bind (wpAny_seqItems hT rfl ?_)
 dsimp only
 have hlen:pl.length=es.size:=by rw [hp.length_eq,List.length_range]
 have ei:(rawInt (i:Int))=.int i 0:=rfl
 rcases Nat.lt_or_ge i es.size with hlt | hge
 ·have hj:pl[i]?=some pl[i]:=List.getElem?_eq_getElem (by omega)
  have e1:(pl.map fun (i:Nat)=>rawInt i).toArray[(i:Int).toNat]?=some (rawInt pl[i]):=by
   rw [Int.toNat_natCast,List.getElem?_toArray,List.getElem?_map,hj];rfl
  rw [e1]
  have hm:pl[i] < es.size:=List.mem_range.mp (hp.mem_iff.mp (List.getElem_mem _))
  have e2:es[pl[i]]?=some es[pl[i]]:=Array.getElem?_eq_getElem hm
  show wpAny _ _ (setNextDrawn a pl[i] ep >>= _) _ _ s
  unfold setNextDrawn
  refine wpAny_bind (wpAny_bind (adi x ?_))
  dsimp only
  rw [if_neg (by simp),e2]
  refine wpAny_pure ?_
  refine wpAny_bind (adj hit (by simp) ?_)
  have hit1:=upd2 (b:=.none) hit 1 (rawInt ((i+1:Nat):Int)) #[.ref tu,rawInt ((i+1:Nat):Int),.ref a,rawInt es.size,rawInt ep] rfl
  exact wpAny_pure ⟨_,rfl,h1 _ _ _ hj e2 hit1 fun b o hb e=>(Heap.get?_update_other _ _ (Ne.symm hb)).trans e⟩
 ·have e1:(pl.map fun (i:Nat)=>rawInt i).toArray[(i:Int).toNat]?=none:=by
   rw [Int.toNat_natCast,List.getElem?_toArray,List.getElem?_map,List.getElem?_eq_none_iff.mpr (by omega)];rfl
  rw [e1]
  dsimp only
  refine wpAny_bind (adj hit (by simp) ?_)
  have hit1:=upd2 (b:=.none) hit 0 (rawInt 0) #[rawInt 0,rawInt i,.ref a,rawInt es.size,rawInt ep] rfl
  refine wpAny_bind (adj (s:={ s with heap:=_ }) hit1 (by simp) ?_)
  refine aob (s:={ s with heap:=(s.heap.update I _).update I _ }) hh fun h' k=>h2 (by omega) h' fun b o hb e=>k b o ((Heap.get?_update_other _ _ (Ne.symm hb)).trans ((Heap.get?_update_other _ _ (Ne.symm hb)).trans e))
noncomputable def ordD (es:Array (Int × Value)) (pl:List Nat):List Value:=pl.map fun j=>(es.toList.map (·.2)).getD j .none
theorem aq3 {pl:List Nat} (hp:pl.Perm (List.range es.size)):(ordD es pl).Perm (es.toList.map (·.2)):=by
 refine (hp.map _).trans (List.Perm.of_eq ?_)
 refine List.ext_getElem (by simp) fun i h1 h2=>?_
 have:i < es.size:=by simpa using h1
 simp [List.getD_eq_getElem?_getD,this]
theorem ayq {tu:Addr} {pl:List Nat} (hh:A.handled=none) (hne:a ≠ I) (hnt:tu ≠ I) (hp:pl.Perm (List.range es.size)):Walks prog w A I [I,a,tu] [I] es.size (fun i v=>(ordD es pl)[i]?=some v)
  (fun i h=>IsIt h I #[.ref tu,rawInt i,.ref a,rawInt es.size,rawInt ep]/\SetR prog w a es ep t h/\h.get? tu=some (tuO pl)) where
 sub:=fun b hb=>by simp at hb;simp [hb]
 frame:=fun _ _ _ st hk=>let ⟨h1,h2,h3⟩:=st;⟨h1.at fun o e=>hk I (by simp) o e,h2.at fun o e=>hk a (by simp) o e,hk tu (by simp) _ h3⟩
 item:=fun i s Q E hi st hQ=>by
  obtain ⟨h1,h2,h3⟩:=st
  refine aug hh h1 h3 h2 hp (Nat.le_of_lt hi) (fun e h' j hj he hit k=>?_) fun hz=>by omega
  refine hQ _ h' s.toks ?_ ⟨hit,h2.at fun o e=>k a o hne e,k tu _ hnt h3⟩ fun b o hb e=>k b o (fun z=>hb (by simp [z])) e
  unfold ordD
  rw [List.getElem?_map,hj]
  simp [List.getD_eq_getElem?_getD,he]
 done:=fun s Q E st hQ=>by
  obtain ⟨h1,h2,h3⟩:=st
  refine aug hh h1 h3 h2 hp (Nat.le_refl _) (fun e h' j hj he hit k=>?_) fun hz h' k=>hQ h' s.toks fun b o hb e=>k b o (fun z=>hb (by simp [z])) e
  have:=(List.getElem?_eq_some_iff.mp hj).1
  rw [hp.length_eq,List.length_range] at this
  omega
 self:=fun _ _ _ _ st hQ=>aod st.1 hQ
end
section
variable {prog:Program} {w:World} {A:Around} {E:Value->Shared->Prop} {s:Shared} {a:Addr} {es:Array (Int × Value)} {ep:Nat} {t:SetTable}
theorem av9 {Q:Bool->Shared->Prop} (hT:s.TypeIs (.ref a) "set") (h:Q false s):wpAny (model prog w) A (Builtin.List.listLengthHint (.ref a)) Q E s:=by
 unfold Builtin.List.listLengthHint
 refine wpAny_bind (wpAny_specialOf hT PySem.F.slot_set_len.lookup ?_)
 generalize hid:("set.__len__" : String)=id0
 wp_delta
 rw [show splitId id0=some ("set","__len__") from by subst hid;decide +kernel]
 subst hid
 refine wpAny_bind (wpAny_isInstance (T:="set") (b:=true) hT sub_set_self ?_)
 refine wpAny_ite_split (fun hab=>absurd hab (by decide)) (fun _=>?_)
 refine wpAny_ite_split (fun _=>?_) (fun hab=>absurd (by decide +kernel) hab)
 refine wpAny_bind (wpAny_typeOf hT ?_)
 exact wpAny_pure h
theorem atf {vals:List Value} {acc:Array Value} (h:ItemsOf (fun i v=>vals[i]?=some v) acc vals.length):acc.toList=vals:=by
 obtain ⟨h1,h2⟩:=h
 refine List.ext_getElem (by simpa using h1) fun i a1 a2=>?_
 have:=h2 i acc.toList[i] (by rw [← Array.getElem?_toList];exact List.getElem?_eq_getElem a1)
 exact (Option.some.inj ((List.getElem?_eq_getElem a2).symm.trans this)).symm
theorem ayr {R:Result->Shared->Prop} (hh:A.handled=none) (x:SetR prog w a es ep t s.heap) (hz:es.size<=sizeLine) (S:Addr) (hSa:S ≠ a) (res:Value) (c₀:Nat) (hS:s.heap.get? S=some { cls:=.type "list",data:=.seq #[] c₀ })
  (hR:∀ h' tk d acc c,(∀ b o,b ≠ S->s.heap.get? b=some o->h'.get? b=some o)->h'.get? S=some { cls:=.type "list",dict:=none,data:=.seq acc c,slots:=#[] }->acc.toList.Perm (es.toList.map (·.2))->R (.ok (.ret res)) { s with heap:=h',toks:=tk,drawn:=d }) :
  wpAny (model prog w) A.in1 (Builtin.List.listExtendWith (.ref S) (.ref a) res)
   (fun fin s'=>match fin with | .done f=>R (.ok f) s' | .again c'=>c'.quiet=true/\codeAny (model prog w) A c' R s') (fun e s'=>R (.error e) s') s:=by
 have key:∀ (I:Addr) (fp:List Addr) (St:Nat->Heap->Prop) (vals:List Value) (d:Drawn) (h:Heap) (c₁:Nat) (tk:Nat),Walks prog w A.in1 I fp [I] es.size (fun i v=>vals[i]?=some v) St->S ∉ fp->s.heap.objs.size<=I->vals.Perm (es.toList.map (·.2))->St 0 h->(∀ b o,b ≠ S->s.heap.get? b=some o->h.get? b=some o) ->
   h.get? S=some { cls:=.type "list",data:=.seq #[] c₁ }->codeAny (model prog w) A (.builtin "list.extend.loop" ⟨[.ref S,.ref I,res],[]⟩) R { s with heap:=h,toks:=tk,drawn:=d }:=by
  intro I fp St vals d h c₁ tk W hSf hI hp hst hk hS₁
  refine codeAny_extend_loopS W.toS hz S hSf res es.size 0 _ #[] c₁ rfl (Nat.zero_le _) hst hS₁ (ItemsOf.nil _) fun s' acc' c' hm hS' hacc=>?_
  have hl:es.size=vals.length:=by rw [hp.length_eq,List.length_map,Array.length_toList]
  rw [hl] at hacc
  rw [Moved.eq_with hm]
  refine hR s'.heap s'.toks d acc' c' (fun b o hb e=>hm.heap b o (fun hmem=>?_) (hk b o hb e)) hS' (by rw [atf hacc];exact hp)
  rcases List.mem_cons.mp hmem with e' | hmem
  ·exact hb e'
  ·rw [List.mem_singleton] at hmem
   subst hmem
   exact absurd (Heap.lt_size e) (Nat.not_lt.mpr hI)
 have hSlt:=Heap.lt_size hS
 have halt:a < s.heap.objs.size:=let ⟨_,e,_⟩:=x;Heap.lt_size e
 unfold Builtin.List.listExtendWith
 refine wpAny_bind (wpAny_typeOf (T:="set") x.ty ?_)
 have h1:Builtin.List.listSameRef (.ref S) (.ref a)=false:=by simp [Builtin.List.listSameRef,hSa]
 have h2:(Value.type "set" == Value.type "list")=false:=by decide
 have h3:(Value.type "set" == Value.type "tuple")=false:=by decide
 simp only [h1,h2,h3,Bool.or_false,Bool.false_eq_true,if_false]
 have touch:∀ (rm:Bool) (I:Addr) (fp:List Addr) (St:Nat->Heap->Prop) (vals:List Value) (d:Drawn) (h:Heap),Walks prog w A.in1 I fp [I] es.size (fun i v=>vals[i]?=some v) St->S ∉ fp->s.heap.objs.size<=I->vals.Perm (es.toList.map (·.2))->St 0 h->(∀ b o,s.heap.get? b=some o->h.get? b=some o)->
   wpAny (model prog w) A.in1 (holding [.ref I] (Builtin.List.listLengthHint (.ref a)) >>= fun room=>if (room || rm)=true then (rule "list.extend.makes-room" >>= fun _=>Builtin.List.listTouch (.ref S) >>= fun _=>again (.builtin "list.extend.loop" ⟨[.ref S,.ref I,res],[]⟩)) else again (.builtin "list.extend.loop" ⟨[.ref S,.ref I,res],[]⟩)) (fun fin s'=>match fin with | .done f=>R (.ok f) s' | .again c'=>c'.quiet=true/\codeAny (model prog w) A c' R s') (fun e s'=>R (.error e) s') { s with heap:=h,drawn:=d }:=by
  intro rm I fp St vals d h W hSf hI hp st hk
  have hS₁:=hk _ _ hS
  refine wpAny_bind (wpAny_holding (av9 (s:={ s with heap:=h,drawn:=d }) (SetR.ty (s:={ s with heap:=h,drawn:=d }) (x.at fun o e=>hk a o e)) ?_))
  refine wpAny_ite_split (fun _=>?_) (fun _=>wpAny_pure ⟨plainId_quiet PySem.F.plain_extend_loop _,key I fp St vals d h c₀ _ W hSf hI hp st (fun b o _ e=>hk b o e) hS₁⟩)
  refine wpAny_bind (wpAny_rule ?_)
  refine wpAny_bind ?_
  show wpAny _ _ (updateSeq S (·.push .none) >>= fun _=>updateSeq S (·.pop)) _ _ _
  refine wpAny_bind (wpAny_updateSeq hS₁ rfl ?_)
  have hS₂:=Heap.get?_update_self (Obj.mapSeq (·.push Value.none)) hS₁ rfl
  refine wpAny_updateSeq (hz:=by seq_fits) hS₂ rfl ?_
  have hS₃:=Heap.get?_update_self (Obj.mapSeq (·.pop)) hS₂ rfl
  refine wpAny_pure ⟨plainId_quiet PySem.F.plain_extend_loop _,key I fp St vals d _ _ _ W hSf hI hp ?_ (fun b o hb e=>?_) hS₃⟩
  ·refine W.frame 0 _ _ st fun b hb o e=>?_
   have hbS:b ≠ S:=fun h=>hSf (h ▸ hb)
   exact (Heap.get?_update_other _ _ (Ne.symm hbS)).trans ((Heap.get?_update_other _ _ (Ne.symm hbS)).trans e)
  ·exact (Heap.get?_update_other _ _ (Ne.symm hb)).trans ((Heap.get?_update_other _ _ (Ne.symm hb)).trans (hk b o e))
 refine wpAny_bind (av7 x hz (fun hd=>?_) fun hd pl d hp=>?_)
 ·exact touch _ s.heap.objs.size _ _ ((ord w a es ep).map (·.2)) s.drawn _ (walks (A:=A.in1) (prog:=prog) (w:=w) (t:=t) (ep:=ep) hh (Nat.ne_of_lt halt) hd) (by simp only [List.mem_cons,List.not_mem_nil,or_false,not_or];exact ⟨Nat.ne_of_lt hSlt,hSa⟩) (Nat.le_refl _) (ord_perm.map _)
   ⟨0,⟨_,Heap.get?_push_size _ rfl,rfl,rfl⟩,x.at fun o e=>Heap.get?_push_of_some _ e,fun _=>rfl⟩ fun b o e=>Heap.get?_push_of_some _ e
 ·refine touch _ (s.heap.objs.size+1) _ _ (ordD es pl) d _ (ayq (A:=A.in1) (prog:=prog) (w:=w) (t:=t) (ep:=ep) (tu:=s.heap.objs.size) hh (Nat.ne_of_lt (Nat.lt_succ_of_lt halt)) (Nat.ne_of_lt (Nat.lt_succ_self _)) hp) (by simp only [List.mem_cons,List.not_mem_nil,or_false,not_or];exact ⟨Nat.ne_of_lt (Nat.lt_succ_of_lt hSlt),hSa,Nat.ne_of_lt hSlt⟩) (Nat.le_succ _) (aq3 hp)
   ⟨⟨itO (.ref s.heap.objs.size) a es.size ep,?_,rfl,rfl⟩,x.at fun o e=>Heap.get?_push_of_some _ (Heap.get?_push_of_some _ e),Heap.get?_push_of_some _ (Heap.get?_push_size _ rfl)⟩ fun b o e=>Heap.get?_push_of_some _ (Heap.get?_push_of_some _ e)
  have:=Heap.get?_push_size (s.heap.push (tuO pl)) (o:=itO (.ref s.heap.objs.size) a es.size ep) rfl
  rw [Heap.size_push] at this
  exact this
theorem amt {Q:List Value->Shared->Prop} (hh:A.handled=none) (x:SetR prog w a es ep t s.heap) (hz:es.size<=sizeLine)
  (hQ:∀ h' tk d (vs:List Value),(∀ b o,s.heap.get? b=some o->h'.get? b=some o)->s.heap.objs.size<=h'.objs.size->vs.Perm (es.toList.map (·.2))->Q vs { s with heap:=h',toks:=tk,drawn:=d }):wpAny (model prog w) A (collect (.ref a)) Q E s:=by
 unfold collect
 refine wpAny_bind (wpAny_runValue (codeAny_builtin PySem.F.entry_proto_collect ?a1))
 case a1 =>
  rw [Around.under_plainId PySem.F.plain_proto_collect _];show wpAny _ A.in1 (newList [] >>= fun l=>again (.builtin "list.__iadd__" ⟨[l,.ref a],[]⟩)) _ _ s
  refine wpAny_bind (wpAny_newObj_type (wpAny_pure ⟨plainId_quiet PySem.F.plain_list_iadd _,codeAny_builtin PySem.F.entry_list_iadd ?a2⟩))
  case a2 =>
   rw [Around.under_plainId PySem.F.plain_list_iadd _];show wpAny _ A.in1 (Builtin.List.listExtendWith (.ref s.heap.objs.size) (.ref a) (.ref s.heap.objs.size)) _ _ _
   have hS:(s.heap.push { cls:=.type "list",data:=.seq ([]:List Value).toArray }).get? s.heap.objs.size=some { cls:=.type "list",data:=.seq #[] 0 }:=Heap.get?_push_size _ rfl
   have halt:a < s.heap.objs.size:=let ⟨_,e,_⟩:=x;Heap.lt_size e
   refine ayr (R:=wants (fun v s'=>wpAny (model prog w) A (match v with | .ref a=>(do match (← load a).data with | .seq xs _=>pure xs.toList | _=>unsupported "internal:collect") | _=>unsupported "internal:collect") Q E s') E) (s:={ s with heap:=s.heap.push { cls:=.type "list",data:=.seq ([]:List Value).toArray } }) hh (x.at fun o e=>Heap.get?_push_of_some _ e) hz s.heap.objs.size (Nat.ne_of_gt halt) _ 0 hS (fun h' tk d acc c k hS' hacc=>?a3)
   case a3 =>
    show wpAny (model prog w) A _ Q E _
    refine wpAny_bind (wpAny_load hS' ?a4)
    case a4=>exact wpAny_pure (hQ h' tk d acc.toList (fun b o e=>k b o (Nat.ne_of_lt (Heap.lt_size e)) (Heap.get?_push_of_some _ e)) (Nat.le_of_lt (Heap.lt_size hS')) hacc)
end
section
variable {prog:Program} {w:World} {A:Around} {E:Value->Shared->Prop} {s:Shared} {a:Addr}
end
end SS
namespace L2
open PySem PySem.W PyProof.Rows
section
variable {X:Cx}
theorem Inv.drawn' {pins:List (Addr × Obj)} {σ:St} {H:Hp} {s:Shared} (I:Inv X pins σ H s) (d:Drawn):Inv X pins σ H { s with drawn:=d }:=⟨I.ok,I.os,I.bare,I.base,I.loc,I.cell,I.free,I.freeC,I.pin,I.hok,I.len⟩
end
end L2
namespace VL
open PySem PySem.Spec L2
section
variable {B:Bs} {env:En} {QO:Sl->En->Prop} {K:Frag} {ta:TA} {P:Program} {w:World}
end
end VL
namespace SH
open PySem PySem.SetTable
noncomputable def it:Nat->Nat->Nat
 | 0,x=>x
 | n+1,x=>it n (5 * x+1)
theorem ahw:∀ (a b x:Nat),it (a+b) x=it b (it a x)
 | 0,b,x=>by rw [Nat.zero_add];rfl
 | a+1,b,x=>by rw [Nat.add_right_comm];exact ahw a b (5 * x+1)
theorem ays (m:Nat):∃ c d:Nat,∀ x,it (2 ^ m) x=(1+2 ^ (m+2) * c) * x+2 ^ m * (2 * d+1):=by
 induction m with
 | zero=>exact ⟨1,0,fun x=>by show 5 * x+1=_;omega⟩
 | succ m ih =>
  obtain ⟨c,d,h⟩:=ih
  refine ⟨c+2 ^ (m+1) * (c * c),d+2 ^ m * c * (2 * d+1),fun x=>?_⟩
  rw [show 2 ^ (m+1)=2 ^ m+2 ^ m by rw [Nat.pow_succ];omega,ahw,h,h]
  have e1:2 ^ (m+2)=4 * 2 ^ m:=by rw [Nat.pow_add];omega
  have e2:2 ^ (m+1+2)=8 * 2 ^ m:=by rw [Nat.pow_add,Nat.pow_succ];omega
  rw [e1,e2]
  generalize 2 ^ m=P
  grind
theorem ayt (m:Nat) (x j:Nat):∃ r,r < 2 ^ m/\it r x % 2 ^ m=j % 2 ^ m:=by
 induction m with
 | zero=>exact ⟨0,by decide,by rw [Nat.pow_zero,Nat.mod_one,Nat.mod_one]⟩
 | succ m ih =>
  obtain ⟨r,hr,e⟩:=ih
  obtain ⟨c,d,h⟩:=ays m
  have hp:0 < 2 ^ m:=Nat.pow_pos (by decide)
  have e2:2 ^ (m+1)=2 ^ m * 2:=Nat.pow_succ ..
  have e4:2 ^ (m+2)=2 ^ m * 4:=by rw [Nat.pow_add]
  rw [e2]
  have m1:=Nat.mod_mul (x:=it r x) (a:=2 ^ m) (b:=2)
  have m2:=Nat.mod_mul (x:=j) (a:=2 ^ m) (b:=2)
  by_cases hq:it r x / 2 ^ m % 2=j / 2 ^ m % 2
  ·exact ⟨r,by omega,by rw [m1,m2,e,hq]⟩
  ·refine ⟨r+2 ^ m,by omega,?_⟩
   rw [ahw,h,e4]
   have e5:(1+2 ^ m * 4 * c) * it r x+2 ^ m * (2 * d+1)=it r x+2 ^ m * (4 * (c * it r x)+2 * d+1):=by
    generalize 2 ^ m=P
    grind
   rw [e5,Nat.mod_mul,m2,Nat.add_mul_mod_self_left,e,Nat.add_mul_div_left _ _ hp]
   have:(it r x / 2 ^ m+(4 * (c * it r x)+2 * d+1)) % 2=j / 2 ^ m % 2:=by
    generalize c * it r x=z
    omega
   rw [this]
theorem awa (r x:Nat):it (r+1) x=5 * it r x+1:=by rw [ahw];rfl
noncomputable def adv (mask:Nat) (p:Probe):Probe:=if p.more > 0 then { p with j:=p.j+1,more:=p.more - 1 } else { p with j:=(leap mask p.i p.perturb).1,more:=runEnd mask (leap mask p.i p.perturb).1 - (leap mask p.i p.perturb).1,i:=(leap mask p.i p.perturb).1,perturb:=(leap mask p.i p.perturb).2 }
noncomputable def pr0 (mask:Nat) (h:Int):Probe:={ j:=bits h % (mask+1),more:=runEnd mask (bits h % (mask+1)) - bits h % (mask+1),i:=bits h % (mask+1),perturb:=bits h,dummy:=none }
noncomputable def pr (mask:Nat) (h:Int):Nat->Probe
 | 0=>pr0 mask h
 | k+1=>adv mask (pr mask h k)
theorem aly (mask:Nat) (h:Int):∀ k,(pr mask h k).dummy=none
 | 0=>rfl
 | k+1=>by
  have:=aly mask h k
  show (adv mask (pr mask h k)).dummy=none
  unfold adv
  split <;> exact this
noncomputable def lp (mask:Nat) (h:Int):Nat->Nat × Nat
 | 0=>(bits h % (mask+1),bits h)
 | n+1=>leap mask (lp mask h n).1 (lp mask h n).2
noncomputable def pAt (mask:Nat) (q:Nat × Nat) (a:Nat):Probe:={ j:=q.1+a,more:=runEnd mask q.1 - q.1 - a,i:=q.1,perturb:=q.2,dummy:=none }
theorem ayu (mask i:Nat):runEnd mask i - i<=9:=by unfold runEnd;split <;> omega
theorem alz {mask:Nat} {h:Int} {s:Nat} {q:Nat × Nat} (e:pr mask h s=pAt mask q 0):∀ a,a<=runEnd mask q.1 - q.1->pr mask h (s+a)=pAt mask q a
 | 0,_=>e
 | a+1,ha=>by
  have ih:=alz e a (by omega)
  show adv mask (pr mask h (s+a))=_
  rw [ih]
  unfold adv pAt
  rw [if_pos (by show runEnd mask q.1 - q.1 - a > 0;omega)]
  show Probe.mk _ _ _ _ _=Probe.mk _ _ _ _ _
  congr 1
theorem awb {mask:Nat} {h:Int} {s:Nat} {q:Nat × Nat} (e:pr mask h s=pAt mask q 0):pr mask h (s+(runEnd mask q.1 - q.1)+1)=pAt mask (leap mask q.1 q.2) 0:=by
 have:=alz e _ (Nat.le_refl _)
 show adv mask (pr mask h (s+_))=_
 rw [this]
 unfold adv pAt
 rw [if_neg (by show ¬ (runEnd mask q.1 - q.1 - (runEnd mask q.1 - q.1) > 0);omega)]
 rfl
noncomputable def sp (mask:Nat) (h:Int):Nat->Nat
 | 0=>0
 | n+1=>sp mask h n+(runEnd mask (lp mask h n).1 - (lp mask h n).1)+1
theorem auh (mask:Nat) (h:Int):∀ n,sp mask h n<=10 * n
 | 0=>Nat.le_refl _
 | n+1=>by
  have:=auh mask h n
  have:=ayu mask (lp mask h n).1
  unfold sp
  omega
theorem apj (mask:Nat) (h:Int):∀ n,pr mask h (sp mask h n)=pAt mask (lp mask h n) 0
 | 0=>rfl
 | n+1=>awb (apj mask h n)
theorem aoe (mask:Nat) (h:Int):∀ n,(lp mask h n).2=bits h / 32 ^ n
 | 0=>by show bits h=_;rw [Nat.pow_zero,Nat.div_one]
 | n+1=>by
  show (lp mask h n).2 / 32=_
  rw [aoe mask h n,Nat.div_div_eq_div_mul,Nat.pow_succ]
theorem awc (h:Int):bits h < 2 ^ 64:=by
 unfold bits
 have h1:=Int.emod_nonneg h (show (2 ^ 64:Int) ≠ 0 by decide)
 have h2:=Int.emod_lt_of_pos h (show (0:Int) < 2 ^ 64 by decide)
 omega
theorem awd (mask:Nat) (h:Int) (r:Nat):(lp mask h (13+r)).2=0:=by
 rw [aoe]
 apply Nat.div_eq_of_lt
 refine Nat.lt_of_lt_of_le (awc h) ?_
 rw [Nat.pow_add]
 exact Nat.le_trans (show 2 ^ 64<=32 ^ 13 by decide) (Nat.le_mul_of_pos_right _ (Nat.pow_pos (by decide)))
theorem aui (mask:Nat) (h:Int):∀ r,(lp mask h (13+r)).1 % (mask+1)=it r (lp mask h 13).1 % (mask+1)
 | 0=>rfl
 | r+1=>by
  show ((lp mask h (13+r)).1 * 5+1+(lp mask h (13+r)).2 / 32) % (mask+1) % (mask+1)=_
  rw [awd,awa,Nat.mod_mod,show 0 / 32=0 from rfl,Nat.add_zero,Nat.add_mod,Nat.mul_mod,aui mask h r,← Nat.mul_mod,← Nat.add_mod,Nat.mul_comm]
theorem auj (mask:Nat) (h:Int):∀ n,(lp mask h n).1 < mask+1
 | 0=>Nat.mod_lt _ (Nat.succ_pos _)
 | n+1=>Nat.mod_lt _ (Nat.succ_pos _)
theorem aq4 {mask m:Nat} (hm:mask+1=2 ^ m) (h:Int) (j:Nat) (hj:j<=mask):∃ n,n < mask+14/\(lp mask h n).1=j:=by
 obtain ⟨r,hr,e⟩:=ayt m (lp mask h 13).1 j
 refine ⟨13+r,by omega,?_⟩
 have h1:=aui mask h r
 rw [hm,e,← hm,Nat.mod_eq_of_lt (auj mask h _),Nat.mod_eq_of_lt (show j < mask+1 by omega)] at h1
 exact h1
theorem ayv {mask m:Nat} (hm:mask+1=2 ^ m) (h:Int) (j:Nat) (hj:j<=mask):∃ k,k < 10 * turns mask/\(pr mask h k).j=j:=by
 obtain ⟨n,hn,e⟩:=aq4 hm h j hj
 refine ⟨sp mask h n,?_,by rw [apj];exact e⟩
 have:=auh mask h n
 unfold turns
 omega
structure TOk (t:SetTable):Prop where
 ris:t.place.toList.Pairwise (· < ·)
 dum:t.dummies = #[]
 le:∀ j∈t.place.toList,j<=t.mask
 two:∃ m,t.mask+1=2 ^ m
 room:t.place.size<=t.mask
theorem adx {t:SetTable} (x:TOk t) {j i:Nat}:t.slot j=.live i ↔ t.place.toList[i]?=some j:=by
 have hb:=SS.below_ok t.place j x.ris
 unfold slot
 dsimp only
 rw [x.dum,SS.has_nil]
 constructor
 ·intro h
  split at h
  ·rename_i e
   cases h
   have e:=eq_of_beq e
   rw [Array.getElem?_toList]
   exact e
  ·cases h
 ·intro h
  obtain ⟨hi,e⟩:=List.getElem?_eq_some_iff.mp h
  have hbi:below t.place j=i:=by
   rcases Nat.lt_trichotomy (below t.place j) i with hl | hl | hl
   ·have h1:=hb.2.2 (below t.place j) (by omega) (Nat.le_refl _)
    have h2:=List.pairwise_iff_getElem.mp x.ris (below t.place j) i (by omega) hi hl
    omega
   ·exact hl
   ·have:=hb.2.1 i hi hl
    omega
  rw [hbi,if_pos (by rw [← Array.getElem?_toList,h];exact beq_self_eq_true _)]
theorem ahx {t:SetTable} (x:TOk t) (j:Nat):t.slot j=.empty\/∃ i,t.slot j=.live i:=by
 unfold slot
 dsimp only
 rw [x.dum,SS.has_nil]
 split
 ·exact .inr ⟨_,rfl⟩
 ·exact .inl rfl
theorem adf {t:SetTable} (x:TOk t) {j:Nat}:t.slot j=.empty ↔ j ∉ t.place.toList:=by
 constructor
 ·intro h hm
  obtain ⟨i,hi⟩:=List.getElem?_of_mem hm
  rw [(adx x).mpr hi] at h
  cases h
 ·intro h
  rcases ahx x j with e | ⟨i,e⟩
  ·exact e
  ·exact absurd (List.mem_of_getElem? ((adx x).mp e)) h
theorem aq5 {t:SetTable} (x:TOk t):∃ j,j<=t.mask/\t.slot j=.empty:=by
 apply Classical.byContradiction
 intro hn
 have hall:∀ j∈List.range (t.mask+1),j∈t.place.toList:=fun j hj=>by
  have hj:=List.mem_range.mp hj
  apply Classical.byContradiction
  intro h
  exact hn ⟨j,by omega,(adf x).mpr h⟩
 have:=List.Nodup.length_le_of_subset List.nodup_range hall
 rw [List.length_range,Array.length_toList] at this
 have:=x.room
 omega
theorem al0 {t:SetTable} (x:TOk t) {ha:Nat->Int} {h:Int}:∀ (fuel k:Nat),(∃ k1,k<=k1/\k1 < k+fuel/\t.slot (pr t.mask h k1).j=.empty) ->
  ∃ k1,k<=k1/\k1 < k+fuel/\(∀ k',k<=k'->k' < k1->∃ i,t.slot (pr t.mask h k').j=.live i/\ha i ≠ h) /\
   ((t.slot (pr t.mask h k1).j=.empty ∧ probe.go t ha h fuel (pr t.mask h k)=some (.empty (pr t.mask h k1).j none)) ∨
    ∃ i,t.slot (pr t.mask h k1).j=.live i/\ha i=h/\probe.go t ha h fuel (pr t.mask h k)=some (.candidate (pr t.mask h k1).j i (pr t.mask h (k1+1))))
 | 0,k,⟨k1,h1,h2,_⟩=>by omega
 | fuel+1,k,⟨k1,h1,h2,h3⟩=>by
  rcases ahx x (pr t.mask h k).j with e | ⟨i,e⟩
  ·refine ⟨k,Nat.le_refl _,by omega,fun k' a b=>by omega,.inl ⟨e,?_⟩⟩
   unfold probe.go
   rw [e,aly]
  ·by_cases hi:ha i=h
   ·refine ⟨k,Nat.le_refl _,by omega,fun k' a b=>by omega,.inr ⟨i,e,hi,?_⟩⟩
    unfold probe.go
    rw [e]
    dsimp only
    rw [if_pos (by rw [hi];exact beq_self_eq_true _)]
    rfl
   ·have hk1:k+1<=k1:=by
     rcases Nat.lt_or_eq_of_le h1 with h | h
     ·exact h
     ·rw [← h,e] at h3;cases h3
    obtain ⟨k2,a1,a2,a3,a4⟩:=al0 x (ha:=ha) (h:=h) fuel (k+1) ⟨k1,hk1,by omega,h3⟩
    have eg:probe.go t ha h (fuel+1) (pr t.mask h k)=probe.go t ha h fuel (pr t.mask h (k+1)):=by
     conv=>lhs;unfold probe.go
     rw [e]
     dsimp only
     rw [if_neg (by intro z;exact hi (eq_of_beq z))]
     rfl
    refine ⟨k2,by omega,by omega,fun k' b1 b2=>?_,?_⟩
    ·rcases Nat.lt_or_eq_of_le b1 with b | b
     ·exact a3 k' (by omega) b2
     ·exact ⟨i,by rw [← b];exact e,hi⟩
    ·rw [eg]
     exact a4
def HI (t:SetTable) (es:List (Int × Value)):Prop:=es.length=t.place.size/\∀ (i:Nat) (e:Int × Value) (j:Nat),es[i]?=some e->t.place.toList[i]?=some j->∃ k,(pr t.mask e.1 k).j=j/\∀ k',k' < k->t.slot (pr t.mask e.1 k').j ≠ .empty
theorem HI.found {t:SetTable} {es:List (Int × Value)} (x:TOk t) (hI:HI t es) {h:Int} {k1:Nat} (he:t.slot (pr t.mask h k1).j=.empty) {i:Nat} {e:Int × Value} (hi:es[i]?=some e) (hh:e.1=h):∃ k,k < k1/\t.slot (pr t.mask h k).j=.live i:=by
 have hl:i < t.place.toList.length:=by rw [Array.length_toList,← hI.1];exact (List.getElem?_eq_some_iff.mp hi).1
 obtain ⟨k,e1,e2⟩:=hI.2 i e _ hi (List.getElem?_eq_getElem hl)
 rw [hh] at e1 e2
 have hs:t.slot (pr t.mask h k).j=.live i:=(adx x).mpr (by rw [e1];exact List.getElem?_eq_getElem hl)
 refine ⟨k,?_,hs⟩
 rcases Nat.lt_trichotomy k k1 with a | a | a
 ·exact a
 ·subst a;rw [he] at hs;cases hs
 ·exact absurd he (e2 k1 a)
theorem ins_get {α:Type} (l:List α) (p:Nat) (x : α) (hp:p<=l.length) (i:Nat):(l.take p ++ x :: l.drop p)[i]?=if i < p then l[i]? else if i=p then some x else l[i - 1]?:=by
 have hlen:(l.take p).length=p:=by rw [List.length_take];omega
 by_cases h1:i < p
 ·rw [if_pos h1,List.getElem?_append_left (by omega),List.getElem?_take,if_pos h1]
 ·rw [if_neg h1,List.getElem?_append_right (by omega),hlen]
  by_cases h2:i=p
  ·rw [if_pos h2,h2,Nat.sub_self];rfl
  ·rw [if_neg h2]
   obtain ⟨d,hd⟩:∃ d,i - p=d+1:=⟨i - p - 1,by omega⟩
   rw [hd,List.getElem?_cons_succ,List.getElem?_drop,show p+d=i - 1 by omega]
theorem ady (t:SetTable) (j:Nat):(t.put j).1.place.toList=t.place.toList.take (below t.place j) ++ j :: t.place.toList.drop (below t.place j):=SetTable.toList_insertAt ..
theorem atg (t:SetTable) (j:Nat):(t.put j).1.mask=t.mask:=rfl
theorem TOk.put {t:SetTable} (x:TOk t) {j:Nat} (hj:j<=t.mask) (he:t.slot j=.empty) (hr:t.place.size+1<=t.mask):TOk (t.put j).1:=by
 have hb:=SS.below_ok t.place j x.ris
 refine ⟨?_,?_,fun q hq=>?_,x.two,?_⟩
 ·refine SS.put_rise x.ris fun e=>?_
  exact (adf x).mp he (by rw [← Array.getElem?_toList] at e;exact List.mem_of_getElem? e)
 ·show (if has t.dummies j=true then _ else t.dummies) = #[]
  rw [x.dum,SS.has_nil];rfl
 ·rw [ady] at hq
  rcases List.mem_append.mp hq with h | h
  ·exact x.le q (List.mem_of_mem_take h)
  ·rcases List.mem_cons.mp h with h | h
   ·rw [h];exact hj
   ·exact x.le q (List.mem_of_mem_drop h)
 ·have:(t.put j).1.place.toList.length=t.place.toList.length+1:=by
   rw [ady,List.length_append,List.length_cons,List.length_take,List.length_drop]
   have:=hb.1
   simp only [Array.length_toList]
   omega
  simp only [Array.length_toList] at this
  rw [this]
  exact hr
theorem HI.put {t:SetTable} {es:List (Int × Value)} (x:TOk t) (hI:HI t es) {j:Nat} (hj:j<=t.mask) (hr:t.place.size+1<=t.mask) {e:Int × Value} {k1:Nat} (ej:(pr t.mask e.1 k1).j=j) (he:t.slot j=.empty) (hk:∀ k',k' < k1->t.slot (pr t.mask e.1 k').j ≠ .empty) :
  HI (t.put j).1 (es.take (below t.place j) ++ e :: es.drop (below t.place j)):=by
 have hb:=SS.below_ok t.place j x.ris
 have x':=x.put hj he hr
 have hle:es.length=t.place.toList.length:=by rw [Array.length_toList];exact hI.1
 have hbl:below t.place j<=t.place.toList.length:=by rw [Array.length_toList];exact hb.1
 have hmono:∀ q,t.slot q ≠ .empty->(t.put j).1.slot q ≠ .empty:=fun q hq z=>by
  rw [adf x'] at z
  refine hq ((adf x).mpr fun hm=>z ?_)
  rw [ady]
  rw [← List.take_append_drop (below t.place j) t.place.toList] at hm
  rcases List.mem_append.mp hm with h | h
  ·exact List.mem_append_left _ h
  ·exact List.mem_append_right _ (List.mem_cons_of_mem _ h)
 refine ⟨?_,fun i e' j' hi hj'=>?_⟩
 ·have h1:(t.put j).1.place.toList.length=es.length+1:=by
   rw [ady,List.length_append,List.length_cons,List.length_take,List.length_drop]
   omega
  rw [← Array.length_toList,h1,List.length_append,List.length_cons,List.length_take,List.length_drop]
  omega
 ·rw [ady,ins_get _ _ _ hbl] at hj'
  rw [ins_get _ _ _ (by omega)] at hi
  rw [atg]
  by_cases h1:i < below t.place j
  ·rw [if_pos h1] at hi hj'
   obtain ⟨k,a1,a2⟩:=hI.2 i e' j' hi hj'
   exact ⟨k,a1,fun k' hk'=>hmono _ (a2 k' hk')⟩
  ·rw [if_neg h1] at hi hj'
   by_cases h2:i=below t.place j
   ·rw [if_pos h2] at hi hj'
    cases hi
    cases hj'
    exact ⟨k1,ej,fun k' hk'=>hmono _ (hk k' hk')⟩
   ·rw [if_neg h2] at hi hj'
    obtain ⟨k,a1,a2⟩:=hI.2 (i - 1) e' j' hi hj'
    exact ⟨k,a1,fun k' hk'=>hmono _ (a2 k' hk')⟩
noncomputable def ow (owner:Array (Option Nat)) (j:Nat):Option Nat:=owner.getD j none
theorem apk (f:Nat->Bool):∀ (n:Nat),(∃ k,(List.range n).find? f=some k/\k < n/\f k=true/\∀ k',k' < k->f k'=false)\/((List.range n).find? f=none/\∀ k',k' < n->f k'=false):=fun n=>by
 cases h:(List.range n).find? f with
 | none =>
  refine .inr ⟨rfl,fun k' hk=>?_⟩
  have:=List.find?_eq_none.mp h k' (List.mem_range.mpr hk)
  simpa using this
 | some k =>
  refine .inl ⟨k,rfl,List.mem_range.mp (List.mem_of_find?_eq_some h),List.find?_some h,fun k' hk=>?_⟩
  rw [List.find?_range_eq_some] at h
  have:=h.2.2 k' hk
  simpa using this
theorem aof {mask:Nat} {owner:Array (Option Nat)} (hsz:owner.size=mask+1) {h:Int} {ne je:Nat} (hne:(lp mask h ne).1=je) (hje:ow owner je=none) (hjm:je<=mask):∀ (fuel n:Nat),n+fuel > ne->n<=ne->(∀ s',s' < sp mask h n->ow owner (pr mask h s').j ≠ none) ->
  ∃ s,layClean.free mask owner fuel (lp mask h n).1 (lp mask h n).2=some (pr mask h s).j/\ow owner (pr mask h s).j=none/\(pr mask h s).j<=mask/\∀ s',s' < s->ow owner (pr mask h s').j ≠ none
 | 0,n,h1,h2,_=>by omega
 | fuel+1,n,h1,h2,hall=>by
  have hl:=auj mask h n
  have hrun:runEnd mask (lp mask h n).1<=mask/\(lp mask h n).1<=runEnd mask (lp mask h n).1:=by unfold runEnd;split <;> omega
  have hg:∀ j,j<=mask->owner.getD j (some 0)=ow owner j:=fun j hj=>by
   unfold ow
   simp [Array.getD,hsz,show j < mask+1 by omega]
  have hat:∀ a,a<=runEnd mask (lp mask h n).1 - (lp mask h n).1->(pr mask h (sp mask h n+a)).j=(lp mask h n).1+a:=fun a ha=>by rw [alz (apj mask h n) a ha];rfl
  have hrest:∀ K,K<=runEnd mask (lp mask h n).1 - (lp mask h n).1+1->(∀ k',k' < K->(owner.getD ((lp mask h n).1+k') (some 0)).isNone=false)->∀ s',s' < sp mask h n+K->ow owner (pr mask h s').j ≠ none:=fun K hK hf s' hs'=>by
   by_cases hs:s' < sp mask h n
   ·exact hall s' hs
   ·obtain ⟨a,rfl⟩:∃ a,s'=sp mask h n+a:=⟨s' - sp mask h n,by omega⟩
    rw [hat a (by omega),← hg _ (by omega)]
    intro z
    have:=hf a (by omega)
    rw [z] at this
    cases this
  unfold layClean.free
  rcases apk (fun k=>(owner.getD ((lp mask h n).1+k) (some 0)).isNone) (runEnd mask (lp mask h n).1+1 - (lp mask h n).1) with ⟨k,e,hk,hfk,hfb⟩ | ⟨e,hf⟩
  ·rw [e]
   refine ⟨sp mask h n+k,by rw [hat k (by omega)],?_,by rw [hat k (by omega)];omega,hrest k (by omega) hfb⟩
   rw [hat k (by omega),← hg _ (by omega)]
   simpa using hfk
  ·rw [e]
   have hne':n ≠ ne:=fun z=>by
    subst z
    have:=hf 0 (by omega)
    rw [Nat.add_zero,hne,hg je hjm,hje] at this
    cases this
   have ih:=aof hsz hne hje hjm fuel (n+1) (by omega) (by omega) (fun s' hs'=>hrest _ (Nat.le_refl _) (fun k' hk'=>hf k' (by omega)) s' (by
    have:sp mask h (n+1)=sp mask h n+(runEnd mask (lp mask h n).1 - (lp mask h n).1)+1:=rfl
    omega))
   exact ih
structure Lay (mask:Nat) (hs:List Int) (owner:Array (Option Nat)):Prop where
 sz:owner.size=mask+1
 at':∀ k h,hs[k]?=some h->∃ s,(pr mask h s).j<=mask/\ow owner (pr mask h s).j=some k/\∀ s',s' < s->ow owner (pr mask h s').j ≠ none
 un:∀ j k,ow owner j=some k->k < hs.length
 inj:∀ j j' k,ow owner j=some k->ow owner j'=some k->j=j'
theorem ayw {owner:Array (Option Nat)} {j:Nat} (h:owner.size<=j):ow owner j=none:=by
 unfold ow
 simp [Array.getD,show ¬ (j < owner.size) by omega]
theorem Lay.start (mask:Nat):Lay mask [] (Array.replicate (mask+1) none):=by
 have hn:∀ j,ow (Array.replicate (mask+1) none) j=none:=fun j=>by
  unfold ow
  simp only [Array.getD]
  split
  ·simp
  ·rfl
 exact ⟨by simp,fun k h hk=>by simp at hk,fun j k e=>(by rw [hn] at e;cases e),fun j j' k e=>(by rw [hn] at e;cases e)⟩
theorem Lay.gap {mask:Nat} {hs:List Int} {owner:Array (Option Nat)} (x:Lay mask hs owner) (hl:hs.length<=mask):∃ j,j<=mask/\ow owner j=none:=by
 apply Classical.byContradiction
 intro hn
 have hall:∀ j,j<=mask->∃ k,ow owner j=some k:=fun j hj=>by
  cases e:ow owner j with
  | some k=>exact ⟨k,rfl⟩
  | none=>exact absurd ⟨j,hj,e⟩ hn
 have hnd:((List.range (mask+1)).map fun j=>(ow owner j).getD 0).Nodup:=by
  rw [List.Nodup,List.pairwise_map]
  refine List.Pairwise.imp_of_mem (fun {a b} ha hb hab=>?_) List.nodup_range
  obtain ⟨k,hk⟩:=hall a (by have:=List.mem_range.mp ha;omega)
  obtain ⟨k',hk'⟩:=hall b (by have:=List.mem_range.mp hb;omega)
  rw [hk,hk']
  intro e
  have e:k=k':=e
  subst e
  exact hab (x.inj a b k hk hk')
 have:=List.Nodup.length_le_of_subset (l₂:=List.range hs.length) hnd fun k hk=>by
  obtain ⟨j,hj,rfl⟩:=List.mem_map.mp hk
  obtain ⟨k,e⟩:=hall j (by have:=List.mem_range.mp hj;omega)
  rw [e]
  exact List.mem_range.mpr (x.un j k e)
 rw [List.length_map,List.length_range,List.length_range] at this
 omega
theorem af6 {owner:Array (Option Nat)} {j q:Nat} {o:Option Nat} (hj:j < owner.size):ow (owner.setIfInBounds j o) q=if q=j then o else ow owner q:=by
 unfold ow
 simp only [Array.getD,Array.size_setIfInBounds]
 by_cases e:q=j
 ·subst e
  simp [hj]
 ·rw [if_neg e]
  split
  ·rename_i hq
   simp [Array.getElem_setIfInBounds,hq,Ne.symm e]
  ·rfl
theorem Lay.next {mask m:Nat} (hm:mask+1=2 ^ m) {hs:List Int} {owner:Array (Option Nat)} (x:Lay mask hs owner) (hl:hs.length<=mask) (h:Int) :
  ∃ j,layClean.free mask owner (turns mask) (bits h % (mask+1)) (bits h)=some j/\Lay mask (hs ++ [h]) (owner.setIfInBounds j (some hs.length)):=by
 obtain ⟨je,hje,he⟩:=x.gap hl
 obtain ⟨ne,hne,el⟩:=aq4 hm h je hje
 obtain ⟨s,e1,e2,e3,e4⟩:=aof x.sz el he hje (turns mask) 0 (by unfold turns;omega) (Nat.zero_le _) (fun s' hs'=>by cases hs')
 have hjs:(pr mask h s).j < owner.size:=by rw [x.sz];omega
 have hmono:∀ q,ow owner q ≠ none->ow (owner.setIfInBounds (pr mask h s).j (some hs.length)) q ≠ none:=fun q hq=>by
  rw [af6 hjs]
  split
  ·simp
  ·exact hq
 refine ⟨_,e1,⟨by rw [Array.size_setIfInBounds];exact x.sz,fun k h' hk=>?_,fun j k e=>?_,fun j j' k e e'=>?_⟩⟩
 ·by_cases hkl:k < hs.length
  ·rw [List.getElem?_append_left hkl] at hk
   obtain ⟨s2,a1,a2,a3⟩:=x.at' k h' hk
   refine ⟨s2,a1,?_,fun s' hs'=>hmono _ (a3 s' hs')⟩
   rw [af6 hjs,if_neg (fun z=>by rw [z,e2] at a2;cases a2)]
   exact a2
  ·have hk2:=(List.getElem?_eq_some_iff.mp hk).1
   rw [List.length_append] at hk2
   simp at hk2
   have:k=hs.length:=by omega
   subst this
   rw [List.getElem?_append_right (Nat.le_refl _),Nat.sub_self] at hk
   cases hk
   exact ⟨s,e3,by rw [af6 hjs,if_pos rfl],fun s' hs'=>hmono _ (e4 s' hs')⟩
 ·rw [af6 hjs] at e
  rw [List.length_append]
  split at e
  ·cases e;simp
  ·have:=x.un j k e;omega
 ·rw [af6 hjs] at e e'
  split at e
  ·rename_i h1
   cases e
   split at e'
   ·rename_i h2;rw [h1,h2]
   ·have:=x.un j' _ e';omega
  ·split at e'
   ·cases e'
    have:=x.un j _ e;omega
   ·exact x.inj j j' k e e'
theorem al1 {mask m:Nat} (hm:mask+1=2 ^ m):∀ (rest pre:List Int) (owner:Array (Option Nat)),Lay mask pre owner->pre.length+rest.length<=mask+1 ->
  ∃ owner',rest.foldl (fun (acc:Option (Array (Option Nat) × Nat)) h=>do
   let (owner,k) ← acc
   let j ← layClean.free mask owner (turns mask) (bits h % (mask+1)) (bits h)
   pure (owner.setIfInBounds j (some k),k+1)) (some (owner,pre.length))=some (owner',pre.length+rest.length)/\Lay mask (pre ++ rest) owner'
 | [],pre,owner,x,_=>⟨owner,rfl,by rw [List.append_nil];exact x⟩
 | h :: rest,pre,owner,x,hl=>by
  rw [List.length_cons] at hl
  obtain ⟨j,e,y⟩:=x.next hm (by omega) h
  obtain ⟨o',a1,a2⟩:=al1 hm rest (pre ++ [h]) _ y (by rw [List.length_append,List.length_singleton];omega)
  refine ⟨o',?_,by rw [List.append_assoc] at a2;exact a2⟩
  rw [List.length_append,List.length_singleton] at a1
  rw [List.foldl_cons,List.length_cons]
  have e0:(do
   let (owner,k) ← (some (owner,pre.length):Option (Array (Option Nat) × Nat))
   let j ← layClean.free mask owner (turns mask) (bits h % (mask+1)) (bits h)
   pure (owner.setIfInBounds j (some k),k+1))=some (owner.setIfInBounds j (some pre.length),pre.length+1):=by
   show (layClean.free mask owner (turns mask) (bits h % (mask+1)) (bits h) >>= fun j=>pure (owner.setIfInBounds j (some pre.length),pre.length+1))=_
   rw [e]
   rfl
  rw [e0,a1]
  congr 2
  omega
theorem ayx {mask m:Nat} (hm:mask+1=2 ^ m) (hs:Array Int) (hl:hs.size<=mask+1):∃ owner,layClean mask hs=some owner/\Lay mask hs.toList owner:=by
 obtain ⟨o,e,x⟩:=al1 hm hs.toList [] _ (Lay.start mask) (by simpa using hl)
 refine ⟨o,?_,by simpa using x⟩
 unfold layClean
 rw [← Array.foldl_toList]
 have e':hs.toList.foldl (fun (acc:Option (Array (Option Nat) × Nat)) h=>do
   let (owner,k) ← acc
   let j ← layClean.free mask owner (turns mask) (bits h % (mask+1)) (bits h)
   pure (owner.setIfInBounds j (some k),k+1)) (some (Array.replicate (mask+1) none,0))=_:=e
 rw [e']
 rfl
noncomputable def live (owner:Array (Option Nat)) (mask:Nat):List (Nat × Nat):=(List.range (mask+1)).filterMap fun j=>(owner.getD j none).map (j,·)
theorem live_mem {owner:Array (Option Nat)} {mask j k:Nat}:(j,k)∈live owner mask ↔ j<=mask/\ow owner j=some k:=by
 unfold live ow
 rw [List.mem_filterMap]
 constructor
 ·rintro ⟨j',hj,e⟩
  have hj:=List.mem_range.mp hj
  cases h:owner.getD j' none with
  | none=>rw [h] at e;cases e
  | some k'=>rw [h] at e;cases e;exact ⟨by omega,h⟩
 ·rintro ⟨hj,e⟩
  exact ⟨j,List.mem_range.mpr (by omega),by rw [e];rfl⟩
theorem awe {mask:Nat} {hs:List Int} {owner:Array (Option Nat)} (x:Lay mask hs owner):((live owner mask).map (·.2)).Nodup:=by
 rw [List.Nodup,List.pairwise_map]
 have h1:((live owner mask).map (·.1)).Pairwise (· < ·):=SS.live_rise owner (mask+1)
 rw [List.pairwise_map] at h1
 refine List.Pairwise.imp_of_mem (fun {a b} ha hb hab e=>?_) h1
 obtain ⟨j,k⟩:=a
 obtain ⟨j',k'⟩:=b
 have e:k=k':=e
 subst e
 have:=x.inj j j' k (live_mem.mp ha).2 (live_mem.mp hb).2
 have hab:j < j':=hab
 omega
theorem aq6 {mask:Nat} {hs:List Int} {owner:Array (Option Nat)} (x:Lay mask hs owner):((live owner mask).map (·.2)).Perm (List.range hs.length):=by
 refine (List.perm_ext_iff_of_nodup (awe x) List.nodup_range).mpr fun k=>?_
 rw [List.mem_map,List.mem_range]
 constructor
 ·rintro ⟨⟨j,k'⟩,h,rfl⟩
  exact x.un j _ (live_mem.mp h).2
 ·intro h
  obtain ⟨s,a1,a2,_⟩:=x.at' k _ (List.getElem?_eq_getElem h)
  exact ⟨((pr mask hs[k] s).j,k),live_mem.mpr ⟨a1,a2⟩,rfl⟩
theorem ajg {α:Type} (xs:List α) (d : α):∀ (l:List Nat),(∀ k∈l,k < xs.length)->l.filterMap (xs[·]?)=l.map fun k=>xs.getD k d
 | [],_=>rfl
 | k :: l,h=>by
  have hk:=h k List.mem_cons_self
  rw [List.filterMap_cons,List.getElem?_eq_getElem hk,List.map_cons,ajg xs d l fun q hq=>h q (List.mem_cons_of_mem _ hq),List.getD_eq_getElem?_getD,List.getElem?_eq_getElem hk]
  rfl
theorem awf {mask m finger moves:Nat} {led plain:Bool} (hm:mask+1=2 ^ m) (es:Array (Int × Value)) (hl:es.size<=mask) :
  ∃ t order es',laid mask finger moves led plain (es.map (·.1))=some (t,order)/\order.filterMap (es[·]?)=es'/\es'.size=es.size/\es'.toList.Perm es.toList/\TOk t/\HI t es'.toList/\t.mask=mask/\t.place.size=es.size/\t.led=led/\t.plain=plain:=by
 obtain ⟨owner,e,x⟩:=ayx hm (es.map (·.1)) (by simp;omega)
 have hlen:(es.map (·.1)).toList.length=es.size:=by simp
 have hp:=aq6 x
 rw [hlen] at hp
 have hll:(live owner mask).length=es.size:=by have:=hp.length_eq;simpa using this
 have hout:=ajg es.toList (0,Value.none) ((live owner mask).map (·.2)) fun k hk=>by rw [Array.length_toList];exact List.mem_range.mp (hp.mem_iff.mp hk)
 have hes:((((live owner mask).map (·.2)).toArray).filterMap (es[·]?)).toList=((live owner mask).map (·.2)).map fun k=>es.toList.getD k (0,.none):=by
  rw [← hout]
  simp
 have hpl:(((live owner mask).map (·.1)).toArray).toList=(live owner mask).map (·.1):=by simp
 have x':TOk { mask,place:=((live owner mask).map (·.1)).toArray,dummies:=#[],finger,led,moves,plain }:=by
  refine ⟨by show (((live owner mask).map (·.1)).toArray).toList.Pairwise _;rw [hpl];exact SS.live_rise owner (mask+1),rfl,fun j hj=>?_,⟨m,hm⟩,?_⟩
  ·have hj:j∈(live owner mask).map (·.1):=by simpa using hj
   obtain ⟨⟨j',k⟩,h,rfl⟩:=List.mem_map.mp hj
   exact (live_mem.mp h).1
  ·simp only [List.size_toArray,List.length_map]
   omega
 refine ⟨_,_,_,by unfold laid;rw [e];rfl,rfl,?_,?_,x',⟨?_,fun i q j hi hj=>?_⟩,rfl,?_,rfl,rfl⟩
 ·rw [← Array.length_toList]
  refine Eq.trans (congrArg List.length hes) ?_
  rw [List.length_map,List.length_map]
  exact hll
 ·refine (List.Perm.of_eq hes).trans ?_
  have h2:es.toList=(List.range es.size).map fun k=>es.toList.getD k (0,.none):=by
   refine List.ext_getElem? fun k=>?_
   rw [List.getElem?_map]
   by_cases hk:k < es.size
   ·rw [List.getElem?_range hk,List.getElem?_eq_getElem (by rw [Array.length_toList];exact hk),Option.map_some,List.getD_eq_getElem?_getD,List.getElem?_eq_getElem (by rw [Array.length_toList];exact hk)]
    rfl
   ·rw [List.getElem?_eq_none (by rw [Array.length_toList];omega),List.getElem?_eq_none (by rw [List.length_range];omega)]
    rfl
  refine (hp.map _).trans ?_
  rw [← h2]
 ·refine Eq.trans (congrArg List.length hes) ?_
  rw [List.length_map,List.length_map]
  simp
 ·have hi:=(congrArg (·[i]?) hes).symm.trans hi
  have hj:((live owner mask).map (·.1))[i]?=some j:=by simpa using hj
  rw [List.map_map,List.getElem?_map] at hi
  rw [List.getElem?_map] at hj
  cases hli:(live owner mask)[i]? with
  | none=>rw [hli] at hj;cases hj
  | some p =>
   obtain ⟨j',k⟩:=p
   rw [hli] at hi hj
   cases hj
   have hjk:=live_mem.mp (List.mem_of_getElem? hli)
   have hkl:k < es.size:=by have:=x.un _ _ hjk.2;rwa [hlen] at this
   have hq:q=es.toList.getD k (0,.none):=by simpa using hi.symm
   have hh:(es.map (·.1)).toList[k]?=some q.1:=by
    rw [hq,Array.toList_map,List.getElem?_map,List.getElem?_eq_getElem (by rw [Array.length_toList];exact hkl),List.getD_eq_getElem?_getD,List.getElem?_eq_getElem (by rw [Array.length_toList];exact hkl)]
    rfl
   obtain ⟨s,a1,a2,a3⟩:=x.at' k _ hh
   refine ⟨s,x.inj _ _ k a2 hjk.2,fun s' hs' z=>?_⟩
   have hn:=a3 s' hs'
   cases ho:ow owner (pr mask q.1 s').j with
   | none=>exact hn ho
   | some k' =>
    have hjm:(pr mask q.1 s').j<=mask:=by
     apply Classical.byContradiction
     intro hgt
     rw [ayw (by rw [x.sz];omega)] at ho
     cases ho
    refine (adf x').mp z ?_
    show _∈(((live owner mask).map (·.1)).toArray).toList
    rw [hpl]
    exact List.mem_map.mpr ⟨_,live_mem.mpr ⟨hjm,ho⟩,rfl⟩
 ·simp only [List.size_toArray,List.length_map]
  exact hll
theorem al2 (n:Nat):∀ (fuel a:Nat),n < 2 ^ (a+fuel)->∃ b,sizeAbove.go n fuel (2 ^ a)=2 ^ b/\n < 2 ^ b/\a<=b/\(2 ^ b=2 ^ a\/2 ^ b<=2 * n)
 | 0,a,h=>⟨a,rfl,by simpa using h,Nat.le_refl _,.inl rfl⟩
 | fuel+1,a,h=>by
  unfold sizeAbove.go
  by_cases hs:2 ^ a<=n
  ·rw [if_pos hs,← Nat.pow_succ]
   obtain ⟨b,h1,h2,h3,h4⟩:=al2 n fuel (a+1) (by rw [show a+1+fuel=a+(fuel+1) by omega];exact h)
   refine ⟨b,h1,h2,by omega,.inr ?_⟩
   rcases h4 with h4 | h4
   ·rw [h4,Nat.pow_succ];omega
   ·exact h4
  ·rw [if_neg hs]
   exact ⟨a,rfl,by omega,Nat.le_refl _,.inl rfl⟩
theorem ath {n:Nat} (h:n<=100000):∃ m,sizeAbove n=2 ^ m/\n < 2 ^ m/\3<=m/\(2 ^ m=8\/2 ^ m<=2 * n):=by
 obtain ⟨b,h1,h2,h3,h4⟩:=al2 n 64 3 (Nat.lt_of_le_of_lt h (by decide))
 exact ⟨b,h1,h2,h3,h4⟩
theorem aq7 {m n:Nat} (h:2 ^ m<=2 * n) (hn:n < 8192):2 ^ m<=8192:=by
 apply Classical.byContradiction
 intro hc
 have:13 < m:=(Nat.pow_lt_pow_iff_right (a:=2) (by decide)).mp (by show 2 ^ 13 < 2 ^ m;omega)
 have:=Nat.pow_le_pow_right (n:=2) (by decide) (show 14<=m by omega)
 omega
end SH
namespace SH
open PySem PySem.W PyProof.Rows
section
variable {prog:Program} {w:World} {A:Around} {E:Value->Shared->Prop} {s:Shared} {U:Addr->Prop}
noncomputable abbrev TK (prog:Program) (w:World):=tupleKind (intKind prog w)
theorem agy {ks:List Int} {a:Addr} {Q:Bool->Shared->Prop} (hk:(TK prog w).is s.heap ks a) (h:Q false s):wpAny (model prog w) A (ofAClassStatement 8 (.ref a)) Q E s:=by
 have hT:=IsTupleKey.typeIs hk
 obtain ⟨o,items,n,ho,_,hd,hi⟩:=hk
 unfold ofAClassStatement
 refine wpAny_bind (wpAny_typeOf hT ?_)
 show wpAny _ _ (pure true >>= _) _ _ s
 refine wpAny_bind (wpAny_pure ?_)
 simp only [Bool.not_true,Bool.false_eq_true,if_false]
 refine wpAny_bind (wpAny_seqItems ho hd ?_)
 refine wpAny_bind ?_
 show wpAny _ _ (forIn items _ _) _ _ s
 rw [← Array.forIn_toList]
 refine wpAny_forIn_list _ (fun rest r s'=>r.1=none/\s'=s/\∀ v∈rest,carriedByValue v=true) _ ?_ ?_ _ _ ⟨rfl,rfl,hi.byValue⟩
 ·rintro v rest r s' ⟨hr,rfl,hall⟩
  have hv:=hall v List.mem_cons_self
  have e:ofAClassStatement 7 v=pure false:=by
   cases v <;> first | (simp [carriedByValue] at hv;done) | (unfold ofAClassStatement;rfl)
  rw [e]
  refine wpAny_bind (wpAny_pure ?_)
  simp only [Bool.false_eq_true,if_false]
  exact wpAny_pure ⟨rfl,rfl,fun u hu'=>hall u (List.mem_cons_of_mem _ hu')⟩
 ·rintro ⟨r1,r2⟩ s' ⟨hr,rfl,_⟩
  simp only at hr
  subst hr
  exact wpAny_pure h
theorem apl {ks:List Int} {vs:List Value} (h:ItemsAre (intKind prog w) ks vs):∀ v∈vs,∃ i t,v=.int i t:=by
 induction h with
 | nil=>intro v hv;cases hv
 | cons h1 _ ih =>
  intro v hv
  rcases List.mem_cons.mp hv with rfl | hv
  ·obtain ⟨t,rfl⟩:=Value.isInt_shape h1
   exact ⟨_,t,rfl⟩
  ·exact ih v hv
theorem amu {ks:List Int} {a:Addr} {Q:Bool->Shared->Prop} (hk:(TK prog w).is s.heap ks a) (h:Q true s):wpAny (model prog w) A (hashByValue 8 (.ref a)) Q E s:=by
 have hT:=IsTupleKey.typeIs hk
 obtain ⟨o,items,n,ho,_,hd,hi⟩:=hk
 unfold hashByValue
 refine wpAny_bind (wpAny_specialOf hT F.slot_tuple_hash.lookup ?_)
 show wpAny _ _ (seqItems? (.ref a) >>= _) _ _ s
 refine wpAny_bind (wpAny_seqItems ho hd ?_)
 refine wpAny_bind ?_
 show wpAny _ _ (forIn items _ _) _ _ s
 rw [← Array.forIn_toList]
 refine wpAny_forIn_list _ (fun rest r s'=>r.1=none/\s'=s/\∀ v∈rest,∃ i t,v=Value.int i t) _ ?_ ?_ _ _ ⟨rfl,rfl,apl hi⟩
 ·rintro v rest r s' ⟨hr,rfl,hall⟩
  obtain ⟨i,t,rfl⟩:=hall v List.mem_cons_self
  have e:hashByValue 7 (.int i t)=pure true:=by unfold hashByValue;rfl
  rw [e]
  refine wpAny_bind (wpAny_pure ?_)
  simp only [Bool.not_true,Bool.false_eq_true,if_false]
  exact wpAny_pure ⟨rfl,rfl,fun u hu'=>hall u (List.mem_cons_of_mem _ hu')⟩
 ·rintro ⟨r1,r2⟩ s' ⟨hr,rfl,_⟩
  simp only at hr
  subst hr
  exact wpAny_pure h
theorem ayy {k0:List Int} {b0:Addr} {stored:List Value} {Q:Bool->Shared->Prop} (hk:(TK prog w).is s.heap k0 b0) (hst:∀ v∈stored,∃ k b,v=.ref b/\(TK prog w).is s.heap k b) (h:Q false s):wpAny (model prog w) A (searchCouldBeSeen (.ref b0) stored) Q E s:=by
 unfold searchCouldBeSeen
 refine wpAny_bind ?_
 refine wpAny_forIn_list _ (fun rest r s'=>r.1=none/\s'=s/\∀ v∈rest,∃ k b,v=.ref b/\(TK prog w).is s.heap k b) _ ?_ ?_ _ _ ⟨rfl,rfl,hst⟩
 ·rintro v rest r s' ⟨hr,rfl,hall⟩
  obtain ⟨k,b,rfl,hb⟩:=hall v List.mem_cons_self
  have hrest:∀ u∈rest,∃ k b,u=Value.ref b/\(TK prog w).is s'.heap k b:=fun u hu'=>hall u (List.mem_cons_of_mem _ hu')
  dsimp only
  split
  ·exact wpAny_pure ⟨rfl,rfl,hrest⟩
  ·refine wpAny_bind ((TK prog w).quiet hk ?_)
   simp only [Bool.not_true,Bool.false_eq_true,if_false]
   refine wpAny_bind ((TK prog w).quiet hb ?_)
   simp only [Bool.not_true,Bool.false_eq_true,if_false]
   refine wpAny_bind (agy hk ?_)
   simp only [Bool.false_eq_true,if_false]
   refine wpAny_bind (agy hb ?_)
   simp only [Bool.false_eq_true,if_false]
   exact wpAny_pure ⟨rfl,rfl,hrest⟩
 ·rintro ⟨r1,r2⟩ s' ⟨hr,rfl,_⟩
  simp only at hr
  subst hr
  exact wpAny_pure h
theorem az8 (mask:Nat) (h:Int):∀ k,(pr mask h k).j+(pr mask h k).more<=mask:=fun k=>by
 have run:∀ i,i < mask+1->i+(SetTable.runEnd mask i - i)<=mask:=fun i hi=>by unfold SetTable.runEnd;split <;> omega
 induction k with
 | zero=>exact run _ (Nat.mod_lt _ (Nat.succ_pos _))
 | succ k ih =>
  show (adv mask (pr mask h k)).j+(adv mask (pr mask h k)).more<=mask
  unfold adv
  split
  ·dsimp only;omega
  ·exact run _ (Nat.mod_lt _ (Nat.succ_pos _))
structure ST (prog:Program) (w:World) (U:Addr->Prop) (a:Addr) (es:Array (Int × Value)) (ep:Nat) (t:SetTable) (ks:List (List Int)) (h:Heap):Prop where
 r:SS.SetR prog w a es ep t h
 ok:TOk t
 hi:HI t es.toList
 pl:t.plain=true
 msk:7<=t.mask/\t.mask<=8191
 len:ks.length=es.size
 gd:∀ (i:Nat) e k,es.toList[i]?=some e->ks[i]?=some k->∃ b,e=((TK prog w).hash k,.ref b)/\(TK prog w).is h k b/\U b
 nd:ks.Nodup
theorem ST.stored {a:Addr} {es:Array (Int × Value)} {ep:Nat} {t:SetTable} {ks:List (List Int)} {h:Heap} (x:ST prog w U a es ep t ks h) {e:Int × Value} (he:e∈es.toList):∃ k b,e=((TK prog w).hash k,.ref b)/\(TK prog w).is h k b/\U b:=by
 obtain ⟨i,hi⟩:=List.getElem?_of_mem he
 have hl:i < ks.length:=by rw [x.len,← Array.length_toList];exact (List.getElem?_eq_some_iff.mp hi).1
 obtain ⟨b,h1,h2⟩:=x.gd i e _ hi (List.getElem?_eq_getElem hl)
 exact ⟨_,b,h1,h2⟩
theorem amv {a b0:Addr} {es:Array (Int × Value)} {ep:Nat} {t:SetTable} {ks:List (List Int)} {kx:List Int} {Q:SetFound->Shared->Prop} (hu:(TK prog w).room A) (x:ST prog w U a es ep t ks s.heap) (hk:(TK prog w).is s.heap kx b0)
  (h1:kx∈ks->Q (.there none) s) (h2:kx ∉ ks->∀ k1,(pr t.mask ((TK prog w).hash kx) k1).j<=t.mask->t.slot (pr t.mask ((TK prog w).hash kx) k1).j=.empty->(∀ k',k' < k1->t.slot (pr t.mask ((TK prog w).hash kx) k').j ≠ .empty)->Q (.free (pr t.mask ((TK prog w).hash kx) k1).j false) s) :
  ∀ (fuel k0:Nat) (stand:Option SetTable.Probe),fuel+k0 > 10 * SetTable.turns t.mask->stand.getD (t.probeStart ((TK prog w).hash kx))=pr t.mask ((TK prog w).hash kx) k0->(∀ k',k' < k0->∃ i,t.slot (pr t.mask ((TK prog w).hash kx) k').j=.live i/\ks[i]? ≠ some kx) ->
   wpAny (model prog w) A (setSearchFrom a (.ref b0) ((TK prog w).hash kx) true fuel stand) Q E s:=by
 obtain ⟨o,ho,hx,hd,hf,hT⟩:=id x.r
 generalize hhx:(TK prog w).hash kx=hx0 at *
 obtain ⟨je,hje,hjee⟩:=aq5 x.ok
 obtain ⟨m,hm⟩:=x.ok.two
 obtain ⟨ke,hke,ekj⟩:=ayv hm hx0 je hje
 have hgw:t.gaveWay=false:=by
  unfold SetTable.gaveWay
  have:m ≠ 0:=fun z=>by rw [z] at hm;have:=x.msk.1;simp at hm;omega
  obtain ⟨m',rfl⟩:=Nat.exists_eq_succ_of_ne_zero this
  rw [Nat.pow_succ] at hm
  have:t.mask % 2=1:=by omega
  rw [this];rfl
 intro fuel
 induction fuel with
 | zero =>
  intro k0 stand hfu _ hinv
  exfalso
  obtain ⟨i,hi,_⟩:=hinv ke (by omega)
  rw [ekj,hjee] at hi
  cases hi
 | succ fuel ih =>
  intro k0 stand hfu hst hinv
  have hk0:k0<=ke:=by
   apply Classical.byContradiction
   intro hc
   obtain ⟨i,hi,_⟩:=hinv ke (by omega)
   rw [ekj,hjee] at hi
   cases hi
  unfold setSearchFrom
  refine wpAny_bind (wpAny_setState_of ho hd hf ?_)
  dsimp only
  rw [hgw]
  simp only [Bool.false_eq_true,if_false]
  rw [hst]
  obtain ⟨k1,a1,a2,a3,a4⟩:=al0 x.ok (ha:=fun i=>(es[i]?.map (·.1)).getD 0) (h:=hx0) (10 * SetTable.turns t.mask) k0 ⟨ke,hk0,by omega,by rw [ekj];exact hjee⟩
  have hbefore:∀ k',k' < k1->∃ i,t.slot (pr t.mask hx0 k').j=.live i/\ks[i]? ≠ some kx:=fun k' hk'=>by
   by_cases hkk:k' < k0
   ·exact hinv k' hkk
   ·obtain ⟨i,hi,hne⟩:=a3 k' (by omega) hk'
    refine ⟨i,hi,fun hks=>?_⟩
    have hpl:=(adx x.ok).mp hi
    have hil:i < es.toList.length:=by rw [x.hi.1,← Array.length_toList];exact (List.getElem?_eq_some_iff.mp hpl).1
    obtain ⟨b,e1,_⟩:=x.gd i _ _ (List.getElem?_eq_getElem hil) hks
    apply hne
    rw [← Array.getElem?_toList,List.getElem?_eq_getElem hil,e1]
    exact hhx
  generalize hp:t.probe _ hx0 (pr t.mask hx0 k0)=pp
  rcases a4 with ⟨e,ep'⟩ | ⟨i,e,hei,ep'⟩
  ·have hpp:pp=some (.empty (pr t.mask hx0 k1).j none):=hp.symm.trans ep'
   subst hpp
   dsimp only
   refine wpAny_pure (h2 (fun hm=>?_) k1 ?_ e fun k' hk' z=>?_)
   ·obtain ⟨i,hi⟩:=List.getElem?_of_mem hm
    have hil:i < es.toList.length:=by rw [Array.length_toList,← x.len];exact (List.getElem?_eq_some_iff.mp hi).1
    obtain ⟨b,e1,_⟩:=x.gd i _ _ (List.getElem?_eq_getElem hil) hi
    obtain ⟨k,hk,hs⟩:=x.hi.found x.ok e (List.getElem?_eq_getElem hil) (by rw [e1];exact hhx)
    obtain ⟨i',hs',hne⟩:=hbefore k hk
    rw [hs] at hs'
    cases hs'
    exact hne hi
   ·exact Nat.le_trans (Nat.le_add_right _ _) (az8 t.mask hx0 k1)
   ·obtain ⟨i,hi,_⟩:=hbefore k' hk'
    rw [z] at hi
    cases hi
  ·have hpp:pp=some (.candidate (pr t.mask hx0 k1).j i (pr t.mask hx0 (k1+1))):=hp.symm.trans ep'
   subst hpp
   have hpl:=(adx x.ok).mp e
   have hil:i < es.toList.length:=by rw [x.hi.1,← Array.length_toList];exact (List.getElem?_eq_some_iff.mp hpl).1
   have hikl:i < ks.length:=by rw [x.len,← Array.length_toList];exact hil
   obtain ⟨b,e1,e2⟩:=x.gd i _ _ (List.getElem?_eq_getElem hil) (List.getElem?_eq_getElem hikl)
   have hes:es[i]?=some ((TK prog w).hash ks[i],.ref b):=by rw [← Array.getElem?_toList,List.getElem?_eq_getElem hil,e1]
   have rest:wpAny (model prog w) A (do
     let some (_,y):=es[i]? | unsupported "internal:set-entry"
     let equal ← holding [y] (eqBool y (.ref b0))
     let (es',_,t') ← setState a
     if true && equal then return .there none
     let some same:=t'.sameMemory t.moves t.mask | unsupported "set.changed-during-lookup:is-the-new-block-at-the-old-address"
     let still ← match (if same then t'.slot (pr t.mask hx0 k1).j else .empty) with
      | .live i'=>match es'[i']? with
       | some (_,y')=>do pure (if ← isSame y' y then some i' else none)
       | none=>pure none
      | _=>pure none
     match still with
     | none=>rule "set.search.anew";setSearchFrom a (.ref b0) hx0 true fuel none
     | some i'=>if equal then return .there (some i') else setSearchFrom a (.ref b0) hx0 true fuel (some (pr t.mask hx0 (k1+1)))) Q E s:=by
    rw [hes]
    dsimp only
    refine wpAny_bind (wpAny_holding ((TK prog w).eqBool hu e2.1 hk ?_))
    refine wpAny_bind (wpAny_setState_of ho hd hf ?_)
    dsimp only
    by_cases heq:ks[i]=kx
    ·rw [decide_eq_true heq]
     simp only [Bool.and_self,if_true]
     exact wpAny_pure (h1 (by rw [← heq];exact List.getElem_mem hikl))
    ·rw [decide_eq_false heq]
     simp only [Bool.and_false,Bool.false_eq_true,if_false]
     have hsm:t.sameMemory t.moves t.mask=some true:=by
      unfold SetTable.sameMemory
      rw [if_pos (beq_self_eq_true _)]
     rw [hsm]
     dsimp only
     rw [if_pos rfl,e]
     dsimp only
     rw [hes]
     dsimp only
     refine wpAny_bind (wpAny_isSame_ref_self ?_)
     refine wpAny_bind (wpAny_pure ?_)
     rw [if_pos rfl]
     dsimp only
     refine ih (k1+1) (some _) (by omega) rfl fun k' hk'=>?_
     rcases Nat.lt_or_eq_of_le (Nat.le_of_lt_succ hk') with hlt | heq'
     ·exact hbefore k' hlt
     ·refine ⟨i,by rw [heq'];exact e,fun z=>heq ?_⟩
      rw [List.getElem?_eq_getElem hikl] at z
      exact Option.some.inj z
   dsimp only
   cases hled:t.led with
   | true =>
    simp only [Bool.not_true,Bool.false_eq_true,if_false]
    exact rest
   | false =>
    simp only [Bool.not_false,if_true]
    refine wpAny_bind (ayy hk (fun v hv=>?_) ?_)
    ·obtain ⟨q,hq,rfl⟩:=List.mem_map.mp hv
     have hq:q∈es.toList:=by
      have:=Array.mem_toList_iff.mp hq
      exact Array.mem_toList_iff.mpr (Array.mem_filter.mp this).1
     obtain ⟨k,b,rfl,hb⟩:=x.stored hq
     exact ⟨k,b,rfl,hb.1⟩
    ·simp only [Bool.false_eq_true,if_false]
     exact rest
theorem ST.at {a:Addr} {es:Array (Int × Value)} {ep:Nat} {t:SetTable} {ks:List (List Int)} {h h':Heap} (x:ST prog w U a es ep t ks h) (k:∀ o,h.get? a=some o->h'.get? a=some o) (kt:∀ b ks,U b->(TK prog w).is h ks b->(TK prog w).is h' ks b):ST prog w U a es ep t ks h' :=
 ⟨x.r.at k,x.ok,x.hi,x.pl,x.msk,x.len,fun i e q h1 h2=>let ⟨b,e1,e2⟩:=x.gd i e q h1 h2;⟨b,e1,kt b q e2.2 e2.1,e2.2⟩,x.nd⟩
def SetT (prog:Program) (w:World) (U:Addr->Prop) (a:Addr) (L:List (List Int)) (h:Heap):Prop:=∃ es ep t ks,ST prog w U a es ep t ks h/\t.place.size * 5 < t.mask * 3/\ks.Perm L
theorem al3 {a b:Addr} {ks:List Int} {h h':Heap} (hs:Heap.SameBut a h h') (hk:(TK prog w).is h ks b) {o:Obj} (ho:h.get? a=some o) (hx:o.ExactSet):(TK prog w).is h' ks b:=by
 obtain ⟨ob,items,n,e1,e2,r⟩:=hk
 refine ⟨ob,items,n,?_,e2,r⟩
 rw [hs.2 b fun z=>?_]
 ·exact e1
 ·subst z
  rw [ho] at e1
  cases e1
  rw [hx.1] at e2
  exact absurd e2 (by decide)
theorem aog {t:SetTable} {n:Nat} (x:TOk t) (h:t.place.size=n):t.fits n=true:=by
 unfold SetTable.fits SetTable.fill
 rw [x.dum,h,beq_self_eq_true,Bool.true_and,decide_eq_true_eq]
 have:=x.room
 show n+0<=t.mask
 omega
theorem al4 {α:Type} (l:List α) (x : α) (p:Nat):(l.take p ++ x :: l.drop p).Perm (x :: l):=by
 have h:=List.perm_middle (a:=x) (l₁:=l.take p) (l₂:=l.drop p)
 rw [List.take_append_drop] at h
 exact h
theorem ati {a:Addr} {es:Array (Int × Value)} {ep:Nat} {t:SetTable} {ks:List (List Int)} {Q:Unit->Shared->Prop} (x:ST prog w U a es ep t ks s.heap) (hz:es.size<=2040) (h1:1<=es.size)
  (h:∀ h',Heap.SameBut a s.heap h'->∀ es' ep' t' ks',ST prog w U a es' ep' t' ks' h'->t'.place.size * 5 < t'.mask * 3->ks'.Perm ks->Q () { s with heap:=h' }):wpAny (model prog w) A (setRelay a (SetTable.grown es.size)) Q E s:=by
 obtain ⟨o,ho,hx,hd,hf,hT⟩:=id x.r
 have hgr:SetTable.grown es.size=es.size * 4:=by unfold SetTable.grown;rw [if_neg (by omega)]
 rw [hgr]
 obtain ⟨m,em,hm1,hm2,hm3⟩:=ath (n:=es.size * 4) (by omega)
 have h8:8<=2 ^ m:=Nat.pow_le_pow_right (n:=2) (by decide) hm2
 have hle:2 ^ m<=8192:=by
  rcases hm3 with h | h
  ·omega
  ·exact aq7 h (by omega)
 unfold setRelay
 refine wpAny_bind (wpAny_setState_of ho hd hf ?_)
 dsimp only
 rw [em,if_neg (by rw [sizeLine_eq];omega)]
 obtain ⟨t2,order,es2,e1,e2,e3,e4,ok2,hi2,em2,eps,el,epl⟩:=awf (mask:=2 ^ m - 1) (m:=m) (finger:=t.finger) (moves:=t.movedTo (2 ^ m - 1)) (led:=t.led) (plain:=t.plain) (by omega) es (by omega)
 have er:t.relaid (es.map (·.1)) (es.size * 4)=some (t2,order):=by
  unfold SetTable.relaid
  rw [em]
  exact e1
 rw [er]
 refine wpAny_bind ?_
 show wpAny _ _ (do
  let es':=order.filterMap (es[·]?)
  if es'.size != es.size then unsupported "internal:set-table-lost-an-element"
  pure (es',t2)) _ _ _
 rw [e2]
 dsimp only
 rw [if_neg (by rw [e3];simp)]
 refine wpAny_pure ?_
 dsimp only
 refine wpAny_storeSet_of ho hd ?_ (by rw [e3,sizeLine_eq];omega)
 have sb:=Heap.SameBut.update s.heap a (Obj.putSet es2 t2)
 have r2:=x.r.put (es':=es2) (t':=t2) (aog ok2 (by rw [e3];exact eps)) ⟨fun hb=>by rw [el];exact hT.led hb,ok2.dum,fun _=>ok2.ris⟩
 have kk:∀ q b,(TK prog w).is s.heap q b->(TK prog w).is (s.heap.update a (Obj.putSet es2 t2)) q b:=fun q b hq=>al3 sb hq ho hx
 have hkey:∃ f:Int × Value->List Int,∀ e∈es.toList,∃ b,e=((TK prog w).hash (f e),.ref b)/\(TK prog w).is s.heap (f e) b/\U b:=by
  have:=Classical.skolem (p:=fun (e:Int × Value) (k:List Int)=>e∈es.toList->∃ b,e=((TK prog w).hash k,Value.ref b)/\(TK prog w).is s.heap k b/\U b)
  exact this.mp fun e=>by
   by_cases he:e∈es.toList
   ·obtain ⟨k,b,h1,h2⟩:=x.stored he
    exact ⟨k,fun _=>⟨b,h1,h2⟩⟩
   ·exact ⟨[],fun z=>absurd z he⟩
 obtain ⟨f,hff⟩:=hkey
 have hks:ks=es.toList.map f:=by
  refine List.ext_getElem? fun i=>?_
  rw [List.getElem?_map]
  by_cases hi:i < ks.length
  ·have hil:i < es.toList.length:=by rw [Array.length_toList,← x.len];exact hi
   rw [List.getElem?_eq_getElem hi,List.getElem?_eq_getElem hil,Option.map_some]
   obtain ⟨b,g1,g2⟩:=x.gd i _ _ (List.getElem?_eq_getElem hil) (List.getElem?_eq_getElem hi)
   obtain ⟨b',g3,g4⟩:=hff _ (List.getElem_mem hil)
   have hbb:Value.ref b=.ref b':=(Prod.ext_iff.mp (g1.symm.trans g3)).2
   cases hbb
   rw [(TK prog w).inj g2.1 g4.1]
  ·rw [List.getElem?_eq_none (by omega),List.getElem?_eq_none (by rw [Array.length_toList,← x.len];omega)]
   rfl
 have hpk:(es2.toList.map f).Perm ks:=by rw [hks];exact e4.map f
 refine h _ sb es2 _ t2 (es2.toList.map f) ⟨r2,ok2,hi2,by rw [epl];exact x.pl,by omega,by rw [List.length_map,Array.length_toList],fun i e k g1 g2=>?_,hpk.nodup_iff.mpr x.nd⟩ (by omega) hpk
 rw [List.getElem?_map,g1] at g2
 cases g2
 obtain ⟨b,q1,q2⟩:=hff e (e4.mem_iff.mp (List.mem_of_getElem? g1))
 exact ⟨b,q1,kk _ b q2.1,q2.2⟩
theorem aq8 {a b0:Addr} {L:List (List Int)} {kx:List Int} {Q:Bool->Shared->Prop} (hu:(TK prog w).room A) (x:SetT prog w U a L s.heap) (hk:(TK prog w).is s.heap kx b0) (hU:U b0) (hb:L.length+1<=2040)
  (h:∀ b h',Heap.SameBut a s.heap h'->SetT prog w U a (if kx∈L then L else L ++ [kx]) h'->Q b { s with heap:=h' }):wpAny (model prog w) A (setAddHashed a (.ref b0) ((TK prog w).hash kx)) Q E s:=by
 obtain ⟨es,ep,t,ks,x,hnf,hp⟩:=x
 obtain ⟨o,ho,hx,hd,hf,hT⟩:=id x.r
 have hsz:es.size=L.length:=by rw [← hp.length_eq,x.len]
 have hps:t.place.size=es.size:=by have:=x.hi.1;rw [Array.length_toList] at this;omega
 unfold setAddHashed setAddHashedIn
 refine wpAny_holding (wpAny_bind (wpAny_setState_of ho hd hf ?_))
 dsimp only
 have hns:byScan (.ref b0) es=false:=rfl
 rw [hns]
 simp only [Bool.false_eq_true,if_false]
 unfold setSearch
 refine wpAny_bind (amv hu x hk (fun hm=>?_) (fun hm k1 hj he hbf=>?_) 100000 0 none ?_ rfl fun k' hk'=>absurd hk' (Nat.not_lt_zero _))
 ·refine wpAny_pure ?_
  have e:s={ s with heap:=s.heap }:=by cases s;rfl
  have:=h false s.heap (Heap.SameBut.refl a s.heap) (by rw [if_pos (hp.mem_iff.mp hm)];exact ⟨es,ep,t,ks,x,hnf,hp⟩)
  rw [e];exact this
 ·have hmL:kx ∉ L:=fun z=>hm (hp.mem_iff.mpr z)
  have hroom:t.place.size+1<=t.mask:=by have:=x.msk.1;omega
  obtain ⟨j,hjd⟩:∃ j,j=(pr t.mask ((TK prog w).hash kx) k1).j:=⟨_,rfl⟩
  rw [← hjd] at hj he ⊢
  dsimp only
  refine wpAny_bind (wpAny_setState_of ho hd hf ?_)
  dsimp only
  have hpl1:(t.put j).1.plain=true:=x.pl
  rw [if_pos hpl1]
  refine wpAny_bind (amu hk ?_)
  rw [if_pos rfl]
  have hbl:=(SS.below_ok t.place j x.ok.ris).1
  obtain ⟨es1,hes1⟩:∃ es1,es1=SetTable.insertAt es (t.put j).2 ((TK prog w).hash kx,Value.ref b0):=⟨_,rfl⟩
  have hes1l:es1.toList=es.toList.take (SetTable.below t.place j) ++ ((TK prog w).hash kx,Value.ref b0) :: es.toList.drop (SetTable.below t.place j):=by rw [hes1];exact SetTable.toList_insertAt ..
  have hsz1:es1.size=es.size+1:=by
   rw [← Array.length_toList,hes1l,List.length_append,List.length_cons,List.length_take,List.length_drop,Array.length_toList]
   omega
  have ok1:=x.ok.put hj he hroom
  have hi1:HI (t.put j).1 es1.toList:=by
   rw [hes1l]
   exact x.hi.put x.ok hj hroom (e:=((TK prog w).hash kx,Value.ref b0)) (k1:=k1) hjd.symm he hbf
  have hps1:(t.put j).1.place.size=es1.size:=by have:=hi1.1;rw [Array.length_toList] at this;exact this.symm
  have hfits:(t.put j).1.fits es1.size=true:=aog ok1 hps1
  rw [← hes1]
  refine wpAny_bind (wpAny_storeSet_of ho hd ?_ (by rw [hsz1];rw [sizeLine_eq];omega))
  have r1:=x.r.put (es':=es1) (t':=(t.put j).1) hfits (hT.put he)
  have sb1:=Heap.SameBut.update s.heap a (Obj.putSet es1 (t.put j).1)
  have kk:∀ q b,(TK prog w).is s.heap q b->(TK prog w).is (s.heap.update a (Obj.putSet es1 (t.put j).1)) q b:=fun q b hq=>al3 sb1 hq ho hx
  have x1:ST prog w U a es1 (ep+1) (t.put j).1 (ks.take (SetTable.below t.place j) ++ kx :: ks.drop (SetTable.below t.place j)) (s.heap.update a (Obj.putSet es1 (t.put j).1)):=by
   have hkb:SetTable.below t.place j<=ks.length:=by rw [x.len];omega
   have heb:SetTable.below t.place j<=es.toList.length:=by rw [Array.length_toList];omega
   refine ⟨r1,ok1,hi1,hpl1,x.msk,?_,fun i e k h1 h2=>?_,?_⟩
   ·rw [List.length_append,List.length_cons,List.length_take,List.length_drop,hsz1,← x.len]
    omega
   ·rw [hes1l,ins_get _ _ _ heb] at h1
    rw [ins_get _ _ _ hkb] at h2
    by_cases c1:i < SetTable.below t.place j
    ·rw [if_pos c1] at h1 h2
     obtain ⟨b,g1,g2⟩:=x.gd i e k h1 h2
     exact ⟨b,g1,kk k b g2.1,g2.2⟩
    ·rw [if_neg c1] at h1 h2
     by_cases c2:i=SetTable.below t.place j
     ·rw [if_pos c2] at h1 h2
      cases h1
      cases h2
      exact ⟨b0,rfl,kk kx b0 hk,hU⟩
     ·rw [if_neg c2] at h1 h2
      obtain ⟨b,g1,g2⟩:=x.gd (i - 1) e k h1 h2
      exact ⟨b,g1,kk k b g2.1,g2.2⟩
   ·refine (al4 ks kx _).nodup_iff.mpr (List.nodup_cons.mpr ⟨hm,x.nd⟩)
  have hp1:(ks.take (SetTable.below t.place j) ++ kx :: ks.drop (SetTable.below t.place j)).Perm (L ++ [kx]):=(al4 ks kx _).trans ((hp.cons kx).trans (List.perm_append_singleton kx L).symm)
  by_cases hfull:(t.put j).1.tooFull=true
  ·rw [if_pos (by rw [hfull];rfl)]
   rw [← hsz1]
   refine wpAny_bind (ati (s:={ s with heap:=s.heap.update a (Obj.putSet es1 (t.put j).1) }) x1 (by omega) (by omega) fun h' sb2 es2 ep2 t2 ks2 x2 hnf2 hp2=>?_)
   refine wpAny_pure (h true h' (sb1.trans sb2) ?_)
   rw [if_neg hmL]
   exact ⟨es2,ep2,t2,ks2,x2,hnf2,hp2.trans hp1⟩
  ·rw [if_neg (by intro z;exact hfull (by simpa using z))]
   refine wpAny_pure ?_
   refine h true _ sb1 ?_
   rw [if_neg hmL]
   refine ⟨es1,ep+1,_,_,x1,?_,hp1⟩
   unfold SetTable.tooFull SetTable.fill at hfull
   rw [ok1.dum] at hfull
   simp at hfull
   omega
 ·have:=x.msk.2
  unfold SetTable.turns
  omega
end
end SH
namespace SH
open PySem PySem.W PyProof.Rows SS
section
variable {prog:Program} {w:World} {A:Around} {E:Value->Shared->Prop} {s:Shared} {U:Addr->Prop}
theorem awg (h:Heap):SetT prog w U h.objs.size [] (h.push (abu w)):=by
 have tok:TOk (SetTable.fresh 0 0 (!bt w)):=⟨List.Pairwise.nil,rfl,fun j hj=>(nomatch hj),⟨3,rfl⟩,Nat.zero_le _⟩
 have hi:HI (SetTable.fresh 0 0 (!bt w)) ([]:List (Int × Value)):=⟨rfl,fun i e j hi=>(nomatch hi)⟩
 exact ⟨#[],0,_,[],⟨⟨_,Heap.get?_push_size _ rfl,⟨rfl,rfl,rfl⟩,rfl,rfl,TbI.fresh _ _ _⟩,tok,hi,rfl,⟨Nat.le_refl 7,show (7:Nat)<=8191 by decide⟩,rfl,fun i e k hi=>(nomatch hi),List.nodup_nil⟩,show (0:Nat) * 5 < 7 * 3 by decide,.refl _⟩
section
variable {R:Result->Shared->Prop} {I:Addr} {fp wr:List Addr} {n:Nat} {P:Nat->Value->Prop} {St:Nat->Heap->Prop}
theorem az9 (W:Walks prog w A.in1 I fp wr n P St) (S:Addr) (hSf:S ∉ fp) (hu:(TK prog w).room A.in1) (h0:Heap) (val:Nat->List Int) (tup:Nat->Addr) (hval:∀ i v,P i v->v=.ref (tup i)) (hU:∀ i,i < n->U (tup i)) (hUw:∀ b,U b->b ≠ S/\b ∉ wr) (hb:n+1<=2040)
  (hkey:∀ h',(∀ b o,b ≠ S->b ∉ wr->h0.get? b=some o->h'.get? b=some o)->∀ i,i < n->(TK prog w).is h' (val i) (tup i)) :
  ∀ (k i:Nat) (s:Shared) (L:List (List Int)),n - i=k->i<=n->St i s.heap->(∀ b o,b ≠ S->b ∉ wr->h0.get? b=some o->s.heap.get? b=some o)->SetT prog w U S L s.heap->L.Nodup->L.length<=i->(∀ x,x∈L ↔ ∃ j,j < i/\val j=x) ->
   (∀ h' tk L',(∀ b o,b ≠ S->b ∉ wr->s.heap.get? b=some o->h'.get? b=some o)->SetT prog w U S L' h'->L'.Nodup->L'.length<=n->(∀ x,x∈L' ↔ ∃ j,j < n/\val j=x)->R (.ok (.ret .none)) { s with heap:=h',toks:=tk }) ->
   codeAny (model prog w) A (.builtin "set.update.loop" ⟨[.ref S,.ref I],[]⟩) R s:=by
 have hSw:S ∉ wr:=fun h=>hSf (W.sub _ h)
 have mv:∀ {h h':Heap} {L:List (List Int)},SetT prog w U S L h->(∀ b o,b ∉ wr->h.get? b=some o->h'.get? b=some o)->SetT prog w U S L h':=fun {h h' L} x hm=>by
  obtain ⟨es,ep,t,ks,x,r⟩:=x
  exact ⟨es,ep,t,ks,x.at (fun o e=>hm S o hSw e) (fun b ks hb ⟨o,items,m,e,q⟩=>⟨o,items,m,hm b o (hUw b hb).2 e,q⟩),r⟩
 intro k
 induction k with
 | zero =>
  intro i s L hk hi hst h00 hS hnd hlen hmem hR
  have hin:i=n:=by omega
  subst hin
  refine codeAny_builtin PyProof.Rows.F.entry_set_update_loop ?_
  rw [Around.under_plainId PyProof.Rows.F.plain_set_update_loop _]
  show wpAny _ A.in1 (pyNext (.ref I) >>= _) _ _ s
  refine wpAny_bind (W.done s _ _ hst fun h' tk hk=>?_)
  show wpAny _ A.in1 (ret Value.none) _ _ _
  exact wpAny_pure (hR h' tk L (fun b o _ hb e=>hk b o hb e) (mv hS hk) hnd hlen hmem)
 | succ k ih =>
  intro i s L hk hi hst h00 hS hnd hlen hmem hR
  have hlt:i < n:=by omega
  refine codeAny_builtin PyProof.Rows.F.entry_set_update_loop ?_
  rw [Around.under_plainId PyProof.Rows.F.plain_set_update_loop _]
  show wpAny _ A.in1 (pyNext (.ref I) >>= _) _ _ s
  refine wpAny_bind (W.item i s _ _ hlt hst fun v h1 tk hP hst' hk1=>?_)
  have ev:=hval i v hP
  subst ev
  have hS':SetT prog w U S L h1:=mv hS hk1
  have h01:∀ b o,b ≠ S->b ∉ wr->h0.get? b=some o->h1.get? b=some o:=fun b o b1 b2 e=>hk1 b o b2 (h00 b o b1 b2 e)
  show wpAny _ A.in1 (holding [Value.ref (tup i)] (setAdd S (.ref (tup i))) >>= _) _ _ _
  refine wpAny_bind (wpAny_holding ?_)
  unfold setAdd
  refine wpAny_holding ?_
  refine wpAny_bind ((TK prog w).pyHash hu (hkey h1 h01 i hlt) ?_)
  refine aq8 (s:={ s with heap:=h1,toks:=tk+(TK prog w).draws (val i) }) hu hS' (hkey h1 h01 i hlt) (hU i hlt) (by omega) fun b h' hsb hS2=>?_
  refine wpAny_pure ⟨plainId_quiet PyProof.Rows.F.plain_set_update_loop _,ih (i+1) _ _ (by omega) hlt (W.frame _ h1 _ hst' fun b hb o e=>?_) (fun b o b1 b2 e=>?_) hS2 ?_ ?_ ?_ fun h'' tk'' L' hk'' hS'' n1 n2 n3=>?_⟩
  ·rw [hsb.2 b (fun h:b=S=>hSf (by rw [← h];exact hb))];exact e
  ·show h'.get? b=some o
   rw [hsb.2 b b1];exact h01 b o b1 b2 e
  ·split
   ·exact hnd
   ·rename_i hm
    rw [List.nodup_append]
    refine ⟨hnd,by simp,fun a ha b hb=>?_⟩
    rw [List.mem_singleton] at hb;subst hb
    exact fun z=>hm (z ▸ ha)
  ·split
   ·omega
   ·rw [List.length_append,List.length_singleton];omega
  ·intro x
   have key:x∈(if val i∈L then L else L ++ [val i]) ↔ x∈L\/x=val i:=by
    split
    ·rename_i hm;exact ⟨.inl,fun h=>h.elim id fun e=>e ▸ hm⟩
    ·simp
   rw [key,hmem x]
   constructor
   ·rintro (⟨j,a,b⟩ | rfl)
    ·exact ⟨j,by omega,b⟩
    ·exact ⟨i,by omega,rfl⟩
   ·rintro ⟨j,a,b⟩
    by_cases e:j=i
    ·subst e;exact .inr b.symm
    ·exact .inl ⟨j,by omega,b⟩
  ·refine hR h'' tk'' L' (fun b o b1 b2 e=>hk'' b o b1 b2 ?_) hS'' n1 n2 n3
   show h'.get? b=some o
   rw [hsb.2 b b1]
   exact hk1 b o b2 e
end
theorem call_setT {U:Addr->Prop} {l:Addr} {items:Array Value} {n:Nat} {val:Nat->List Int} {tup:Nat->Addr} {Q:Value->Shared->Prop}
  (hh:A.handled=none) (hu:(TK prog w).room A.in1.in1.in1) (hl:s.heap.IsList l items) (hP:∀ (i:Nat) (v:Value),items[i]?=some v->v=Value.ref (tup i)) (hi:∀ i,i < items.size->(TK prog w).is s.heap (val i) (tup i)) (hU:∀ i,i < items.size->U (tup i)) (hUl:∀ b,U b->b < s.heap.objs.size) (hb:items.size+1<=2040)
  (h:∀ (h':Heap) (tk:Nat) (L:List (List Int)),SetT prog w U s.heap.objs.size L h'->L.Nodup->L.length<=items.size->(∀ x,x∈L ↔ ∃ j,j < items.size/\val j=x) ->
   (∀ b o,s.heap.get? b=some o->h'.get? b=some o)->Q (.ref s.heap.objs.size) { s with heap:=h',toks:=tk }) :
  wpAny (model prog w) A (call (.type "set") [.ref l]) Q E s:=by
 obtain ⟨c,tl,hmro⟩:=PySem.F.called_set.mro
 have hmade:=PySem.F.called_set.made
 have hsub:=PySem.F.called_set.sub
 refine wpAny_call (codeAny_of_tree ?_)
 show wpAny _ _ (callAny (.type "set") _) _ _ _
 refine wpAny_pure ⟨Code.quiet_builtin _ (by decide +kernel),codeAny_builtin PySem.F.entry_type_call ?_⟩
 rw [Around.under_plain (weight_type_call_type "set" [.ref l] []) rfl]
 have h1:=PySem.F.called_set.notType
 have h2:=PySem.F.called_set.canCreate
 have hct:=PySem.F.typeCall_set_1 (.ref l)
 repeat (any_goals (first | assumption | wp_step))
 refine codeAny_mono (ate (.ref l) (E:=E) (Q₁:=fun obj s₁=>obj=.ref s.heap.objs.size/\s₁={ s with heap:=s.heap.push (abu w) }) ⟨rfl,rfl⟩) fun r s₁ hr=>?_
 cases r with
 | error e=>exact hr
 | ok fl =>
  cases fl with
  | ret obj =>
   obtain ⟨rfl,rfl⟩:=hr
   have hS:(s.heap.push (abu w)).get? s.heap.objs.size=some (abu w):=Heap.get?_push_size _ rfl
   have hT:Shared.TypeIs { s with heap:=s.heap.push (abu w) } (.ref s.heap.objs.size) "set":=⟨_,hS,rfl⟩
   have hli:=PySem.F.called_set.init.lookup
   have hbi:=PySem.F.called_set.init.bind (.ref s.heap.objs.size)
   repeat (any_goals (first | assumption | wp_step))
   refine codeAny_mono (codeAny_call_builtin (R:=wants (fun r s₂=>r=.none/\∃ h' tk L,s₂={ s with heap:=h',toks:=tk }/\SetT prog w U s.heap.objs.size L h'/\L.Nodup/\L.length<=items.size/\(∀ x,x∈L ↔ ∃ j,j < items.size/\val j=x) /\
     (∀ b o,s.heap.get? b=some o->h'.get? b=some o)) E) PySem.F.called_set.init.plain PySem.F.entry_set_init (check_set_init_1 hT ?_)) fun r₂ s₂ hr₂=>?_
   ·obtain ⟨ol,hol,hcl,nl,hdl⟩:=hl
    obtain ⟨ocls,odict,odata,oslots⟩:=ol
    simp only at hcl hdl
    subst hcl;subst hdl
    have hol':(s.heap.push (abu w)).get? l=some { cls:=.type "list",dict:=odict,data:=.seq items nl,slots:=oslots }:=Heap.get?_push_of_some _ hol
    have hsls:=PySem.F.sub_list_set
    have hslf:=PySem.F.sub_list_frozenset
    have hne:(Value.type "list" == Value.type "dict")=false:=by decide
    have hl1:(s.heap.push (abu w)).IsList l items:=⟨_,hol',rfl,nl,rfl⟩
    unfold Builtin.«set.__init__» noKeywords Builtin.Frozenset.updateFrom
    generalize hPI:pyIter=PI
    unfold abu at *
    wp_walk
    subst hPI
    refine wpAny_pyIter_list hl1 ?_
    refine wpAny_bind (wpAny_runValue ?_)
    have hlS:l < s.heap.objs.size:=Heap.lt_size hol
    have hh3:A.in1.in1.in1.handled=none:=by simp [hh]
    have hneI:l ≠ (s.heap.push (abu w)).objs.size:=by
     rw [Heap.size_push];exact Nat.ne_of_lt (Nat.lt_succ_of_lt hlS)
    have hSf:s.heap.objs.size ∉ [(s.heap.push (abu w)).objs.size,l]:=by
     rw [Heap.size_push];simp only [List.mem_cons,List.mem_singleton,List.not_mem_nil,or_false,not_or]
     exact ⟨Nat.ne_of_lt (Nat.lt_succ_self _),Nat.ne_of_gt hlS⟩
    have hts:∀ i,i < items.size->tup i < s.heap.objs.size:=fun i h=>let ⟨_,_,_,e,_⟩:=hi i h;Heap.lt_size e
    refine az9 (U:=U) (Walks.list hh3 _ l hneI items) s.heap.objs.size hSf hu s.heap val tup hP hU (fun b hb=>⟨Nat.ne_of_lt (hUl b hb),by rw [List.mem_singleton,Heap.size_push];exact Nat.ne_of_lt (Nat.lt_succ_of_lt (hUl b hb))⟩) hb
     (fun h' kp i h=>let ⟨o,its,m,e,q⟩:=hi i h;⟨o,its,m,kp _ o (Nat.ne_of_lt (Heap.lt_size e)) (by rw [List.mem_singleton,Heap.size_push];exact Nat.ne_of_lt (Nat.lt_succ_of_lt (Heap.lt_size e))) e,q⟩)
     (items.size - 0) 0 _ [] (by omega) (Nat.zero_le _)
     ⟨⟨_,Heap.get?_push_size _ rfl,rfl,rfl⟩,(hl1.push _)⟩ (fun b o _ _ e=>Heap.get?_push_of_some _ (Heap.get?_push_of_some _ e)) (let ⟨es,ep,t,ks,x,r⟩:=awg s.heap;⟨es,ep,t,ks,x.at (fun o e=>Heap.get?_push_of_some _ e) (fun b ks hb ⟨o,its,m,e,q⟩=>⟨o,its,m,Heap.get?_push_of_some _ e,q⟩),r⟩) List.nodup_nil (Nat.le_refl _) (fun x=>by simp) fun h' tk L hk hS' n1 n2 n3=>?_
    show wpAny _ _ _ _ _ _
    refine wpAny_pure ?_
    show wpAny _ _ (ret Value.none) _ _ _
    refine wpAny_pure ⟨rfl,h',tk,L,rfl,hS',n1,n2,n3,fun b o e=>?_⟩
    have hlt:=Heap.lt_size e
    have hb1:b ≠ s.heap.objs.size:=Nat.ne_of_lt hlt
    have hb2:b ≠ (s.heap.push (abu w)).objs.size:=by
     rw [Heap.size_push];exact Nat.ne_of_lt (Nat.lt_succ_of_lt hlt)
    exact hk b o hb1 (by rw [List.mem_singleton];exact hb2) (Heap.get?_push_of_some _ (Heap.get?_push_of_some _ e))
   ·cases r₂ with
    | error e=>exact hr₂
    | ok fl₂ =>
     cases fl₂ with
     | ret r =>
      obtain ⟨rfl,h',tk,L,rfl,hS',n1,n2,n3,hk'⟩:=hr₂
      repeat (any_goals (first | assumption | wp_step))
      exact h _ _ _ hS' n1 n2 n3 hk'
     | _=>exact hr₂.elim
  | _=>exact hr.elim
end
section
variable {prog:Program} {w:World} {A:Around} {E:Value->Shared->Prop} {s:Shared} {a:Addr}
def SetB (prog:Program) (w:World) (a:Addr) (bs:List Addr) (h:Heap):Prop:=∃ es ep t,SetR prog w a es ep t h/\(es.toList.map (·.2)).Perm (bs.map Value.ref)
theorem sorted_setT {bs:List Addr} {Q:Value->Shared->Prop} (hh:A.handled=none) (x:SetB prog w a bs s.heap) (hb:bs.length < 64)
  (hκ:∀ vs:List Value,vs.Perm (bs.map Value.ref)->2<=vs.length->∀ h' tk d,(∀ b o,s.heap.get? b=some o->h'.get? b=some o)->∃ κ S R,(∀ (Q:SortKind->Shared->Prop),Q κ { s with heap:=h',toks:=tk,drawn:=d }->wpAny (model prog w) A.in1.in1 (keyKind' vs.toArray) Q E { s with heap:=h',toks:=tk,drawn:=d })/\TS.Cmp (model prog w) A.in1.in1 E { s with heap:=h',toks:=tk,drawn:=d } κ S R/\(∀ v∈vs,S (v,v)) /\
   ∀ (out:List Value) p h'' e,out.Perm vs->out.Pairwise (fun x y=>R (y,y) (x,x)=false)->(∀ b o,s.heap.get? b=some o->h''.get? b=some o)->s.heap.objs.size<=p->h''.get? p=some (seqObj "list" out.toArray e)->Q (.ref p) { s with heap:=h'',toks:=tk,drawn:=d })
  (h1:∀ (vs:List Value) p h'' e tk d,vs.Perm (bs.map Value.ref)->vs.length < 2->(∀ b o,s.heap.get? b=some o->h''.get? b=some o)->s.heap.objs.size<=p->h''.get? p=some (seqObj "list" vs.toArray e)->Q (.ref p) { s with heap:=h'',toks:=tk,drawn:=d }) :
  wpAny (model prog w) A (call (.builtin "sorted") [.ref a]) Q E s:=by
 obtain ⟨es,ep,t,x,hp⟩:=x
 have hsz:es.size=bs.length:=by have:=hp.length_eq;simpa using this
 have hline:es.size<=sizeLine:=by rw [sizeLine_eq];omega
 refine Calls.call_function_entry kind_sorted plain_sorted entry_sorted (args_sorted1 _) ?_
 unfold Builtin.«sorted»
 refine wpAny_bind (m:=checkCount "sorted" 1 1 _) (wpAny_pure (wpAny_bind (amt (A:=A.in1) hh x hline fun g tk d vs kp hs hv=>?_)))
 have hvp:=hv.trans hp
 have hlen:vs.length=bs.length:=by rw [hvp.length_eq,List.length_map]
 have hlz:vs.length<=sizeLine:=by rw [hlen,sizeLine_eq];omega
 refine wpAny_bind (wpAny_newList ?_ hlz)
 have hoL:(g.push (seqObj "list" vs.toArray 0)).get? g.objs.size=some (seqObj "list" vs.toArray 0):=Heap.get?_push_size _ rfl
 have keep:∀ b o,s.heap.get? b=some o->(g.push (seqObj "list" vs.toArray 0)).get? b=some o:=fun b o e=>Heap.get?_push_of_some _ (kp b o e)
 have fin:∀ out:List Value,(∀ b o,s.heap.get? b=some o->(sortedHeap (g.push (seqObj "list" vs.toArray 0)) g.objs.size vs out.toArray).get? b=some o):=fun out b o q=>by
  have lt:=Heap.lt_size (kp b o q)
  rw [sortedHeap_old (Nat.ne_of_lt lt) (by rw [size_push'];exact Nat.lt_succ_of_lt lt)]
  exact keep b o q
 refine wpAny_bind (wpAny_holding (wpAny_call_entry slot_list_sort ⟨_,hoL,rfl⟩ entry_list_sort ?body (args_list_sort _)))
 case body =>
  refine TS.list_sort_small (s:={ s with heap:=g.push (seqObj "list" vs.toArray 0),toks:=tk,drawn:=d }) hoL hlz (by rw [hlen];exact hb) (fun hge h' kq=>?_) fun hlt=>?_
  ·obtain ⟨κ,S,R,hk,C,hS,hfin⟩:=hκ vs hvp hge h' tk d fun b o e=>kq b o (Nat.ne_of_lt (Heap.lt_size (kp b o e))) (keep b o e)
   refine ⟨κ,S,R,hk,C,hS,fun out q1 q2=>⟨_,rfl,wpAny_pure ⟨_,rfl,?_⟩⟩⟩
   obtain ⟨e,he⟩:=sortedHeap_at (vs:=vs) (out:=out.toArray) (n:=0) hoL
   exact hfin out _ _ e q1 q2 (fin out) hs he
  ·refine ⟨_,rfl,wpAny_pure ⟨_,rfl,?_⟩⟩
   obtain ⟨e,he⟩:=sortedHeap_at (vs:=vs) (out:=vs.toArray) (n:=0) hoL
   exact h1 vs _ _ e tk d hvp hlt (fin vs) hs he
end
end SH
namespace L2
open PySem PySem.W PyProof.Rows
def auk (P:Program) (w:World) (K:Frag):List V->Hp->VK->Prop:=fun xs H Q=>∃ (a:Addr) (ts:List Addr) (ps:List (List Int)),xs=[.ref a]/\SqL K H a (ts.map V.ref)/\ts.length=ps.length/\ps.length<=2030 /\
 (∀ (i:Nat) t k,ts[i]?=some t->ps[i]?=some k->H t=some (.tup (k.map V.int))) /\
 ∀ (bs:List Addr) (L:List (List Int)) (p:Addr),bs.length=L.length->L.length<=ps.length->(∀ (i:Nat) b k,bs[i]?=some b->L[i]?=some k->H b=some (.tup (k.map V.int)))->L.Nodup->(∀ x,x∈L ↔ x∈ps)->H p=none->Q (.ref p) (upd H p (.ext (SH.SetB P w p bs)))
def aoh (P:Program) (w:World):List V->Hp->VK->Prop:=fun xs H Q=>∃ (a:Addr) (bs:List Addr),xs=[.ref a]/\H a=some (.ext (SH.SetB P w a bs))/\bs.length < 64/\(∀ b∈bs,TupI H (.ref b)) /\
 ∀ (vs':List V) (p:Addr),vs'.Perm (bs.map V.ref)->vs'.Pairwise (fun x y=>HT.lexLt (kH H y) (kH H x)=false)->H p=none->Q (.ref p) (upd H p (.lst vs'))
section
variable {X:Cx}
theorem al5 {P:Program} {w:World}:∀ {its:List Value} {k:List Int},IntsAre its k->ItemsAre (intKind P w) k its
 | _,_,.nil => .nil
 | _,_,.cons i tk h => .cons (intKind_is _ _ _ _) (al5 h)
theorem aul {H:Hp} {h:Heap} {P:Program} {w:World} (ok:HOk P w H h) {t:Addr} {k:List Int} (e:H t=some (.tup (k.map V.int))):(SH.TK P w).is h k t:=by
 obtain ⟨_,its,rv,o,e1,e2,n,e3⟩:=(show ObjOk P w H h t (.tup (k.map V.int)) from ok t _ e)
 refine ⟨o,its.toArray,n,e1,e2,e3,?_⟩
 have hi:IntsAre its k:=by simpa using (abi rv:IntsAre its.toArray.toList k)
 show ItemsAre (intKind P w) k its.toArray.toList
 rw [List.toList_toArray]
 exact al5 hi
theorem call_setT (hc:X.calm=true) (hu:X.A.units+64 < cLine):aa7 X (.type "set") (auk X.prog X.w X.K):=by
 intro pins s σ H xs us Q I r h
 obtain ⟨a,ts,ps,rfl,ha,hl,hz,ht,q⟩:=h
 obtain ⟨u,rfl,ru⟩:=acf r
 cases ru
 obtain ⟨its,rv,p1,_⟩:=I.list ha
 have hlen:its.length=ts.length:=by have:=rv.length;rw [List.length_map] at this;omega
 have hsz:its.toArray.size=ts.length:=by simp [hlen]
 have g1:∀ {i},i < ts.length->ts[i]?=some (ts.getD i 0):=fun {i} hi=>by rw [List.getD_eq_getElem?_getD,List.getElem?_eq_getElem hi];rfl
 have g2:∀ {i},i < ts.length->ps[i]?=some (ps.getD i []):=fun {i} hi=>by rw [List.getD_eq_getElem?_getD,List.getElem?_eq_getElem (show i < ps.length by omega)];rfl
 have hH:∀ i,i < ts.length->H (ts.getD i 0)=some (.tup ((ps.getD i []).map V.int)):=fun i hi=>ht i _ _ (g1 hi) (g2 hi)
 refine SH.call_setT (n:=0) (U:=fun b=>b∈ts) (items:=its.toArray) (val:=fun i=>ps.getD i []) (tup:=fun i=>ts.getD i 0) (I.ok.hd hc) (by show X.A.units+1+1+1 < cLine;omega) p1.isList (fun i v hv=>?_) (fun i hi=>aul I.hok (hH i (by omega))) (fun i hi=>List.mem_of_getElem? (g1 (by omega))) (fun b hb=>?_) (by omega) fun h' tk L hS nd nl hm kp=>?_
 ·have hv:its[i]?=some v:=by simpa using hv
  have hi:=(List.getElem?_eq_some_iff.mp hv).1
  have e1:(ts.map V.ref)[i]?=some (.ref (ts.getD i 0)):=by rw [List.getElem?_map,g1 (by omega)];rfl
  obtain ⟨u,hu,ru⟩:=rv.get e1
  rw [hv] at hu
  cases hu
  exact ru
 ·obtain ⟨i,hi⟩:=List.getElem?_of_mem hb
  have hil:=(List.getElem?_eq_some_iff.mp hi).1
  have:=hH i hil
  rw [List.getD_eq_getElem?_getD,hi] at this
  exact ObjOk.lt (I.hok _ _ this)
 ·obtain ⟨es,ep,t,ks,x,_,hpk⟩:=hS
  have hkey:∀ (i:Nat) (e:Int × Value) k,es.toList[i]?=some e->ks[i]?=some k->∃ b,e.2=.ref b/\H b=some (.tup (k.map V.int)):=fun i e k h1 h2=>by
   obtain ⟨b,e1,e2,e3⟩:=x.gd i e k h1 h2
   refine ⟨b,by rw [e1],?_⟩
   obtain ⟨j,hj⟩:=List.getElem?_of_mem e3
   have hjl:=(List.getElem?_eq_some_iff.mp hj).1
   have hb:=hH j hjl
   rw [List.getD_eq_getElem?_getD,hj] at hb
   have hb:H b=some (.tup ((ps.getD j []).map V.int)):=hb
   have h3:=aul (I.hok.kept kp) hb
   rw [(SH.TK X.prog X.w).inj e2 h3]
   exact hb
  have hbs:∃ bs:List Addr,es.toList.map (·.2)=bs.map Value.ref/\bs.length=ks.length/\∀ (i:Nat) b k,bs[i]?=some b->ks[i]?=some k->H b=some (.tup (k.map V.int)):=by
   refine ⟨es.toList.map fun e=>match e.2 with | .ref b=>b | _=>0,?_,?_,fun i b k h1 h2=>?_⟩
   ·rw [List.map_map]
    refine List.map_congr_left fun e he=>?_
    obtain ⟨i,hi⟩:=List.getElem?_of_mem he
    have hil:i < ks.length:=by rw [x.len,← Array.length_toList];exact (List.getElem?_eq_some_iff.mp hi).1
    obtain ⟨b,e1,_⟩:=hkey i e _ hi (List.getElem?_eq_getElem hil)
    simp only [Function.comp,e1]
   ·rw [List.length_map,x.len,Array.length_toList]
   ·rw [List.getElem?_map] at h1
    cases he:es.toList[i]? with
    | none=>rw [he] at h1;cases h1
    | some e =>
     rw [he] at h1
     obtain ⟨b',e1,e2⟩:=hkey i e k he h2
     rw [Option.map_some,e1] at h1
     cases h1
     exact e2
  obtain ⟨bs,b1,b2,b3⟩:=hbs
  have hfr:=I.hok.fresh (a:=s.heap.objs.size) (Nat.le_refl _)
  have hSB:SH.SetB X.prog X.w s.heap.objs.size bs h':=⟨es,ep,t,x.r,by rw [b1]⟩
  refine ⟨.ref s.heap.objs.size,_,I.laid (t':=tk) (o:=.ext (SH.SetB X.prog X.w s.heap.objs.size bs)) kp (Nat.le_refl _) ⟨hSB,?_,fun h1 h2 ⟨es,ep,t,y,r⟩ k=>⟨es,ep,t,y.at k,r⟩⟩,rfl,q bs ks _ b2 ?_ b3 x.nd (fun y=>?_) hfr⟩
  ·obtain ⟨o,e,_⟩:=x.r
   exact ⟨o,e⟩
  ·rw [hpk.length_eq];omega
  ·rw [hpk.mem_iff,hm]
   constructor
   ·rintro ⟨j,hj,e⟩
    rw [← e]
    exact List.mem_of_getElem? (g2 (by omega))
   ·intro hy
    obtain ⟨j,hj⟩:=List.getElem?_of_mem hy
    have hjl:=(List.getElem?_eq_some_iff.mp hj).1
    exact ⟨j,by omega,by rw [List.getD_eq_getElem?_getD,hj];rfl⟩
theorem amw (hc:X.calm=true):aa7 X (.builtin "sorted") (aoh X.prog X.w):=by
 intro pins s σ H xs us Q I r h
 obtain ⟨a,bs,rfl,ha,hz,hT,q⟩:=h
 obtain ⟨u,rfl,ru⟩:=acf r
 cases ru
 obtain ⟨hS,_,_⟩:=(show ObjOk X.prog X.w H s.heap a (.ext (SH.SetB X.prog X.w a bs)) from I.hok a _ ha)
 have hrefs:∀ {us:List Value},us.Perm (bs.map Value.ref)->∀ u∈us,∃ b,u=.ref b/\b∈bs:=fun {us} hp u hu=>by
  obtain ⟨b,hb,rfl⟩:=List.mem_map.mp (hp.mem_iff.mp hu)
  exact ⟨b,rfl,hb⟩
 have hvals:∀ {us:List Value},us.Perm (bs.map Value.ref)->Vals (us.map acq) us/\(∀ v∈us.map acq,TupI H v)/\(us.map acq).Perm (bs.map V.ref):=fun {us} hp=>by
  refine ⟨af1 fun u hu=>let ⟨b,e,_⟩:=hrefs hp u hu;⟨b,e⟩,fun v hv=>?_,?_⟩
  ·obtain ⟨u,hu,rfl⟩:=List.mem_map.mp hv
   obtain ⟨b,rfl,hb⟩:=hrefs hp u hu
   exact hT b hb
  ·have:=hp.map acq
   rw [List.map_map] at this
   exact this
 have fin:∀ (us out:List Value) p h'' e tk d,us.Perm (bs.map Value.ref)->out.Perm us->(out.map acq).Pairwise (fun x y=>HT.lexLt (kH H y) (kH H x)=false)->(∀ b o,s.heap.get? b=some o->h''.get? b=some o)->s.heap.objs.size<=p->h''.get? p=some (seqObj "list" out.toArray e)->EP X pins σ Q (.ref p) { s with heap:=h'',toks:=tk,drawn:=d }:=by
  intro us out p h'' e tk d hp ho hs kp hpp he
  obtain ⟨v1,v2,v3⟩:=hvals (ho.trans hp)
  have hl:out.length=bs.length:=by rw [(ho.trans hp).length_eq,List.length_map]
  have J:=I.laid (t':=tk) (o:=.lst (out.map acq)) kp hpp (show ObjOk X.prog X.w _ h'' p (.lst (out.map acq)) from ⟨by rw [List.length_map,hl,sizeLine_eq];omega,out,e,v1,by rw [he]⟩)
  exact ⟨.ref p,_,J.drawn' d,rfl,q _ _ v3 hs (I.hok.fresh hpp)⟩
 refine SH.sorted_setT (I.ok.hd hc) hS hz (fun vs hp hge h' tk d kp=>?_) fun vs p h'' e tk d hp hlt kp hpp he=>?_
 ·obtain ⟨v1,v2,v3⟩:=hvals hp
  obtain ⟨⟨fs,k1,k2,k3⟩,k4⟩:=ag1 I kp v1 v2
  have hne:(Value.type "int" != Value.type "tuple")=true:=by rfl
  refine ⟨tuples' true,TS.tS h' (fun a=>kH H (.ref a)),TS.tR (fun a=>kH H (.ref a)),fun Q' hq=>?_,TS.cmp_tups (s:={ s with heap:=h',toks:=tk,drawn:=d }) (fun a=>kH H (.ref a)),fun v hv=>?_,fun out p h'' e ho hs kq hpp he=>fin vs out p h'' e tk d hp ho ?_ kq hpp he⟩
  ·refine PySem.W.kat_kind (T:=.type "int") (s:={ s with heap:=h',toks:=tk,drawn:=d }) k1 (by omega) (fun v hv=>?_) (by rfl) ?_
   ·obtain ⟨i,t,rfl⟩:=k3 v hv
    exact .now
   ·rw [hne];exact hq
  ·obtain ⟨a,e,ht⟩:=k4 v hv
   exact ⟨rfl,a,e,ht⟩
  ·rw [List.pairwise_map]
   refine List.Pairwise.imp_of_mem ?_ hs
   intro x y hx hy hr
   obtain ⟨ax,rfl,_⟩:=hrefs (ho.trans hp) x hx
   obtain ⟨ay,rfl,_⟩:=hrefs (ho.trans hp) y hy
   exact hr
 ·exact fin vs vs p h'' e tk d hp (List.Perm.refl _) (ale (by rw [List.length_map];exact hlt)) kp hpp he
end
end L2
namespace VL
open PySem PySem.Spec L2
section
variable {B:Bs} {env:En} {QO:Sl->En->Prop} {K:Frag} {ta:TA} {P:Program} {w:World}
theorem apm (h:EvA B ta env fun ds e=>∃ ps:List (Int × Int),ds=[.list (ps.map prD)]/\ps.length < 64/\∀ qs:List (Int × Int),qs.Nodup->(∀ x,x∈qs ↔ x∈ps)->lexS (qs.map p2)->QO (.own (OL (qs.map prD))) e):EvO B (tCB (aoh P w) (aa6 (tCB (auk P w K) ta) tNil)) env QO:=fun σ G H F Q I k =>
 h σ G H F _ I fun vs G1 H1 F1 ds e1 I1 g1 r1 z_=>by
  obtain ⟨ps,ed,hl,q1⟩:=z_
  subst ed
  cases r1 with
  | cons r t =>
   cases t
   cases r with
   | @lst a us _ ha rs =>
    rw [← aht] at rs
    obtain ⟨t1,t2⟩:=aet I1.gh rs aud
    have hus:us.length=ps.length:=by have:=congrArg List.length t2;simpa using this
    obtain ⟨ts,ets⟩:∃ ts:List Addr,us=ts.map V.ref:=⟨us.map fun v=>match v with | .ref b=>b | _=>0,by
     rw [List.map_map]
     conv=>lhs;rw [← List.map_id us]
     refine List.map_congr_left fun v hv=>?_
     obtain ⟨b,_,rfl,_⟩:=t1 v hv
     rfl⟩
    subst ets
    have htl:ts.length=ps.length:=by simpa using hus
    have hk:∀ (i:Nat) t q,ts[i]?=some t->(ps.map p2)[i]?=some q->H1 t=some (.tup (q.map V.int)):=fun i t q h1 h2=>by
     have h3:(ts.map V.ref)[i]?=some (.ref t):=by rw [List.getElem?_map,h1];rfl
     obtain ⟨b,ns,e,hb,_⟩:=t1 _ (List.mem_of_getElem? h3)
     cases e
     have h4:((ts.map V.ref).map (kH H1))[i]?=some (kH H1 (.ref t)):=by rw [List.getElem?_map,h3];rfl
     rw [t2,h2,ahj hb] at h4
     cases h4
     exact hb
    refine ⟨a,ts,ps.map p2,rfl,SqL.of (I1.gh _ _ ha),by rw [List.length_map];exact htl,by rw [List.length_map];omega,hk,fun bs L p hbl hll hbk nd hm hf=>?_⟩
    rw [List.length_map] at hll
    have J:=I1.aside (p:=p) (o:=.ext (SH.SetB P w p bs)) (fun _ z=>nomatch z) (I1.no_g hf) (fun j z=>I1.no_f hf j z) (I1.no_b hf)
    have hb2:∀ (i:Nat) b q,bs[i]?=some b->L[i]?=some q->upd H1 p (.ext (SH.SetB P w p bs)) b=some (.tup (q.map V.int)):=fun i b q h1 h2=>by
     have:=hbk i b q h1 h2
     rw [aag (aap this hf)]
     exact this
    have hLp:∀ q∈L,∃ x∈ps,q=p2 x:=fun q hq=>by
     obtain ⟨x,hx,e⟩:=List.mem_map.mp ((hm q).mp hq)
     exact ⟨x,hx,e.symm⟩
    have hbT:∀ b∈bs,TupI (upd H1 p (.ext (SH.SetB P w p bs))) (.ref b):=fun b hb=>by
     obtain ⟨i,hi⟩:=List.getElem?_of_mem hb
     have hil:i < L.length:=by rw [← hbl];exact (List.getElem?_eq_some_iff.mp hi).1
     refine ⟨b,L[i],rfl,hb2 i b _ hi (List.getElem?_eq_getElem hil),?_⟩
     obtain ⟨x,_,e⟩:=hLp _ (List.getElem_mem hil)
     rw [e]
     simp
    have hbL:(bs.map V.ref).map (kH (upd H1 p (.ext (SH.SetB P w p bs))))=L:=by
     refine List.ext_getElem? fun i=>?_
     rw [List.getElem?_map,List.getElem?_map]
     by_cases hi:i < bs.length
     ·rw [List.getElem?_eq_getElem hi,List.getElem?_eq_getElem (show i < L.length by omega),Option.map_some,Option.map_some,ahj (hb2 i _ _ (List.getElem?_eq_getElem hi) (List.getElem?_eq_getElem (by omega)))]
     ·rw [List.getElem?_eq_none (by omega),List.getElem?_eq_none (show L.length<=i by omega)]
      rfl
    refine ⟨p,bs,rfl,aam,by omega,hbT,fun ws p' hp hs hf'=>?_⟩
    have tw:∀ v∈ws,TupI (upd H1 p (.ext (SH.SetB P w p bs))) v:=fun v hv=>by
     obtain ⟨b,hb,rfl⟩:=List.mem_map.mp (hp.mem_iff.mp hv)
     exact hbT b hb
    have o:=Out.newL J.gh hf' (ag4 J.ft tw)
    have hqp:(ws.map (kH (upd H1 p (.ext (SH.SetB P w p bs))))).Perm L:=by
     have:=hp.map (kH (upd H1 p (.ext (SH.SetB P w p bs))))
     rw [hbL] at this
     exact this
    obtain ⟨qs,eqs⟩:∃ qs:List (Int × Int),ws.map (kH (upd H1 p (.ext (SH.SetB P w p bs))))=qs.map p2:=⟨(ws.map (kH (upd H1 p (.ext (SH.SetB P w p bs))))).map fun l=>(l.getD 0 0,l.getD 1 0),by
     rw [List.map_map]
     conv=>lhs;rw [← List.map_id (ws.map (kH (upd H1 p (.ext (SH.SetB P w p bs)))))]
     refine List.map_congr_left fun q hq=>?_
     obtain ⟨x,_,rfl⟩:=hLp q (hqp.mem_iff.mp hq)
     rfl⟩
    rw [eqs] at hqp o
    rw [aht] at o
    have p2i:∀ x y:Int × Int,p2 x=p2 y->x=y:=fun x y e=>by
     obtain ⟨a,b⟩:=x
     obtain ⟨c,d⟩:=y
     simp [p2] at e
     rw [e.1,e.2]
    refine k _ _ _ F1 _ _ e1 (J.out o).1 (g1.trans o.gg) (J.out o).2 (q1 qs ?_ (fun x=>?_) ?_)
    ·have:=hqp.nodup_iff.mpr nd
     rw [List.Nodup,List.pairwise_map] at this
     exact this.imp fun {x y} h e=>h (by rw [e])
    ·constructor
     ·intro hx
      obtain ⟨y,hy,e⟩:=hLp _ (hqp.mem_iff.mp (List.mem_map_of_mem hx))
      rw [p2i x y e]
      exact hy
     ·intro hx
      obtain ⟨y,hy,e⟩:=List.mem_map.mp (hqp.mem_iff.mpr ((hm (p2 x)).mpr (List.mem_map_of_mem hx)))
      rw [← p2i y x e]
      exact hy
    ·rw [← eqs]
     unfold lexS
     rw [List.pairwise_map]
     exact hs
end
end VL
namespace L2
open PySem PySem.W PyProof.Rows
section
variable {X:Cx} {pins:List (Addr × Obj)} {σ:St} {H:Hp} {s:Shared} {a:Addr} {kvs:List (Key × V)} {k:Key} {A:Around} {E:Value->Shared->Prop}
end
section
variable {X:Cx} {o e f:Expr} {apos cpos:Pos} {td ty tx:TE}
end
end L2
namespace VL
open PySem PySem.Spec L2
section
variable {B:Bs} {env:En} {QO:Sl->En->Prop} {Q':PyData->En->Prop} {D':VEnds} {K:Frag} {i:Nat}
noncomputable def a0e (es:List (Int × List PyData)) (k:Int):List PyData:=((es.find? fun p=>decide (p.1=k)).map (·.2)).getD []
end
theorem apn {α β:Type} {K K1 K2:Frag} {src:List (Option Nat)} {e1:En} {wi2:TI} {tif2:TT} {te:TE} {R:List PyData->Prop} {xs:List α} {fa fb : α->PyData} (yf : α->List β) (fc fd : α->β->PyData) (f : α->β->PyData) (q : α->β->Bool) (hc:aef (aal src e1))
  (hl:(xs.flatMap fun x=>((yf x).filter (q x)).map (f x)).length<=999999)
  (h1:∀ x∈xs,∀ B':Bs,B'.K=K->∀ o o',EvI B' wi2 (some (.st (fa x)) :: some (.st (fb x)) :: stO o :: stO o' :: aal src e1) fun ds2 e4=>ds2=(yf x).map (fun y => .tuple [fc x y,fd x y])/\e4=some (.st (fa x)) :: some (.st (fb x)) :: stO o :: stO o' :: aal src e1)
  (h2:∀ x∈xs,∀ y∈yf x,∀ B':Bs,B'.K=K->EvT B' tif2 (some (.st (fa x)) :: some (.st (fb x)) :: some (.st (fc x y)) :: some (.st (fd x y)) :: aal src e1) fun b e6=>b=q x y/\e6=some (.st (fa x)) :: some (.st (fb x)) :: some (.st (fc x y)) :: some (.st (fd x y)) :: aal src e1/\(b=true->Ev B' te (some (.st (fa x)) :: some (.st (fb x)) :: some (.st (fc x y)) :: some (.st (fd x y)) :: aal src e1) fun z e7=>z=f x y/\e7=some (.st (fa x)) :: some (.st (fb x)) :: some (.st (fc x y)) :: some (.st (fd x y)) :: aal src e1))
  (hR:R (xs.flatMap fun x=>((yf x).filter (q x)).map (f x))):LcV2 K (none :: none :: none :: none :: src) (gTup K1 2 (aby (aay 0) (aby (aay 1) gNil))) tYes wi2 (gTup K2 2 (aby (aay 2) (aby (aay 3) gNil))) tif2 te (xs.map fun x => .tuple [fa x,fb x]) e1 R:=by
 refine ⟨fun i ys e=>ys=(xs.take i).flatMap (fun x=>((yf x).filter (q x)).map (f x))/\∃ o o' p p',e=stO o :: stO o' :: stO p :: stO p' :: aal src e1,⟨by simp,none,none,none,none,rfl⟩,?_,?_,?_⟩
 ·rintro i ys e ⟨_,o,o',p,p',rfl⟩
  exact abj (abj (abj (abj hc)))
 ·rintro i d ys e hd ⟨rfl,o,o',p,p',rfl⟩ B' hB
  rw [List.getElem?_map] at hd
  cases hx:xs[i]? with
  | none=>rw [hx] at hd;cases hd
  | some x =>
   rw [hx] at hd
   cases hd
   have hxm:=List.mem_of_getElem? hx
   have et:xs.take (i+1)=xs.take i ++ [x]:=by rw [List.take_add_one,hx];rfl
   have hle:((xs.take (i+1)).flatMap (fun x=>((yf x).filter (q x)).map (f x))).length<=999999:=by
    refine Nat.le_trans ?_ hl
    conv=>rhs;rw [← List.take_append_drop (i+1) xs,List.flatMap_append,List.length_append]
    exact Nat.le_add_right _ _
   refine agg rfl (acl (aaz (acl (aaz (afi (ae3 ?_))))))
   rw [if_pos rfl]
   show EvI B' wi2 (some (.st (fa x)) :: some (.st (fb x)) :: stO p :: stO p' :: aal src e1) _
   intro σ G H F Q I k
   refine h1 x hxm B' hB p p' σ G H F Q I fun J G' H' F' ds2 e4 I' g' it' ⟨hds,he4⟩=>k J G' H' F' ds2 e4 I' g' it' ?_
   subst hds he4
   refine ⟨fun j ys2 e=>ys2=(xs.take i).flatMap (fun x=>((yf x).filter (q x)).map (f x)) ++ (((yf x).take j).filter (q x)).map (f x)/\∃ p p',e=some (.st (fa x)) :: some (.st (fb x)) :: stO p :: stO p' :: aal src e1,⟨by simp,p,p',rfl⟩,?_,?_,?_⟩
   ·rintro j ys2 e ⟨_,p,p',rfl⟩
    exact abj (o:=some (fa x)) (abj (o:=some (fb x)) (abj (abj hc)))
   ·rintro j d2 ys2 e hd2 ⟨rfl,p,p',rfl⟩ B2 hB2
    rw [List.getElem?_map] at hd2
    cases hy:(yf x)[j]? with
    | none=>rw [hy] at hd2;cases hd2
    | some y =>
     rw [hy] at hd2
     cases hd2
     have et2:(yf x).take (j+1)=(yf x).take j ++ [y]:=by rw [List.take_add_one,hy];rfl
     refine agg rfl (acl (aaz (acl (aaz (afi ?_)))))
     show EvT B2 tif2 (some (.st (fa x)) :: some (.st (fb x)) :: some (.st (fc x y)) :: some (.st (fd x y)) :: aal src e1) _
     intro σ G H F Q I k
     refine h2 x hxm y (List.mem_of_getElem? hy) B2 hB2 σ G H F Q I fun b G' H' F' e3 I' g' ⟨hb,he,hq⟩=>k b G' H' F' e3 I' g' ?_
     subst he
     by_cases hp:b=true
     ·rw [if_pos hp]
      intro σ G H F Q I k
      refine hq hp σ G H F Q I fun v G' H' F' d' e4 I' g' r' ⟨hy',he4⟩=>k v G' H' F' d' e4 I' g' r' ?_
      subst hy' he4
      have hqt:q x y=true:=by rw [← hb];exact hp
      refine ⟨?_,?_,some (fc x y),some (fd x y),rfl⟩
      ·refine Nat.le_trans ?_ hle
       rw [et,List.flatMap_append,List.length_append,List.length_append]
       refine Nat.add_le_add_left ?_ _
       simp only [List.flatMap_cons,List.flatMap_nil,List.append_nil,List.length_map]
       exact (List.Sublist.filter (q x) (List.take_sublist j (yf x))).length_le
      ·rw [et2,List.filter_append,List.map_append,← List.append_assoc]
       simp [hqt]
     ·rw [if_neg hp]
      have hqf:q x y=false:=by rw [← hb];simpa using hp
      refine ⟨?_,some (fc x y),some (fd x y),rfl⟩
      rw [et2,List.filter_append,List.map_append]
      simp [hqf]
   ·rintro ys2 e ⟨rfl,p,p',rfl⟩
    refine ⟨?_,some (fa x),some (fb x),p,p',rfl⟩
    rw [et,List.flatMap_append]
    simp
 ·rintro ys e ⟨rfl,o,o',p,p',rfl⟩
  rw [List.length_map,List.take_length]
  exact hR
section
variable {B:Bs} {env:En} {QO:Sl->En->Prop} {Q':PyData->En->Prop} {K:Frag} {E:XK} {i:Nat}
end
end VL
namespace VL
open PySem L2
theorem atj {n:Int} {es:List (Int × Int)} (h:Conn n (Tied es)):∃ fs:List (Int × Int),fs.Nodup/\(∀ p∈fs,p∈es)/\(fs.length:Int)=(n - 1).toNat:=by
 have key:∀ i:Nat,∃ p:Int × Int,(i:Int)+1 < n->p∈es/\∃ (u:Int) (d:Nat),(p=(u,(i:Int)+1)\/p=((i:Int)+1,u))/\Gr.Dist (Tied es) 0 u d/\Gr.Dist (Tied es) 0 ((i:Int)+1) (d+1):=by
  intro i
  by_cases hi:(i:Int)+1 < n
  ·obtain ⟨k,w⟩:=h 0 ((i:Int)+1) (by omega) (by omega) (by omega) hi
   obtain ⟨d,_,hd⟩:=Gr.Dist.of_walk w
   cases d with
   | zero =>
    have hz:=hd.1
    generalize hv:(i:Int)+1=v at hz
    cases hz
    omega
   | succ d =>
    obtain ⟨u,ht,hu⟩:=hd.pred
    rcases ht with ht | ht
    ·exact ⟨_,fun _=>⟨ht,u,d,.inl rfl,hu,hd⟩⟩
    ·exact ⟨_,fun _=>⟨ht,u,d,.inr rfl,hu,hd⟩⟩
  ·exact ⟨(0,0),fun q=>absurd q hi⟩
 obtain ⟨f,hf⟩:∃ f:Nat->Int × Int,∀ i:Nat,(i:Int)+1 < n->f i∈es/\∃ (u:Int) (d:Nat),(f i=(u,(i:Int)+1)\/f i=((i:Int)+1,u))/\Gr.Dist (Tied es) 0 u d/\Gr.Dist (Tied es) 0 ((i:Int)+1) (d+1):=⟨fun i=>Classical.choose (key i),fun i=>Classical.choose_spec (key i)⟩
 refine ⟨(List.range (n - 1).toNat).map f,?_,fun p hp=>?_,by simp⟩
 ·unfold List.Nodup
  rw [List.pairwise_map]
  refine List.Pairwise.imp_of_mem ?_ List.nodup_range
  intro i j hi hj hij e
  have hi1:=List.mem_range.mp hi
  have hj1:=List.mem_range.mp hj
  obtain ⟨_,u,d,e1,hu,hd⟩:=hf i (by omega)
  obtain ⟨_,v,c,e2,hv,hc⟩:=hf j (by omega)
  rw [e] at e1
  have hsw:u=(j:Int)+1/\v=(i:Int)+1:=by
   rcases e1 with e1 | e1 <;> rcases e2 with e2 | e2 <;> rw [e1] at e2 <;> simp only [Prod.mk.injEq] at e2 <;> omega
  rw [hsw.1] at hu
  rw [hsw.2] at hv
  have:=hu.uniq hc
  have:=hv.uniq hd
  omega
 ·obtain ⟨i,hi,rfl⟩:=List.mem_map.mp hp
  exact (hf i (by have:=List.mem_range.mp hi;omega)).1
noncomputable def ab0 (es:List (Int × Int)) (t:Int × Int):List (Int × Int):=es.filter fun p => !decide (p=t)
theorem lessE_mem {es:List (Int × Int)} {t p:Int × Int}:p∈ab0 es t ↔ p∈es/\p ≠ t:=by simp [ab0]
theorem ajh {es:List (Int × Int)} {a b:Int} (h:(a,b)∈es) (x y:Int):Tied es x y ↔ Tied (ab0 es (a,b)) x y\/(x=a/\y=b)\/(x=b/\y=a):=by
 unfold Tied
 rw [lessE_mem,lessE_mem]
 constructor
 ·rintro (q | q)
  ·by_cases e:(x,y)=(a,b)
   ·exact .inr (.inl (by simpa using e))
   ·exact .inl (.inl ⟨q,e⟩)
  ·by_cases e:(y,x)=(a,b)
   ·simp only [Prod.mk.injEq] at e
    exact .inr (.inr ⟨e.2,e.1⟩)
   ·exact .inl (.inr ⟨q,e⟩)
 ·rintro ((q | q) | ⟨rfl,rfl⟩ | ⟨rfl,rfl⟩)
  ·exact .inl q.1
  ·exact .inr q.1
  ·exact .inl h
  ·exact .inr h
theorem afp {n:Int} {es:List (Int × Int)} {a b:Int} (hn:1<=n) (hl:(es.length:Int)=n - 1) (hc:Conn n (Tied es)) (h:(a,b)∈es) (k:Nat):¬ Gr.Walk (Tied (ab0 es (a,b))) a k b:=fun hw=>by
 have hs:∀ u v,Tied (ab0 es (a,b)) u v->Tied (ab0 es (a,b)) v u:=fun _ _ t=>t.symm
 have hc':Conn n (Tied (ab0 es (a,b))):=fun u v u0 u1 v0 v1=>by
  obtain ⟨j,w⟩:=hc u v u0 u1 v0 v1
  clear v0 v1
  induction w with
  | refl=>exact ⟨0,.refl⟩
  | step _ t ih =>
   obtain ⟨m,w⟩:=ih
   rcases (ajh h _ _).mp t with t | ⟨rfl,rfl⟩ | ⟨rfl,rfl⟩
   ·exact ⟨_,.step w t⟩
   ·exact ⟨_,w.app hw⟩
   ·exact ⟨_,w.app (hw.rev hs)⟩
 obtain ⟨fs,nd,sub,len⟩:=atj hc'
 have:=List.Nodup.length_le_of_subset (l₁:=(a,b) :: fs) (l₂:=es) (List.nodup_cons.mpr ⟨fun q=>(lessE_mem.mp (sub _ q)).2 rfl,nd⟩) fun p hp=>by
  rcases List.mem_cons.mp hp with rfl | hp
  ·exact h
  ·exact (lessE_mem.mp (sub _ hp)).1
 simp only [List.length_cons] at this
 omega
section
variable {T T':Int->Int->Prop} {a b:Int}
theorem aq9 (hs:∀ u v,T' u v->T' v u) (hT:∀ x y,T x y ↔ T' x y\/(x=a/\y=b)\/(x=b/\y=a)) (hn:∀ k,¬ Gr.Walk T' a k b) {u v:Int} {i k:Nat} (hu:Gr.Walk T' a i u) (w:Gr.Walk T u k v):((∃ j,Gr.Walk T' a j v)->∃ m,m<=k/\Gr.Walk T' u m v)/\((¬ ∃ j,Gr.Walk T' a j v)->∃ m,m+1<=k/\Gr.Walk T' u m a):=by
 induction w with
 | refl=>exact ⟨fun _=>⟨0,Nat.le_refl _,.refl⟩,fun h=>absurd ⟨i,hu⟩ h⟩
 | @step k x y _ t ih =>
  rcases (hT _ _).mp t with t | ⟨rfl,rfl⟩ | ⟨rfl,rfl⟩
  ·constructor
   ·rintro ⟨j,hy⟩
    obtain ⟨m,hm,q⟩:=ih.1 ⟨_,hy.step (hs _ _ t)⟩
    exact ⟨m+1,by omega,q.step t⟩
   ·intro hy
    obtain ⟨m,hm,q⟩:=ih.2 fun ⟨j,hx⟩=>hy ⟨_,hx.step t⟩
    exact ⟨m,by omega,q⟩
  ·refine ⟨fun ⟨j,hy⟩=>absurd hy (hn j),fun _=>?_⟩
   obtain ⟨m,hm,q⟩:=ih.1 ⟨0,.refl⟩
   exact ⟨m,by omega,q⟩
  ·refine ⟨fun _=>?_,fun hy=>absurd ⟨0,.refl⟩ hy⟩
   obtain ⟨m,hm,q⟩:=ih.2 fun ⟨j,hy⟩=>hn j hy
   exact ⟨m,by omega,q⟩
theorem aer (hs:∀ u v,T' u v->T' v u) (hT:∀ x y,T x y ↔ T' x y\/(x=a/\y=b)\/(x=b/\y=a)) (hn:∀ k,¬ Gr.Walk T' a k b) {u:Int} {i d e:Nat} (hu:Gr.Walk T' a i u) (ha:Gr.Dist T u a d) (hb:Gr.Dist T u b e):d < e:=by
 have up:∀ {k:Nat} {y:Int},Gr.Walk T' u k y->Gr.Walk T u k y:=fun w=>w.rec .refl fun _ t ih => .step ih ((hT _ _).mpr (.inl t))
 obtain ⟨m,hm,q⟩:=(aq9 hs hT hn hu hb.1).2 fun ⟨j,hy⟩=>hn j hy
 have:=ha.2 m (up q)
 omega
theorem ara (hT:∀ x y,T x y ↔ T' x y\/(x=a/\y=b)\/(x=b/\y=a)) {u:Int} {k:Nat} (w:Gr.Walk T a k u):(∃ i,Gr.Walk T' a i u)\/∃ i,Gr.Walk T' b i u:=by
 induction w with
 | refl=>exact .inl ⟨0,.refl⟩
 | step _ t ih =>
  rcases (hT _ _).mp t with t | ⟨rfl,rfl⟩ | ⟨rfl,rfl⟩
  ·rcases ih with ⟨i,q⟩ | ⟨i,q⟩
   ·exact .inl ⟨_,q.step t⟩
   ·exact .inr ⟨_,q.step t⟩
  ·exact .inr ⟨0,.refl⟩
  ·exact .inl ⟨0,.refl⟩
end
theorem ag7 {T T':Int->Int->Prop} {b v:Int} {K:Nat} (hv:Gr.Dist T b v (K+1)) (hT:∀ x y,x ≠ v->y ≠ v->T x y->T' x y):∀ (k:Nat) (p:Int),k<=K->Gr.Dist T b p k->Gr.Walk T' b k p
 | 0,p,_,h=>by cases h.1;exact .refl
 | k+1,p,hk,h=>by
  obtain ⟨u,t,hu⟩:=h.pred
  refine .step (ag7 hv hT k u (by omega) hu) (hT u p ?_ ?_ t)
  ·rintro rfl;have:=hu.uniq hv;omega
  ·rintro rfl;have:=h.uniq hv;omega
theorem arb {n:Int} {es:List (Int × Int)} {b v p q:Int} {K:Nat} (hn:1<=n) (hl:(es.length:Int)=n - 1) (hc:Conn n (Tied es)) (tp:Tied es v p) (tq:Tied es v q) (hp:Gr.Dist (Tied es) b p K) (hq:Gr.Dist (Tied es) b q K) (hv:Gr.Dist (Tied es) b v (K+1)):p=q:=by
 apply Classical.byContradiction
 intro hne
 have pv:p ≠ v:=by rintro rfl;have:=hp.uniq hv;omega
 have qv:q ≠ v:=by rintro rfl;have:=hq.uniq hv;omega
 have key:∀ t:Int × Int,(t=(v,p)\/t=(p,v))->∃ k,Gr.Walk (Tied (ab0 es t)) v k p:=by
  intro t ht
  have hs:∀ u v,Tied (ab0 es t) u v->Tied (ab0 es t) v u:=fun _ _ t=>t.symm
  have hT:∀ x y,x ≠ v->y ≠ v->Tied es x y->Tied (ab0 es t) x y:=fun x y hx hy h=>by
   have n1:(x,y) ≠ t:=fun e=>by rw [← e] at ht;simp only [Prod.mk.injEq] at ht;omega
   have n2:(y,x) ≠ t:=fun e=>by rw [← e] at ht;simp only [Prod.mk.injEq] at ht;omega
   rcases h with h | h
   ·exact .inl (lessE_mem.mpr ⟨h,n1⟩)
   ·exact .inr (lessE_mem.mpr ⟨h,n2⟩)
  have hvq:Tied (ab0 es t) v q:=by
   have n1:(v,q) ≠ t:=fun e=>by rw [← e] at ht;simp only [Prod.mk.injEq] at ht;omega
   have n2:(q,v) ≠ t:=fun e=>by rw [← e] at ht;simp only [Prod.mk.injEq] at ht;omega
   rcases tq with h | h
   ·exact .inl (lessE_mem.mpr ⟨h,n1⟩)
   ·exact .inr (lessE_mem.mpr ⟨h,n2⟩)
  exact ⟨_,(Gr.Walk.step .refl hvq).app (((ag7 hv hT K q (Nat.le_refl _) hq).rev hs).app (ag7 hv hT K p (Nat.le_refl _) hp))⟩
 rcases tp with h | h
 ·obtain ⟨k,w⟩:=key (v,p) (.inl rfl)
  exact afp hn hl hc h k w
 ·obtain ⟨k,w⟩:=key (p,v) (.inr rfl)
  exact afp hn hl hc h k (w.rev fun _ _ t=>t.symm)
structure WayTo (T:Int->Int->Prop) (a b:Int) (d:Nat) (ws:List Int):Prop where
 len:ws.length=d+1
 fst:ws[0]?=some a
 far:∀ (i:Nat) x,ws[i]?=some x->Gr.Dist T b x (d - i)
 tie:∀ (i:Nat) x y,ws[i]?=some x->ws[i+1]?=some y->T x y
theorem WayTo.uniq {n:Int} {es:List (Int × Int)} {a b:Int} {d:Nat} {ws zs:List Int} (hn:1<=n) (hl:(es.length:Int)=n - 1) (hc:Conn n (Tied es)) (h:WayTo (Tied es) a b d ws) (g:WayTo (Tied es) a b d zs):ws=zs:=by
 have key:∀ i:Nat,i<=d->ws[i]?=zs[i]?:=by
  intro i
  induction i with
  | zero=>intro _;rw [h.fst,g.fst]
  | succ i ih =>
   intro hi
   have e:=ih (by omega)
   obtain ⟨x,hx⟩:∃ x,ws[i]?=some x:=⟨_,List.getElem?_eq_getElem (by rw [h.len];omega)⟩
   obtain ⟨y,hy⟩:∃ y,ws[i+1]?=some y:=⟨_,List.getElem?_eq_getElem (by rw [h.len];omega)⟩
   obtain ⟨z,hz⟩:∃ z,zs[i+1]?=some z:=⟨_,List.getElem?_eq_getElem (by rw [g.len];omega)⟩
   have hx':zs[i]?=some x:=by rw [← e];exact hx
   have dx:=h.far i x hx
   have dy:=h.far (i+1) y hy
   have dz:=g.far (i+1) z hz
   rw [show d - i=d - (i+1)+1 by omega] at dx
   rw [hy,hz,arb hn hl hc (h.tie i x y hx hy) (g.tie i x z hx' hz) dy dz dx]
 refine List.ext_getElem? fun i=>?_
 by_cases hi:i<=d
 ·exact key i hi
 ·rw [List.getElem?_eq_none (by rw [h.len];omega),List.getElem?_eq_none (by rw [g.len];omega)]
theorem WayTo.walk {T:Int->Int->Prop} {a b:Int} {d:Nat} {zs:List Int} (h:WayTo T a b d zs):∀ (j:Nat) x,zs[j]?=some x->Gr.Walk T a j x
 | 0,x,e=>by rw [h.fst] at e;cases e;exact .refl
 | j+1,x,e=>by
  have hj:=(List.getElem?_eq_some_iff.mp e).1
  obtain ⟨y,hy⟩:∃ y,zs[j]?=some y:=⟨_,List.getElem?_eq_getElem (by omega)⟩
  exact .step (h.walk j y hy) (h.tie j y x hy e)
theorem WayTo.rev {T:Int->Int->Prop} {a b:Int} {d:Nat} {zs:List Int} (hs:∀ u v,T u v->T v u) (h:WayTo T b a d zs):WayTo T a b d zs.reverse:=by
 have get:∀ (i:Nat) x,zs.reverse[i]?=some x->i<=d/\zs[d - i]?=some x:=fun i x e=>by
  have hi:=(List.getElem?_eq_some_iff.mp e).1
  rw [List.length_reverse,h.len] at hi
  rw [List.getElem?_reverse (by rw [h.len];exact hi),h.len] at e
  exact ⟨by omega,by rw [show d - i=d+1 - 1 - i by omega];exact e⟩
 have hab:Gr.Dist T a b d:=h.far 0 b h.fst
 refine ⟨by rw [List.length_reverse,h.len],?_,fun i x e=>?_,fun i x y e1 e2=>?_⟩
 ·rw [List.getElem?_reverse (by rw [h.len];omega),h.len]
  obtain ⟨x,hx⟩:∃ x,zs[d+1 - 1 - 0]?=some x:=⟨_,List.getElem?_eq_getElem (by rw [h.len];omega)⟩
  have:=h.far _ x hx
  rw [show d - (d+1 - 1 - 0)=0 by omega] at this
  rw [hx]
  cases this.1
  rfl
 ·obtain ⟨hi,e⟩:=get i x e
  refine ⟨h.walk (d - i) x e,fun k w=>?_⟩
  have h1:=h.far (d - i) x e
  rw [show d - (d - i)=i by omega] at h1
  have:=hab.2 _ (h1.1.app (w.rev hs))
  omega
 ·obtain ⟨hi,e1⟩:=get i x e1
  obtain ⟨hi2,e2⟩:=get (i+1) y e2
  exact hs _ _ (h.tie (d - (i+1)) y x e2 (by rw [show d - (i+1)+1=d - i by omega];exact e1))
end VL
namespace G
open PySem L2 VL
noncomputable def top (i:Nat):Stmt:=PySem.Challenge.pw_fewties_k40_whole_ways_and_middles.main.body.getD i (.Pass ⟨0,0,0,0⟩)
noncomputable abbrev s_is_whole:Stmt:=top 7
noncomputable abbrev s_is_between:Stmt:=top 8
noncomputable abbrev s_is_place:Stmt:=top 9
noncomputable abbrev s_is_tie:Stmt:=top 10
noncomputable abbrev s_are_ties:Stmt:=top 11
noncomputable abbrev s_is_rising:Stmt:=top 12
noncomputable abbrev s_tied_places:Stmt:=top 13
noncomputable abbrev s_far_from:Stmt:=top 14
noncomputable abbrev s_need_place:Stmt:=top 15
noncomputable abbrev s_all_far:Stmt:=top 16
noncomputable abbrev s_how_far:Stmt:=top 17
noncomputable abbrev s_is_joined:Stmt:=top 18
noncomputable abbrev s_short_way:Stmt:=top 19
noncomputable abbrev s_need_joined:Stmt:=top 21
noncomputable abbrev s_far_rows:Stmt:=top 22
noncomputable abbrev s_most_far:Stmt:=top 23
noncomputable abbrev s_farthest_two:Stmt:=top 24
noncomputable abbrev s_middles:Stmt:=top 25
noncomputable abbrev s_is_tree:Stmt:=top 27
noncomputable abbrev s_need_tree:Stmt:=top 28
noncomputable abbrev s_far_way:Stmt:=top 29
noncomputable abbrev s_far_ends:Stmt:=top 30
noncomputable abbrev s_parting_tie:Stmt:=top 31
noncomputable abbrev s_parted_far:Stmt:=top 32
noncomputable abbrev s_with_ties:Stmt:=top 34
noncomputable abbrev s_law_cell:Stmt:=top 36
noncomputable abbrev s_law_store:Stmt:=top 37
noncomputable abbrev s_law_take:Stmt:=top 38
noncomputable abbrev s_law_tree_ties:Stmt:=top 39
noncomputable abbrev s_law_renumbered:Stmt:=top 40
noncomputable abbrev s_law_tree:Stmt:=top 41
noncomputable abbrev s_law_way_right:Stmt:=top 43
noncomputable abbrev s_law_ends_right:Stmt:=top 44
noncomputable abbrev s_law_parting_right:Stmt:=top 45
noncomputable abbrev s_law:Stmt:=top 46
structure Txt (K:Frag) (mg:Str->Option Value):Prop where
 b_ValueError:mg "ValueError" = none
 b_all:mg "all" = none
 b_max:mg "max" = none
 b_min:mg "min" = none
 b_sorted:mg "sorted" = none
 b_range:mg "range" = none
 b_list:mg "list" = none
 b_isinstance:mg "isinstance" = none
 b_int:mg "int" = none
 b_len:mg "len" = none
 b_set:mg "set" = none
 b_bool:mg "bool" = none
 b_tuple:mg "tuple" = none
 b_enumerate:mg "enumerate" = none
 b_zip:mg "zip" = none
 d_is_whole:∃ f fd,DefAt K mg "is_whole" s_is_whole ["thing"] f fd
 d_is_between:∃ f fd,DefAt K mg "is_between" s_is_between ["least","most","thing"] f fd
 d_is_place:∃ f fd,DefAt K mg "is_place" s_is_place ["n","thing"] f fd
 d_is_tie:∃ f fd,DefAt K mg "is_tie" s_is_tie ["n","thing"] f fd
 d_are_ties:∃ f fd,DefAt K mg "are_ties" s_are_ties ["n","thing"] f fd
 d_is_rising:∃ f fd,DefAt K mg "is_rising" s_is_rising ["things"] f fd
 d_tied_places:∃ f fd,DefAt K mg "tied_places" s_tied_places ["web"] f fd
 d_far_from:∃ f fd,DefAt K mg "far_from" s_far_from ["tied","start"] f fd
 d_need_place:∃ f fd,DefAt K mg "need_place" s_need_place ["web","thing"] f fd
 d_all_far:∃ f fd,DefAt K mg "all_far" s_all_far ["web","a"] f fd
 d_how_far:∃ f fd,DefAt K mg "how_far" s_how_far ["web","a","b"] f fd
 d_is_joined:∃ f fd,DefAt K mg "is_joined" s_is_joined ["web"] f fd
 d_short_way:∃ f fd,DefAt K mg "short_way" s_short_way ["web","a","b"] f fd
 d_need_joined:∃ f fd,DefAt K mg "need_joined" s_need_joined ["web"] f fd
 d_far_rows:∃ f fd,DefAt K mg "far_rows" s_far_rows ["web"] f fd
 d_most_far:∃ f fd,DefAt K mg "most_far" s_most_far ["rows"] f fd
 d_farthest_two:∃ f fd,DefAt K mg "farthest_two" s_farthest_two ["web"] f fd
 d_middles:∃ f fd,DefAt K mg "middles" s_middles ["web"] f fd
 d_is_tree:∃ f fd,DefAt K mg "is_tree" s_is_tree ["web"] f fd
 d_need_tree:∃ f fd,DefAt K mg "need_tree" s_need_tree ["web"] f fd
 d_far_way:∃ f fd,DefAt K mg "far_way" s_far_way ["web"] f fd
 d_far_ends:∃ f fd,DefAt K mg "far_ends" s_far_ends ["web"] f fd
 d_parting_tie:∃ f fd,DefAt K mg "parting_tie" s_parting_tie ["web"] f fd
 d_parted_far:∃ f fd,DefAt K mg "parted_far" s_parted_far ["rows","tie"] f fd
 d_with_ties:∃ f fd,DefAt K mg "with_ties" s_with_ties ["web","ties"] f fd
 d_law_cell:∃ f fd,DefAt K mg "_law_cell" s_law_cell ["script","k"] f fd
 d_law_store:∃ f fd,DefAt K mg "_law_store" s_law_store ["cell"] f fd
 d_law_take:∃ f fd,DefAt K mg "_law_take" s_law_take ["store","many"] f fd
 d_law_tree_ties:∃ f fd,DefAt K mg "_law_tree_ties" s_law_tree_ties ["store","n","kind"] f fd
 d_law_renumbered:∃ f fd,DefAt K mg "_law_renumbered" s_law_renumbered ["store","n","ties"] f fd
 d_law_tree:∃ f fd,DefAt K mg "_law_tree" s_law_tree ["store"] f fd
 d_law_way_right:∃ f fd,DefAt K mg "_law_way_right" s_law_way_right ["web"] f fd
 d_law_ends_right:∃ f fd,DefAt K mg "_law_ends_right" s_law_ends_right ["store","web"] f fd
 d_law_parting_right:∃ f fd,DefAt K mg "_law_parting_right" s_law_parting_right ["web"] f fd
 d_law:∃ f fd,DefAt K mg "law" s_law ["script"] f fd
local macro_rules | `(tactic| row_cond sc) => `(tactic| exact ⟨rfl,rfl,rfl,by decide +kernel,rfl,by decide +kernel,by decide +kernel⟩)
local macro_rules | `(tactic| row_cond gn) => `(tactic| first | (with_reducible first | refine evg_n0 ?_ | refine ayb ?_ | refine ayc ?_ | refine ayd ?_ | refine aye ?_ | refine ayf ?_ | refine ayg ?_ | refine ayh ?_ | refine evg_n8 ?_ | refine evg_n9 ?_ | refine evg_n10 ?_ | refine evg_n11 ?_ | refine evg_n12 ?_ | refine evg_n13 ?_ | refine evg_n14 ?_ | refine evg_n15 ?_ | refine evg_n16 ?_ | refine evg_n17 ?_ | refine evg_n18 ?_ | refine evg_n19 ?_ | refine evg_n20 ?_ | refine evg_n21 ?_ | refine evg_n22 ?_ | refine evg_n23 ?_ | refine evg_n24 ?_ | refine evg_n25 ?_) | ((with_reducible refine aaz ?_); dsimp only [List.set_cons_zero, List.set_cons_succ]))
local macro_rules | `(tactic| row_cond dc) => `(tactic| first | assumption | omega | (with_reducible rfl))
local macro_rules | `(tactic| row_cond ar) => `(tactic| first | assumption | (refine ⟨?_, ?_, ?_⟩ <;> decide) | (constructor <;> first | assumption | omega) | (show (0 : Int) < _; first | assumption | omega) | (left; constructor <;> first | assumption | omega) | (right; constructor <;> first | assumption | omega))
local macro_rules | `(tactic| row_cond hs) => `(tactic| first | exact Or.inl rfl | exact Or.inr rfl)
local macro_rules | `(tactic| row_cond fz) => `(tactic| first | exact abg | exact frz_OD | exact frz_OT | exact alp | exact agm | assumption)
local macro_rules | `(tactic| row_cond le) => `(tactic| first | exact Nat.le_of_ble_eq_true rfl | assumption | omega | (simp only [List.length_append, List.length_map, List.length_cons, List.length_nil, List.length_set, List.length_replicate]; omega))
local macro_rules | `(tactic| row_cond ia) => `(tactic| first | assumption | exact at0 | exact at1 | exact at2 | exact rfl)
local macro_rules | `(tactic| row_cond ty) => `(tactic| first | exact ax8 | exact avr | exact ast | exact avs | exact ty_str | exact ty_dict)
local macro_rules | `(tactic| row_cond sEvS) => `(tactic| first | (with_reducible refine ase (fun c_ hc_ => ?_)) | (with_reducible first | refine avc ?_ | refine aqk ?_ | refine ar9 ?_) | ((with_reducible refine' asu ?h0 ?_); (case h0 => exact rfl)) | (with_reducible first | refine ano ?_ | refine avd ?_ | refine ar8 ?_) | ((with_reducible refine' anp ?h0 ?_); (case h0 => assumption)))
local macro_rules | `(tactic| row_cond sEvG) => `(tactic| first | row_cond gn | ((with_reducible refine' agg ?h0 ?_); (case h0 => exact rfl)) | ((with_reducible refine' ass ?h0 ?_); (case h0 => row_cond hs)) | (with_reducible refine evg_st ?_))
local macro_rules | `(tactic| row_cond sEvGs) => `(tactic| first | (with_reducible first | refine acl ?_ | refine afi ?_))
local macro_rules | `(tactic| row_cond sEv) => `(tactic| first | ((with_reducible refine' axs ?h0 ?_); (case h0 => exact rfl)) | (with_reducible refine axt ?_) | ((with_reducible refine' ax5 ?h0 ?_); (case h0 => row_cond hs)) | ((with_reducible refine' ax6 ?h0 ?h1 ?_); (case h0 => exact rfl); (case h1 => assumption)) | (with_reducible refine azl ?_) | ((with_reducible refine' avp ?h0 ?h1 ?_); (case h0 => exact rfl); (case h1 => assumption)) | ((with_reducible refine' ax7 ?h0 ?_); (case h0 => row_cond ty)) | ((with_reducible refine' ax4 ?h0 ?h1 ?_); (case h0 => row_cond hs); (case h1 => row_cond fz)) | ((with_reducible refine' aqo ?h0 ?_); (case h0 => exact rfl)) | ((with_reducible refine' aqp ?h0 ?_); (case h0 => exact rfl)) | ((with_reducible refine' asg ?h0 ?h1 ?_); (case h0 => exact rfl); (case h1 => assumption)) | (with_reducible refine asf ?_) | ((with_reducible refine' au7 ?h0 ?h1 ?_); (case h0 => exact rfl); (case h1 => row_cond fz); dsimp only [List.set_cons_zero, List.set_cons_succ]) | (with_reducible first | refine axw ?_ | refine axx ?_ | refine azk ?_ | refine axu ?_ | refine azm ?_ | refine ava ?_ | refine avb ?_ | refine ar7 ?_ | refine abp (te:=tCB (ahk _) _) ?_ | refine abp (te:=tCB (ak0 _) _) ?_ | refine azn ?_) | ((with_reducible refine' apa ?h0 ?_); (case h0 => row_cond hs)) | ((with_reducible refine' asr ?h0 ?_); (case h0 => row_cond hs)) | (with_reducible refine ev_listR ?_) | ((with_reducible refine' azw ?h0 ?_); (case h0 => decide)) | (with_reducible first | refine asq ?_ | refine aym ?_ | refine atc ?_))
local macro_rules | `(tactic| row_cond sEvO) => `(tactic| first | (with_reducible first | refine alf (r:=rCat) ?_ | refine alf (r:=rRep) ?_ | refine abh (te:=tOp _ _ _) ?_ | refine abh (te:=tVar _) ?_ | refine abh (te:=tC _) ?_ | refine anl ?_) | ((with_reducible refine' as7 ?h0 ?_); (case h0 => exact rfl)) | (with_reducible refine ank ?_) | ((with_reducible refine' ahp ?h0 ?_); (case h0 => exact rfl)) | ((with_reducible refine' ahq ?h0 ?_); (case h0 => exact rfl)) | ((with_reducible refine' ai6 ?h0 ?h1 ?_); (case h0 => exact rfl); (case h1 => assumption)) | (with_reducible first | refine ai5 ?_ | refine avt ?_) | ((with_reducible refine' aqm ?h0 ?_); (case h0 => decide)) | (with_reducible first | refine an6 ?_) | (with_reducible first | refine ai9 ?_ | refine aqy ?_ | refine abh (te:=tUn _ _) ?_ | refine abh (te:=aon _ _) ?_ | refine abh (te:=aoo _) ?_ | refine abh (te:=akl _ _ _ _ _) ?_ | refine abh (te:=tCB (rLen _) _) ?_ | refine abh (te:=tCB (rIsi _) _) ?_ | refine abh (te:=tCB aka _) ?_ | refine abh (te:=tCB akb _) ?_ | refine abh (te:=tCB akc _) ?_ | refine abh (te:=tCB (aep _) _) ?_ | refine abh (te:=tCB (ao3 _) _) ?_ | refine abh (te:=tCB (rAll _) _) ?_ | refine abh (te:=tBM _ _ _ _ _) ?_))
local macro_rules | `(tactic| row_cond sEvT) => `(tactic| first | (with_reducible first | refine ag2 ?_ | refine azo ?_ | refine au8 ?_ | refine axy ?_ | refine anm ?_ | refine ae3 ?_) | (with_reducible refine au9 ?_))
local macro_rules | `(tactic| row_cond sEvA) => `(tactic| first | (with_reducible first | refine ar6 ?_ | refine anj ?_))
local macro_rules | `(tactic| row_cond sEvI) => `(tactic| first | (with_reducible first | refine asb ?_ | refine asd ?_ | refine evi_down ?_ | refine asa ?_ | refine as6 ?_ | refine avy ?_) | (with_reducible refine evi_tup ?_))
local macro_rules | `(tactic| row_cond sEvOp) => `(tactic| first | (with_reducible first | refine asp ?_))
local macro_rules | `(tactic| row_cond sOp2) => `(tactic| first | (with_reducible first | refine ave ?_ | refine avf ?_) | ((with_reducible refine' ax2 ?h0 ?_); (case h0 => row_cond ar)) | (with_reducible first | refine avg ?_ | refine avh ?_) | ((with_reducible refine' avj ?h0 ?_); (case h0 => row_cond ia)) | ((with_reducible refine' avk ?h0 ?_); (case h0 => row_cond ia)) | (with_reducible first | refine avi ?_ | refine avm ?_) | ((with_reducible refine' avn ?h0 ?_); (case h0 => row_cond le)))
local macro_rules | `(tactic| row_cond sOp1) => `(tactic| first | (with_reducible refine ax3 ?_))
local macro_rules | `(tactic| row_cond sOpA) => `(tactic| first | (with_reducible first | refine asj ?_ | refine asl ?_ | refine asm ?_ | refine asn ?_ | refine aso ?_))
local macro_rules | `(tactic| row_cond sFQ) => `(tactic| first | (with_reducible first | refine azj ?_ | refine ad5 ?_ | refine aue ?_))
local macro_rules | `(tactic| row_cond sRngA1) => `(tactic| first | ((with_reducible refine' ax0 ?h0 ?h1 ?_); (case h0 => omega); (case h1 => omega)))
local macro_rules | `(tactic| row_cond sRngA2) => `(tactic| first | ((with_reducible refine' ax1 ?h0 ?_); (case h0 => omega)))
local macro_rules | `(tactic| row_cond sRest) => `(tactic| first | (with_reducible first | refine x_bl ?_ | refine x_st ?_ | refine axz ?_ | refine azp ?_) | ((with_reducible refine' azt ?h0 ?h1 ?_); (case h0 => row_cond hs); (case h1 => row_cond ia)) | ((with_reducible refine' azu ?h0 ?_); (case h0 => row_cond ia)) | ((with_reducible refine' x_sc ?h0 ?_); (case h0 => exact rfl)) | ((with_reducible refine' azs ?h0 ?_); (case h0 => row_cond le)) | (with_reducible first | refine acb ?_ | refine ack ?_ | refine aic ?_ | refine aid ?_) | ((with_reducible refine' ah6 ?h0 ?_); (case h0 => row_cond dc)) | ((with_reducible refine' ah7 ?h0 ?_); (case h0 => row_cond dc)) | ((with_reducible refine' ar3 ?h0 ?_); (case h0 => row_cond dc)) | ((with_reducible refine' ar4 ?h0 ?_); (case h0 => row_cond dc)) | ((with_reducible refine' azv ?h0 ?_); (case h0 => first | exact rfl | row_cond hs)) | ((with_reducible refine' x_rt ?h0 ?_); (case h0 => exact rfl)) | ((with_reducible refine' ax9 ?h0 ?h1 ?_); (case h0 => exact rfl); (case h1 => row_cond le); dsimp only [List.set_cons_zero, List.set_cons_succ]) | ((with_reducible refine' apb ?h0 ?h1 ?_); (case h0 => exact rfl); (case h1 => first | exact ixN0 | exact ixN1 | exact ixN2 | assumption); dsimp only [List.set_cons_zero, List.set_cons_succ, reS]) | ((with_reducible refine' aya ?h0 ?h1 ?_); (case h0 => exact rfl); (case h1 => first | exact ixN0 | exact ixN1 | exact ixN2 | assumption); dsimp only [List.set_cons_zero, List.set_cons_succ, reS]) | (with_reducible first | refine asv ?_) | (with_reducible first | refine x_en ?_ | refine azx ?_) | ((with_reducible refine' avz ?h0 ?h1 ?_); (case h0 => omega); (case h1 => omega)) | ((with_reducible refine' x_ow ?h0 ?_); (case h0 => exact rfl); dsimp only [List.set_cons_zero, List.set_cons_succ]))
local macro_rules | `(tactic| row_cond st) => `(tactic| first | ((with_reducible refine azy ?_); row_cond sEvS) | ((with_reducible refine azz ?_); row_cond sEvG) | ((with_reducible refine ayk ?_); row_cond sEvGs) | ((with_reducible refine g_Ev ?_); row_cond sEv) | ((with_reducible refine az0 ?_); row_cond sEvO) | ((with_reducible refine az1 ?_); row_cond sEvT) | ((with_reducible refine az2 ?_); row_cond sEvA) | ((with_reducible refine az3 ?_); row_cond sEvI) | ((with_reducible refine ayl ?_); row_cond sEvOp) | ((with_reducible refine az4 ?_); row_cond sOp2) | ((with_reducible refine az5 ?_); row_cond sOp1) | ((with_reducible refine az6 ?_); row_cond sOpA) | ((with_reducible refine g_FQ ?_); row_cond sFQ) | ((with_reducible refine av2 ?_); row_cond sRngA1) | ((with_reducible refine av3 ?_); row_cond sRngA2) | row_cond sRest)
local macro_rules | `(tactic| row_cond go) => `(tactic| repeat row_cond st)
local macro_rules | `(tactic| row_cond hnx) => `(tactic| first | assumption | (apply Ne.symm; assumption) | exact aap (by assumption) (by assumption) | exact (aap (by assumption) (by assumption)).symm)
local macro_rules | `(tactic| row_cond hhp) => `(tactic| first | assumption | exact aam | (rw [aag (by row_cond hnx)]; row_cond hhp) | ((refine' Same.at ?ss ?hh); (case ss => assumption); (case hh => row_cond hhp)))
local macro_rules | `(tactic| row_cond hix) => `(tactic| first | assumption | exact at0 | exact at1 | exact at2)
local macro_rules | `(tactic| row_cond hst) => `(tactic| first | (with_reducible first | refine go_seq ?_ | refine go_asg ?_ | refine am9 ?_ | refine go_op ?_ | refine go_c ?_ | refine go_I0 ?_ | refine go_U ?_ | refine ap8 ?_ | refine go_test ?_ | refine go_bl ?_ | refine go_ifS ?_ | refine go_and ?_ | refine go_ret ?_ | refine go_drop ?_ | refine go_next ?_ | refine go_cb ?_ | refine go_cons ?_ | refine ap7 ?_ | refine go_call ?_ | refine anc ?_ | refine ane ?_ | refine anf ?_ | refine go_gsub ?_ | refine go_lstW ?_ | refine go_bmL ?_ | refine go_for ?_ | refine go_lc ?_ | refine go_irng1 ?_ | refine ap9 ?_ | refine acb ?_ | refine ack ?_) | ((with_reducible refine' go_var ?hv ?_); (case hv => exact rfl)) | ((with_reducible refine' afh ?ha ?hv ?_); (case ha => row_cond hhp); (case hv => row_cond hix)) | ((with_reducible refine go_I ?hc ?_); (case hc => row_cond ar)) | ((with_reducible refine' anb ?ha ?_); (case ha => row_cond hhp)) | ((with_reducible refine' ana ?ha ?hj ?_); (case ha => row_cond hhp); (case hj => first | exact ixN0 | exact ixN1 | exact ixN2)) | ((with_reducible refine' go_tyL ?ha ?_); (case ha => row_cond hhp)) | ((with_reducible refine' afx ?ha ?hl ?_); (case ha => row_cond hhp); (case hl => exact aej (by simp; omega))) | ((with_reducible refine' ah6 ?hc ?_); (case hc => row_cond dc)) | ((with_reducible refine' ah7 ?hc ?_); (case hc => row_cond dc)) | dsimp only [List.set_cons_zero, List.set_cons_succ])
local macro_rules | `(tactic| row_cond hgo) => `(tactic| repeat row_cond hst)
noncomputable def isInt:PyData->Bool
 | .int _=>true
 | _=>false
noncomputable def btwD (a b:Int):PyData->Bool
 | .int i=>decide (a<=i/\i<=b)
 | _=>false
def awh:VP:=fun ss Q=>∃ d,ss=[.st d]/\Q (.st (.bool (isInt d)))
def arc:VP:=fun ss Q=>∃ (a b:Int) (d:PyData),ss=[.st (.int a),.st (.int b),.st d]/\Q (.st (.bool (btwD a b d)))
def awi:VP:=fun ss Q=>∃ (n:Int) (d:PyData),ss=[.st (.int n),.st d]/\Q (.st (.bool (btwD 0 (n - 1) d)))
section
variable {P:Program} {w:World} {K:Frag} {mg:Str->Option Value} {base:Heap}
theorem sc_is_whole:FnScope ["thing"] ["thing"] (aah s_is_whole):=by row_cond sc
theorem al6 (T:Txt K mg):Can P w K mg base "is_whole" 1 ["thing"] (spP K (awh)):=by
 obtain ⟨f,fd,D⟩:=T.d_is_whole
 refine D.can (D.fn.ok sc_is_whole (fun vs H Q E h=>lenP h fun ss Q' q=>by obtain ⟨d,rfl,k⟩:=q;rfl) (fun cdv A outer s H vs Q E hr h=>?_))
 have nd:=sc_is_whole.nd
 refine ⟨_,(aaf (aan (adp (aak afg (by rfl) T.b_isinstance acv (aaa (pv 0) (aaa (aga (v:=.ty "int") rfl T.b_int aqb rfl) aab))) (aex (aw3 (aak afg (by rfl) T.b_isinstance acv (aaa (pv 0) (aaa (aga (v:=.ty "bool") rfl T.b_bool au0 rfl) aab)))))))),?_⟩
 refine aa1 h fun ss Q' q B hK=>?_
 refine exS1 ss q fun d q1_=>?_
 have k:=q1_
 clear q1_ q
 show EvS B _ _ [some (.st d)]
 row_cond go
 cases d with
 | int i => refine acb ?_; row_cond go; exact k
 | bool b => refine acb ?_; row_cond go; exact k
 | _=>refine ack ?_;exact k
theorem sc_is_between:FnScope ["least","most","thing"] ["least","most","thing"] (aah s_is_between):=by row_cond sc
theorem aip (T:Txt K mg):Can P w K mg base "is_between" 2 ["least","most","thing"] (spP K (arc)):=by
 obtain ⟨f,fd,D⟩:=T.d_is_between
 refine D.can (D.fn.ok sc_is_between (fun vs H Q E h=>lenP h fun ss Q' q=>by obtain ⟨a,b,d,rfl,k⟩:=q;rfl) (fun cdv A outer s H vs Q E hr h=>?_))
 have nd:=sc_is_between.nd
 refine ⟨_,(aaf (aan (adp (aad (al6 T) hr (aaa (pv 2) aab)) (aex (arl aor aor (pv 0) (pv 2) (pv 1)))))),?_⟩
 refine aa1 h fun ss Q' q B hK=>?_
 refine exS3 ss q fun a b d q1_=>?_
 have k:=q1_
 clear q1_ q
 show EvS B _ _ [some (.st (.int a)),some (.st (.int b)),some (.st d)]
 row_cond go
 refine ⟨d,rfl,?_⟩
 row_cond go
 cases d with
 | int i =>
  refine acb ?_
  row_cond go
  refine ae1 (fun h1=>?_) (fun h1=>?_)
  ·row_cond go
   have e:decide (i<=b)=btwD a b (.int i):=by
    show _=decide (a<=i/\i<=b)
    rw [Bool.eq_iff_iff];simp [h1]
   rw [e];exact k
  ·have e:false=btwD a b (.int i):=by
    show _=decide (a<=i/\i<=b)
    exact (decide_eq_false (fun z=>h1 z.1)).symm
   rw [e];exact k
 | _=>exact ack k
theorem sc_is_place:FnScope ["n","thing"] ["n","thing"] (aah s_is_place):=by row_cond sc
theorem aeg (T:Txt K mg):Can P w K mg base "is_place" 3 ["n","thing"] (spP K (awi)):=by
 obtain ⟨f,fd,D⟩:=T.d_is_place
 refine D.can (D.fn.ok sc_is_place (fun vs H Q E h=>lenP h fun ss Q' q=>by obtain ⟨n,d,rfl,k⟩:=q;rfl) (fun cdv A outer s H vs Q E hr h=>?_))
 have nd:=sc_is_place.nd
 refine ⟨_,(aaf (aan (aad (aip T) hr (aaa aae (aaa (aaq adq (pv 0) aae) (aaa (pv 1) aab)))))),?_⟩
 refine aa1 h fun ss Q' q B hK=>?_
 refine exS2 ss q fun n d q1_=>?_
 have k:=q1_
 clear q1_ q
 show EvS B _ _ [some (.st (.int n)),some (.st d)]
 row_cond go
 exact ⟨_,_,_,rfl,k⟩
def ayz:VP:=fun ss Q=>∃ (n:Int) (es:List (Int × Int)),ss=[.st (webD n es)]/\0<=n/\n<=100/\InN n es/\es.length<=10000/\∀ tl,TiedL n (Tied es) tl->(∀ us∈tl,us.length<=20000)->Q (.own (OLL (tlD tl)))
theorem sc_tied_places:FnScope ["web","n","ties","tied","a","b"] ["web"] (aah s_tied_places):=by row_cond sc
theorem adg (T:Txt K mg):Can P w K mg base "tied_places" 1 ["web"] (spP K (ayz)):=by
 obtain ⟨f,fd,D⟩:=T.d_tied_places
 refine D.can (D.fn.ok sc_tied_places (fun vs H Q E h=>lenP h fun ss Q' q=>by obtain ⟨n,es,rfl,n0,n1,hin,hle,k⟩:=q;rfl) (fun cdv A outer s H vs Q E hr h=>?_))
 have nd:=sc_tied_places.nd
 refine ⟨_,(aac (ab1 (pv 0) (abm rfl (aao (aai (i:=1) nd rfl (Or.inl rfl)) (aao (aai (i:=2) nd rfl (Or.inl rfl)) abb))))
  (aac (afd (i:=3) nd rfl (Or.inl rfl) rfl (N:=["place"]) (src:=[none]) (by exact aa4 rfl rfl rfl rfl rfl rfl) (acy rfl T.b_range (aaa (pv 1) aab)) (fun _ _ _ _=>(aai (i:=0) (show List.Nodup (["place"]:List Str) by decide +kernel) rfl (Or.inl rfl) (hf:=Or.inr rfl))) (fun _ _ _ _=>ab3) (fun _ _ _ _=>(abn aab)))
  (aac (aey PassesOwn.never rfl (abk (pv 2)) (abm rfl (aao (aai (i:=4) nd rfl (Or.inl rfl)) (aao (aai (i:=5) nd rfl (Or.inl rfl)) abb)))
   (aac (aba (adm PySem.F.plainAttrs_list PySem.F.slot_list_append PySem.F.type_list_append ab6 (aas aat (pv 3) (pv 4) (fun _ _=>rfl)) (aaa (pv 5) aab)))
    (aaf (aba (adm PySem.F.plainAttrs_list PySem.F.slot_list_append PySem.F.type_list_append ab6 (aas aat (pv 3) (pv 5) (fun _ _=>rfl)) (aaa (pv 4) aab))))))
  (aaf (aan (pv 3)))))),?_⟩
 refine aa1 h fun ss Q' q B hK=>?_
 refine exS2 ss q fun n es q1_=>?_
 have n0:=q1_.1
 have n1:=q1_.2.1
 have hin:=q1_.2.2.1
 have hle:=q1_.2.2.2.1
 have k:=q1_.2.2.2.2
 clear q1_ q
 show EvS B _ _ [some (.st (webD n es)),none,none,none,none,none]
 row_cond go
 rw [ace]
 refine ⟨by omega,?_⟩
 row_cond go
 refine afk (fun i e=>∃ v4 v5 tl,e=[some (.st (webD n es)),some (.st (.int n)),some (.st (.list (es.map prD))),some (.own (OLL (tlD tl))),v4,v5]/\TiedL n (Tied (es.take i)) tl/\∀ ws∈tl,ws.length<=2 * i)
  ⟨none,none,List.replicate n.toNat [],by simp [tlD],⟨by simp;omega,fun i ws hi w=>?_⟩,fun ws hw=>?_⟩ ?_ ?_
 ·rw [List.getElem?_replicate] at hi
  split at hi
  ·cases hi;simp [Tied]
  ·cases hi
 ·have:=List.eq_of_mem_replicate hw
  subst this;simp
 ·rintro i ⟨a,b⟩ e hx q0_
  refine exS3 e q0_ fun v4 v5 tl q1_=>?_
  have ht:=q1_.1
  have hlen:=q1_.2
  clear q1_ q0_
  have hi:i < es.length:=(List.getElem?_eq_some_iff.mp hx).1
  obtain ⟨a0,a1,b0,b1⟩:=hin _ (List.mem_of_getElem? hx)
  dsimp only at a0 a1 b0 b1
  row_cond go
  obtain ⟨ws,hws,_⟩:=ht.get a0 a1
  have l1:=hlen ws (List.mem_of_getElem? hws)
  refine ahr (n:=a.toNat) (ds:=ws.map .int) rfl rfl rfl (by rw [List.length_map];exact ahs a0 (by rw [ht.1];exact a1)) (agn hws) (by rw [List.length_map];omega) ?_
  dsimp only [List.set_cons_zero,List.set_cons_succ]
  have t2:=ht.put (q:=b) a0 a1 hws
  rw [show ws.map PyData.int ++ [.int b]=(ws ++ [b]).map .int by simp,anx]
  have hlen2:∀ us∈tl.set a.toNat (ws ++ [b]),us.length<=2 * i+1:=fun us hu=>by
   rcases List.mem_or_eq_of_mem_set hu with h | h
   ·have:=hlen us h;omega
   ·subst h;simp;omega
  generalize tl.set a.toNat (ws ++ [b])=tl2 at t2 hlen2
  row_cond go
  obtain ⟨ws,hws,_⟩:=t2.get b0 b1
  have l1:=hlen2 ws (List.mem_of_getElem? hws)
  refine ahr (n:=b.toNat) (ds:=ws.map .int) rfl rfl rfl (by rw [List.length_map];exact ahs b0 (by rw [t2.1];exact b1)) (agn hws) (by rw [List.length_map];omega) ?_
  dsimp only [List.set_cons_zero,List.set_cons_succ]
  rw [show ws.map PyData.int ++ [.int a]=(ws ++ [a]).map .int by simp,anx]
  refine ⟨_,_,_,rfl,(t2.put (q:=a) b0 b1 hws).iff fun u v=>(Tied.snoc hx u v).symm,fun us hu=>?_⟩
  rcases List.mem_or_eq_of_mem_set hu with h | h
  ·have:=hlen2 us h;omega
  ·subst h;simp;omega
 ·rintro e q0_
  refine exS3 e q0_ fun v4 v5 tl q1_=>?_
  have ht:=q1_.1
  have hlen:=q1_.2
  clear q1_ q0_
  rw [List.take_length] at ht
  row_cond go
  exact k tl ht fun us hu=>by have:=hlen us hu;omega
end
@[reducible] noncomputable def tlV (tl:List (List Int)):PyData:=.list ((tlD tl).map .list)
def a0a:VP:=fun ss Q=>∃ (n a:Int) (T:Int->Int->Prop) (tl:List (List Int)),ss=[.st (tlV tl),.st (.int a)]/\n<=100/\TiedL n T tl/\(∀ u v,T u v->0<=v/\v < n)/\0<=a/\a < n/\Q (.own (OL (lab n.toNat (Gr.farO T a))))
section
variable {P:Program} {w:World} {K:Frag} {mg:Str->Option Value} {base:Heap}
theorem sc_far_from:FnScope ["tied","start","far","edge","beyond","place","other"] ["tied","start"] (aah s_far_from):=by row_cond sc
theorem aeh (T:Txt K mg):Can P w K mg base "far_from" 1 ["tied","start"] (spP K (a0a)):=by
 obtain ⟨f,fd,D⟩:=T.d_far_from
 refine D.can (D.fn.ok sc_far_from (fun vs H Q E h=>lenP h fun ss Q' q=>by obtain ⟨n,a,T,tl,rfl,n1,ht,hT,a0,a1,k⟩:=q;rfl) (fun cdv A outer s H vs Q E hr h=>?_))
 have nd:=sc_far_from.nd
 refine ⟨_,(aac (aar (i:=2) nd rfl (Or.inl rfl) (aaq axe (abn (aaa aea aab)) (aak aa8 (by rfl) T.b_len aca (aaa (pv 0) aab))))
  (aac (ab1 aae (ag9 (pv 2) (pv 1) afc))
  (aac (aar (i:=3) nd rfl (Or.inl rfl) (abn (aaa (pv 1) aab)))
  (aac (akh PassesOwn.never (axr (pv 3))
   (aac (aar (i:=4) nd rfl (Or.inl rfl) (abn aab))
    (aac (aey PassesOwn.never rfl (abk (pv 3)) (aai (i:=5) nd rfl (Or.inl rfl))
     (aaf (aey PassesOwn.never rfl (abk (aas aat (pv 0) (pv 5) (fun _ _=>rfl))) (aai (i:=6) nd rfl (Or.inl rfl))
       (aaf (abf (aaw aib (aas aat (pv 2) (pv 6) (fun _ _=>rfl)) aea (aau _))
         (aac (ab1 (aaq aa9 (aas aat (pv 2) (pv 5) (fun _ _=>rfl)) aae) (ag9 (pv 2) (pv 6) afc))
          (aaf (aba (adm PySem.F.plainAttrs_list PySem.F.slot_list_append PySem.F.type_list_append ab6 (pv 4) (aaa (pv 6) aab)))))
         aa3)))))
    (aaf (aar (i:=3) nd rfl (Or.inl rfl) (pv 4))))))
  (aaf (aan (pv 2))))))),?_⟩
 refine aa1 h fun ss Q' q B hK=>?_
 refine exS4 ss q fun n a T tl q1_=>?_
 have n1:=q1_.1
 have ht:=q1_.2.1
 have hT:=q1_.2.2.1
 have a0:=q1_.2.2.2.1
 have a1:=q1_.2.2.2.2.1
 have k:=q1_.2.2.2.2.2
 clear q1_ q
 show EvS B _ _ [some (.st (tlV tl)),some (.st (.int a)),none,none,none,none,none]
 have hl:tl.length=n.toNat:=by have:=ht.1;omega
 row_cond go
 refine avo (by first | omega | (simp;done) | (simp;omega)) (by first | omega | (simp;done) | (simp;omega)) (by first | omega | (simp;done) | (simp;omega)) ?_
 simp only [List.length_map,hl]
 rw [show ((n.toNat:Nat):Int).toNat=n.toNat by omega,avv]
 row_cond go
 refine apb (j:=a.toNat) rfl (by rw [acr];exact ahs a0 (by omega)) ?_
 dsimp only [List.set_cons_zero,List.set_cons_succ,reS]
 rw [show (PyData.int 0)=.int ((0:Nat):Int) from rfl,anw a0 (by omega)]
 row_cond go
 refine avq 3 rfl abg ?_
 dsimp only [List.set_cons_zero,List.set_cons_succ]
 refine ai4 (fun m e=>∃ v4 v5 v6 far edge kk,e=[some (.st (tlV tl)),some (.st (.int a)),some (.own (OL (lab n.toNat far))),some (.st (.list (edge.map .int))),v4,v5,v6]/\Gr.Ring T a kk far edge/\(∀ v∈edge,0<=v/\v < n)/\m=2 * cnt far n.toNat+(if edge=[] then 0 else 1))
  ⟨_,none,none,none,_,[a],0,rfl,Gr.Ring.start,fun v hv=>by simp at hv;subst hv;exact ⟨a0,a1⟩,rfl⟩ ?_
 rintro m e q0_
 refine exS6 e q0_ fun v4 v5 v6 far edge kk q1_=>?_
 have hR:=q1_.1
 have hb:=q1_.2.1
 have e2_:=q1_.2.2
 clear q1_ q0_
 subst e2_
 row_cond go
 rw [amr]
 cases hedge:edge with
 | nil =>
  subst hedge
  refine ack ?_
  row_cond go
  rw [aqq (g:=Gr.farO T a) fun v _ _=>hR.fin v]
  exact k
 | cons e0 er =>
  refine acb ?_
  rw [← hedge]
  have hne:edge ≠ []:=by rw [hedge];simp
  row_cond go
  refine afk (fun i e=>∃ v5 v6 far' beyond,e=[some (.st (tlV tl)),some (.st (.int a)),some (.own (OL (lab n.toNat far'))),some (.st (.list (edge.map .int))),some (.own (OL (beyond.map .int))),v5,v6]/\Gr.Mid T kk far edge (fun u=>u∈edge.take i) far' beyond/\cnt far' n.toNat+beyond.length=cnt far n.toNat/\∀ v∈beyond,0<=v/\v < n)
   ⟨v5,v6,far,[],rfl,Gr.Mid.start.imp fun u hu=>by simp at hu,rfl,fun v hv=>by simp at hv⟩ ?_ ?_
  ·rintro i p e hp q0_
   refine exS4 e q0_ fun v5 v6 far' beyond q1_=>?_
   have hM:=q1_.1
   have hc:=q1_.2.1
   have hbd:=q1_.2.2
   clear q1_ q0_
   have hpe:=List.mem_of_getElem? hp
   obtain ⟨p0,p1⟩:=hb p hpe
   obtain ⟨ws,hws,hw⟩:=ht.get p0 p1
   have hat:atI ((tlD tl).map PyData.list) p=some (.list (ws.map .int)):=ae7 (f:=PyData.list) (ade p0 (agn hws))
   row_cond go
   have hfp:far p=some kk:=(hR.lab p kk).mpr ⟨(hR.edg p).mp hpe,Nat.le_refl _⟩
   refine afk (fun j e=>∃ v6 far' beyond,e=[some (.st (tlV tl)),some (.st (.int a)),some (.own (OL (lab n.toNat far'))),some (.st (.list (edge.map .int))),some (.own (OL (beyond.map .int))),some (.st (.int p)),v6]/\Gr.Mid T kk far edge (fun u=>u∈edge.take i) far' beyond/\cnt far' n.toNat+beyond.length=cnt far n.toNat/\(∀ v∈beyond,0<=v/\v < n)/\∀ x∈ws.take j,far' x ≠ none)
    ⟨v6,far',beyond,rfl,hM,hc,hbd,fun x hx=>by simp at hx⟩ ?_ ?_
   ·rintro j u e hu q0_
    refine exS3 e q0_ fun v6 far' beyond q1_=>?_
    have hM:=q1_.1
    have hc:=q1_.2.1
    have hbd:=q1_.2.2.1
    have hdn:=q1_.2.2.2
    clear q1_ q0_
    have tu:T p u:=(hw u).mp (List.mem_of_getElem? hu)
    obtain ⟨u0,u1⟩:=hT _ _ tu
    have hau:atI (lab n.toNat far') u=some (oD (far' u)):=ae6 u0 (by omega)
    have hap:atI (lab n.toNat far') p=some (.int (kk:Int)):=by
     rw [ae6 p0 (by omega),hM.old p kk hfp];rfl
    row_cond go
    rw [avu]
    cases hf:far' u with
    | none =>
     refine acb ?_
     row_cond go
     refine apb (j:=u.toNat) rfl (by rw [acr];exact ahs u0 (by omega)) ?_
     dsimp only [List.set_cons_zero,List.set_cons_succ,reS]
     rw [show (PyData.int ((kk:Int)+1))=.int ((kk+1:Nat):Int) by simp,anw u0 (by omega)]
     have hcc:=aja (d:=kk+1) u0 hf (n:=n.toNat) (by omega)
     have hblen:beyond.length<=cnt far n.toNat:=by omega
     have hcn:∀ m,cnt far m<=m:=fun m=>by
      induction m with
      | zero=>exact Nat.le_refl _
      | succ m ih=>unfold cnt;split <;> omega
     have:=hcn n.toNat
     row_cond go
     refine ⟨some (.st (.int u)),Gr.label far' u (kk+1),beyond ++ [u],by simp,hM.add hpe tu hf,by simp;omega,fun v hv=>?_,fun x hx=>?_⟩
     ·rcases List.mem_append.mp hv with h | h
      ·exact hbd v h
      ·have:v=u:=by simpa using h
       subst this;exact ⟨u0,u1⟩
     ·by_cases hx2:x=u
      ·subst hx2;rw [Gr.label_same];simp
      ·rw [Gr.label_ne hx2]
       rcases adz hu hx with h | h
       ·exact hdn x h
       ·exact absurd h hx2
    | some d =>
     refine ack ?_
     row_cond go
     refine ⟨_,far',beyond,rfl,hM,hc,hbd,fun x hx=>?_⟩
     rcases adz hu hx with h | h
     ·exact hdn x h
     ·subst h;rw [hf];simp
   ·rintro e q0_
    refine exS3 e q0_ fun v6 far' beyond q1_=>?_
    have hM:=q1_.1
    have hc:=q1_.2.1
    have hbd:=q1_.2.2.1
    have hdn:=q1_.2.2.2
    clear q1_ q0_
    rw [List.take_length] at hdn
    refine ⟨_,_,far',beyond,rfl,?_,hc,hbd⟩
    refine (hM.did (u:=p) fun x tx=>hdn x ((hw x).mpr tx)).imp fun x hx=>?_
    exact adz hp hx
  ·rintro e q0_
   refine exS4 e q0_ fun v5 v6 far' beyond q1_=>?_
   have hM:=q1_.1
   have hc:=q1_.2.1
   have hbd:=q1_.2.2
   clear q1_ q0_
   row_cond go
   refine ⟨_,?_,_,_,_,far',beyond,kk+1,rfl,hR.next hM fun u hu=>by rw [List.take_length];exact hu,hbd,rfl⟩
   rw [if_neg hne]
   cases beyond with
   | nil=>rw [if_pos rfl];simp at hc;omega
   | cons b0 br=>rw [if_neg (by simp)];simp at hc;omega
end
def amx:VP:=fun ss Q=>∃ (n a:Int) (es:List (Int × Int)),ss=[.st (webD n es),.st (.int a)]/\0<=a/\a < n/\Q (.st .none)
def atk:VP:=fun ss Q=>∃ (n a:Int) (es:List (Int × Int)),ss=[.st (webD n es),.st (.int a)]/\n<=100/\InN n es/\es.length<=10000/\0<=a/\a < n/\Q (.own (OL (lab n.toNat (Gr.farO (Tied es) a))))
def atm:VP:=fun ss Q=>∃ (n a b:Int) (es:List (Int × Int)),ss=[.st (webD n es),.st (.int a),.st (.int b)]/\n<=100/\InN n es/\es.length<=10000/\0<=a/\a < n/\0<=b/\b < n/\Q (.st (oD (Gr.farO (Tied es) a b)))
def atn:VP:=fun ss Q=>∃ (n:Int) (es:List (Int × Int)),ss=[.st (webD n es)]/\1<=n/\n<=100/\InN n es/\es.length<=10000/\∀ b:Bool,(b=true ↔ Joined n es)->Q (.st (.bool b))
section
variable {P:Program} {w:World} {K:Frag} {mg:Str->Option Value} {base:Heap}
theorem sc_need_place:FnScope ["web","thing"] ["web","thing"] (aah s_need_place):=by row_cond sc
theorem ab4 (T:Txt K mg):Can P w K mg base "need_place" 4 ["web","thing"] (spP K (amx)):=by
 obtain ⟨f,fd,D⟩:=T.d_need_place
 refine D.can (D.fn.ok sc_need_place (fun vs H Q E h=>lenP h fun ss Q' q=>by obtain ⟨n,a,es,rfl,a0,a1,k⟩:=q;rfl) (fun cdv A outer s H vs Q E hr h=>?_))
 have nd:=sc_need_place.nd
 refine ⟨_,(aaf (abf (act (aci (aad (aeg T) hr (aaa (aas aat (pv 0) aae (fun _ _=>rfl)) (aaa (pv 1) aab)))))
   (aaf aeb)
   aa3)),?_⟩
 refine aa1 h fun ss Q' q B hK=>?_
 refine exS3 ss q fun n a es q1_=>?_
 have a0:=q1_.1
 have a1:=q1_.2.1
 have k:=q1_.2.2
 clear q1_ q
 show EvS B _ _ [some (.st (webD n es)),some (.st (.int a))]
 row_cond go
 refine ⟨_,_,rfl,?_⟩
 row_cond go
 have e:btwD 0 (n - 1) (.int a)=true:=decide_eq_true ⟨a0,by omega⟩
 rw [e]
 row_cond go
 exact k
theorem sc_all_far:FnScope ["web","a"] ["web","a"] (aah s_all_far):=by row_cond sc
theorem ado (T:Txt K mg):Can P w K mg base "all_far" 5 ["web","a"] (spP K (atk)):=by
 obtain ⟨f,fd,D⟩:=T.d_all_far
 refine D.can (D.fn.ok sc_all_far (fun vs H Q E h=>lenP h fun ss Q' q=>by obtain ⟨n,a,es,rfl,n1,hin,hle,a0,a1,k⟩:=q;rfl) (fun cdv A outer s H vs Q E hr h=>?_))
 have nd:=sc_all_far.nd
 refine ⟨_,(aac (aba (aad (ab4 T) hr (aaa (pv 0) (aaa (pv 1) aab))))
  (aaf (aan (aad (aeh T) hr (aaa (aad (adg T) hr (aaa (pv 0) aab)) (aaa (pv 1) aab)))))),?_⟩
 refine aa1 h fun ss Q' q B hK=>?_
 refine exS3 ss q fun n a es q1_=>?_
 have n1:=q1_.1
 have hin:=q1_.2.1
 have hle:=q1_.2.2.1
 have a0:=q1_.2.2.2.1
 have a1:=q1_.2.2.2.2.1
 have k:=q1_.2.2.2.2.2
 clear q1_ q
 show EvS B _ _ [some (.st (webD n es)),some (.st (.int a))]
 row_cond go
 refine ⟨n,a,es,rfl,a0,a1,?_⟩
 row_cond go
 refine ⟨n,es,rfl,by omega,n1,hin,hle,fun tl ht _=>?_⟩
 refine ayi ?_
 row_cond go
 exact ⟨n,a,Tied es,tl,rfl,n1,ht,fun u v h=>(h.in hin).2,a0,a1,k⟩
theorem sc_how_far:FnScope ["web","a","b"] ["web","a","b"] (aah s_how_far):=by row_cond sc
theorem amy (T:Txt K mg):Can P w K mg base "how_far" 6 ["web","a","b"] (spP K (atm)):=by
 obtain ⟨f,fd,D⟩:=T.d_how_far
 refine D.can (D.fn.ok sc_how_far (fun vs H Q E h=>lenP h fun ss Q' q=>by obtain ⟨n,a,b,es,rfl,n1,hin,hle,a0,a1,b0,b1,k⟩:=q;rfl) (fun cdv A outer s H vs Q E hr h=>?_))
 have nd:=sc_how_far.nd
 refine ⟨_,(aac (aba (aad (ab4 T) hr (aaa (pv 0) (aaa (pv 1) aab))))
  (aac (aba (aad (ab4 T) hr (aaa (pv 0) (aaa (pv 2) aab))))
  (aaf (aan (aas aat (aad (ado T) hr (aaa (pv 0) (aaa (pv 1) aab))) (pv 2) (fun _ _=>rfl)))))),?_⟩
 refine aa1 h fun ss Q' q B hK=>?_
 refine exS4 ss q fun n a b es q1_=>?_
 have n1:=q1_.1
 have hin:=q1_.2.1
 have hle:=q1_.2.2.1
 have a0:=q1_.2.2.2.1
 have a1:=q1_.2.2.2.2.1
 have b0:=q1_.2.2.2.2.2.1
 have b1:=q1_.2.2.2.2.2.2.1
 have k:=q1_.2.2.2.2.2.2.2
 clear q1_ q
 show EvS B _ _ [some (.st (webD n es)),some (.st (.int a)),some (.st (.int b))]
 row_cond go
 refine ⟨n,a,es,rfl,a0,a1,?_⟩
 row_cond go
 refine ⟨n,b,es,rfl,b0,b1,?_⟩
 row_cond go
 refine ⟨n,a,es,rfl,n1,hin,hle,a0,a1,?_⟩
 have hat:atI (lab n.toNat (Gr.farO (Tied es) a)) b=some (oD (Gr.farO (Tied es) a b)):=ae6 b0 (by omega)
 row_cond go
 exact k
theorem sc_is_joined:FnScope ["web"] ["web"] (aah s_is_joined):=by row_cond sc
theorem afs (T:Txt K mg):Can P w K mg base "is_joined" 6 ["web"] (spP K (atn)):=by
 obtain ⟨f,fd,D⟩:=T.d_is_joined
 refine D.can (D.fn.ok sc_is_joined (fun vs H Q E h=>lenP h fun ss Q' q=>by obtain ⟨n,es,rfl,n0,n1,hin,hle,k⟩:=q;rfl) (fun cdv A outer s H vs Q E hr h=>?_))
 have nd:=sc_is_joined.nd
 refine ⟨_,(aaf (aan (abt (aeo hr.units) aea (aad (ado T) hr (aaa (pv 0) (aaa aae aab))) rfl))),?_⟩
 refine aa1 h fun ss Q' q B hK=>?_
 refine exS2 ss q fun n es q1_=>?_
 have n0:=q1_.1
 have n1:=q1_.2.1
 have hin:=q1_.2.2.1
 have hle:=q1_.2.2.2.1
 have k:=q1_.2.2.2.2
 clear q1_ q
 show EvS B _ _ [some (.st (webD n es))]
 row_cond go
 refine ⟨n,0,es,rfl,n1,hin,hle,by omega,by omega,?_⟩
 row_cond go
 refine ae5 rfl aqr (by simp [PyData.depth]) ?_
 row_cond go
 refine k _ ?_
 rw [if_pos rfl,Bool.not_eq_true',← Bool.not_eq_true,avw]
 constructor
 ·intro h v v0 v1
  cases e:Gr.farO (Tied es) 0 v with
  | some d=>exact ⟨d,Gr.farO_some.mp e⟩
  | none=>exact absurd ⟨v,v0,by omega,e⟩ h
 ·rintro h ⟨v,v0,v1,e⟩
  obtain ⟨d,hd⟩:=h v v0 (by omega)
  exact Gr.farO_none.mp e d hd
end
noncomputable def dsF (es:List (Int × Int)) (u v:Int):Int:=(((Gr.farO (Tied es) u v).getD 0:Nat):Int)
noncomputable def rowD (n:Nat) (r:Int->Int):List PyData:=(List.range n).map fun (i:Nat) => .int (r (i:Int))
noncomputable def matD (n:Nat) (m:Int->Int->Int):List PyData:=(List.range n).map fun (u:Nat) => .list (rowD n (m (u:Int)))
theorem ard {n:Nat} {r:Int->Int} {x:Int} (h0:0<=x) (h1:x < n):atI (rowD n r) x=some (.int (r x)):=by
 have:=agd (xs:=rowD n r) (j:=x.toNat) (v:=.int (r x)) (by
  unfold rowD
  rw [List.getElem?_map,List.getElem?_eq_getElem (by simp;omega)]
  simp [Int.max_eq_left h0])
 rwa [show ((x.toNat:Nat):Int)=x by omega] at this
theorem ay0 {n:Nat} {m:Int->Int->Int} {x:Int} (h0:0<=x) (h1:x < n):atI (matD n m) x=some (.list (rowD n (m x))):=by
 have:=agd (xs:=matD n m) (j:=x.toNat) (v:=.list (rowD n (m x))) (by
  unfold matD
  rw [List.getElem?_map,List.getElem?_eq_getElem (by simp;omega)]
  simp [Int.max_eq_left h0])
 rwa [show ((x.toNat:Nat):Int)=x by omega] at this
theorem awj {n:Nat} {m:Int->Int->Int}:(matD n m).length=n:=by simp [matD]
theorem aei {n:Nat} {r:Int->Int}:rowD n r=((List.range n).map fun (i:Nat)=>r (i:Int)).map .int:=by simp [rowD]
theorem ad7 {n:Int} {es:List (Int × Int)} (hJ:Joined n es) {u v:Int} (u0:0<=u) (u1:u < n) (v0:0<=v) (v1:v < n):∃ d,Gr.farO (Tied es) u v=some d:=by
 cases e:Gr.farO (Tied es) u v with
 | some d=>exact ⟨d,rfl⟩
 | none =>
  obtain ⟨k,hw⟩:=hJ.conn u v u0 u1 v0 v1
  obtain ⟨d,_,hd⟩:=Gr.Dist.of_walk hw
  exact absurd hd (Gr.farO_none.mp e d)
theorem aiq {n:Int} {es:List (Int × Int)} (hJ:Joined n es) {u:Int} (u0:0<=u) (u1:u < n):lab n.toNat (Gr.farO (Tied es) u)=rowD n.toNat (dsF es u):=by
 unfold lab rowD
 refine List.map_congr_left fun i hi=>?_
 obtain ⟨d,e⟩:=ad7 hJ u0 u1 (show 0<=(i:Int) by omega) (by have:=List.mem_range.mp hi;omega)
 simp only [dsF,e,oD,Option.getD_some]
theorem adk {α:Type} {K:Frag} {src:List (Option Nat)} {e1:En} {te:TE} {R:List PyData->En->Prop} {xs:List α} {f : α->PyData} (g : α->PyData) (hno:noIo (aal src e1)=true) (hl:xs.length<=999999)
  (h:∀ x∈xs,∀ B':Bs,B'.K=K->Ev B' te (some (.st (f x)) :: aal src e1) fun y e4=>y=g x/\e4=some (.st (f x)) :: aal src e1)
  (hR:R (xs.map g) e1):LcV K (none :: src) (aay 0) tYes te (xs.map f) e1 R:=by
 have hno':noIo (aal (none :: src) e1)=true:=by
  show ((none :: aal src e1).all fun s => !isIo s)=true
  rw [List.all_cons]
  exact (Bool.and_eq_true _ _).mpr ⟨rfl,hno⟩
 refine ⟨fun i ys e=>ys=(xs.take i).map g/\∃ o,e=stO o :: aal src e1,⟨by simp,none,rfl⟩,?_,?_,?_⟩
 ·rintro i ys e ⟨_,o,rfl⟩
  exact ⟨⟨isIo_stO.symm,ac0⟩,adu adn⟩
 ·rintro i d ys e hd ⟨rfl,o,rfl⟩ B' hB
  rw [List.getElem?_map] at hd
  cases hx:xs[i]? with
  | none=>rw [hx] at hd;cases hd
  | some x =>
   rw [hx] at hd
   cases hd
   have hi:i < xs.length:=(List.getElem?_eq_some_iff.mp hx).1
   have et:xs.take (i+1)=xs.take i ++ [x]:=by rw [List.take_add_one,hx];rfl
   refine aaz (ae3 ?_)
   rw [if_pos rfl]
   intro σ G H F Q I k
   refine h x (List.mem_of_getElem? hx) B' hB σ G H F Q I fun v G' H' F' d' e4 I' g' r' ⟨hy,he4⟩=>k v G' H' F' d' e4 I' g' r' ?_
   subst hy he4
   refine ⟨by simp;omega,by rw [et];simp,some _,rfl⟩
 ·rintro ys e ⟨rfl,o,rfl⟩
  rw [agj hno']
  simpa using hR
theorem adl {ns:List Int} {x y:Int} (h:adb ns x) (g:adb ns y):x=y:=Int.le_antisymm (g.2 x h.1) (h.2 y g.1)
theorem ae9:∀ {ns:List Int},ns ≠ []->∃ x,adb ns x
 | [a],_=>⟨a,by simp [adb]⟩
 | a :: b :: r,_=>by
  obtain ⟨x,hx,hm⟩:=ae9 (ns:=b :: r) (by simp)
  by_cases h:a<=x
  ·exact ⟨x,List.mem_cons_of_mem _ hx,fun y hy=>by
    rcases List.mem_cons.mp hy with rfl | hy
    ·exact h
    ·exact hm y hy⟩
  ·exact ⟨a,List.mem_cons_self,fun y hy=>by
    rcases List.mem_cons.mp hy with rfl | hy
    ·exact Int.le_refl _
    ·have:=hm y hy;omega⟩
theorem air {n:Nat} (n0:1<=n) (m:Int->Int->Int):∃ mx:Nat->Int,∀ u:Nat,adb ((List.range n).map fun (i:Nat)=>m (u:Int) (i:Int)) (mx u) :=
 ⟨fun u=>Classical.choose (ae9 (ns:=(List.range n).map fun (i:Nat)=>m (u:Int) (i:Int)) (by simp;omega)),fun u=>Classical.choose_spec (ae9 (ns:=(List.range n).map fun (i:Nat)=>m (u:Int) (i:Int)) (by simp;omega))⟩
def al7:VP:=fun ss Q=>∃ (n:Int) (es:List (Int × Int)),ss=[.st (webD n es)]/\1<=n/\n<=100/\InN n es/\es.length<=10000/\Joined n es/\Q (.st .none)
def arf:VP:=fun ss Q=>∃ (n:Int) (es:List (Int × Int)),ss=[.st (webD n es)]/\1<=n/\n<=100/\InN n es/\es.length<=10000/\Joined n es/\Q (.own (OL (matD n.toNat (dsF es))))
def ahy (n:Nat) (m:Int->Int->Int) (x:Int):Prop:=(∃ u v:Int,0<=u/\u < n/\0<=v/\v < n/\m u v=x)/\∀ u v:Int,0<=u->u < n->0<=v->v < n->m u v<=x
def arh:VP:=fun ss Q=>∃ (n:Nat) (m:Int->Int->Int),ss=[.st (.list (matD n m))]/\1<=n/\n<=1000/\∀ x,ahy n m x->Q (.st (.int x))
structure FreeAll (n:Int) (es fs:List (Int × Int)):Prop where
 mem:∀ p:Int × Int,p∈fs ↔ (0<=p.1/\p.1 < p.2/\p.2 < n/\p ∉ es)
 rise:Rise fs
theorem FreeAll.eq {n:Int} {es fs gs:List (Int × Int)} (h:FreeAll n es fs) (g:FreeAll n es gs):fs=gs:=h.rise.eq g.rise fun p=>by rw [h.mem,g.mem]
theorem FreeAll.len {n:Int} {es fs:List (Int × Int)} (h:FreeAll n es fs) (h1:n<=100):fs.length<=10000:=PsOk.len ⟨h.rise.nodup,fun p hp=>by have:=(h.mem p).mp hp;omega⟩ h1
section
variable {P:Program} {w:World} {K:Frag} {mg:Str->Option Value} {base:Heap}
theorem sc_need_joined:FnScope ["web"] ["web"] (aah s_need_joined):=by row_cond sc
theorem ahz (T:Txt K mg):Can P w K mg base "need_joined" 7 ["web"] (spP K (al7)):=by
 obtain ⟨f,fd,D⟩:=T.d_need_joined
 refine D.can (D.fn.ok sc_need_joined (fun vs H Q E h=>lenP h fun ss Q' q=>by obtain ⟨n,es,rfl,n0,n1,hin,hle,hJ,k⟩:=q;rfl) (fun cdv A outer s H vs Q E hr h=>?_))
 have nd:=sc_need_joined.nd
 refine ⟨_,(aaf (abf (act (aci (aad (afs T) hr (aaa (pv 0) aab))))
   (aaf aeb)
   aa3)),?_⟩
 refine aa1 h fun ss Q' q B hK=>?_
 refine exS2 ss q fun n es q1_=>?_
 have n0:=q1_.1
 have n1:=q1_.2.1
 have hin:=q1_.2.2.1
 have hle:=q1_.2.2.2.1
 have hJ:=q1_.2.2.2.2.1
 have k:=q1_.2.2.2.2.2
 clear q1_ q
 show EvS B _ _ [some (.st (webD n es))]
 row_cond go
 refine ⟨n,es,rfl,n0,n1,hin,hle,fun b hb=>?_⟩
 have:b=true:=hb.mpr hJ
 subst this
 row_cond go
 exact k
theorem sc_far_rows:FnScope ["web","tied"] ["web"] (aah s_far_rows):=by row_cond sc
theorem adh (T:Txt K mg):Can P w K mg base "far_rows" 8 ["web"] (spP K (arf)):=by
 obtain ⟨f,fd,D⟩:=T.d_far_rows
 refine D.can (D.fn.ok sc_far_rows (fun vs H Q E h=>lenP h fun ss Q' q=>by obtain ⟨n,es,rfl,n0,n1,hin,hle,hJ,k⟩:=q;rfl) (fun cdv A outer s H vs Q E hr h=>?_))
 have nd:=sc_far_rows.nd
 refine ⟨_,(aac (aba (aad (ahz T) hr (aaa (pv 0) aab)))
  (aac (aar (i:=1) nd rfl (Or.inr rfl) (aad (adg T) hr (aaa (pv 0) aab)))
  (aaf (aan (aco rfl (N:=["place","tied"]) (src:=[none,some 1]) (by exact aa4 rfl rfl rfl rfl rfl rfl) (acy rfl T.b_range (aaa (aak aa8 (by rfl) T.b_len aca (aaa (pv 1) aab)) aab)) (fun _ _ _ _=>(aai (i:=0) (show List.Nodup (["place","tied"]:List Str) by decide +kernel) rfl (Or.inl rfl) (hf:=Or.inr rfl))) (fun _ _ _ _=>ab3) (fun _ _ _ _=>(aad (aeh T) hr (aaa (pv 1) (aaa (pv 0) aab))))))))),?_⟩
 refine aa1 h fun ss Q' q B hK=>?_
 refine exS2 ss q fun n es q1_=>?_
 have n0:=q1_.1
 have n1:=q1_.2.1
 have hin:=q1_.2.2.1
 have hle:=q1_.2.2.2.1
 have hJ:=q1_.2.2.2.2.1
 have k:=q1_.2.2.2.2.2
 clear q1_ q
 show EvS B _ _ [some (.st (webD n es)),none]
 row_cond go
 refine ⟨n,es,rfl,n0,n1,hin,hle,hJ,?_⟩
 row_cond go
 refine ⟨n,es,rfl,by omega,n1,hin,hle,fun tl ht _=>?_⟩
 refine abc agm ?_
 have hl:tl.length=n.toNat:=by have:=ht.1;omega
 have hl2:((tlD tl).map PyData.list).length=n.toNat:=by simp [tlD,hl]
 row_cond go
 rw [hl2,show (((n.toNat:Nat):Int)).toNat=n.toNat by omega]
 unfold rngD
 refine adk (fun u:Nat => .list (rowD n.toNat (dsF es (u:Int)))) rfl (by simp;omega) (fun u hu B' hB=>?_) ?_
 ·have hu1:(u:Int) < n:=by have:=List.mem_range.mp hu;omega
  row_cond go
  refine ⟨n,0+(u:Int),Tied es,tl,rfl,n1,ht,fun u v h=>(h.in hin).2,by omega,by omega,ad5 ⟨?_,rfl⟩⟩
  rw [Int.zero_add,aiq hJ (by omega) hu1]
 ·row_cond go
  exact k
theorem sc_most_far:FnScope ["rows"] ["rows"] (aah s_most_far):=by row_cond sc
theorem af7 (T:Txt K mg):Can P w K mg base "most_far" 1 ["rows"] (spP K (arh)):=by
 obtain ⟨f,fd,D⟩:=T.d_most_far
 refine D.can (D.fn.ok sc_most_far (fun vs H Q E h=>lenP h fun ss Q' q=>by obtain ⟨n,m,rfl,n0,n1,k⟩:=q;rfl) (fun cdv A outer s H vs Q E hr h=>?_))
 have nd:=sc_most_far.nd
 refine ⟨_,(aaf (aan (aak (ab7 rfl) (by rfl) T.b_max acj (aaa (aco rfl (N:=["row"]) (src:=[none]) (by exact aa4 rfl rfl rfl rfl rfl rfl) (abk (pv 0)) (fun _ _ _ _=>(aai (i:=0) (show List.Nodup (["row"]:List Str) by decide +kernel) rfl (Or.inl rfl) (hf:=Or.inr rfl))) (fun _ _ _ _=>ab3) (fun _ _ _ _=>(aak (show aa7 _ (.builtin "max") (aep K) from (ab7 rfl)) (by rfl) T.b_max acj (aaa (pv 0) aab)))) aab)))),?_⟩
 refine aa1 h fun ss Q' q B hK=>?_
 refine exS2 ss q fun n m q1_=>?_
 have n0:=q1_.1
 have n1:=q1_.2.1
 have k:=q1_.2.2
 clear q1_ q
 show EvS B _ _ [some (.st (.list (matD n m)))]
 obtain ⟨mx,hmx⟩:=air n0 m
 row_cond go
 unfold matD
 refine adk (fun u:Nat => .int (mx u)) rfl (by simp;omega) (fun u hu B' hB=>?_) ?_
 ·row_cond go
  rw [aei]
  exact acm (by simp;omega) fun x hx=>⟨by rw [adl hx (hmx u)],rfl⟩
 ·row_cond go
  rw [show (List.range n).map (fun u:Nat=>PyData.int (mx u))=((List.range n).map mx).map .int by rw [List.map_map];rfl]
  refine acm (by simp;omega) fun x hx=>?_
  row_cond go
  refine k x ⟨?_,fun u v u0 u1 v0 v1=>?_⟩
  ·obtain ⟨i,hi,e⟩:=List.mem_map.mp hx.1
   obtain ⟨j,hj,e2⟩:=List.mem_map.mp (hmx i).1
   exact ⟨i,j,by omega,by have:=List.mem_range.mp hi;omega,by omega,by have:=List.mem_range.mp hj;omega,e2.trans e⟩
  ·have h1:=(hmx u.toNat).2 (m ((u.toNat:Nat):Int) ((v.toNat:Nat):Int)) (List.mem_map.mpr ⟨v.toNat,List.mem_range.mpr (by omega),rfl⟩)
   have h2:=hx.2 (mx u.toNat) (List.mem_map.mpr ⟨u.toNat,List.mem_range.mpr (by omega),rfl⟩)
   rw [show ((u.toNat:Nat):Int)=u by omega,show ((v.toNat:Nat):Int)=v by omega] at h1
   omega
end
noncomputable def stD (g c t:Int):List PyData:=[.int g,.int c,.int t]
def ay1:VP:=fun ss Q=>∃ (ns:List Int) (k:Int),ss=[.scr ns,.st (.int k)]/\0<=k/\k < 1048576/\∀ c,Q (.st (.int c))
def awk:VP:=fun ss Q=>∃ c:Int,ss=[.st (.int c)]/\∀ g t u,Q (.own (OL (stD g t u)))
def ay2:VIo:=fun A ss Q=>∃ g c t many:Int,A=OL (stD g c t)/\ss=[.st (.int many)]/\0 < many/\many < 1073741824/\∀ r g' c' t':Int,0<=r->r < many->Q (OL (stD g' c' t')) (.st (.int r))
section
variable {P:Program} {w:World} {K:Frag} {mg:Str->Option Value} {base:Heap}
theorem sc_law_cell:FnScope ["script","k"] ["script","k"] (aah s_law_cell):=by row_cond sc
theorem al8 (T:Txt K mg):Can P w K mg base "_law_cell" 1 ["script","k"] (spP K (ay1)):=by
 obtain ⟨f,fd,D⟩:=T.d_law_cell
 refine D.can (D.fn.ok sc_law_cell (fun vs H Q E h=>lenP h fun ss Q' q=>by obtain ⟨ns,k,rfl,h0,h1,kk⟩:=q;rfl) (fun cdv A outer s H vs Q E hr h=>?_))
 have nd:=sc_law_cell.nd
 refine ⟨_,(aac (abf (aaw aj8 (pv 1) (aak aa8 (by rfl) T.b_len aca (aaa (pv 0) aab)) (aau _))
   (aaf (aan (aas aat (pv 0) (pv 1) (fun _ _=>rfl))))
   aa3)
  (aaf (aan (aaq aa9 (aaq aa9 (aaq ac2 (aaq ac2 aae (pv 1)) (pv 1)) (aaq ac2 aae (pv 1))) aae)))),?_⟩
 refine aa1 h fun ss Q' q B hK=>?_
 refine exS2 ss q fun ns k q1_=>?_
 have h0:=q1_.1
 have h1:=q1_.2.1
 have kk:=q1_.2.2
 clear q1_ q
 show EvS B _ _ [some (.scr ns),some (.st (.int k))]
 row_cond go
 refine ae1 (fun hk=>?_) (fun hk=>?_)
 ·have hin:k.toNat < ns.length:=by omega
  have hat:atI ns k=some ns[k.toNat]:=ade h0 (List.getElem?_eq_getElem hin)
  row_cond go
  exact kk _
 ·row_cond go
  exact kk _
theorem sc_law_store:FnScope ["cell","great"] ["cell"] (aah s_law_store):=by row_cond sc
theorem aj4 (T:Txt K mg):Can P w K mg base "_law_store" 1 ["cell"] (spP K (awk)):=by
 obtain ⟨f,fd,D⟩:=T.d_law_store
 refine D.can (D.fn.ok sc_law_store (fun vs H Q E h=>lenP h fun ss Q' q=>by obtain ⟨c,rfl,k⟩:=q;rfl) (fun cdv A outer s H vs Q E hr h=>?_))
 have nd:=sc_law_store.nd
 refine ⟨_,(aac (aar (i:=1) nd rfl (Or.inl rfl) aae)
  (aac (abf (aaw at7 (pv 0) (au2 (n:=1000000000000000000) (by decide) (by refine ⟨by decide,by decide,by decide⟩)) (aau _))
   (aaf (aar (i:=1) nd rfl (Or.inl rfl) (pv 0)))
   aa3)
  (aaf (aan (abn (aaa (pv 1) (aaa (aaq adr (pv 0) aae) (aaa aae aab)))))))),?_⟩
 refine aa1 h fun ss Q' q B hK=>?_
 refine exS1 ss q fun c q1_=>?_
 have k:=q1_
 clear q1_ q
 show EvS B _ _ [some (.st (.int c)),none]
 row_cond go
 refine ae1 (fun hk=>?_) (fun hk=>?_)
 ·row_cond go
  exact k _ _ _
 ·row_cond go
  exact k _ _ _
theorem sc_law_take:FnScope ["store","many","told","one"] ["store","many"] (aah s_law_take):=by row_cond sc
theorem aj5 (T:Txt K mg):Can P w K mg base "_law_take" 1 ["store","many"] (spI K (ay2)):=by
 obtain ⟨f,fd,D⟩:=T.d_law_take
 refine D.can (D.fn.ok sc_law_take (fun vs H Q E h=>lenI h fun A ss Q' q=>by obtain ⟨g,c,t,many,rfl,rfl,h1,h2,k⟩:=q;rfl) (fun cdv A outer s H vs Q E hr h=>?_))
 have nd:=sc_law_take.nd
 refine ⟨_,(aac (abf (aaw aos (aas aat (pv 0) aae (fun _ _=>rfl)) aae (aau _))
   (aac (aar (i:=2) nd rfl (Or.inl rfl) (aaq adr (aas aat (pv 0) aae (fun _ _=>rfl)) (pv 1)))
    (aac (ab1 (aaq aez (aas aat (pv 0) aae (fun _ _=>rfl)) (pv 1)) (ag9 (pv 0) aae afc))
    (aaf (aan (pv 2)))))
   aa3)
  (aac (ab1 (aaq aa9 (aas aat (pv 0) aae (fun _ _=>rfl)) aae) (ag9 (pv 0) aae afc))
  (aac (aar (i:=3) nd rfl (Or.inl rfl) (aaq adr (aaq ac2 (aaq aa9 (aas aat (pv 0) aae (fun _ _=>rfl)) (aaq ac2 aae (aas aat (pv 0) aae (fun _ _=>rfl)))) aae) aae))
  (aac (aar (i:=3) nd rfl (Or.inl rfl) (aaq adr (aaq ac2 (pv 3) (pv 3)) aae))
  (aac (aar (i:=3) nd rfl (Or.inl rfl) (aaq adr (aaq ac2 (aaq aa9 (pv 3) (aaq ac2 aae (aas aat (pv 0) aae (fun _ _=>rfl)))) aae) aae))
  (aaf (aan (aaq adr (aaq aez (pv 3) aae) (pv 1))))))))),?_⟩
 refine ahm h fun A0 ss Q' q B hK=>?_
 obtain ⟨g,c,t,many,rfl,rfl,h1,h2,k⟩:=q
 show EvS B _ _ [some (.io (OL (stD g c t))),some (.st (.int many)),none,none]
 unfold stD at *
 row_cond go
 refine ae1 (fun hk=>?_) (fun hk=>?_)
 ·row_cond go
  exact k _ _ _ _ (Int.emod_nonneg _ (by omega)) (Int.emod_lt_of_pos _ h1)
 ·row_cond go
  exact k _ _ _ _ (Int.emod_nonneg _ (by omega)) (Int.emod_lt_of_pos _ h1)
end
noncomputable def OSt:Own:=exO fun q:Int × Int × Int=>OL (stD q.1 q.2.1 q.2.2)
theorem awl {K:Frag} {f:VIo} {vs:List V} {H:Hp} {Q:VK} {E:XK} (h:spI K (fun A ss Q=>A=OSt/\∀ g c t,f (OL (stD g c t)) ss fun A' s=>(∃ g c t,A'=OL (stD g c t))/\Q OSt s) vs H Q E):spI K f vs H Q E:=by
 obtain ⟨v0,vr,G,R,A,ss,F0,Q',rfl,gh,ft,rh,ap,fg,fr,ao,⟨rfl,hf⟩,hQ⟩:=h
 obtain ⟨⟨g,c,t⟩,ap⟩:=ap
 refine ⟨v0,vr,G,R,OL (stD g c t),ss,F0,_,rfl,gh,ft,rh,ap,fg,fr,ao,hf g c t,fun A' s hq v G' H' F' Fv o=>?_⟩
 obtain ⟨⟨g',c',t',rfl⟩,q⟩:=hq
 exact hQ OSt s q v G' H' F' Fv { o with ap:=⟨(g',c',t'),o.ap⟩ }
theorem ato {P:Program} {w:World} {K:Frag} {mg:Str->Option Value} {base:Heap} {x:Str} {k:Nat} {ps:List Str} {sp sp':Sp} (c:Can P w K mg base x k ps sp) (h:∀ vs H Q E,sp' vs H Q E->sp vs H Q E):Can P w K mg base x k ps sp':=by
 obtain ⟨f,fd,ok,m,kp,b⟩:=c
 exact ⟨f,fd,ok.imp h,m,kp,b⟩
def awm:VIo:=fun A ss Q=>∃ many:Int,A=OSt/\ss=[.st (.int many)]/\0 < many/\many < 1073741824/\∀ r:Int,0<=r->r < many->Q OSt (.st (.int r))
theorem awn {K:Frag} {f f':VIo} {vs:List V} {H:Hp} {Q:VK} {E:XK} (hf:∀ A ss Q',f A ss Q'->f' A ss Q') (h:spI K f vs H Q E):spI K f' vs H Q E:=by
 obtain ⟨v0,vr,G,R,A,ss,F0,Q',rfl,gh,ft,rh,ap,fg,fr,ao,q,hQ⟩:=h
 exact ⟨v0,vr,G,R,A,ss,F0,Q',rfl,gh,ft,rh,ap,fg,fr,ao,hf _ _ _ q,hQ⟩
theorem atp {B:Bs} {t:TS} {D':VEnds} {env:En} {g c u:Int} (i:Nat) (e:env[i]?=some (some (.own (OL (stD g c u))))) (q:EvS B t D' (env.set i (some (.own OSt)))):EvS B t D' env:=fun σ G H F D I r=>q σ G H F D (I.weakO e fun _ _ _ _ h=>⟨(g,c,u),h⟩) r
section
variable {P:Program} {w:World} {K:Frag} {mg:Str->Option Value} {base:Heap}
theorem aa0 (T:Txt K mg):Can P w K mg base "_law_take" 1 ["store","many"] (spI K (awm)) :=
 ato (aj5 T) fun vs H Q E h=>awl (awn (fun A ss Q' q=>by
  obtain ⟨many,rfl,rfl,h1,h2,k⟩:=q
  exact ⟨rfl,fun g c t=>⟨g,c,t,many,rfl,rfl,h1,h2,fun r g' c' t' r0 r1=>⟨⟨g',c',t',rfl⟩,k r r0 r1⟩⟩⟩) h)
end
structure TreeT (n:Int) (ps:List (Int × Int)):Prop where
 len:(ps.length:Int)=n - 1
 at':∀ (i:Nat) p,ps[i]?=some p->0<=p.1/\p.1 < p.2/\p.2=(i:Int)+1
def awo:VIo:=fun A ss Q=>∃ n kind:Int,A=OSt/\ss=[.st (.int n),.st (.int kind)]/\1<=n/\n<=60/\0<=kind/\kind < 4/\∀ ps,TreeT n ps->Q OSt (.own (OL (ps.map prD)))
section
variable {P:Program} {w:World} {K:Frag} {mg:Str->Option Value} {base:Heap}
theorem sc_law_tree_ties:FnScope ["store","n","kind","ties","b","a"] ["store","n","kind"] (aah s_law_tree_ties):=by row_cond sc
theorem agt (T:Txt K mg):Can P w K mg base "_law_tree_ties" 2 ["store","n","kind"] (spI K (awo)):=by
 obtain ⟨f,fd,D⟩:=T.d_law_tree_ties
 refine D.can (D.fn.ok sc_law_tree_ties (fun vs H Q E h=>lenI h fun A ss Q' q=>by obtain ⟨n,kind,rfl,rfl,n0,n1,k0,k1,k⟩:=q;rfl) (fun cdv A outer s H vs Q E hr h=>?_))
 have nd:=sc_law_tree_ties.nd
 refine ⟨_,(aac (aar (i:=3) nd rfl (Or.inl rfl) (abn aab))
  (aac (aey PassesOwn.never rfl (aiu rfl T.b_range (aaa aae (aaa (pv 1) aab))) (aai (i:=4) nd rfl (Or.inl rfl))
   (aac (aar (i:=5) nd rfl (Or.inl rfl) (aas aat (abn (aaa (aad (aa0 T) hr (aaa (pv 0) (aaa (pv 4) aab))) (aaa (aaq adq (aaq adq (pv 4) aae) (aad (aa0 T) hr (aaa (pv 0) (aaa (aak (ada rfl) (by rfl) T.b_min aee (aaa (pv 4) (aaa aae aab))) aab)))) (aaa (aad (aa0 T) hr (aaa (pv 0) (aaa (aak (ada rfl) (by rfl) T.b_min aee (aaa (pv 4) (aaa aae aab))) aab))) (aaa (aaq adq (pv 4) aae) aab))))) (pv 2) (fun _ _=>rfl)))
    (aaf (aba (adm PySem.F.plainAttrs_list PySem.F.slot_list_append PySem.F.type_list_append ab6 (pv 3) (aaa (ac9 (aaa (pv 5) (aaa (pv 4) aab))) aab))))))
  (aaf (aan (pv 3))))),?_⟩
 refine ahm h fun A0 ss Q' q B hK=>?_
 obtain ⟨n,kind,rfl,rfl,n0,n1,k0,k1,k⟩:=q
 show EvS B _ _ [some (.io OSt),some (.st (.int n)),some (.st (.int kind)),none,none,none]
 row_cond go
 refine alg (fun i e=>∃ v4 v5 ps,e=[some (.io OSt),some (.st (.int n)),some (.st (.int kind)),some (.own (OL (List.map prD ps))),v4,v5]/\ps.length=i/\∀ (j:Nat) p,ps[j]?=some p->0<=p.1/\p.1 < p.2/\p.2=(j:Int)+1) ⟨_,_,[],rfl,rfl,fun j p h=>by simp at h⟩ ?_ ?_
 ·rintro i e hi q0_
  refine exS3 e q0_ fun v4 v5 ps q1_=>?_
  have hpl:=q1_.1
  have hps:=q1_.2
  clear q1_ q0_
  have hi2:1+(i:Int) < n:=by omega
  row_cond go
  refine ⟨1+(i:Int),rfl,rfl,by omega,by omega,fun r1 r1a r1b=>?_⟩
  row_cond go
  refine ⟨_,rfl,rfl,by split <;> omega,by split <;> omega,fun r2 r2a r2b=>?_⟩
  have r2c:r2 < 1+(i:Int):=by split at r2b <;> omega
  row_cond go
  refine ⟨_,rfl,rfl,by split <;> omega,by split <;> omega,fun r3 r3a r3b=>?_⟩
  have r3c:r3 < 1+(i:Int):=by split at r3b <;> omega
  obtain ⟨x,hx,x0,x1⟩:∃ x:Int,atI [PyData.int r1,PyData.int (1+(i:Int) - 1 - r2),PyData.int r3,PyData.int (1+(i:Int) - 1)] kind=some (.int x)/\0<=x/\x < 1+(i:Int):=by
   rcases (show kind=0\/kind=1\/kind=2\/kind=3 by omega) with rfl | rfl | rfl | rfl
   ·exact ⟨r1,rfl,r1a,r1b⟩
   ·exact ⟨_,rfl,by omega,by omega⟩
   ·exact ⟨r3,rfl,r3a,r3c⟩
   ·exact ⟨_,rfl,by omega,by omega⟩
  row_cond go
  refine ⟨_,_,ps ++ [(x,1+(i:Int))],by rw [List.map_append];rfl,by rw [List.length_append,hpl];rfl,fun j p hp=>?_⟩
  by_cases hj:j < ps.length
  ·rw [List.getElem?_append_left hj] at hp
   exact hps j p hp
  ·have hj2:=(List.getElem?_eq_some_iff.mp hp).1
   simp at hj2
   have:j=ps.length:=by omega
   subst this
   rw [List.getElem?_append_right (Nat.le_refl _),Nat.sub_self] at hp
   cases hp
   exact ⟨x0,x1,by simp only;omega⟩
 ·rintro e q0_
  refine exS3 e q0_ fun v4 v5 ps q1_=>?_
  have hpl:=q1_.1
  have hps:=q1_.2
  clear q1_ q0_
  row_cond go
  exact k ps ⟨by omega,hps⟩
end
theorem aji {α β:Type} (f : α->β):∀ (l:List α) (k:Nat),(l.map f).eraseIdx k=(l.eraseIdx k).map f
 | [],_=>rfl
 | _ :: _,0=>rfl
 | a :: l,k+1=>by simp [aji f l k]
theorem ay3 {j:Int} {n:Nat} (q0:0<=j) (q1:j < n):seqIndex? j n=some j.toNat:=by unfold seqIndex?;simp;omega
theorem ay4 {left:List Int} {k:Nat} {y:Int} (hy:left[k]?=some y):(left.map PyData.int)[k]?=some (.int y):=by rw [List.getElem?_map,hy];rfl
theorem ay5 (row:List Int) (p:Int × Int):PyData.tuple [.int (if aa2 row p.2 < aa2 row p.1 then aa2 row p.2 else aa2 row p.1),.int (if aa2 row p.2 > aa2 row p.1 then aa2 row p.2 else aa2 row p.1)]=prD (reP row p):=by
 unfold reP prD
 split <;> split <;> first | rfl | omega | (simp only [PyData.tuple.injEq,List.cons.injEq,PyData.int.injEq,and_true];omega)
def awp:VIo:=fun A ss Q=>∃ (n:Int) (ps:List (Int × Int)),A=OSt/\ss=[.st (.int n),.st (.list (ps.map prD))]/\1<=n/\n<=60/\InN n ps/\ps.length < 64 /\
 ∀ (row:List Int) (qs:List (Int × Int)),Order n row->qs.Nodup->(∀ x,x∈qs ↔ x∈ps.map (reP row))->lexS (qs.map p2)->Q OSt (.own (OL (qs.map prD)))
section
variable {P:Program} {w:World} {K:Frag} {mg:Str->Option Value} {base:Heap}
theorem sc_law_renumbered:FnScope ["store","n","ties","left","numbers","found","a","b"] ["store","n","ties"] (aah s_law_renumbered):=by row_cond sc
theorem af8 (T:Txt K mg):Can P w K mg base "_law_renumbered" 2 ["store","n","ties"] (spI K (awp)):=by
 obtain ⟨f,fd,D⟩:=T.d_law_renumbered
 refine D.can (D.fn.ok sc_law_renumbered (fun vs H Q E h=>lenI h fun A ss Q' q=>by obtain ⟨n,ps,rfl,rfl,n0,n1,hin,hle,k⟩:=q;rfl) (fun cdv A outer s H vs Q E hr h=>?_))
 have nd:=sc_law_renumbered.nd
 refine ⟨_,(aac (aar (i:=3) nd rfl (Or.inr rfl) (as0 rfl T.b_list rfl T.b_range rfl (aaa (pv 1) aab)))
  (aac (afd (i:=4) nd rfl (Or.inl rfl) rfl (N:=["k","left","store"]) (src:=[none,some 3,some 0]) (by exact aa4 rfl rfl rfl rfl rfl rfl) (acy rfl T.b_range (aaa (pv 1) aab)) (fun _ _ _ _=>(aai (i:=0) (show List.Nodup (["k","left","store"]:List Str) by decide +kernel) rfl (Or.inl rfl) (hf:=Or.inr rfl))) (fun _ _ _ _=>ab3) (fun _ _ _ _=>(show PE _ _ (tBM K "list" ahb _ _) from (adm PySem.F.plainAttrs_list PySem.F.slot_list_pop PySem.F.type_list_pop arq (pv 1) (aaa (aad (aa0 T) hr (aaa (pv 2) (aaa (aak (show aa7 _ (.builtin "len") (rLen K) from aa8) (by rfl) T.b_len aca (aaa (pv 1) aab)) aab))) aab)))))
  (aac (aar (i:=5) nd rfl (Or.inl rfl) (abn aab))
  (aac (aey PassesOwn.never rfl (abk (pv 2)) (abm rfl (aao (aai (i:=6) nd rfl (Or.inl rfl)) (aao (aai (i:=7) nd rfl (Or.inl rfl)) abb)))
   (aaf (aba (adm PySem.F.plainAttrs_list PySem.F.slot_list_append PySem.F.type_list_append ab6 (pv 5) (aaa (ac9 (aaa (aak (ada rfl) (by rfl) T.b_min aee (aaa (aas aat (pv 4) (pv 6) (fun _ _=>rfl)) (aaa (aas aat (pv 4) (pv 7) (fun _ _=>rfl)) aab))) (aaa (aak (afe rfl) (by rfl) T.b_max acj (aaa (aas aat (pv 4) (pv 6) (fun _ _=>rfl)) (aaa (aas aat (pv 4) (pv 7) (fun _ _=>rfl)) aab))) aab))) aab)))))
  (aaf (aan (aak (amw rfl) (by rfl) T.b_sorted aen (aaa (aiz (call_setT rfl hr.units) (by rfl) T.b_set axo (aaa (pv 5) aab)) aab)))))))),?_⟩
 refine ahm h fun A0 ss Q' q B hK=>?_
 obtain ⟨n,ps,rfl,rfl,n0,n1,hin,hle,k⟩:=q
 show EvS B _ _ [some (.io OSt),some (.st (.int n)),some (.st (.list (ps.map prD))),none,none,none,none,none]
 row_cond go
 refine ⟨fun j ys e=>∃ (o:Option PyData) (row left:List Int),e=[stO o,some (.io (OL (left.map .int))),some (.io OSt)]/\ys=row.map .int/\row.length=j/\Order n (row ++ left),⟨none,[],(List.range n.toNat).map fun (i:Nat)=>(i:Int),by rw [← av4];rfl,rfl,rfl,Order.id n⟩,?_,?_,?_⟩
 ·rintro i ys e q0_
  refine exS3 e q0_ fun o row left q1_=>?_
  have hys:=q1_.1
  have hrl:=q1_.2.1
  have hO:=q1_.2.2
  clear q1_ q0_
  exact ⟨⟨isIo_stO.symm,ac0⟩,⟨rfl,rfl⟩,⟨rfl,rfl⟩,True.intro⟩
 ·rintro i d ys e hd ⟨o,row,left,rfl,rfl,hrl,hO⟩ B' hB
  obtain ⟨hi,rfl⟩:=afj hd
  have hll:left.length=n.toNat - i:=by have:=hO.len;simp at this;omega
  refine aaz (ae3 ?_)
  rw [if_pos rfl]
  show Ev B' _ [some (.st (.int (0+(i:Int)))),some (.io (OL (left.map .int))),some (.io OSt)] _
  row_cond go
  rw [List.length_map]
  refine ⟨(left.length:Int),rfl,rfl,by omega,by omega,fun r r0 r1=>?_⟩
  obtain ⟨y,hy⟩:∃ y,left[r.toNat]?=some y:=⟨_,List.getElem?_eq_getElem (show r.toNat < left.length by omega)⟩
  refine ⟨_,left.map .int,r,r.toNat,.int y,rfl,rfl,.inr rfl,by omega,by omega,ay3 r0 (by rw [List.length_map];exact r1),ay4 hy,by rw [List.length_map];omega,some (.int (0+(i:Int))),row ++ [y],left.eraseIdx r.toNat,?_,by rw [List.map_append];rfl,by rw [List.length_append,hrl];rfl,ape hO hy⟩
  rw [aji]
  rfl
 ·rintro ys e q0_
  refine exS3 e q0_ fun o row left q1_=>?_
  have e0_:=q1_.1
  have hrl:=q1_.2.1
  have hO:=q1_.2.2
  clear q1_ q0_
  subst e0_
  have hll:left=[]:=by rw [ace] at hrl;have:=hO.len;simp at this;exact List.length_eq_zero_iff.mp (by omega)
  subst hll
  rw [List.append_nil] at hO
  show EvG B (aay 4) (.own (OL (row.map .int))) [some (.io OSt),some (.st (.int n)),some (.st (.list (ps.map prD))),some (.own (OL [])),none,none,none,none] _
  refine abc abg ?_
  row_cond go
  refine afk (fun i e=>∃ v6 v7,e=[some (.io OSt),some (.st (.int n)),some (.st (.list (ps.map prD))),some (.own (OL [])),some (.st (.list (row.map .int))),some (.own (OL (((ps.take i).map (reP row)).map prD))),v6,v7]) ⟨_,_,rfl⟩ ?_ ?_
  ·rintro i p e hp q0_
   refine exE2 e q0_ fun v6 v7=>?_
   clear q0_
   have hq:=hin p (List.mem_of_getElem? hp)
   have r1:=ae7 (f:=PyData.int) (hO.atI (a:=p.1) (by omega) (by omega))
   have r2:=ae7 (f:=PyData.int) (hO.atI (a:=p.2) (by omega) (by omega))
   row_cond go
   refine ⟨by simp;omega,some (.st (.int p.1)),some (.st (.int p.2)),?_⟩
   rw [ay5,← List.map_singleton (f:=prD),← List.map_append,← List.map_singleton (f:=reP row),← List.map_append,show ps.take i ++ [p]=ps.take (i+1) by rw [List.take_add_one,hp];rfl]
  ·rintro e q0_
   refine exE2 e q0_ fun v6 v7=>?_
   clear q0_
   rw [List.take_length]
   row_cond go
   refine apm ?_
   row_cond go
   refine ⟨ps.map (reP row),rfl,by rw [List.length_map];omega,fun qs nd hm hs=>?_⟩
   exact ⟨_,rfl,k row qs hO nd hm hs⟩
end
structure TreeW (n:Int) (es:List (Int × Int)):Prop where
 web:WebOk n es
 len:(es.length:Int)=n - 1
 conn:Conn n (Tied es)
theorem TreeT.inn {n:Int} {ps:List (Int × Int)} (h:TreeT n ps):InN n ps:=fun p hp=>by
 obtain ⟨i,hi⟩:=List.getElem?_of_mem hp
 have h1:=h.at' i p hi
 have h2:=(List.getElem?_eq_some_iff.mp hi).1
 have:=h.len
 omega
theorem TreeT.ps {n:Int} {ps:List (Int × Int)} (h:TreeT n ps):PsOk n ps:=by
 refine ⟨?_,fun p hp=>?_⟩
 ·refine List.pairwise_iff_getElem.mpr fun i j hi hj hij e=>?_
  have h1:=(h.at' i _ (List.getElem?_eq_getElem hi)).2.2
  have h2:=(h.at' j _ (List.getElem?_eq_getElem hj)).2.2
  rw [e] at h1
  omega
 ·obtain ⟨i,hi⟩:=List.getElem?_of_mem hp
  have h1:=h.at' i p hi
  have h2:=(List.getElem?_eq_some_iff.mp hi).1
  have:=h.len
  omega
theorem TreeT.conn {n:Int} {ps:List (Int × Int)} (h:TreeT n ps):Conn n (Tied ps):=Tr.conn fun k k1 k2=>by
 have hl:(k - 1).toNat < ps.length:=by have:=h.len;omega
 have h1:=h.at' (k - 1).toNat _ (List.getElem?_eq_getElem hl)
 refine ⟨ps[(k - 1).toNat].1,h1.1,by omega,?_⟩
 have:(ps[(k - 1).toNat].1,k)=ps[(k - 1).toNat]:=Prod.ext rfl (by simp only;omega)
 rw [this]
 exact List.getElem_mem hl
theorem TreeW.of {n:Int} {ps qs:List (Int × Int)} (h0:1<=n) (h1:n<=60) (h:PsOk n ps) (hl:(ps.length:Int)=n - 1) (hc:Conn n (Tied ps)) (hp:qs.Perm ps) (hs:lexS (qs.map p2)):TreeW n qs :=
 ⟨as9 h0 h1 h hp hs,by rw [hp.length_eq];exact hl,hc.mono fun u v t=>(Tied.perm hp).mpr t⟩
theorem aoi {n:Int} {row:List Int} {ps qs:List (Int × Int)} (h:PsOk n ps) (hO:Order n row) (nd:qs.Nodup) (hm:∀ x,x∈qs ↔ x∈ps.map (reP row)):qs.Perm (ps.map (reP row)):=(List.perm_ext_iff_of_nodup nd (h.re hO).nd).mpr hm
theorem TreeW.inn {n:Int} {es:List (Int × Int)} (h:TreeW n es):InN n es:=fun p hp=>by
 have:=h.web.inn p hp
 omega
def ay6:VIo:=fun A ss Q=>A=OSt/\ss=[]/\∀ (n:Int) (es:List (Int × Int)),TreeW n es->Q OSt (.st (webD n es))
section
variable {P:Program} {w:World} {K:Frag} {mg:Str->Option Value} {base:Heap}
theorem sc_law_tree:FnScope ["store","n","ties"] ["store"] (aah s_law_tree):=by row_cond sc
theorem al9 (T:Txt K mg):Can P w K mg base "_law_tree" 3 ["store"] (spI K (ay6)):=by
 obtain ⟨f,fd,D⟩:=T.d_law_tree
 refine D.can (D.fn.ok sc_law_tree (fun vs H Q E h=>lenI h fun A ss Q' q=>by obtain ⟨rfl,rfl,k⟩:=q;rfl) (fun cdv A outer s H vs Q E hr h=>?_))
 have nd:=sc_law_tree.nd
 refine ⟨_,(aac (aar (i:=1) nd rfl (Or.inl rfl) (aas aat (abn (aaa (aaq aa9 aae (aad (aa0 T) hr (aaa (pv 0) (aaa aae aab)))) (aaa (aaq aa9 aae (aad (aa0 T) hr (aaa (pv 0) (aaa aae aab)))) (aaa (aaq aa9 aae (aad (aa0 T) hr (aaa (pv 0) (aaa aae aab)))) aab)))) (aad (aa0 T) hr (aaa (pv 0) (aaa aae aab))) (fun _ _=>rfl)))
  (aac (aar (i:=2) nd rfl (Or.inl rfl) (aad (agt T) hr (aaa (pv 0) (aaa (pv 1) (aaa (aad (aa0 T) hr (aaa (pv 0) (aaa aae aab))) aab)))))
  (aac (abf (aaw aos (aad (aa0 T) hr (aaa (pv 0) (aaa aae aab))) aae (aau _))
   (aaf (aar (i:=2) nd rfl (Or.inl rfl) (aad (af8 T) hr (aaa (pv 0) (aaa (pv 1) (aaa (pv 2) aab))))))
   aa3)
  (aaf (aan (ac9 (aaa (pv 1) (aaa (aak ahl (by rfl) T.b_sorted aen (aaa (pv 2) aab)) aab)))))))),?_⟩
 refine ahm h fun A0 ss Q' q B hK=>?_
 obtain ⟨rfl,rfl,k⟩:=q
 show EvS B _ _ [some (.io OSt),none,none]
 row_cond go
 refine ⟨6,rfl,rfl,by omega,by omega,fun r1 r1a r1b=>?_⟩
 row_cond go
 refine ⟨16,rfl,rfl,by omega,by omega,fun r2 r2a r2b=>?_⟩
 row_cond go
 refine ⟨60,rfl,rfl,by omega,by omega,fun r3 r3a r3b=>?_⟩
 row_cond go
 refine ⟨3,rfl,rfl,by omega,by omega,fun r4 r4a r4b=>?_⟩
 obtain ⟨n,hn,n0,n1⟩:∃ n:Int,atI [PyData.int (1+r1),PyData.int (1+r2),PyData.int (1+r3)] r4=some (.int n)/\1<=n/\n<=60:=by
  rcases (show r4=0\/r4=1\/r4=2 by omega) with rfl | rfl | rfl <;> exact ⟨_,rfl,by omega,by omega⟩
 row_cond go
 refine ⟨4,rfl,rfl,by omega,by omega,fun r5 r5a r5b=>?_⟩
 row_cond go
 refine ⟨n,r5,rfl,rfl,n0,n1,r5a,r5b,fun ps hT=>abc abg ?_⟩
 have hin:=hT.inn
 have hle:ps.length<=60:=by have:=hT.len;omega
 row_cond go
 refine ⟨3,rfl,rfl,by omega,by omega,fun r6 r6a r6b=>?_⟩
 row_cond go
 refine ae1 (fun h=>?_) (fun h=>?_)
 ·row_cond go
  refine ⟨n,ps,rfl,rfl,n0,n1,hin,by omega,fun row qs hO nd hm hs=>abc abg ?_⟩
  row_cond go
  refine af3 (ps:=qs) (by rw [(aoi hT.ps hO nd hm).length_eq,List.length_map];omega) ?_
  row_cond go
  intro qs2 hp hl
  row_cond go
  have hq:=aoi hT.ps hO nd hm
  exact k n qs2 (TreeW.of n0 n1 (hT.ps.re hO) (by rw [List.length_map];exact hT.len) (hT.conn.re hO) (hp.trans hq) hl)
 ·row_cond go
  refine af3 (ps:=ps) (by omega) ?_
  row_cond go
  intro qs2 hp hl
  row_cond go
  exact k n qs2 (TreeW.of n0 n1 hT.ps hT.len hT.conn hp hl)
end
noncomputable def kM (M:List (Int × List Int)):List (Int × List PyData):=M.map fun p=>(p.1,p.2.map .int)
structure KT (T:Int->Int->Prop) (M:List (Int × List Int)):Prop where
 nd:(M.map (·.1)).Nodup
 iff:∀ k w,T k w ↔ ∃ ws,(k,ws)∈M/\w∈ws
theorem ay7 {M:List (Int × List Int)} {n:Nat} {k y:Int} {ws:List Int}:(kM M).set n (k,ws.map .int ++ [.int y])=kM (M.set n (k,ws ++ [y])):=by
 unfold kM
 rw [List.map_set]
 simp
theorem KT.set {T T':Int->Int->Prop} {M:List (Int × List Int)} {n:Nat} {k y:Int} {ws:List Int} (h:KT T M) (hn:M[n]?=some (k,ws)) (hT:∀ u v,T' u v ↔ T u v\/(u=k/\v=y)):KT T' (M.set n (k,ws ++ [y])):=by
 have hm:=List.mem_of_getElem? hn
 obtain ⟨hl,he⟩:=List.getElem?_eq_some_iff.mp hn
 refine ⟨?_,fun u v=>?_⟩
 ·rw [List.map_set,show (k,ws ++ [y]).1=(M.map (·.1))[n]'(by simpa using hl) by simp [he],List.set_getElem_self]
  exact h.nd
 rw [hT,h.iff]
 constructor
 ·rintro (⟨us,h1,h2⟩ | ⟨rfl,rfl⟩)
  ·obtain ⟨j,hj,ej⟩:=List.mem_iff_getElem.mp h1
   by_cases e:j=n
   ·subst e
    rw [he] at ej
    cases ej
    exact ⟨ws ++ [y],List.mem_iff_getElem.mpr ⟨j,by simpa using hl,by simp⟩,List.mem_append.mpr (.inl h2)⟩
   ·exact ⟨us,List.mem_iff_getElem.mpr ⟨j,by simpa using hj,by rw [List.getElem_set_ne (Ne.symm e)];exact ej⟩,h2⟩
  ·exact ⟨ws ++ [v],List.mem_iff_getElem.mpr ⟨n,by simpa using hl,by simp⟩,List.mem_append.mpr (.inr (List.mem_singleton.mpr rfl))⟩
 ·rintro ⟨us,h1,h2⟩
  rcases List.mem_or_eq_of_mem_set h1 with q | q
  ·exact .inl ⟨us,q,h2⟩
  ·cases q
   rcases List.mem_append.mp h2 with h2 | h2
   ·exact .inl ⟨ws,hm,h2⟩
   ·exact .inr ⟨rfl,List.mem_singleton.mp h2⟩
structure KTB (T:Int->Int->Prop) (M:List (Int × List Int)) (m:Nat):Prop extends KT T M where
 lenM:M.length<=m
 lenW:∀ p∈kM M,p.2.length<=m
theorem KTB.set {T T':Int->Int->Prop} {M:List (Int × List Int)} {m n:Nat} {k y:Int} {ws:List Int} (h:KTB T M m) (hn:M[n]?=some (k,ws)) (hT:∀ u v,T' u v ↔ T u v\/(u=k/\v=y)):KTB T' (M.set n (k,ws ++ [y])) (m+1):=by
 refine ⟨h.toKT.set hn hT,by rw [List.length_set];have:=h.lenM;omega,fun p hp=>?_⟩
 rw [← ay7] at hp
 rcases List.mem_or_eq_of_mem_set hp with q | q
 ·have:=h.lenW p q;omega
 ·subst q
  have:=h.lenW (k,ws.map .int) (List.mem_map.mpr ⟨_,List.mem_of_getElem? hn,rfl⟩)
  simp at this ⊢
  exact this
structure FarL (far:Int->Option Nat) (line:List Int) (ds:List Nat):Prop where
 at':∀ (i:Nat) v d,line[i]?=some v->ds[i]?=some d->far v=some d
 no:∀ v,v ∉ line->far v=none
theorem FarL.start (a:Int):FarL (Gr.label (fun _=>none) a 0) [a] [0]:=⟨fun i v d h1 h2=>by
 cases i with
 | zero=>simp at h1 h2;subst h1 h2;exact Gr.label_same
 | succ i=>simp at h1,fun v hv=>by rw [Gr.label_ne (by simpa using hv)]⟩
theorem FarL.add {far:Int->Option Nat} {line:List Int} {ds:List Nat} {w:Int} {d:Nat} (h:FarL far line ds) (hl:ds.length=line.length) (hw:w ∉ line):FarL (Gr.label far w d) (line ++ [w]) (ds ++ [d]):=by
 refine ⟨fun i v e h1 h2=>?_,fun v hv=>?_⟩
 ·by_cases hi:i < line.length
  ·rw [List.getElem?_append_left hi] at h1
   rw [List.getElem?_append_left (by omega)] at h2
   have hne:v ≠ w:=fun e=>hw (e ▸ List.mem_of_getElem? h1)
   rw [Gr.label_ne hne]
   exact h.at' i v e h1 h2
  ·have hi2:=(List.getElem?_eq_some_iff.mp h1).1
   simp at hi2
   have:i=line.length:=by omega
   subst this
   rw [List.getElem?_append_right (Nat.le_refl _),Nat.sub_self] at h1
   rw [← hl,List.getElem?_append_right (Nat.le_refl _),Nat.sub_self] at h2
   cases h1
   cases h2
   exact Gr.label_same
 ·have h1:v ∉ line:=fun q=>hv (List.mem_append.mpr (.inl q))
  have h2:v ≠ w:=fun q=>hv (List.mem_append.mpr (.inr (List.mem_singleton.mpr q)))
  rw [Gr.label_ne h2]
  exact h.no v h1
theorem FarL.fin {T:Int->Int->Prop} {a:Int} {far:Int->Option Nat} {line:List Int} {ds:List Nat} (h:FarL far line ds) (b:Gr.Bfs T a line ds line.length) (v:Int):far v=Gr.farO T a v:=by
 by_cases hv:v∈line
 ·obtain ⟨i,hi⟩:=List.getElem?_of_mem hv
  have hil:=(List.getElem?_eq_some_iff.mp hi).1
  obtain ⟨d,hd⟩:∃ d,ds[i]?=some d:=⟨_,List.getElem?_eq_getElem (by rw [b.len];exact hil)⟩
  rw [h.at' i v d hi hd,Gr.farO_some.mpr (b.dist i v d hi hd)]
 ·rw [h.no v hv]
  cases e:Gr.farO T a v with
  | none=>rfl
  | some d =>
   exact absurd (b.fin d v (Gr.farO_some.mp e).1) hv
section
variable {P:Program} {w:World} {K:Frag} {mg:Str->Option Value} {base:Heap}
end
def atq:VP:=fun ss Q=>∃ (n:Int) (es:List (Int × Int)),ss=[.st (webD n es)]/\1<=n/\n<=100/\InN n es/\es.length<=10000/\∀ b:Bool,(b=true ↔ (es.length:Int)=n - 1/\Joined n es)->Q (.st (.bool b))
section
variable {P:Program} {w:World} {K:Frag} {mg:Str->Option Value} {base:Heap}
theorem sc_is_tree:FnScope ["web","n","ties"] ["web"] (aah s_is_tree):=by row_cond sc
theorem aeu (T:Txt K mg):Can P w K mg base "is_tree" 7 ["web"] (spP K (atq)):=by
 obtain ⟨f,fd,D⟩:=T.d_is_tree
 refine D.can (D.fn.ok sc_is_tree (fun vs H Q E h=>lenP h fun ss Q' q=>by obtain ⟨n,es,rfl,n0,n1,hin,hle,k⟩:=q;rfl) (fun cdv A outer s H vs Q E hr h=>?_))
 have nd:=sc_is_tree.nd
 refine ⟨_,(aac (ab1 (pv 0) (abm rfl (aao (aai (i:=1) nd rfl (Or.inl rfl)) (aao (aai (i:=2) nd rfl (Or.inl rfl)) abb))))
  (aaf (aan (adp (abt agc (aak aa8 (by rfl) T.b_len aca (aaa (pv 2) aab)) (aaq adq (pv 1) aae) (aau _)) (aex (aad (afs T) hr (aaa (pv 0) aab))))))),?_⟩
 refine aa1 h fun ss Q' q B hK=>?_
 refine exS2 ss q fun n es q1_=>?_
 have n0:=q1_.1
 have n1:=q1_.2.1
 have hin:=q1_.2.2.1
 have hle:=q1_.2.2.2.1
 have k:=q1_.2.2.2.2
 clear q1_ q
 show EvS B _ _ [some (.st (webD n es)),none,none]
 row_cond go
 rw [List.length_map]
 refine ae1 (fun h=>?_) (fun h=>?_)
 ·row_cond go
  refine ⟨n,es,rfl,n0,n1,hin,hle,fun b hb=>?_⟩
  row_cond go
  exact k b (hb.trans ⟨fun q=>⟨h,q⟩,fun q=>q.2⟩)
 ·row_cond go
  exact k false ⟨fun q=>(by cases q),fun q=>absurd q.1 h⟩
end
def apo:VP:=fun ss Q=>∃ (n:Int) (es:List (Int × Int)),ss=[.st (webD n es)]/\1<=n/\n<=100/\InN n es/\es.length<=10000/\((es.length:Int)=n - 1/\Joined n es)/\Q (.st .none)
def IsPt (n:Nat) (m:Int->Int->Int) (a b x:Int):Prop:=(∃ u v:Int,0<=u/\u < n/\0<=v/\v < n/\(m u a < m u b ↔ m v a < m v b)/\m u v=x)/\∀ u v:Int,0<=u->u < n->0<=v->v < n->(m u a < m u b ↔ m v a < m v b)->m u v<=x
def amz:VP:=fun ss Q=>∃ (n:Nat) (m:Int->Int->Int) (a b:Int),ss=[.st (.list (matD n m)),.st (prD (a,b))]/\1<=n/\n<=100/\0<=a/\a < n/\0<=b/\b < n/\∀ x,IsPt n m a b x->Q (.st (.int x))
noncomputable def sdF (m:Int->Int->Int) (a b:Int) (u:Nat):Bool:=decide (m (u:Int) a < m (u:Int) b)
theorem ay8 {m:Int->Int->Int} {a b:Int} {u v:Nat}:sdF m a b u=sdF m a b v ↔ (m (u:Int) a < m (u:Int) b ↔ m (v:Int) a < m (v:Int) b):=by
 unfold sdF
 rw [Bool.eq_iff_iff]
 simp
theorem awq {n:Nat} {m:Int->Int->Int} {g:Nat->Bool}:zipD (matD n m) ((List.range n).map fun u => .bool (g u))=(List.range n).map fun (u:Nat) => .tuple [.list (rowD n (m (u:Int))),.bool (g u)]:=by
 unfold zipD matD
 rw [List.zip_map',List.map_map]
 rfl
theorem atr {n:Nat} {r:Int->Int} {g:Nat->Bool}:zipD (rowD n r) ((List.range n).map fun u => .bool (g u))=(List.range n).map fun (v:Nat) => .tuple [.int (r (v:Int)),.bool (g v)]:=by
 unfold zipD rowD
 rw [List.zip_map',List.map_map]
 rfl
noncomputable def ptF (n:Nat) (m:Int->Int->Int) (g:Nat->Bool):List Int:=(List.range n).flatMap fun u=>((List.range n).filter fun v=>g u == g v).map fun (v:Nat)=>m (u:Int) (v:Int)
theorem aum (n:Nat) (m:Int->Int->Int) (g:Nat->Bool):((List.range n).flatMap fun u=>((List.range n).filter fun v=>g u == g v).map fun (v:Nat)=>PyData.int (m (u:Int) (v:Int)))=(ptF n m g).map .int:=by
 unfold ptF
 rw [List.map_flatMap]
 congr 1
 funext x
 rw [List.map_map]
 rfl
theorem ama {α:Type} {n:Nat} {f:Nat->List α}:∀ (l:List Nat),(∀ u∈l,(f u).length<=n)->(l.flatMap f).length<=l.length * n
 | [],_=>by simp
 | u :: l,h=>by
  have h1:=h u List.mem_cons_self
  have h2:=ama l fun v hv=>h v (List.mem_cons_of_mem _ hv)
  rw [List.flatMap_cons,List.length_append,List.length_cons,Nat.add_mul]
  omega
theorem awr {n:Nat} (h:n<=100) (m:Int->Int->Int) (g:Nat->Bool):(ptF n m g).length<=10000:=by
 have:=ama (n:=n) (f:=fun u=>((List.range n).filter fun v=>g u == g v).map fun (v:Nat)=>m (u:Int) (v:Int)) (List.range n) fun u _=>by
  rw [List.length_map]
  exact Nat.le_trans (List.length_filter_le _ _) (by simp)
 rw [List.length_range] at this
 exact Nat.le_trans this (Nat.mul_le_mul h h)
theorem ptF_mem {n:Nat} {m:Int->Int->Int} {a b x:Int}:x∈ptF n m (sdF m a b) ↔ ∃ u v:Int,0<=u/\u < n/\0<=v/\v < n/\(m u a < m u b ↔ m v a < m v b)/\m u v=x:=by
 unfold ptF
 simp only [List.mem_flatMap,List.mem_range,List.mem_map,List.mem_filter,beq_iff_eq,ay8]
 constructor
 ·rintro ⟨u,hu,v,⟨hv,q⟩,rfl⟩
  exact ⟨u,v,by omega,by omega,by omega,by omega,q,rfl⟩
 ·rintro ⟨u,v,u0,u1,v0,v1,q,rfl⟩
  refine ⟨u.toNat,by omega,v.toNat,⟨by omega,?_⟩,?_⟩
  ·rw [show ((u.toNat:Nat):Int)=u by omega,show ((v.toNat:Nat):Int)=v by omega];exact q
  ·rw [show ((u.toNat:Nat):Int)=u by omega,show ((v.toNat:Nat):Int)=v by omega]
theorem aun {n:Nat} {m:Int->Int->Int} {a b x:Int} (h:adb (ptF n m (sdF m a b)) x):IsPt n m a b x :=
 ⟨ptF_mem.mp h.1,fun u v u0 u1 v0 v1 q=>h.2 _ (ptF_mem.mpr ⟨u,v,u0,u1,v0,v1,q,rfl⟩)⟩
theorem ari {n:Nat} (hn:1<=n) (m:Int->Int->Int) (a b:Int):∃ x,IsPt n m a b x:=by
 obtain ⟨x,hx⟩:=ae9 (ns:=ptF n m (sdF m a b)) fun e=>by
  have:m 0 0∈ptF n m (sdF m a b):=ptF_mem.mpr ⟨0,0,by omega,by omega,by omega,by omega,Iff.rfl,rfl⟩
  rw [e] at this
  cases this
 exact ⟨x,aun hx⟩
theorem aws {n:Nat} {m:Int->Int->Int} {a b x y:Int} (h:IsPt n m a b x) (g:IsPt n m a b y):x=y:=by
 obtain ⟨u,v,u0,u1,v0,v1,q,rfl⟩:=h.1
 obtain ⟨u',v',u0',u1',v0',v1',q',rfl⟩:=g.1
 have h1:=g.2 u v u0 u1 v0 v1 q
 have h2:=h.2 u' v' u0' u1' v0' v1' q'
 omega
section
variable {P:Program} {w:World} {K:Frag} {mg:Str->Option Value} {base:Heap}
theorem sc_need_tree:FnScope ["web"] ["web"] (aah s_need_tree):=by row_cond sc
theorem ad0 (T:Txt K mg):Can P w K mg base "need_tree" 8 ["web"] (spP K (apo)):=by
 obtain ⟨f,fd,D⟩:=T.d_need_tree
 refine D.can (D.fn.ok sc_need_tree (fun vs H Q E h=>lenP h fun ss Q' q=>by obtain ⟨n,es,rfl,n0,n1,hin,hle,hJ,k⟩:=q;rfl) (fun cdv A outer s H vs Q E hr h=>?_))
 have nd:=sc_need_tree.nd
 refine ⟨_,(aaf (abf (act (aci (aad (aeu T) hr (aaa (pv 0) aab))))
   (aaf aeb)
   aa3)),?_⟩
 refine aa1 h fun ss Q' q B hK=>?_
 refine exS2 ss q fun n es q1_=>?_
 have n0:=q1_.1
 have n1:=q1_.2.1
 have hin:=q1_.2.2.1
 have hle:=q1_.2.2.2.1
 have hJ:=q1_.2.2.2.2.1
 have k:=q1_.2.2.2.2.2
 clear q1_ q
 show EvS B _ _ [some (.st (webD n es))]
 row_cond go
 refine ⟨n,es,rfl,n0,n1,hin,hle,fun b hb=>?_⟩
 obtain rfl:b=true:=hb.mpr hJ
 row_cond go
 exact k
theorem sc_parted_far:FnScope ["rows","tie","a","b","sides"] ["rows","tie"] (aah s_parted_far):=by row_cond sc
theorem ais (T:Txt K mg):Can P w K mg base "parted_far" 1 ["rows","tie"] (spP K (amz)):=by
 obtain ⟨f,fd,D⟩:=T.d_parted_far
 refine D.can (D.fn.ok sc_parted_far (fun vs H Q E h=>lenP h fun ss Q' q=>by obtain ⟨n,m,a,b,rfl,n0,n1,a0,a1,b0,b1,k⟩:=q;rfl) (fun cdv A outer s H vs Q E hr h=>?_))
 have nd:=sc_parted_far.nd
 refine ⟨_,(aac (ab1 (pv 1) (abm rfl (aao (aai (i:=2) nd rfl (Or.inr rfl)) (aao (aai (i:=3) nd rfl (Or.inr rfl)) abb))))
  (aac (aar (i:=4) nd rfl (Or.inr rfl) (aco rfl (N:=["row","a","b"]) (src:=[none,some 2,some 3]) (by exact aa4 rfl rfl rfl rfl rfl rfl) (abk (pv 0)) (fun _ _ _ _=>(aai (i:=0) (show List.Nodup (["row","a","b"]:List Str) by decide +kernel) rfl (Or.inl rfl) (hf:=Or.inr rfl))) (fun _ _ _ _=>ab3) (fun _ _ _ _=>(abt aj8 (aas (show IxR _ (abw K) from aat) (pv 0) (pv 1) (fun _ _=>rfl)) (aas (show IxR _ (abw K) from aat) (pv 0) (pv 2) (fun _ _=>rfl)) (aau _)))))
  (aaf (aan (aak (ab7 rfl) (by rfl) T.b_max acj (aaa (axg rfl (N:=["row","side","far","other","sides"]) (src:=[none,none,none,none,some 4]) (by exact aa4 rfl rfl rfl rfl rfl rfl) (aqt rfl T.b_zip (aaa (pv 0) (aaa (pv 4) aab))) (fun _ _ _ _=>(show PG _ _ (gTup K 2 (aby (aay 0) (aby (aay 1) gNil))) from (abm rfl (aao (aai (i:=0) (show List.Nodup (["row","side","far","other","sides"]:List Str) by decide +kernel) rfl (Or.inl rfl) (hf:=Or.inr rfl)) (aao (aai (i:=1) (show List.Nodup (["row","side","far","other","sides"]:List Str) by decide +kernel) rfl (Or.inl rfl) (hf:=Or.inr rfl)) abb))))) (fun _ _ _ _=>ab3) (fun _ _ _ _=>(show PI _ _ _ (iZip K _) from aqt (by rfl) T.b_zip (aaa (pv 0) (aaa (pv 4) aab)))) (fun _ _ _ _=>(show PG _ _ (gTup K 2 (aby (aay 2) (aby (aay 3) gNil))) from (abm rfl (aao (aai (i:=2) (show List.Nodup (["row","side","far","other","sides"]:List Str) by decide +kernel) rfl (Or.inl rfl) (hf:=Or.inr rfl)) (aao (aai (i:=3) (show List.Nodup (["row","side","far","other","sides"]:List Str) by decide +kernel) rfl (Or.inl rfl) (hf:=Or.inr rfl)) abb))))) (fun _ _ _ _=>acz (aaw agc (pv 1) (pv 3) (aau _))) (fun _ _ _ _=>(pv 2))) aab)))))),?_⟩
 refine aa1 h fun ss Q' q B hK=>?_
 refine exS4 ss q fun n m a b q1_=>?_
 have n0:=q1_.1
 have n1:=q1_.2.1
 have a0:=q1_.2.2.1
 have a1:=q1_.2.2.2.1
 have b0:=q1_.2.2.2.2.1
 have b1:=q1_.2.2.2.2.2.1
 have k:=q1_.2.2.2.2.2.2
 clear q1_ q
 show EvS B _ _ [some (.st (.list (matD n m))),some (.st (prD (a,b))),none,none,none]
 row_cond go
 unfold matD
 refine adk (fun u:Nat => .bool (sdF m a b u)) rfl (by simp;omega) (fun u hu B' hB=>?_) ?_
 ·have ra:=ard (r:=m (u:Int)) a0 a1
  have rb:=ard (r:=m (u:Int)) b0 b1
  row_cond go
  exact rfl
 ·row_cond go
  rw [show ((List.range n).map fun (u:Nat)=>PyData.list (rowD n (m (u:Int))))=matD n m from rfl,awq]
  refine apn (xs:=List.range n) (fun _=>List.range n) (fun u v => .int (m (u:Int) (v:Int))) (fun _ v => .bool (sdF m a b v)) (fun u v => .int (m (u:Int) (v:Int))) (fun u v=>sdF m a b u == sdF m a b v) (aq0 rfl) ?_ ?_ ?_ ?_
  ·rw [aum,List.length_map]
   have:=awr n1 m (sdF m a b)
   omega
  ·intro u hu B' hB o o'
   row_cond go
   rw [atr]
   exact ⟨rfl,rfl⟩
  ·intro u hu v hv B' hB
   row_cond go
   intro _
   row_cond go
   exact rfl
  ·rw [aum]
   row_cond go
   refine acm ?_ fun x hx=>?_
   ·intro e
    have:m 0 0∈ptF n m (sdF m a b):=ptF_mem.mpr ⟨0,0,by omega,by omega,by omega,by omega,Iff.rfl,rfl⟩
    rw [e] at this
    cases this
   ·row_cond go
    exact k x (aun hx)
def IsPart (n:Int) (es:List (Int × Int)) (z:Z3):Prop:=∃ xs:List Z3,(∀ t:Int × Int,t∈es->∃ x,(x,t)∈xs)/\(∀ y∈xs,y.2∈es/\IsPt n.toNat (dsF es) y.2.1 y.2.2 y.1)/\z∈xs/\∀ y∈xs,¬ lt3 y z
def a0b (n:Int) (es:List (Int × Int)) (D:PyData):Prop:=(es=[]/\D=.none)\/∃ z,IsPart n es z/\D=z3D z
def arj:VP:=fun ss Q=>∃ (n:Int) (es:List (Int × Int)),ss=[.st (webD n es)]/\1<=n/\n<=100/\InN n es/\es.length<=10000/\((es.length:Int)=n - 1/\Joined n es)/\∀ D,a0b n es D->Q (.st D)
theorem sc_parting_tie:FnScope ["web","rows"] ["web"] (aah s_parting_tie):=by row_cond sc
theorem ah0 (T:Txt K mg):Can P w K mg base "parting_tie" 9 ["web"] (spP K (arj)):=by
 obtain ⟨f,fd,D⟩:=T.d_parting_tie
 refine D.can (D.fn.ok sc_parting_tie (fun vs H Q E h=>lenP h fun ss Q' q=>by obtain ⟨n,es,rfl,n0,n1,hin,hle,hJ,k⟩:=q;rfl) (fun cdv A outer s H vs Q E hr h=>?_))
 have nd:=sc_parting_tie.nd
 refine ⟨_,(aac (aba (aad (ad0 T) hr (aaa (pv 0) aab)))
  (aac (aar (i:=1) nd rfl (Or.inr rfl) (aad (adh T) hr (aaa (pv 0) aab)))
  (aaf (aan (au5 hr.units rfl (by rfl) T.b_min (aaa (aco rfl (N:=["tie","rows"]) (src:=[none,some 1]) (by exact aa4 rfl rfl rfl rfl rfl rfl) (abk (aas aat (pv 0) aae (fun _ _=>rfl))) (fun _ _ _ _=>(aai (i:=0) (show List.Nodup (["tie","rows"]:List Str) by decide +kernel) rfl (Or.inl rfl) (hf:=Or.inr rfl))) (fun _ _ _ _=>ab3) (fun _ _ _ _=>(ac9 (aaa (aad (ais T) hr (aaa (pv 1) (aaa (pv 0) aab))) (aaa (pv 0) aab))))) aab) aea))))),?_⟩
 refine aa1 h fun ss Q' q B hK=>?_
 refine exS2 ss q fun n es q1_=>?_
 have n0:=q1_.1
 have n1:=q1_.2.1
 have hin:=q1_.2.2.1
 have hle:=q1_.2.2.2.1
 have hJ:=q1_.2.2.2.2.1
 have k:=q1_.2.2.2.2.2
 clear q1_ q
 show EvS B _ _ [some (.st (webD n es)),none]
 row_cond go
 refine ⟨n,es,rfl,n0,n1,hin,hle,hJ,?_⟩
 row_cond go
 refine ⟨n,es,rfl,n0,n1,hin,hle,hJ.2,abc abg ?_⟩
 row_cond go
 obtain ⟨pf,hpf⟩:∃ pf:Int × Int->Int,∀ t,IsPt n.toNat (dsF es) t.1 t.2 (pf t):=⟨fun t=>Classical.choose (ari (n:=n.toNat) (by omega) (dsF es) t.1 t.2),fun t=>Classical.choose_spec (ari (n:=n.toNat) (by omega) (dsF es) t.1 t.2)⟩
 refine aqj ?_
 row_cond go
 refine adk (xs:=es) (fun t:Int × Int=>z3D (pf t,t)) rfl (by omega) (fun t ht B' hB=>?_) ?_
 ·have hq:=hin t ht
  row_cond go
  refine ⟨n.toNat,dsF es,t.1,t.2,rfl,by omega,by omega,by omega,by omega,by omega,by omega,fun x hx=>?_⟩
  row_cond go
  rw [aws hx (hpf t)]
  exact ⟨rfl,rfl⟩
 ·row_cond go
  rw [show es.map (fun t:Int × Int=>z3D (pf t,t))=(es.map fun t=>((pf t,t):Z3)).map z3D by rw [List.map_map];rfl]
  refine atb (fun e=>?_) fun z hz hm=>?_
  ·row_cond go
   exact k _ (.inl ⟨List.map_eq_nil_iff.mp e,rfl⟩)
  ·row_cond go
   refine k _ (.inr ⟨z,⟨_,fun t ht=>⟨pf t,List.mem_map.mpr ⟨t,ht,rfl⟩⟩,fun y hy=>?_,hz,hm⟩,rfl⟩)
   obtain ⟨t,ht,rfl⟩:=List.mem_map.mp hy
   exact ⟨ht,hpf t⟩
end
structure FarOk (n:Int) (es:List (Int × Int)) (x a b:Int):Prop where
 top:ahy n.toNat (dsF es) x
 a0:0<=a
 a1:a < n
 b0:0<=b
 b1:b < n
 eq:dsF es a b=x
 fst:∀ u v:Int,0<=u->u < n->0<=v->v < n->dsF es u v=x->a < u\/(a=u/\b<=v)
def apq:VP:=fun ss Q=>∃ (n:Int) (es:List (Int × Int)),ss=[.st (webD n es)]/\1<=n/\n<=100/\InN n es/\es.length<=10000/\Joined n es/\∀ x a b,FarOk n es x a b->Q (.st (.tuple [.int x,.int a,.int b]))
theorem amb {ns:List Int} {k:Int} (h:k∈ns):∃ j:Nat,ns[j]?=some k/\∀ m:Nat,m < j->ns[m]? ≠ some k:=by
 induction ns with
 | nil=>simp at h
 | cons n ns ih =>
  by_cases e:n=k
  ·exact ⟨0,by rw [e];rfl,fun m hm=>by omega⟩
  ·obtain ⟨j,h1,h2⟩:=ih ((List.mem_cons.mp h).resolve_left fun z=>e z.symm)
   refine ⟨j+1,h1,fun m hm=>?_⟩
   cases m with
   | zero=>simpa using e
   | succ m=>exact h2 m (by omega)
section
variable {P:Program} {w:World} {K:Frag} {mg:Str->Option Value} {base:Heap}
theorem sc_farthest_two:FnScope ["web","rows","far","a"] ["web"] (aah s_farthest_two):=by row_cond sc
theorem ab9 (T:Txt K mg):Can P w K mg base "farthest_two" 9 ["web"] (spP K (apq)):=by
 obtain ⟨f,fd,D⟩:=T.d_farthest_two
 refine D.can (D.fn.ok sc_farthest_two (fun vs H Q E h=>lenP h fun ss Q' q=>by obtain ⟨n,es,rfl,n0,n1,hin,hle,hJ,k⟩:=q;rfl) (fun cdv A outer s H vs Q E hr h=>?_))
 have nd:=sc_farthest_two.nd
 refine ⟨_,(aac (aar (i:=1) nd rfl (Or.inl rfl) (aad (adh T) hr (aaa (pv 0) aab)))
  (aac (aar (i:=2) nd rfl (Or.inl rfl) (aad (af7 T) hr (aaa (pv 1) aab)))
  (aac (aar (i:=3) nd rfl (Or.inl rfl) (adm PySem.F.plainAttrs_list PySem.F.slot_list_index PySem.F.type_list_index ag5 (aco rfl (N:=["row"]) (src:=[none]) (by exact aa4 rfl rfl rfl rfl rfl rfl) (abk (pv 1)) (fun _ _ _ _=>(aai (i:=0) (show List.Nodup (["row"]:List Str) by decide +kernel) rfl (Or.inl rfl) (hf:=Or.inr rfl))) (fun _ _ _ _=>ab3) (fun _ _ _ _=>(aak (show aa7 _ (.builtin "max") (aep K) from (ab7 rfl)) (by rfl) T.b_max acj (aaa (pv 0) aab)))) (aaa (pv 2) aab)))
  (aaf (aan (ac9 (aaa (pv 2) (aaa (pv 3) (aaa (adm PySem.F.plainAttrs_list PySem.F.slot_list_index PySem.F.type_list_index ag5 (aas aat (pv 1) (pv 3) (fun _ _=>rfl)) (aaa (pv 2) aab)) aab))))))))),?_⟩
 refine aa1 h fun ss Q' q B hK=>?_
 refine exS2 ss q fun n es q1_=>?_
 have n0:=q1_.1
 have n1:=q1_.2.1
 have hin:=q1_.2.2.1
 have hle:=q1_.2.2.2.1
 have hJ:=q1_.2.2.2.2.1
 have k:=q1_.2.2.2.2.2
 clear q1_ q
 show EvS B _ _ [some (.st (webD n es)),none,none,none]
 have hn:1<=n.toNat:=by omega
 obtain ⟨mx,hmx⟩:=air hn (dsF es)
 row_cond go
 refine ⟨n,es,rfl,n0,n1,hin,hle,hJ,abc abg ?_⟩
 row_cond go
 refine ⟨n.toNat,dsF es,rfl,hn,by omega,fun x hx=>?_⟩
 have hxm:x∈(List.range n.toNat).map mx:=by
  obtain ⟨⟨u,v,u0,u1,v0,v1,e⟩,g⟩:=hx
  refine List.mem_map.mpr ⟨u.toNat,List.mem_range.mpr (by omega),?_⟩
  have h1:=(hmx u.toNat).2 (dsF es ((u.toNat:Nat):Int) ((v.toNat:Nat):Int)) (List.mem_map.mpr ⟨v.toNat,List.mem_range.mpr (by omega),rfl⟩)
  rw [show ((u.toNat:Nat):Int)=u by omega,show ((v.toNat:Nat):Int)=v by omega,e] at h1
  obtain ⟨j,hj,e2⟩:=List.mem_map.mp (hmx u.toNat).1
  have:=g u j u0 u1 (by omega) (by have:=List.mem_range.mp hj;omega)
  rw [show ((u.toNat:Nat):Int)=u by omega] at e2
  omega
 obtain ⟨a,ha,hfa⟩:=amb hxm
 have hal:a < n.toNat:=by have:=(List.getElem?_eq_some_iff.mp ha).1;simpa using this
 have hax:mx a=x:=by
  rw [List.getElem?_map,List.getElem?_range hal] at ha
  simpa using ha
 have hbm:x∈(List.range n.toNat).map fun (i:Nat)=>dsF es (a:Int) (i:Int):=by rw [← hax];exact (hmx a).1
 obtain ⟨b,hb,hfb⟩:=amb hbm
 have hbl:b < n.toNat:=by have:=(List.getElem?_eq_some_iff.mp hb).1;simpa using this
 have hbx:dsF es (a:Int) (b:Int)=x:=by
  rw [List.getElem?_map,List.getElem?_range hbl] at hb
  simpa using hb
 have hrow:atI (matD n.toNat (dsF es)) (a:Int)=some (.list (rowD n.toNat (dsF es (a:Int)))):=ay0 (by omega) (by omega)
 row_cond go
 unfold matD
 refine adk (fun u:Nat => .int (mx u)) rfl (by simp;omega) (fun u hu B' hB=>?_) ?_
 ·row_cond go
  rw [aei]
  exact acm (by simp;omega) fun x hx=>⟨by rw [adl hx (hmx u)],rfl⟩
 ·refine ⟨(List.range n.toNat).map mx,by rw [List.map_map];rfl,?_⟩
  row_cond go
  refine ⟨x,a,rfl,ha,hfa,?_⟩
  row_cond go
  refine ⟨(List.range n.toNat).map fun (i:Nat)=>dsF es (a:Int) (i:Int),by rw [aei],?_⟩
  row_cond go
  refine ⟨x,b,rfl,hb,hfb,?_⟩
  row_cond go
  refine k x a b ⟨hx,by omega,by omega,by omega,by omega,hbx,fun u v u0 u1 v0 v1 e=>?_⟩
  have hu:(a:Int)<=u:=by
   apply Classical.byContradiction
   intro hlt
   refine hfa u.toNat (by omega) ?_
   rw [List.getElem?_map,List.getElem?_range (by omega)]
   have h1:=(hmx u.toNat).2 (dsF es ((u.toNat:Nat):Int) ((v.toNat:Nat):Int)) (List.mem_map.mpr ⟨v.toNat,List.mem_range.mpr (by omega),rfl⟩)
   rw [show ((u.toNat:Nat):Int)=u by omega,show ((v.toNat:Nat):Int)=v by omega,e] at h1
   obtain ⟨j,hj,e2⟩:=List.mem_map.mp (hmx u.toNat).1
   have:=hx.2 u j u0 (by omega) (by omega) (by have:=List.mem_range.mp hj;omega)
   rw [show ((u.toNat:Nat):Int)=u by omega] at e2
   simp only [Option.map_some,Option.some.injEq]
   omega
  by_cases hau:(a:Int) < u
  ·exact .inl hau
  ·refine .inr ⟨by omega,?_⟩
   apply Classical.byContradiction
   intro hlt
   refine hfb v.toNat (by omega) ?_
   rw [List.getElem?_map,List.getElem?_range (by omega)]
   simp only [Option.map_some,Option.some.injEq]
   rw [show ((v.toNat:Nat):Int)=v by omega,show (a:Int)=u by omega]
   exact e
end
def awt:VP:=fun ss Q=>∃ (n a b:Int) (es:List (Int × Int)) (d:Nat),ss=[.st (webD n es),.st (.int a),.st (.int b)]/\n<=100/\InN n es/\es.length<=10000/\0<=a/\a < n/\0<=b/\b < n/\Gr.Dist (Tied es) b a d/\∀ ws,WayTo (Tied es) a b d ws->Q (.own (OL (ws.map .int)))
theorem awu {α:Type} (xs:List α) (x : α):atI (xs ++ [x]) (-1)=some x:=by
 unfold atI ixN
 rw [if_neg (by omega),if_pos (by simp;omega)]
 show (xs ++ [x])[(-1+((xs ++ [x]).length:Int)).toNat]?=some x
 rw [show (-1+((xs ++ [x]).length:Int)).toNat=xs.length by simp;omega,List.getElem?_append_right (Nat.le_refl _),Nat.sub_self]
 rfl
structure WayAt (T:Int->Int->Prop) (a b:Int) (d:Nat) (pre:List Int) (here:Int):Prop where
 len:pre.length<=d
 fst:(pre ++ [here])[0]?=some a
 far:∀ (i:Nat) x,(pre ++ [here])[i]?=some x->Gr.Dist T b x (d - i)
 tie:∀ (i:Nat) x y,(pre ++ [here])[i]?=some x->(pre ++ [here])[i+1]?=some y->T x y
theorem WayAt.start {T:Int->Int->Prop} {a b:Int} {d:Nat} (h:Gr.Dist T b a d):WayAt T a b d [] a:=by
 refine ⟨Nat.zero_le _,rfl,fun i x e=>?_,fun i x y _ e=>by simp at e⟩
 have hi:=(List.getElem?_eq_some_iff.mp e).1
 have:i=0:=by simp at hi;exact hi
 subst this
 simp at e
 subst e
 exact h
theorem WayAt.here {T:Int->Int->Prop} {a b:Int} {d:Nat} {pre:List Int} {here:Int} (h:WayAt T a b d pre here):Gr.Dist T b here (d - pre.length):=h.far pre.length here (by rw [List.getElem?_append_right (Nat.le_refl _),Nat.sub_self];rfl)
theorem WayAt.more {T:Int->Int->Prop} {a b:Int} {d:Nat} {pre:List Int} {here p:Int} (h:WayAt T a b d pre here) (hlt:pre.length < d) (t:T here p) (hp:Gr.Dist T b p (d - (pre.length+1))):WayAt T a b d (pre ++ [here]) p:=by
 have hlen:(pre ++ [here]).length=pre.length+1:=by simp
 have get:∀ (i:Nat) x,((pre ++ [here]) ++ [p])[i]?=some x->(pre ++ [here])[i]?=some x\/(i=pre.length+1/\x=p):=fun i x e=>by
  by_cases hi:i < (pre ++ [here]).length
  ·rw [List.getElem?_append_left hi] at e;exact .inl e
  ·have h2:=(List.getElem?_eq_some_iff.mp e).1
   rw [List.length_append,List.length_singleton] at h2
   have:i=(pre ++ [here]).length:=by omega
   subst this
   rw [List.getElem?_append_right (Nat.le_refl _),Nat.sub_self] at e
   exact .inr ⟨hlen,by simpa using e.symm⟩
 refine ⟨by omega,by rw [List.getElem?_append_left (by omega)];exact h.fst,fun i x e=>?_,fun i x y e1 e2=>?_⟩
 ·rcases get i x e with e | ⟨rfl,rfl⟩
  ·exact h.far i x e
  ·exact hp
 ·rcases get (i+1) y e2 with e2 | ⟨hi,rfl⟩
  ·rcases get i x e1 with e1 | ⟨hi,_⟩
   ·exact h.tie i x y e1 e2
   ·have:=(List.getElem?_eq_some_iff.mp e2).1;omega
  ·rcases get i x e1 with e1 | ⟨hi2,_⟩
   ·have:i=pre.length:=by omega
    subst this
    rw [List.getElem?_append_right (Nat.le_refl _),Nat.sub_self] at e1
    have:x=here:=by simpa using e1.symm
    rw [this];exact t
   ·omega
theorem WayAt.fin {T:Int->Int->Prop} {a b:Int} {d:Nat} {pre:List Int} (h:WayAt T a b d pre b):WayTo T a b d (pre ++ [b]):=by
 have:=h.here.uniq (Gr.Dist.self T b)
 have:=h.len
 exact ⟨by simp;omega,h.fst,h.far,h.tie⟩
theorem WayAt.not {T:Int->Int->Prop} {a b:Int} {d:Nat} {pre:List Int} {here:Int} (h:WayAt T a b d pre here) (hb:here ≠ b):pre.length < d:=by
 have:=h.len
 apply Classical.byContradiction
 intro hn
 have hh:=h.here
 rw [show d - pre.length=0 by omega] at hh
 cases hh.1
 exact hb rfl
section
variable {P:Program} {w:World} {K:Frag} {mg:Str->Option Value} {base:Heap}
theorem sc_short_way:FnScope ["web","a","b","tied","far","way","here"] ["web","a","b"] (aah s_short_way):=by row_cond sc
theorem aft (T:Txt K mg):Can P w K mg base "short_way" 5 ["web","a","b"] (spP K (awt)):=by
 obtain ⟨f,fd,D⟩:=T.d_short_way
 refine D.can (D.fn.ok sc_short_way (fun vs H Q E h=>lenP h fun ss Q' q=>by obtain ⟨n,a,b,es,d,rfl,n1,hin,hle,a0,a1,b0,b1,hd,k⟩:=q;rfl) (fun cdv A outer s H vs Q E hr h=>?_))
 have nd:=sc_short_way.nd
 refine ⟨_,(aac (aba (aad (ab4 T) hr (aaa (pv 0) (aaa (pv 1) aab))))
  (aac (aba (aad (ab4 T) hr (aaa (pv 0) (aaa (pv 2) aab))))
  (aac (aar (i:=3) nd rfl (Or.inl rfl) (aad (adg T) hr (aaa (pv 0) aab)))
  (aac (aar (i:=4) nd rfl (Or.inr rfl) (aad (aeh T) hr (aaa (pv 3) (aaa (pv 2) aab))))
  (aac (abf (aaw aib (aas aat (pv 4) (pv 1) (fun _ _=>rfl)) aea (aau _))
   (aaf (aan aea))
   aa3)
  (aac (aar (i:=5) nd rfl (Or.inl rfl) (abn (aaa (pv 1) aab)))
  (aac (akh PassesOwn.never (aaw ad3 (aas aat (pv 5) (aoq akj aae) (fun _ _=>rfl)) (pv 2) (aau _))
   (aac (aar (i:=6) nd rfl (Or.inr rfl) (aas aat (pv 5) (aoq akj aae) (fun _ _=>rfl)))
    (aaf (aba (adm PySem.F.plainAttrs_list PySem.F.slot_list_append PySem.F.type_list_append ab6 (pv 5) (aaa (aak (ai2 rfl) (by rfl) T.b_min aee (aaa (aco rfl (N:=["place","far","here"]) (src:=[none,some 4,some 6]) (by exact aa4 rfl rfl rfl rfl rfl rfl) (abk (aas aat (pv 3) (pv 6) (fun _ _=>rfl))) (fun _ _ _ _=>(aai (i:=0) (show List.Nodup (["place","far","here"]:List Str) by decide +kernel) rfl (Or.inl rfl) (hf:=Or.inr rfl))) (fun _ _ _ _=>acz (aaw agc (aas (show IxR _ (abw K) from aat) (pv 1) (pv 0) (fun _ _=>rfl)) (aaq adq (aas (show IxR _ (abw K) from aat) (pv 1) (pv 2) (fun _ _=>rfl)) aae) (aau _))) (fun _ _ _ _=>(pv 0))) aab)) aab))))))
  (aaf (aan (pv 5)))))))))),?_⟩
 refine aa1 h fun ss Q' q B hK=>?_
 refine exS5 ss q fun n a b es d q1_=>?_
 have n1:=q1_.1
 have hin:=q1_.2.1
 have hle:=q1_.2.2.1
 have a0:=q1_.2.2.2.1
 have a1:=q1_.2.2.2.2.1
 have b0:=q1_.2.2.2.2.2.1
 have b1:=q1_.2.2.2.2.2.2.1
 have hd:=q1_.2.2.2.2.2.2.2.1
 have k:=q1_.2.2.2.2.2.2.2.2
 clear q1_ q
 show EvS B _ _ [some (.st (webD n es)),some (.st (.int a)),some (.st (.int b)),none,none,none,none]
 have hs:∀ u v,Tied es u v->Tied es v u:=fun _ _ t=>t.symm
 have hdn:d < 101:=by
  have:=hd.lt (n:=100) (fun u v h=>by have:=(h.in hin).2;omega) (by omega)
  omega
 row_cond go
 refine ⟨n,a,es,rfl,a0,a1,?_⟩
 row_cond go
 refine ⟨n,b,es,rfl,b0,b1,?_⟩
 row_cond go
 refine ⟨n,es,rfl,by omega,n1,hin,hle,fun tl ht hu=>abc agm ?_⟩
 row_cond go
 refine ⟨n,b,Tied es,tl,rfl,n1,ht,fun u v h=>(h.in hin).2,b0,b1,abc abg ?_⟩
 have ha:atI (lab n.toNat (Gr.farO (Tied es) b)) a=some (.int (d:Int)):=by rw [ae6 a0 (by omega),Gr.farO_some.mpr hd];rfl
 row_cond go
 refine ack ?_
 row_cond go
 refine ai4 (fun mm e=>∃ v6 pre here,e=[some (.st (webD n es)),some (.st (.int a)),some (.st (.int b)),some (.st (tlV tl)),some (.st (.list (lab n.toNat (Gr.farO (Tied es) b)))),some (.own (OL (List.map PyData.int (pre ++ [here])))),v6]/\WayAt (Tied es) a b d pre here/\0<=here/\here < n/\mm=d - pre.length) ⟨_,_,[],a,rfl,WayAt.start hd,a0,a1,rfl⟩ ?_
 rintro mm e q0_
 refine exS3 e q0_ fun v6 pre here q1_=>?_
 have hW:=q1_.1
 have h0:=q1_.2.1
 have h1:=q1_.2.2.1
 have e3_:=q1_.2.2.2
 clear q1_ q0_
 subst e3_
 rw [List.map_append]
 have hal:=awu (pre.map PyData.int) (PyData.int here)
 have hlen:=hW.len
 row_cond go
 by_cases hb:here=b
 ·subst hb
  rw [decide_eq_true rfl]
  refine ack ?_
  row_cond go
  have:=k _ hW.fin
  rw [List.map_append] at this
  exact this
 ·have hlt:=hW.not hb
  have hh:=hW.here
  obtain ⟨us,hus,hw⟩:=ht.get h0 h1
  have hat:atI ((tlD tl).map PyData.list) here=some (.list (us.map .int)):=ae7 (f:=PyData.list) (ade h0 (agn hus))
  have hfh:atI (lab n.toNat (Gr.farO (Tied es) b)) here=some (.int ((d - pre.length:Nat):Int)):=by rw [ae6 h0 (by omega),Gr.farO_some.mpr hh];rfl
  have husl:us.length<=999999:=by have:=hu us (List.mem_of_getElem? hus);omega
  rw [decide_eq_false hb]
  refine acb ?_
  row_cond go
  refine adw (xs:=us) (f:=PyData.int) PyData.int (fun v=>decide (Gr.farO (Tied es) b v=some (d - (pre.length+1)))) rfl husl (fun v hv B' hB=>?_) ?_
  ·have hv':=(hw v).mp hv
   have hvr:=(hv'.in hin).2
   obtain ⟨e,_,he⟩:=hh.next hv'
   have hfv:atI (lab n.toNat (Gr.farO (Tied es) b)) v=some (.int (e:Int)):=by rw [ae6 hvr.1 (by omega),Gr.farO_some.mpr he];rfl
   row_cond go
   refine ⟨?_,rfl,fun _=>?_⟩
   ·rw [Gr.farO_some.mpr he,Bool.eq_iff_iff,decide_eq_true_iff,decide_eq_true_iff,Option.some.injEq]
    omega
   ·row_cond go
    exact rfl
  ·row_cond go
   refine alm ?_ fun p hp=>?_
   ·intro e0
    obtain ⟨u,t,hu2⟩:=(show Gr.Dist (Tied es) b here (d - (pre.length+1)+1) by rw [show d - (pre.length+1)+1=d - pre.length by omega];exact hh).pred
    have:u∈us.filter fun v=>decide (Gr.farO (Tied es) b v=some (d - (pre.length+1))):=List.mem_filter.mpr ⟨(hw u).mpr (hs _ _ t),decide_eq_true (Gr.farO_some.mpr hu2)⟩
    rw [e0] at this
    cases this
   ·obtain ⟨hp1,hp2⟩:=List.mem_filter.mp hp.1
    have tp:=(hw p).mp hp1
    have dp:=Gr.farO_some.mp (of_decide_eq_true hp2)
    have hpr:=(tp.in hin).2
    row_cond go
    exact ⟨d - (pre.length+1),by omega,_,pre ++ [here],p,by rw [List.map_append,List.map_append];rfl,hW.more hlt tp dp,hpr.1,hpr.2,by simp⟩
end
noncomputable def ach (n:Nat) (r:Int->Int):List Int:=(List.range n).map fun (i:Nat)=>r (i:Int)
theorem ag8 {n:Nat} {r:Int->Int}:rowD n r=(ach n r).map .int:=aei
theorem amc (n:Nat) (r:Int->Int):(ach n r).length=n:=by simp [ach]
theorem ago {n:Nat} (hn:1<=n) (r:Int->Int):ach n r ≠ []:=fun e=>by have:=amc n r;rw [e] at this;simp at this;omega
noncomputable def mxF (n:Nat) (r:Int->Int):Int:=open Classical in if h:∃ x,adb (ach n r) x then Classical.choose h else 0
theorem afa {n:Nat} (hn:1<=n) (r:Int->Int):adb (ach n r) (mxF n r):=by
 unfold mxF
 have h:=ae9 (ago hn r)
 rw [dif_pos h]
 exact Classical.choose_spec h
theorem amd:∀ {l:List Int} {x:Int},x∈l->∃ j:Nat,l[j]?=some x/\∀ m,m < j->l[m]? ≠ some x
 | a :: l,x,h=>by
  by_cases e:a=x
  ·subst e;exact ⟨0,rfl,fun m hm=>by omega⟩
  ·obtain ⟨j,h1,h2⟩:=amd (l:=l) (x:=x) (by rcases List.mem_cons.mp h with q | q;exact absurd q.symm e;exact q)
   refine ⟨j+1,by simpa using h1,fun m hm=>?_⟩
   cases m with
   | zero=>simpa using e
   | succ m=>simpa using h2 m (by omega)
noncomputable def ixF (n:Nat) (r:Int->Int):Nat:=open Classical in if h:∃ j:Nat,(ach n r)[j]?=some (mxF n r)/\∀ m,m < j->(ach n r)[m]? ≠ some (mxF n r) then Classical.choose h else 0
theorem ame {n:Nat} (hn:1<=n) (r:Int->Int):(ach n r)[ixF n r]?=some (mxF n r)/\∀ m,m < ixF n r->(ach n r)[m]? ≠ some (mxF n r):=by
 unfold ixF
 have h:=amd (afa hn r).1
 rw [dif_pos h]
 exact Classical.choose_spec h
theorem ay9 {n:Nat} (hn:1<=n) (r:Int->Int):ixF n r < n:=by
 have:=(List.getElem?_eq_some_iff.mp (ame hn r).1).1
 rwa [amc] at this
theorem aza (n:Nat) (m:Int->Int->Int):enD (matD n m)=(List.range n).map fun (i:Nat) => .tuple [.int (i:Int),.list (rowD n (m (i:Int)))]:=by
 unfold enD
 rw [awj]
 refine List.map_congr_left fun i hi=>?_
 have hi:=List.mem_range.mp hi
 have:(matD n m).getD i .none=.list (rowD n (m (i:Int))):=by
  unfold matD
  rw [List.getD_eq_getElem?_getD,List.getElem?_map,List.getElem?_range hi]
  rfl
 rw [this]
noncomputable def abx (n:Nat) (es:List (Int × Int)) (x:Int):List Int:=((List.range n).filter fun (u:Nat)=>decide (mxF n (dsF es (u:Int))=x)).map fun (u:Nat)=>(u:Int)
theorem ends_len (n:Nat) (es:List (Int × Int)) (x:Int):(abx n es x).length<=n:=by
 unfold abx
 rw [List.length_map]
 exact Nat.le_trans (List.length_filter_le _ _) (by simp)
def ats:VP:=fun ss Q=>∃ (n:Int) (es:List (Int × Int)),ss=[.st (webD n es)]/\1<=n/\n<=100/\InN n es/\es.length<=10000/\((es.length:Int)=n - 1/\Joined n es)/\∀ x a b d ws,FarOk n es x a b->Gr.Dist (Tied es) b a d->WayTo (Tied es) a b d ws->Q (.own (OL (ws.map .int)))
def azb:VP:=fun ss Q=>∃ (n:Int) (es:List (Int × Int)),ss=[.st (webD n es)]/\1<=n/\n<=100/\InN n es/\es.length<=10000/\((es.length:Int)=n - 1/\Joined n es)/\∀ x,ahy n.toNat (dsF es) x->Q (.own (OL ((abx n.toNat es x).map .int)))
theorem aev {n:Int} {es:List (Int × Int)} (hJ:Joined n es) {u v:Int} (u0:0<=u) (u1:u < n) (v0:0<=v) (v1:v < n):∃ d:Nat,Gr.Dist (Tied es) u v d/\dsF es u v=(d:Int):=by
 obtain ⟨d,e⟩:=ad7 hJ u0 u1 v0 v1
 exact ⟨d,Gr.farO_some.mp e,by simp only [dsF,e,Option.getD_some]⟩
section
variable {P:Program} {w:World} {K:Frag} {mg:Str->Option Value} {base:Heap}
theorem sc_far_way:FnScope ["web","far","a","b"] ["web"] (aah s_far_way):=by row_cond sc
theorem am0 (T:Txt K mg):Can P w K mg base "far_way" 10 ["web"] (spP K (ats)):=by
 obtain ⟨f,fd,D⟩:=T.d_far_way
 refine D.can (D.fn.ok sc_far_way (fun vs H Q E h=>lenP h fun ss Q' q=>by obtain ⟨n,es,rfl,n0,n1,hin,hle,hJ,k⟩:=q;rfl) (fun cdv A outer s H vs Q E hr h=>?_))
 have nd:=sc_far_way.nd
 refine ⟨_,(aac (aba (aad (ad0 T) hr (aaa (pv 0) aab)))
  (aac (ab1 (aad (ab9 T) hr (aaa (pv 0) aab)) (abm rfl (aao (aai (i:=1) nd rfl (Or.inl rfl)) (aao (aai (i:=2) nd rfl (Or.inl rfl)) (aao (aai (i:=3) nd rfl (Or.inl rfl)) abb)))))
  (aaf (aan (aad (aft T) hr (aaa (pv 0) (aaa (pv 2) (aaa (pv 3) aab)))))))),?_⟩
 refine aa1 h fun ss Q' q B hK=>?_
 refine exS2 ss q fun n es q1_=>?_
 have n0:=q1_.1
 have n1:=q1_.2.1
 have hin:=q1_.2.2.1
 have hle:=q1_.2.2.2.1
 have hJ:=q1_.2.2.2.2.1
 have k:=q1_.2.2.2.2.2
 clear q1_ q
 show EvS B _ _ [some (.st (webD n es)),none,none,none]
 row_cond go
 refine ⟨n,es,rfl,n0,n1,hin,hle,hJ,?_⟩
 row_cond go
 refine ⟨n,es,rfl,n0,n1,hin,hle,hJ.2,fun x a b hF=>?_⟩
 obtain ⟨d,hd,_⟩:=aev hJ.2 hF.b0 hF.b1 hF.a0 hF.a1
 row_cond go
 refine ⟨n,a,b,es,d,rfl,n1,hin,hle,hF.a0,hF.a1,hF.b0,hF.b1,hd,fun ws hw=>?_⟩
 exact k x a b d ws hF hd hw
theorem sc_far_ends:FnScope ["web","rows","far"] ["web"] (aah s_far_ends):=by row_cond sc
theorem amf (T:Txt K mg):Can P w K mg base "far_ends" 9 ["web"] (spP K (azb)):=by
 obtain ⟨f,fd,D⟩:=T.d_far_ends
 refine D.can (D.fn.ok sc_far_ends (fun vs H Q E h=>lenP h fun ss Q' q=>by obtain ⟨n,es,rfl,n0,n1,hin,hle,hJ,k⟩:=q;rfl) (fun cdv A outer s H vs Q E hr h=>?_))
 have nd:=sc_far_ends.nd
 refine ⟨_,(aac (aba (aad (ad0 T) hr (aaa (pv 0) aab)))
  (aac (aar (i:=1) nd rfl (Or.inl rfl) (aad (adh T) hr (aaa (pv 0) aab)))
  (aac (aar (i:=2) nd rfl (Or.inr rfl) (aad (af7 T) hr (aaa (pv 1) aab)))
  (aaf (aan (aco rfl (N:=["place","row","far"]) (src:=[none,none,some 2]) (by exact aa4 rfl rfl rfl rfl rfl rfl) (anz rfl T.b_enumerate (aaa (pv 1) aab)) (fun _ _ _ _=>(show PG _ _ (gTup K 2 (aby (aay 0) (aby (aay 1) gNil))) from (abm rfl (aao (aai (i:=0) (show List.Nodup (["place","row","far"]:List Str) by decide +kernel) rfl (Or.inl rfl) (hf:=Or.inr rfl)) (aao (aai (i:=1) (show List.Nodup (["place","row","far"]:List Str) by decide +kernel) rfl (Or.inl rfl) (hf:=Or.inr rfl)) abb))))) (fun _ _ _ _=>acz (aaw agc (aak (show aa7 _ (.builtin "max") (aep K) from (ab7 rfl)) (by rfl) T.b_max acj (aaa (pv 1) aab)) (pv 2) (aau _))) (fun _ _ _ _=>(pv 0)))))))),?_⟩
 refine aa1 h fun ss Q' q B hK=>?_
 refine exS2 ss q fun n es q1_=>?_
 have n0:=q1_.1
 have n1:=q1_.2.1
 have hin:=q1_.2.2.1
 have hle:=q1_.2.2.2.1
 have hJ:=q1_.2.2.2.2.1
 have k:=q1_.2.2.2.2.2
 clear q1_ q
 show EvS B _ _ [some (.st (webD n es)),none,none]
 have hn:1<=n.toNat:=by omega
 row_cond go
 refine ⟨n,es,rfl,n0,n1,hin,hle,hJ,?_⟩
 row_cond go
 refine ⟨n,es,rfl,n0,n1,hin,hle,hJ.2,abc abg ?_⟩
 row_cond go
 refine ⟨n.toNat,dsF es,rfl,hn,by omega,fun x hx=>?_⟩
 row_cond go
 rw [aza]
 refine alk (xs:=List.range n.toNat) (fa:=fun i:Nat => .int (i:Int)) (fb:=fun i:Nat => .list (rowD n.toNat (dsF es (i:Int)))) (fun i:Nat => .int (i:Int)) (fun (i:Nat)=>decide (mxF n.toNat (dsF es (i:Int))=x)) rfl (by simp;omega) (fun i hi B' hB=>?_) ?_
 ·row_cond go
  rw [ag8]
  refine acm (ago hn _) fun y hy=>?_
  obtain rfl:=adl hy (afa hn _)
  row_cond go
  intro _
  row_cond go
  exact rfl
 ·rw [show ((List.range n.toNat).filter fun (i:Nat)=>decide (mxF n.toNat (dsF es (i:Int))=x)).map (fun i:Nat=>PyData.int (i:Int))=(abx n.toNat es x).map .int by unfold abx;rw [List.map_map];rfl]
  row_cond go
  exact k x hx
end
structure MidOk (n:Int) (es:List (Int × Int)) (x:Int) (ps:List Int):Prop where
 lo:∀ u:Int,0<=u->u < n->∃ v:Int,0<=v/\v < n/\x<=dsF es u v
 rise:ps.Pairwise (· < ·)
 ne:ps ≠ []
 mem:∀ u:Int,u∈ps ↔ (0<=u/\u < n/\∀ v:Int,0<=v->v < n->dsF es u v<=x)
def a0c:VP:=fun ss Q=>∃ (n:Int) (es:List (Int × Int)),ss=[.st (webD n es)]/\1<=n/\n<=100/\InN n es/\es.length<=10000/\Joined n es/\∀ x ps,MidOk n es x ps->Q (.own (OW (.int x) (ps.map .int)))
theorem ajj:∀ {ps qs:List Int},ps.Pairwise (· < ·)->qs.Pairwise (· < ·)->(∀ u,u∈ps ↔ u∈qs)->ps=qs
 | [],[],_,_,_=>rfl
 | [],q :: qs,_,_,h=>by have:=(h q).mpr List.mem_cons_self;cases this
 | p :: ps,[],_,_,h=>by have:=(h p).mp List.mem_cons_self;cases this
 | p :: ps,q :: qs,hp,hq,h=>by
  rw [List.pairwise_cons] at hp hq
  have e:p=q:=by
   rcases List.mem_cons.mp ((h p).mp List.mem_cons_self) with e | e
   ·exact e
   ·have h1:=hq.1 p e
    rcases List.mem_cons.mp ((h q).mpr List.mem_cons_self) with e2 | e2
    ·exact e2.symm
    ·have:=hp.1 q e2;omega
  subst e
  rw [ajj hp.2 hq.2 fun u=>?_]
  constructor
  ·intro hu
   have h1:=hp.1 u hu
   rcases List.mem_cons.mp ((h u).mp (List.mem_cons_of_mem _ hu)) with e | e
   ·omega
   ·exact e
  ·intro hu
   have h1:=hq.1 u hu
   rcases List.mem_cons.mp ((h u).mpr (List.mem_cons_of_mem _ hu)) with e | e
   ·omega
   ·exact e
theorem att (n:Nat) (mx:Nat->Int):enD (List.map PyData.int (List.map mx (List.range n)))=(List.range n).map fun (i:Nat) => .tuple [.int (i:Int),.int (mx i)]:=by
 refine List.ext_getElem? fun i=>?_
 by_cases hi:i < n
 ·have h1:i < (enD (List.map PyData.int (List.map mx (List.range n)))).length:=by rw [ad6];simpa using hi
  obtain ⟨x,hx,e⟩:=an1 (List.getElem?_eq_getElem h1)
  rw [List.getElem?_eq_getElem h1,e,List.getElem?_map,List.getElem?_range hi]
  rw [List.getElem?_map,List.getElem?_map,List.getElem?_range hi] at hx
  cases hx
  rfl
 ·rw [List.getElem?_eq_none (by rw [ad6];simp;omega),List.getElem?_eq_none (by simp;omega)]
theorem azc {n:Int} {es:List (Int × Int)} {mx:Nat->Int} {x:Int} (n0:1<=n) (hmx:∀ u:Nat,adb ((List.range n.toNat).map fun (i:Nat)=>dsF es (u:Int) (i:Int)) (mx u)) (hx:ao2 ((List.range n.toNat).map mx) x) :
  MidOk n es x (((List.range n.toNat).filter fun i=>decide (mx i=x)).map fun (i:Nat)=>(i:Int)):=by
 refine ⟨fun u u0 u1=>?_,?_,fun e=>?_,fun u=>?_⟩
 ·have h1:=hx.2 (mx u.toNat) (List.mem_map.mpr ⟨u.toNat,List.mem_range.mpr (by omega),rfl⟩)
  obtain ⟨j,hj,e⟩:=List.mem_map.mp (hmx u.toNat).1
  rw [show ((u.toNat:Nat):Int)=u by omega] at e
  exact ⟨j,by omega,by have:=List.mem_range.mp hj;omega,by omega⟩
 ·rw [List.pairwise_map]
  exact (List.pairwise_lt_range.filter _).imp fun {a b} h=>by omega
 ·obtain ⟨j,hj,e2⟩:=List.mem_map.mp hx.1
  have:(j:Int)∈((List.range n.toNat).filter fun i=>decide (mx i=x)).map fun (i:Nat)=>(i:Int):=List.mem_map.mpr ⟨j,List.mem_filter.mpr ⟨hj,by simpa using e2⟩,rfl⟩
  rw [e] at this
  cases this
 ·rw [List.mem_map]
  constructor
  ·rintro ⟨i,hi,rfl⟩
   obtain ⟨h1,h2⟩:=List.mem_filter.mp hi
   have h1:=List.mem_range.mp h1
   have h2:mx i=x:=by simpa using h2
   refine ⟨by omega,by omega,fun v v0 v1=>?_⟩
   have:=(hmx i).2 (dsF es (i:Int) ((v.toNat:Nat):Int)) (List.mem_map.mpr ⟨v.toNat,List.mem_range.mpr (by omega),rfl⟩)
   rw [show ((v.toNat:Nat):Int)=v by omega,h2] at this
   exact this
  ·rintro ⟨u0,u1,h⟩
   refine ⟨u.toNat,List.mem_filter.mpr ⟨List.mem_range.mpr (by omega),?_⟩,by omega⟩
   have h1:=hx.2 (mx u.toNat) (List.mem_map.mpr ⟨u.toNat,List.mem_range.mpr (by omega),rfl⟩)
   obtain ⟨j,hj,e⟩:=List.mem_map.mp (hmx u.toNat).1
   rw [show ((u.toNat:Nat):Int)=u by omega] at e
   have:=h j (by omega) (by have:=List.mem_range.mp hj;omega)
   simp
   omega
theorem MidOk.uniq {n x y:Int} {es:List (Int × Int)} {ps qs:List Int} (h:MidOk n es x ps) (g:MidOk n es y qs):x=y/\ps=qs:=by
 have key:∀ {x y:Int} {ps qs:List Int},MidOk n es x ps->MidOk n es y qs->x<=y:=fun {x y ps qs} h g=>by
  obtain ⟨u,t,e⟩:=List.exists_cons_of_ne_nil g.ne
  have hu:=(g.mem u).mp (by rw [e];exact List.mem_cons_self)
  obtain ⟨v,v0,v1,hv⟩:=h.lo u hu.1 hu.2.1
  have:=hu.2.2 v v0 v1
  omega
 have e:x=y:=Int.le_antisymm (key h g) (key g h)
 subst e
 refine ⟨rfl,?_⟩
 have hm:∀ u,u∈ps ↔ u∈qs:=fun u=>by rw [h.mem,g.mem]
 exact ajj h.rise g.rise hm
section
variable {P:Program} {w:World} {K:Frag} {mg:Str->Option Value} {base:Heap}
theorem sc_middles:FnScope ["web","wides","wide"] ["web"] (aah s_middles):=by row_cond sc
theorem am1 (T:Txt K mg):Can P w K mg base "middles" 9 ["web"] (spP K (a0c)):=by
 obtain ⟨f,fd,D⟩:=T.d_middles
 refine D.can (D.fn.ok sc_middles (fun vs H Q E h=>lenP h fun ss Q' q=>by obtain ⟨n,es,rfl,n0,n1,hin,hle,hJ,k⟩:=q;rfl) (fun cdv A outer s H vs Q E hr h=>?_))
 have nd:=sc_middles.nd
 refine ⟨_,(aac (afd (i:=1) nd rfl (Or.inl rfl) rfl (N:=["row"]) (src:=[none]) (by exact aa4 rfl rfl rfl rfl rfl rfl) (abk (aad (adh T) hr (aaa (pv 0) aab))) (fun _ _ _ _=>(aai (i:=0) (show List.Nodup (["row"]:List Str) by decide +kernel) rfl (Or.inl rfl) (hf:=Or.inr rfl))) (fun _ _ _ _=>ab3) (fun _ _ _ _=>(aak (show aa7 _ (.builtin "max") (aep K) from (ab7 rfl)) (by rfl) T.b_max acj (aaa (pv 0) aab))))
  (aac (aar (i:=2) nd rfl (Or.inr rfl) (aak (ai2 rfl) (by rfl) T.b_min aee (aaa (pv 1) aab)))
  (aaf (aan (ac9 (aaa (pv 2) (aaa (aco rfl (N:=["place","sees","wide"]) (src:=[none,none,some 2]) (by exact aa4 rfl rfl rfl rfl rfl rfl) (anz rfl T.b_enumerate (aaa (pv 1) aab)) (fun _ _ _ _=>(show PG _ _ (gTup K 2 (aby (aay 0) (aby (aay 1) gNil))) from (abm rfl (aao (aai (i:=0) (show List.Nodup (["place","sees","wide"]:List Str) by decide +kernel) rfl (Or.inl rfl) (hf:=Or.inr rfl)) (aao (aai (i:=1) (show List.Nodup (["place","sees","wide"]:List Str) by decide +kernel) rfl (Or.inl rfl) (hf:=Or.inr rfl)) abb))))) (fun _ _ _ _=>acz (aaw agc (pv 1) (pv 2) (aau _))) (fun _ _ _ _=>(pv 0))) aab))))))),?_⟩
 refine aa1 h fun ss Q' q B hK=>?_
 refine exS2 ss q fun n es q1_=>?_
 have n0:=q1_.1
 have n1:=q1_.2.1
 have hin:=q1_.2.2.1
 have hle:=q1_.2.2.2.1
 have hJ:=q1_.2.2.2.2.1
 have k:=q1_.2.2.2.2.2
 clear q1_ q
 show EvS B _ _ [some (.st (webD n es)),none,none]
 have hn:1<=n.toNat:=by omega
 obtain ⟨mx,hmx⟩:=air hn (dsF es)
 row_cond go
 refine ⟨n,es,rfl,n0,n1,hin,hle,hJ,ad5 ?_⟩
 row_cond go
 unfold matD
 refine adk (fun u:Nat => .int (mx u)) rfl (by simp;omega) (fun u hu B' hB=>?_) ?_
 ·row_cond go
  rw [aei]
  exact acm (by simp;omega) fun x hx=>⟨by rw [adl hx (hmx u)],rfl⟩
 ·rw [show (List.range n.toNat).map (fun u:Nat=>PyData.int (mx u))=((List.range n.toNat).map mx).map .int by rw [List.map_map];rfl]
  refine abc abg ?_
  row_cond go
  refine alm (by simp;omega) fun x hx=>?_
  repeat (first | (refine atd ?_) | row_cond st)
  rw [att]
  refine alk (xs:=List.range n.toNat) (fa:=fun i:Nat => .int (i:Int)) (fb:=fun i:Nat => .int (mx i)) (fun i:Nat => .int (i:Int)) (fun i=>decide (mx i=x)) rfl (by simp;omega) (fun i hi B' hB=>?_) ?_
  ·row_cond go
   intro _
   row_cond go
   exact rfl
  ·refine ⟨_,rfl,?_⟩
   rw [show ((List.range n.toNat).filter fun i=>decide (mx i=x)).map (fun i:Nat=>PyData.int (i:Int))=(((List.range n.toNat).filter fun i=>decide (mx i=x)).map fun (i:Nat)=>(i:Int)).map .int by rw [List.map_map];rfl]
   exact k x _ (azc n0 hmx hx)
end
noncomputable def ab5 (n:Int):PyData->Bool
 | .tuple [.int a,.int b]=>decide (0<=a/\a<=n - 1) && decide (0<=b/\b<=n - 1) && decide (a < b)
 | _=>false
noncomputable def afq (n:Int):PyData->Bool
 | .list ds=>ds.all (ab5 n)
 | _=>false
def a0d:VP:=fun ss Q=>∃ (n:Int) (d:PyData),ss=[.st (.int n),.st d]/\Q (.st (.bool (ab5 n d)))
def azd:VP:=fun ss Q=>∃ (n:Int) (d:PyData),ss=[.st (.int n),.st d]/\(∀ ds,d=.list ds->ds.length<=100000)/\Q (.st (.bool (afq n d)))
def atu:VP:=fun ss Q=>∃ (ps:List (Int × Int)),ss=[.st (.list (ps.map prD))]/\ps.length<=100000/\∀ b:Bool,(b=true ↔ Rise ps)->Q (.st (.bool b))
structure PutOk (n:Int) (es fs:List (Int × Int)):Prop where
 inn:∀ p∈fs,0<=p.1/\p.1 < p.2/\p.2 < n
 nd:(es ++ fs).Nodup
def aze:VP:=fun ss Q=>∃ (n:Int) (es fs:List (Int × Int)),ss=[.st (webD n es),.st (.list (fs.map prD))]/\es.length<=10000/\fs.length<=10000/\PutOk n es fs/\(es ++ fs).length < 64/\∀ qs,Rise qs->qs.Perm (es ++ fs)->Q (.own (OW (.int n) (qs.map prD)))
section
variable {P:Program} {w:World} {K:Frag} {mg:Str->Option Value} {base:Heap}
theorem sc_is_tie:FnScope ["n","thing","a","b"] ["n","thing"] (aah s_is_tie):=by row_cond sc
theorem apr (T:Txt K mg):Can P w K mg base "is_tie" 4 ["n","thing"] (spP K (a0d)):=by
 obtain ⟨f,fd,D⟩:=T.d_is_tie
 refine D.can (D.fn.ok sc_is_tie (fun vs H Q E h=>lenP h fun ss Q' q=>by obtain ⟨n,d,rfl,k⟩:=q;rfl) (fun cdv A outer s H vs Q E hr h=>?_))
 have nd:=sc_is_tie.nd
 refine ⟨_,(aac (abf (PW.pt (ad2 (act (aci (aak afg (by rfl) T.b_isinstance acv (aaa (pv 1) (aaa (aga (v:=.ty "tuple") rfl T.b_tuple arv rfl) aab))))) (aew (aaw ad3 (aak aa8 (by rfl) T.b_len aca (aaa (pv 1) aab)) aae (aau _)))))
   (aaf (aan ad1))
   aa3)
  (aac (ab1 (pv 1) (abm rfl (aao (aai (i:=2) nd rfl (Or.inl rfl)) (aao (aai (i:=3) nd rfl (Or.inl rfl)) abb))))
  (aaf (aan (adp (aad (aeg T) hr (aaa (pv 0) (aaa (pv 2) aab))) (adp (aad (aeg T) hr (aaa (pv 0) (aaa (pv 3) aab))) (aex (abt aj8 (pv 2) (pv 3) (aau _))))))))),?_⟩
 refine aa1 h fun ss Q' q B hK=>?_
 refine exS2 ss q fun n d q1_=>?_
 have k:=q1_
 clear q1_ q
 show EvS B _ _ [some (.st (.int n)),some (.st d),none,none]
 row_cond go
 cases d with
 | tuple xs =>
  refine aic ?_
  row_cond go
  rcases (show xs.length=2\/xs.length ≠ 2 by omega) with h2 | h2
  ·match xs,h2 with
   | [x,y],_ =>
    row_cond go
    refine ⟨n,x,rfl,?_⟩
    row_cond go
    have key:ab5 n (.tuple [x,y])=(btwD 0 (n - 1) x && (btwD 0 (n - 1) y && match x,y with | .int a,.int b=>decide (a < b) | _,_=>false)):=by
     cases x <;> cases y <;> simp [ab5,btwD,Bool.and_assoc]
    cases hx:btwD 0 (n - 1) x with
    | false =>
     rw [hx,Bool.false_and] at key
     refine ack ?_
     rw [← key];exact k
    | true =>
     refine acb ?_
     row_cond go
     refine ⟨n,y,rfl,?_⟩
     row_cond go
     cases hy:btwD 0 (n - 1) y with
     | false =>
      rw [hx,hy] at key
      refine ack ?_
      rw [show false=ab5 n (.tuple [x,y]) by rw [key];rfl];exact k
     | true =>
      refine acb ?_
      cases x with
      | int a =>
       cases y with
       | int b =>
        row_cond go
        rw [hx,hy] at key
        rw [show decide (a < b)=ab5 n (.tuple [.int a,.int b]) by rw [key];rfl];exact k
       | _=>simp [btwD] at hy
      | _=>simp [btwD] at hx
  ·row_cond go
   have:ab5 n (.tuple xs)=false:=by
    match xs,h2 with
    | [],_=>rfl
    | [x],_=>cases x <;> rfl
    | [_,_],h=>exact absurd rfl h
    | x :: y :: _ :: _,_=>cases x <;> cases y <;> rfl
   rw [← this];exact k
 | _ =>
  refine aid ?_
  row_cond go
  exact k
theorem sc_are_ties:FnScope ["n","thing"] ["n","thing"] (aah s_are_ties):=by row_cond sc
theorem amg (T:Txt K mg):Can P w K mg base "are_ties" 5 ["n","thing"] (spP K (azd)):=by
 obtain ⟨f,fd,D⟩:=T.d_are_ties
 refine D.can (D.fn.ok sc_are_ties (fun vs H Q E h=>lenP h fun ss Q' q=>by obtain ⟨n,d,rfl,hl,k⟩:=q;rfl) (fun cdv A outer s H vs Q E hr h=>?_))
 have nd:=sc_are_ties.nd
 refine ⟨_,(aaf (aan (adp (aak afg (by rfl) T.b_isinstance acv (aaa (pv 1) (aaa (aga (v:=.ty "list") rfl T.b_list ang rfl) aab))) (aex (aak (ajb rfl) (by rfl) T.b_all aqa (aaa (aco rfl (N:=["tie","n"]) (src:=[none,some 0]) (by exact aa4 rfl rfl rfl rfl rfl rfl) (abk (pv 1)) (fun _ _ _ _=>(aai (i:=0) (show List.Nodup (["tie","n"]:List Str) by decide +kernel) rfl (Or.inl rfl) (hf:=Or.inr rfl))) (fun _ _ _ _=>ab3) (fun _ _ _ _=>(aad (apr T) hr (aaa (pv 1) (aaa (pv 0) aab))))) aab)))))),?_⟩
 refine aa1 h fun ss Q' q B hK=>?_
 refine exS2 ss q fun n d q1_=>?_
 have hl:=q1_.1
 have k:=q1_.2
 clear q1_ q
 show EvS B _ _ [some (.st (.int n)),some (.st d)]
 row_cond go
 cases d with
 | list ds =>
  have hl:=hl ds rfl
  refine acb ?_
  row_cond go
  refine ans (fun t => .bool (ab5 n t)) rfl (by omega) (fun t _ B' hB=>?_) ?_
  ·row_cond go
   exact ⟨n,t,rfl,rfl,rfl⟩
  ·row_cond go
   rw [show (ds.map fun t=>PyData.bool (ab5 n t))=(ds.map (ab5 n)).map .bool by rw [List.map_map];rfl]
   refine an2 ?_
   row_cond go
   rw [show (ds.map (ab5 n)).all id=afq n (.list ds) by simp [afq,List.all_map]]
   exact k
 | _ =>
  refine ack ?_
  exact k
theorem sc_is_rising:FnScope ["things"] ["things"] (aah s_is_rising):=by row_cond sc
theorem aj6 (T:Txt K mg):Can P w K mg base "is_rising" 1 ["things"] (spP K (atu)):=by
 obtain ⟨f,fd,D⟩:=T.d_is_rising
 refine D.can (D.fn.ok sc_is_rising (fun vs H Q E h=>lenP h fun ss Q' q=>by obtain ⟨ps,rfl,hl,k⟩:=q;rfl) (fun cdv A outer s H vs Q E hr h=>?_))
 have nd:=sc_is_rising.nd
 refine ⟨_,(aaf (aan (aak (ajb rfl) (by rfl) T.b_all aqa (aaa (aco rfl (N:=["at","things"]) (src:=[none,some 0]) (by exact aa4 rfl rfl rfl rfl rfl rfl) (acy rfl T.b_range (aaa (aaq adq (aak aa8 (by rfl) T.b_len aca (aaa (pv 0) aab)) aae) aab)) (fun _ _ _ _=>(aai (i:=0) (show List.Nodup (["at","things"]:List Str) by decide +kernel) rfl (Or.inl rfl) (hf:=Or.inr rfl))) (fun _ _ _ _=>ab3) (fun _ _ _ _=>(abt (show OpR _ (compareOp .Lt) (rLtT K) from axa hr.units0) (aas (show IxR _ (abw K) from aat) (pv 1) (pv 0) (fun _ _=>rfl)) (aas (show IxR _ (abw K) from aat) (pv 1) (aaq aa9 (pv 0) aae) (fun _ _=>rfl)) (aau _)))) aab)))),?_⟩
 refine aa1 h fun ss Q' q B hK=>?_
 refine exS1 ss q fun ps q1_=>?_
 have hl:=q1_.1
 have k:=q1_.2
 clear q1_ q
 show EvS B _ _ [some (.st (.list (ps.map prD)))]
 row_cond go
 rw [List.length_map]
 row_cond go
 refine ans (fun d=>match d with | .int i => .bool (match ps[i.toNat]?,ps[i.toNat+1]? with | some p,some q=>HT.lexLt (p2 p) (p2 q) | _,_=>false) | _ => .none) rfl (by rw [ace];omega) (fun d hd B' hB=>?_) ?_
 ·obtain ⟨i,hi⟩:=List.mem_iff_getElem?.mp hd
  obtain ⟨hi,rfl⟩:=afj hi
  have h1:i < ps.length:=by omega
  have h2:i+1 < ps.length:=by omega
  have a1:atI (ps.map prD) (0+(i:Int))=some (prD ps[i]):=ae7 (f:=prD) (ade (by omega) (by rw [show (0+(i:Int)).toNat=i by omega];exact List.getElem?_eq_getElem h1))
  have a2:atI (ps.map prD) (0+(i:Int)+1)=some (prD ps[i+1]):=ae7 (f:=prD) (ade (by omega) (by rw [show (0+(i:Int)+1).toNat=i+1 by omega];exact List.getElem?_eq_getElem h2))
  row_cond go
  refine av1 ?_
  row_cond go
  refine ⟨?_,rfl⟩
  simp [h1,h2]
 ·row_cond go
  have e:(rngD 0 ((ps.length:Int) - 1).toNat).map (fun d=>match d with | .int i=>PyData.bool (match ps[i.toNat]?,ps[i.toNat+1]? with | some p,some q=>HT.lexLt (p2 p) (p2 q) | _,_=>false) | _ => .none)=((List.range (ps.length - 1)).map fun i=>match ps[i]?,ps[i+1]? with | some p,some q=>HT.lexLt (p2 p) (p2 q) | _,_=>false).map .bool:=by
   unfold rngD
   rw [List.map_map,List.map_map,show ((ps.length:Int) - 1).toNat=ps.length - 1 by omega]
   apply List.map_congr_left
   intro i _
   simp
  rw [e]
  refine an2 ?_
  row_cond go
  refine k _ ?_
  rw [List.all_map,List.all_eq_true]
  unfold Rise
  rw [als ltP (fun h g=>alo h g)]
  constructor
  ·intro h i hi
   have:=h i (List.mem_range.mpr (by omega))
   simp [show i < ps.length by omega,hi] at this
   exact (lex2 _ _).mp this
  ·intro h i hi
   have hi':i+1 < ps.length:=by have:=List.mem_range.mp hi;omega
   have:=(lex2 _ _).mpr (h i hi')
   simp [show i < ps.length by omega,hi',this]
theorem sc_with_ties:FnScope ["web","ties","n","there","every"] ["web","ties"] (aah s_with_ties):=by row_cond sc
theorem aj7 (T:Txt K mg):Can P w K mg base "with_ties" 6 ["web","ties"] (spP K (aze)):=by
 obtain ⟨f,fd,D⟩:=T.d_with_ties
 refine D.can (D.fn.ok sc_with_ties (fun vs H Q E h=>lenP h fun ss Q' q=>by obtain ⟨n,es,fs,rfl,l1,l2,hP,h64,k⟩:=q;rfl) (fun cdv A outer s H vs Q E hr h=>?_))
 have nd:=sc_with_ties.nd
 refine ⟨_,(aac (ab1 (pv 0) (abm rfl (aao (aai (i:=2) nd rfl (Or.inl rfl)) (aao (aai (i:=3) nd rfl (Or.inl rfl)) abb))))
  (aac (abf (act (aci (aad (amg T) hr (aaa (pv 2) (aaa (pv 1) aab)))))
   (aaf aeb)
   aa3)
  (aac (aar (i:=4) nd rfl (Or.inl rfl) (aak ahl (by rfl) T.b_sorted aen (aaa (aaq axd (pv 3) (pv 1)) aab)))
  (aac (abf (act (aci (aad (aj6 T) hr (aaa (pv 4) aab))))
   (aaf aeb)
   aa3)
  (aaf (aan (ac9 (aaa (pv 2) (aaa (pv 4) aab))))))))),?_⟩
 refine aa1 h fun ss Q' q B hK=>?_
 refine exS3 ss q fun n es fs q1_=>?_
 have l1:=q1_.1
 have l2:=q1_.2.1
 have hP:=q1_.2.2.1
 have h64:=q1_.2.2.2.1
 have k:=q1_.2.2.2.2
 clear q1_ q
 show EvS B _ _ [some (.st (webD n es)),some (.st (.list (fs.map prD))),none,none,none]
 row_cond go
 refine ⟨n,_,rfl,fun ds e=>by cases e;rw [List.length_map];omega,?_⟩
 row_cond go
 have ht:afq n (.list (fs.map prD))=true:=by
  show ((fs.map prD).all (ab5 n))=true
  rw [List.all_map,List.all_eq_true]
  intro p hp
  have:=hP.inn p hp
  simp [ab5,prD];omega
 rw [ht]
 row_cond go
 refine af3 (ps:=es ++ fs) h64 ?_
 row_cond go
 rw [← List.map_append]
 refine ⟨rfl,fun qs hp hs=>?_⟩
 have hr:Rise qs:=an3 hp hP.nd hs
 refine aaz ?_
 dsimp only [List.set_cons_zero,List.set_cons_succ]
 try refine' anp (by assumption) ?_
 refine ann (aqk (anm (ag2 (as8 (.inl rfl) (anj ⟨_,_,.inl rfl,abg,qs,rfl,by rw [hp.length_eq,List.length_append];omega,fun b hb=>?_⟩)))))
 row_cond go
 rw [hb.mpr hr]
 row_cond go
 exact k qs hr hp
end
theorem abq {n:Int} {es:List (Int × Int)} (hJ:Joined n es) {u v:Int} (u0:0<=u) (u1:u < n) (v0:0<=v) (v1:v < n):0<=dsF es u v/\Gr.Dist (Tied es) u v (dsF es u v).toNat:=by
 obtain ⟨d,e⟩:=ad7 hJ u0 u1 v0 v1
 simp only [dsF,e,Option.getD_some]
 exact ⟨by omega,by rw [show ((d:Nat):Int).toNat=d by omega];exact Gr.farO_some.mp e⟩
theorem acu {es:List (Int × Int)} {u v:Int} {d:Nat} (h:Gr.Dist (Tied es) u v d):dsF es u v=d:=by
 simp only [dsF,Gr.farO_some.mpr h,Option.getD_some]
theorem amh {n:Int} {es:List (Int × Int)} (hJ:Joined n es) (hin:InN n es) {u v w:Int} (u0:0<=u) (u1:u < n) (t:Tied es v w):dsF es u w<=dsF es u v+1:=by
 have hv:=t.in hin
 have h1:=abq hJ u0 u1 hv.1.1 hv.1.2
 have h2:=abq hJ u0 u1 hv.2.1 hv.2.2
 have:=h2.2.2 _ (.step h1.2.1 t)
 omega
theorem acx (es:List (Int × Int)) (u:Int):dsF es u u=0:=by rw [acu (Gr.Dist.self _ u)];rfl
theorem abr (es:List (Int × Int)) (u v:Int):dsF es u v=dsF es v u:=by unfold dsF;rw [Gr.farO_comm fun _ _ t=>t.symm]
theorem acn {n:Int} {es:List (Int × Int)} (hJ:Joined n es) {u c x:Int} (u0:0<=u) (u1:u < n) (c0:0<=c) (c1:c < n) (x0:0<=x) (x1:x < n):dsF es u x<=dsF es u c+dsF es c x:=by
 have h1:=abq hJ u0 u1 x0 x1
 have h2:=abq hJ u0 u1 c0 c1
 have h3:=abq hJ c0 c1 x0 x1
 have:=h1.2.2 _ (h2.2.1.app h3.2.1)
 omega
theorem ah1 {T T':Int->Int->Prop} {a b:Int} (hs:∀ u v,T' u v->T' v u) (hT:∀ x y,T x y ↔ T' x y\/(x=a/\y=b)\/(x=b/\y=a)) {u v:Int} {i k:Nat} (hu:Gr.Walk T' a i u) (w:Gr.Walk T u k v):(¬ ∃ j,Gr.Walk T' a j v)->∃ m m':Nat,m+1+m'<=k/\Gr.Walk T u m a/\Gr.Walk T b m' v:=by
 induction w with
 | refl=>exact fun h=>absurd ⟨i,hu⟩ h
 | @step k x y wx t ih =>
  intro hy
  rcases (hT _ _).mp t with t' | ⟨rfl,rfl⟩ | ⟨rfl,rfl⟩
  ·obtain ⟨m,m',hm,q1,q2⟩:=ih fun ⟨j,hx⟩=>hy ⟨_,hx.step t'⟩
   exact ⟨m,m'+1,by omega,q1,q2.step t⟩
  ·exact ⟨k,0,by omega,wx,.refl⟩
  ·exact absurd ⟨0,.refl⟩ hy
structure TreeM (n:Int) (es:List (Int × Int)):Prop where
 lo:1<=n
 inn:InN n es
 len:(es.length:Int)=n - 1
 join:Joined n es
section
variable {n:Int} {es:List (Int × Int)}
theorem TreeM.dist (M:TreeM n es) {u v:Int} (u0:0<=u) (u1:u < n) (v0:0<=v) (v1:v < n):∃ d:Nat,dsF es u v=(d:Int)/\Gr.Dist (Tied es) u v d:=by
 obtain ⟨h0,h⟩:=abq M.join u0 u1 v0 v1
 exact ⟨_,by omega,h⟩
theorem TreeM.cross1 (M:TreeM n es) {a b u v:Int} (h:(a,b)∈es) (u0:0<=u) (u1:u < n) (v0:0<=v) (v1:v < n):(dsF es u a < dsF es u b\/dsF es u b < dsF es u a)/\(dsF es u a < dsF es u b->dsF es v b < dsF es v a->dsF es u v=dsF es u a+1+dsF es b v)/\(dsF es u b < dsF es u a->dsF es v a < dsF es v b->dsF es u v=dsF es u b+1+dsF es a v):=by
 have hc:=M.join.conn
 have hab:=M.inn _ h
 simp only at hab
 have hs:∀ u v,Tied (ab0 es (a,b)) u v->Tied (ab0 es (a,b)) v u:=fun _ _ t=>t.symm
 have hT:=ajh h
 have hT2:∀ x y,Tied es x y ↔ Tied (ab0 es (a,b)) x y\/(x=b/\y=a)\/(x=a/\y=b):=fun x y=>(hT x y).trans ⟨fun q=>q.elim .inl fun q => .inr q.symm,fun q=>q.elim .inl fun q => .inr q.symm⟩
 have hnp:=afp M.lo M.len hc h
 have hnp2:∀ k,¬ Gr.Walk (Tied (ab0 es (a,b))) b k a:=fun k w=>hnp k (w.rev hs)
 obtain ⟨ua,eua,dua⟩:=M.dist u0 u1 (v:=a) (by omega) (by omega)
 obtain ⟨ub,eub,dub⟩:=M.dist u0 u1 (v:=b) (by omega) (by omega)
 obtain ⟨va,eva,dva⟩:=M.dist v0 v1 (v:=a) (by omega) (by omega)
 obtain ⟨vb,evb,dvb⟩:=M.dist v0 v1 (v:=b) (by omega) (by omega)
 obtain ⟨k,ek,dk⟩:=M.dist u0 u1 v0 v1
 have t1:=acn M.join (u:=u) (c:=a) (x:=b) u0 u1 (by omega) (by omega) (by omega) (by omega)
 have tab:dsF es a b<=1:=by
  have:=amh M.join M.inn (u:=a) (v:=a) (w:=b) (by omega) (by omega) (.inl h)
  rw [acx] at this
  omega
 have c1:dsF es u v<=dsF es u a+1+dsF es b v:=by
  have h1:=acn M.join (u:=u) (c:=a) (x:=v) u0 u1 (by omega) (by omega) v0 v1
  have h2:=acn M.join (u:=a) (c:=b) (x:=v) (by omega) (by omega) (by omega) (by omega) v0 v1
  omega
 have c2:dsF es u v<=dsF es u b+1+dsF es a v:=by
  have h1:=acn M.join (u:=u) (c:=b) (x:=v) u0 u1 (by omega) (by omega) v0 v1
  have h2:=acn M.join (u:=b) (c:=a) (x:=v) (by omega) (by omega) (by omega) (by omega) v0 v1
  rw [abr es b a] at h2
  omega
 obtain ⟨ku,wu⟩:=hc a u (by omega) (by omega) u0 u1
 obtain ⟨kv,wv⟩:=hc a v (by omega) (by omega) v0 v1
 rcases ara hT wu with ⟨i,su⟩ | ⟨i,su⟩
 ·have q1:=aer hs hT hnp su dua dub
  refine ⟨.inl (by omega),fun _ h2=>?_,fun z=>by omega⟩
  obtain ⟨m,m',hm,w1,w2⟩:=ah1 hs hT su dk.1 fun z_=>by
   obtain ⟨j,sv⟩:=z_
   have:=aer hs hT hnp sv dva dvb
   omega
  obtain ⟨x,hx,dx⟩:=Gr.Dist.of_walk w1
  obtain ⟨y,hy,dy⟩:=Gr.Dist.of_walk w2
  have e1:=acu dx
  have e2:=acu dy
  omega
 ·have q1:=aer hs hT2 hnp2 su dub dua
  refine ⟨.inr (by omega),fun z=>by omega,fun _ h2=>?_⟩
  obtain ⟨m,m',hm,w1,w2⟩:=ah1 hs hT2 su dk.1 fun z_=>by
   obtain ⟨j,sv⟩:=z_
   have:=aer hs hT2 hnp2 sv dvb dva
   omega
  obtain ⟨x,hx,dx⟩:=Gr.Dist.of_walk w1
  obtain ⟨y,hy,dy⟩:=Gr.Dist.of_walk w2
  have e1:=acu dx
  have e2:=acu dy
  omega
theorem TreeM.cross (M:TreeM n es) {a b u v:Int} (t:Tied es a b) (u0:0<=u) (u1:u < n) (v0:0<=v) (v1:v < n):(dsF es u a < dsF es u b\/dsF es u b < dsF es u a)/\(dsF es u a < dsF es u b->dsF es v b < dsF es v a->dsF es u v=dsF es u a+1+dsF es b v):=by
 rcases t with h | h
 ·have:=M.cross1 h u0 u1 v0 v1
  exact ⟨this.1,this.2.1⟩
 ·have:=M.cross1 h u0 u1 v0 v1
  exact ⟨this.1.symm,this.2.2⟩
theorem ami (f:Nat->Int):∀ d:Nat,∃ i,i<=d/\∀ j,j<=d->f i<=f j
 | 0=>⟨0,Nat.le_refl _,fun j hj=>by rw [Nat.le_zero.mp hj];exact Int.le_refl _⟩
 | d+1=>by
  obtain ⟨i,hi,h⟩:=ami f d
  by_cases hl:f (d+1) < f i
  ·exact ⟨d+1,Nat.le_refl _,fun j hj=>by
    by_cases e:j=d+1
    ·rw [e];exact Int.le_refl _
    ·have:=h j (by omega);omega⟩
  ·exact ⟨i,by omega,fun j hj=>by
    by_cases e:j=d+1
    ·rw [e];omega
    ·exact h j (by omega)⟩
structure FarW (n:Int) (es:List (Int × Int)) (a b:Int) (d:Nat) (ws:List Int):Prop extends TreeM n es where
 way:WayTo (Tied es) a b d ws
 a0:0<=a
 a1:a < n
 b0:0<=b
 b1:b < n
 far:dsF es a b=(d:Int)
 top:∀ u v:Int,0<=u->u < n->0<=v->v < n->dsF es u v<=(d:Int)
variable {a b:Int} {d:Nat} {ws:List Int}
theorem FarW.get (W:FarW n es a b d ws) {i:Nat} (hi:i<=d):∃ x,ws[i]?=some x/\0<=x/\x < n/\dsF es x b=((d - i:Nat):Int)/\dsF es x a=(i:Int):=by
 obtain ⟨x,hx⟩:∃ x,ws[i]?=some x:=⟨_,List.getElem?_eq_getElem (by rw [W.way.len];omega)⟩
 have hb:dsF es b x=((d - i:Nat):Int):=acu (W.way.far i x hx)
 have hr:0<=x/\x < n:=by
  cases i with
  | zero=>rw [W.way.fst] at hx;cases hx;exact ⟨W.a0,W.a1⟩
  | succ i =>
   obtain ⟨y,hy⟩:∃ y,ws[i]?=some y:=⟨_,List.getElem?_eq_getElem (by rw [W.way.len];omega)⟩
   have:=((W.way.tie i y x hy hx).in W.inn)
   omega
 have ha:dsF es a x<=(i:Int):=by
  obtain ⟨m,hm,dm⟩:=Gr.Dist.of_walk (W.way.walk i x hx)
  rw [acu dm]
  omega
 have h1:=acn W.join (u:=a) (c:=x) (x:=b) W.a0 W.a1 hr.1 hr.2 W.b0 W.b1
 rw [abr es b x] at hb
 have:=W.far
 exact ⟨x,hx,hr.1,hr.2,hb,by rw [abr es x a];omega⟩
theorem FarW.foot (W:FarW n es a b d ws) {u:Int} (u0:0<=u) (u1:u < n):∃ (i:Nat) (x h:Int),i<=d/\ws[i]?=some x/\0<=x/\x < n/\dsF es u x=h/\0<=h/\dsF es u a=h+i/\dsF es u b=h+d - i:=by
 obtain ⟨i,hi,hmin⟩:=ami (fun i=>dsF es u (ws.getD i 0)) d
 obtain ⟨x,hx,x0,x1,xb,xa⟩:=W.get hi
 have hg:∀ {j:Nat} {y:Int},ws[j]?=some y->ws.getD j 0=y:=fun {j y} e=>by rw [List.getD_eq_getElem?_getD,e];rfl
 have hnn:=(abq W.join u0 u1 x0 x1).1
 refine ⟨i,x,dsF es u x,hi,hx,x0,x1,rfl,hnn,?_,?_⟩
 ·cases i with
  | zero=>rw [W.way.fst] at hx;cases hx;omega
  | succ i =>
   obtain ⟨y,hy,y0,y1,yb,ya⟩:=W.get (i:=i) (by omega)
   have hm:=hmin i (by omega)
   simp only [hg hx,hg hy] at hm
   have t:=W.way.tie i y x hy hx
   obtain ⟨c1,c2⟩:=W.cross (a:=x) (b:=y) (u:=u) (v:=a) t.symm u0 u1 W.a0 W.a1
   have:=c2 (by omega) (by rw [abr es a y,abr es a x];omega)
   omega
 ·by_cases e:i=d
  ·subst e
   have:x=b:=by
    obtain ⟨h0,hd⟩:=abq W.join x0 x1 W.b0 W.b1
    rw [xb,show ((i - i:Nat):Int).toNat=0 by omega] at hd
    cases hd.1
    rfl
   subst this
   omega
  ·obtain ⟨y,hy,y0,y1,yb,ya⟩:=W.get (i:=i+1) (by omega)
   have hm:=hmin (i+1) (by omega)
   simp only [hg hx,hg hy] at hm
   have t:=W.way.tie i x y hx hy
   obtain ⟨c1,c2⟩:=W.cross (a:=x) (b:=y) (u:=u) (v:=b) t u0 u1 W.b0 W.b1
   have:=c2 (by omega) (by rw [abr es b y,abr es b x];omega)
   omega
theorem FarW.along (W:FarW n es a b d ws) {i:Nat} {x:Int} (hx:ws[i]?=some x):∀ (j:Nat) (y:Int),ws[i+j]?=some y->dsF es x y<=(j:Int)
 | 0,y,hy=>by
  rw [Nat.add_zero,hx] at hy
  cases hy
  rw [acx]
  omega
 | j+1,y,hy=>by
  have hl:=(List.getElem?_eq_some_iff.mp hy).1
  rw [W.way.len] at hl
  obtain ⟨z,hz,z0,z1,_,_⟩:=W.get (i:=i+j) (by omega)
  obtain ⟨x',hx',x0,x1,_,_⟩:=W.get (i:=i) (by omega)
  rw [hx] at hx'
  cases hx'
  have h1:=W.along hx j z hz
  have h2:=amh W.join W.inn x0 x1 (W.way.tie (i+j) z y hz hy)
  omega
theorem FarW.two (W:FarW n es a b d ws) {u v:Int} (u0:0<=u) (u1:u < n) (v0:0<=v) (v1:v < n):∃ (i j:Nat) (h g:Int),i<=d/\j<=d/\0<=h/\0<=g/\dsF es u a=h+i/\dsF es u b=h+d - i/\dsF es v a=g+j/\dsF es v b=g+d - j/\h<=i/\h<=d - i/\g<=j/\g<=d - j/\(dsF es u v<=h+(i - j)+g\/dsF es u v<=h+(j - i)+g):=by
 obtain ⟨i,x,h,hi,hx,x0,x1,eh,h0,ea,eb⟩:=W.foot u0 u1
 obtain ⟨j,y,g,hj,hy,y0,y1,eg,g0,fa,fb⟩:=W.foot v0 v1
 have l1:=W.top u a u0 u1 W.a0 W.a1
 have l2:=W.top u b u0 u1 W.b0 W.b1
 have l3:=W.top v a v0 v1 W.a0 W.a1
 have l4:=W.top v b v0 v1 W.b0 W.b1
 have t1:=acn W.join (u:=u) (c:=x) (x:=v) u0 u1 x0 x1 v0 v1
 have t2:=acn W.join (u:=x) (c:=y) (x:=v) x0 x1 y0 y1 v0 v1
 rw [abr es y v] at t2
 refine ⟨i,j,h,g,hi,hj,h0,g0,ea,eb,fa,fb,by omega,by omega,by omega,by omega,?_⟩
 by_cases hij:i<=j
 ·have:=W.along hx (j - i) y (by rw [show i+(j - i)=j by omega];exact hy)
  exact .inr (by omega)
 ·have:=W.along hy (i - j) x (by rw [show j+(i - j)=i by omega];exact hx)
  rw [abr es y x] at this
  exact .inl (by omega)
theorem FarW.sees (W:FarW n es a b d ws) {u v:Int} (u0:0<=u) (u1:u < n) (v0:0<=v) (v1:v < n):dsF es u v<=dsF es u a\/dsF es u v<=dsF es u b:=by
 obtain ⟨i,j,h,g,hi,hj,h0,g0,ea,eb,fa,fb,q1,q2,q3,q4,q5⟩:=W.two u0 u1 v0 v1
 omega
theorem FarW.ends (W:FarW n es a b d ws) {u v:Int} (u0:0<=u) (u1:u < n) (v0:0<=v) (v1:v < n) (ha:dsF es u a<=dsF es u v) (hb:dsF es u b<=dsF es u v):dsF es v a=(d:Int)\/dsF es v b=(d:Int):=by
 obtain ⟨i,j,h,g,hi,hj,h0,g0,ea,eb,fa,fb,q1,q2,q3,q4,q5⟩:=W.two u0 u1 v0 v1
 omega
end
def aps (K:Frag):Sp:=fun vs H Q _=>∃ (a:Addr) (ns:List Int),vs=[.ref a]/\SqL K H a (ns.map V.int)/\ns.length<=63/\∀ H',Q (.bl true) H'
def auo:VP:=fun ss Q=>∃ ns:List Int,ss=[.scr ns]/\ns.length<=63/\Q (.st (.bool true))
theorem atv {K:Frag} {vs:List V} {H:Hp} {Q:VK} {E:XK} (h:aps K vs H Q E):spP K auo vs H Q E:=by
 obtain ⟨a,ns,rfl,hS,hl,k⟩:=h
 refine ⟨H,[.scr ns],fun s=>s=.st (.bool true),Same.refl _,fun a ks h=>h,.cons ⟨a,rfl,hS⟩ .nil,⟨ns,rfl,hl,rfl⟩,fun s e v G' H' Fv o=>?_⟩
 subst e
 have r:=o.ok.1
 cases r
 exact k _
theorem aoj {n:Nat} {m:Int->Int->Int} {x y:Int} (h:ahy n m x) (g:ahy n m y):x=y:=by
 obtain ⟨⟨u,v,u0,u1,v0,v1,rfl⟩,h2⟩:=h
 obtain ⟨⟨u',v',u0',u1',v0',v1',rfl⟩,g2⟩:=g
 have:=g2 u v u0 u1 v0 v1
 have:=h2 u' v' u0' u1' v0' v1'
 omega
theorem vals_mem {n:Nat} {r:Int->Int} {x:Int}:x∈ach n r ↔ ∃ v:Int,0<=v/\v < n/\r v=x:=by
 unfold ach
 simp only [List.mem_map,List.mem_range]
 constructor
 ·rintro ⟨i,hi,rfl⟩;exact ⟨i,by omega,by omega,rfl⟩
 ·rintro ⟨v,v0,v1,rfl⟩;exact ⟨v.toNat,by omega,by rw [show ((v.toNat:Nat):Int)=v by omega]⟩
theorem ends_mem {n:Nat} {es:List (Int × Int)} {x u:Int}:u∈abx n es x ↔ 0<=u/\u < n/\mxF n (dsF es u)=x:=by
 unfold abx
 simp only [List.mem_map,List.mem_filter,List.mem_range,decide_eq_true_eq]
 constructor
 ·rintro ⟨i,⟨hi,e⟩,rfl⟩;exact ⟨by omega,by omega,e⟩
 ·rintro ⟨u0,u1,e⟩;exact ⟨u.toNat,⟨by omega,by rw [show ((u.toNat:Nat):Int)=u by omega];exact e⟩,by omega⟩
theorem atw {n:Int} {es:List (Int × Int)} {x a b a' b':Int} (h:FarOk n es x a b) (g:FarOk n es x a' b'):a=a'/\b=b':=by
 have h1:=h.fst a' b' g.a0 g.a1 g.b0 g.b1 g.eq
 have h2:=g.fst a b h.a0 h.a1 h.b0 h.b1 h.eq
 omega
theorem ac1 {n:Int} {es:List (Int × Int)} (hJ:Joined n es) {u v:Int} (u0:0<=u) (u1:u < n) (v0:0<=v) (v1:v < n) (h:dsF es u v<=0):u=v:=by
 obtain ⟨h0,hd⟩:=abq hJ u0 u1 v0 v1
 rw [show (dsF es u v).toNat=0 by omega] at hd
 cases hd.1
 rfl
section
variable {n:Int} {es:List (Int × Int)} {a b x:Int} {d:Nat} {ws:List Int}
theorem FarW.of (M:TreeM n es) (hF:FarOk n es x a b) (hd:Gr.Dist (Tied es) b a d) (hw:WayTo (Tied es) a b d ws):FarW n es a b d ws/\x=(d:Int):=by
 have e:dsF es a b=(d:Int):=by rw [abr];exact acu hd
 have e2:x=(d:Int):=by rw [← hF.eq];exact e
 exact ⟨{ M with way:=hw,a0:=hF.a0,a1:=hF.a1,b0:=hF.b0,b1:=hF.b1,far:=e,top:=fun u v u0 u1 v0 v1=>by have:=hF.top.2 u v u0 (by omega) v0 (by omega);omega },e2⟩
theorem FarW.last (W:FarW n es a b d ws):ws[d]?=some b:=by
 obtain ⟨x,hx,x0,x1,xb,xa⟩:=W.get (Nat.le_refl d)
 rw [hx,ac1 W.join x0 x1 W.b0 W.b1 (by omega)]
theorem FarW.nodup (W:FarW n es a b d ws):ws.Nodup:=List.pairwise_iff_getElem.mpr fun i j hi hj hij e=>by
 have hl:=W.way.len
 have h1:=acu (W.way.far i _ (List.getElem?_eq_getElem hi))
 have h2:=acu (W.way.far j _ (List.getElem?_eq_getElem hj))
 rw [e] at h1
 omega
theorem FarW.mids (W:FarW n es a b d ws) {w:Int} {ps:List Int} (hM:MidOk n es w ps):w=((d:Int)+1) / 2/\∀ u,u∈ps ↔ (ws[d / 2]?=some u\/ws[(d+1) / 2]?=some u):=by
 have key:∀ {i:Nat} {u:Int},i<=d->ws[i]?=some u->0<=u/\u < n/\∀ v,0<=v->v < n->dsF es u v<=(i:Int)\/dsF es u v<=((d - i:Nat):Int):=fun {i u} hi hu=>by
  obtain ⟨x,hx,x0,x1,xb,xa⟩:=W.get hi
  rw [hu] at hx
  cases hx
  refine ⟨x0,x1,fun v v0 v1=>?_⟩
  rcases W.sees x0 x1 v0 v1 with q | q
  ·exact .inl (by omega)
  ·exact .inr (by omega)
 have low:∀ u∈ps,∃ (i:Nat) (x h:Int),i<=d/\ws[i]?=some x/\0<=x/\x < n/\dsF es u x=h/\0<=h/\0<=u/\u < n/\h+i<=w/\h+d - i<=w:=fun u hu=>by
  obtain ⟨u0,u1,k1⟩:=(hM.mem u).mp hu
  obtain ⟨i,x,h,hi,hx,x0,x1,eh,h0,ea,eb⟩:=W.foot u0 u1
  have h1:=k1 a W.a0 W.a1
  have h2:=k1 b W.b0 W.b1
  exact ⟨i,x,h,hi,hx,x0,x1,eh,h0,u0,u1,by omega,by omega⟩
 have ew:w=((d:Int)+1) / 2:=by
  obtain ⟨c,hc,_,_,_,_⟩:=W.get (i:=d / 2) (by omega)
  obtain ⟨c0,c1,k1⟩:=key (by omega) hc
  obtain ⟨v,v0,v1,hv⟩:=hM.lo c c0 c1
  have h1:=k1 v v0 v1
  obtain ⟨u,hu⟩:=List.exists_mem_of_ne_nil _ hM.ne
  obtain ⟨i,x,h,hi,hx,x0,x1,eh,h0,u0,u1,q1,q2⟩:=low u hu
  omega
 refine ⟨ew,fun u=>⟨fun hu=>?_,fun hu=>?_⟩⟩
 ·obtain ⟨i,x,h,hi,hx,x0,x1,eh,h0,u0,u1,q1,q2⟩:=low u hu
  have:u=x:=ac1 W.join u0 u1 x0 x1 (by omega)
  subst this
  rcases (show i=d / 2\/i=(d+1) / 2 by omega) with e | e
  ·exact .inl (e ▸ hx)
  ·exact .inr (e ▸ hx)
 ·have:∃ i:Nat,i<=d/\ws[i]?=some u/\(i:Int)<=w/\((d - i:Nat):Int)<=w:=by
   rcases hu with hu | hu
   ·exact ⟨_,by omega,hu,by omega,by omega⟩
   ·exact ⟨_,by omega,hu,by omega,by omega⟩
  obtain ⟨i,hi,hu,q1,q2⟩:=this
  obtain ⟨u0,u1,k1⟩:=key hi hu
  exact (hM.mem u).mpr ⟨u0,u1,fun v v0 v1=>by have:=k1 v v0 v1;omega⟩
theorem FarW.mid_perm (W:FarW n es a b d ws) {w:Int} {ps:List Int} (hM:MidOk n es w ps):ps.Perm ((ws.drop (d / 2)).take (1+d % 2)):=by
 have hnd:((ws.drop (d / 2)).take (1+d % 2)).Nodup:=(W.nodup.sublist (List.drop_sublist _ _)).sublist (List.take_sublist _ _)
 refine (List.perm_ext_iff_of_nodup (hM.rise.imp fun {a b} h e=>by omega) hnd).mpr fun u=>?_
 rw [(W.mids hM).2,List.mem_iff_getElem?]
 constructor
 ·rintro (h | h)
  ·exact ⟨0,by rw [List.getElem?_take,if_pos (by omega),List.getElem?_drop];exact h⟩
  ·refine ⟨(d+1) / 2 - d / 2,?_⟩
   rw [List.getElem?_take,if_pos (by omega),List.getElem?_drop,show d / 2+((d+1) / 2 - d / 2)=(d+1) / 2 by omega]
   exact h
 ·rintro ⟨j,hj⟩
  rw [List.getElem?_take] at hj
  by_cases hlt:j < 1+d % 2
  ·rw [if_pos hlt,List.getElem?_drop] at hj
   rcases (show d / 2+j=d / 2\/d / 2+j=(d+1) / 2 by omega) with e | e
   ·exact .inl (e ▸ hj)
   ·exact .inr (e ▸ hj)
  ·rw [if_neg hlt] at hj
   cases hj
theorem FarW.mid_cut (W:FarW n es a b d ws) {w:Int} {ps ms:List Int} (hM:MidOk n es w ps) (hp:ms.Perm ((ws.drop (d / 2)).take (1+d % 2))) (hs:ms.Pairwise (·<=·)):ms=ps :=
 (hp.trans (W.mid_perm hM).symm).eq_of_pairwise (fun a b _ _ h g=>Int.le_antisymm h g) hs (hM.rise.imp fun h=>by omega)
theorem FarW.ends_ab (W:FarW n es a b d ws) {u:Int} (u0:0<=u) (u1:u < n) (h:dsF es u a=(d:Int)\/dsF es u b=(d:Int)):mxF n.toNat (dsF es u)=(d:Int):=by
 have hn:1<=n.toNat:=by have:=W.lo;omega
 obtain ⟨h1,h2⟩:=afa hn (dsF es u)
 obtain ⟨v,v0,v1,ev⟩:=vals_mem.mp h1
 have:=W.top u v u0 u1 v0 (by omega)
 have ha:=h2 (dsF es u a) (vals_mem.mpr ⟨a,W.a0,by have:=W.a1;omega,rfl⟩)
 have hb:=h2 (dsF es u b) (vals_mem.mpr ⟨b,W.b0,by have:=W.b1;omega,rfl⟩)
 omega
theorem FarW.ends_ix (W:FarW n es a b d ws) {u:Int} (u0:0<=u) (u1:u < n):(ixF n.toNat (dsF es u):Int)∈abx n.toNat es (d:Int):=by
 have hn:1<=n.toNat:=by have:=W.lo;omega
 have hix:=(ame hn (dsF es u)).1
 have hlt:=ay9 hn (dsF es u)
 have hmx:=(afa hn (dsF es u)).2
 unfold ach at hix
 rw [List.getElem?_map,List.getElem?_range hlt] at hix
 have e:dsF es u (ixF n.toNat (dsF es u):Int)=mxF n.toNat (dsF es u):=Option.some.inj hix
 have ha:=hmx (dsF es u a) (vals_mem.mpr ⟨a,W.a0,by have:=W.a1;omega,rfl⟩)
 have hb:=hmx (dsF es u b) (vals_mem.mpr ⟨b,W.b0,by have:=W.b1;omega,rfl⟩)
 refine ends_mem.mpr ⟨by omega,by omega,W.ends_ab (by omega) (by omega) (W.ends u0 u1 (by omega) (by omega) (by omega) (by omega))⟩
theorem FarW.ends_len (W:FarW n es a b d ws):(if n < 2 then n else 2)<=((abx n.toNat es (d:Int)).length:Int):=by
 have ha:a∈abx n.toNat es (d:Int):=ends_mem.mpr ⟨W.a0,by have:=W.a1;omega,W.ends_ab W.a0 W.a1 (.inr W.far)⟩
 have hb:b∈abx n.toNat es (d:Int):=ends_mem.mpr ⟨W.b0,by have:=W.b1;omega,W.ends_ab W.b0 W.b1 (.inl (by rw [abr];exact W.far))⟩
 have hn:=W.lo
 split
 ·have:=List.length_pos_of_mem ha
  omega
 ·have hab:a ≠ b:=fun e=>by
   have h1:=W.far
   rw [e,acx] at h1
   have h2:=W.top 0 1 (by omega) (by omega) (by omega) (by omega)
   have:=ac1 W.join (u:=0) (v:=1) (by omega) (by omega) (by omega) (by omega) (by omega)
   omega
  have:=List.Nodup.length_le_of_subset (l₁:=[a,b]) (l₂:=abx n.toNat es (d:Int)) (by simpa using hab) fun q hq=>by
   simp only [List.mem_cons,List.not_mem_nil,or_false] at hq
   rcases hq with rfl | rfl
   ·exact ha
   ·exact hb
  simp at this
  omega
theorem FarW.part (W:FarW n es a b d ws) {t:Int × Int} {y:Int} (ht:t∈es) (h:IsPt n.toNat (dsF es) t.1 t.2 y):(d:Int)<=2 * y+1/\y<=(d:Int)/\((d:Int)<=1->y<=0)/\1<=(d:Int):=by
 have hr:=W.inn t ht
 have ht':(t.1,t.2)∈es:=ht
 have cr:=fun {u v:Int} (u0:0<=u) (u1:u < n) (v0:0<=v) (v1:v < n)=>W.cross1 ht' u0 u1 v0 v1
 have hss:=acx es t.1
 have hss2:=acx es t.2
 have c1:=(cr (u:=t.1) (v:=t.1) hr.1 hr.2.1 hr.1 hr.2.1).1
 have c2:=(cr (u:=t.2) (v:=t.2) hr.2.2.1 hr.2.2.2 hr.2.2.1 hr.2.2.2).1
 have n1:=(abq W.join hr.1 hr.2.1 hr.2.2.1 hr.2.2.2).1
 have n2:=(abq W.join hr.2.2.1 hr.2.2.2 hr.1 hr.2.1).1
 have t12:=W.top t.1 t.2 hr.1 hr.2.1 hr.2.2.1 hr.2.2.2
 have ps:=fun {u v:Int} (u0:0<=u) (u1:u < n) (v0:0<=v) (v1:v < n)=>h.2 u v u0 (by omega) v0 (by omega)
 refine ⟨?_,?_,fun h1=>?_,by omega⟩
 ·have ca:=cr W.a0 W.a1 W.b0 W.b1
  have cb:=(cr W.b0 W.b1 W.a0 W.a1).1
  have e:=W.far
  by_cases same:dsF es a t.1 < dsF es a t.2 ↔ dsF es b t.1 < dsF es b t.2
  ·have:=ps W.a0 W.a1 W.b0 W.b1 same
   have h0:=ps (u:=t.1) (v:=t.1) hr.1 hr.2.1 hr.1 hr.2.1 Iff.rfl
   omega
  ·by_cases ha:dsF es a t.1 < dsF es a t.2
   ·have hb:dsF es b t.2 < dsF es b t.1:=by
     rcases cb with q | q
     ·exact absurd ⟨fun _=>q,fun _=>ha⟩ same
     ·exact q
    have h1:=ca.2.1 ha hb
    have h2:=ps W.a0 W.a1 hr.1 hr.2.1 ⟨fun _=>by omega,fun _=>ha⟩
    have h3:=ps hr.2.2.1 hr.2.2.2 W.b0 W.b1 ⟨fun z=>by omega,fun z=>by omega⟩
    omega
   ·have hb:dsF es b t.1 < dsF es b t.2:=by
     rcases cb with q | q
     ·exact q
     ·exact absurd ⟨fun z=>absurd z ha,fun z=>by omega⟩ same
    have ha2:dsF es a t.2 < dsF es a t.1:=by
     rcases ca.1 with q | q
     ·exact absurd q ha
     ·exact q
    have h1:=ca.2.2 ha2 hb
    have h2:=ps W.a0 W.a1 hr.2.2.1 hr.2.2.2 ⟨fun z=>by omega,fun z=>by omega⟩
    have h3:=ps hr.1 hr.2.1 W.b0 W.b1 ⟨fun z=>hb,fun z=>by omega⟩
    omega
 ·obtain ⟨u,v,u0,u1,v0,v1,_,e⟩:=h.1
  have:=W.top u v u0 (by omega) v0 (by omega)
  omega
 ·obtain ⟨u,v,u0,u1,v0,v1,sm,e⟩:=h.1
  have tu1:=W.top u t.1 u0 (by omega) hr.1 hr.2.1
  have tu2:=W.top u t.2 u0 (by omega) hr.2.2.1 hr.2.2.2
  have tv1:=W.top v t.1 v0 (by omega) hr.1 hr.2.1
  have tv2:=W.top v t.2 v0 (by omega) hr.2.2.1 hr.2.2.2
  have cu:=(cr (u:=u) (v:=u) u0 (by omega) u0 (by omega)).1
  have cv:=(cr (u:=v) (v:=v) v0 (by omega) v0 (by omega)).1
  by_cases hu:dsF es u t.1 < dsF es u t.2
  ·have hv:=sm.mp hu
   have e1:=ac1 W.join u0 (by omega) hr.1 hr.2.1 (by omega)
   have e2:=ac1 W.join v0 (by omega) hr.1 hr.2.1 (by omega)
   rw [e1,e2,acx] at e
   omega
  ·have hv:¬ dsF es v t.1 < dsF es v t.2:=fun z=>hu (sm.mpr z)
   have e1:=ac1 W.join u0 (by omega) hr.2.2.1 hr.2.2.2 (by omega)
   have e2:=ac1 W.join v0 (by omega) hr.2.2.1 hr.2.2.2 (by omega)
   rw [e1,e2,acx] at e
   omega
end
theorem amj (ns:List Int):plainDs (ns.map .int)=true:=(aes _).mpr fun d hd=>by
 obtain ⟨x,_,rfl⟩:=List.mem_map.mp hd
 rfl
theorem agp (ns:List Int):aaj (.list (ns.map .int))=true:=amj ns
theorem aok (ns:List Int):(PyData.list (ns.map PyData.int)).depth<=60:=by
 have h:PyData.depthAll (ns.map PyData.int)<=1:=agx fun d hd=>by
  obtain ⟨x,_,rfl⟩:=List.mem_map.mp hd
  simp [PyData.depth]
 simp only [PyData.depth]
 omega
theorem amk (ps:List Int) (u:Int):((ps.map PyData.int).any fun z=>PyData.eqv z (.int u))=decide (u∈ps):=by
 rw [Bool.eq_iff_iff,List.any_eq_true,decide_eq_true_iff]
 constructor
 ·rintro ⟨d,hd,e⟩
  obtain ⟨x,hx,rfl⟩:=List.mem_map.mp hd
  simp [PyData.eqv] at e
  exact e ▸ hx
 ·intro h
  exact ⟨.int u,List.mem_map.mpr ⟨u,h,rfl⟩,by simp [PyData.eqv]⟩
theorem aol {n:Int} {es:List (Int × Int)} {a b:Int} {d:Nat} (hin:InN n es) (h:Gr.Dist (Tied es) b a d):∃ ws,WayTo (Tied es) a b d ws:=by
 induction d generalizing a with
 | zero =>
  cases h.1
  exact ⟨[b],rfl,rfl,fun i x e=>by
   have hi:=(List.getElem?_eq_some_iff.mp e).1
   have:i=0:=by simpa using hi
   subst this
   cases e
   exact h,fun i x y _ e=>by simp at e⟩
 | succ d ih =>
  obtain ⟨u,t,hu⟩:=h.pred
  obtain ⟨ws,hw⟩:=ih hu
  refine ⟨a :: ws,by simp [hw.len],rfl,fun i x e=>?_,fun i x y e1 e2=>?_⟩
  ·cases i with
   | zero=>cases e;exact h
   | succ i =>
    rw [show d+1 - (i+1)=d - i by omega]
    exact hw.far i x e
  ·cases i with
   | zero =>
    cases e1
    have:ws[0]?=some y:=e2
    rw [hw.fst] at this
    cases this
    exact t.symm
   | succ i=>exact hw.tie i x y e1 e2
def aom:VP:=fun ss Q=>∃ (n:Int) (es:List (Int × Int)),ss=[.st (webD n es)]/\TreeW n es/\Q (.st (.bool true))
def awv:VIo:=fun A ss Q=>∃ (n:Int) (es:List (Int × Int)),A=OSt/\ss=[.st (webD n es)]/\TreeW n es/\Q OSt (.st (.bool true))
theorem TreeW.m {n:Int} {es:List (Int × Int)} (h:TreeW n es):TreeM n es:=⟨h.web.lo,h.inn,h.len,h.conn.joined (by have:=h.web.lo;omega)⟩
section
variable {P:Program} {w:World} {K:Frag} {mg:Str->Option Value} {base:Heap}
theorem sc_law_way_right:FnScope ["web","far","a","b","way","wide","places"] ["web"] (aah s_law_way_right):=by row_cond sc
theorem agu (T:Txt K mg):Can P w K mg base "_law_way_right" 11 ["web"] (spP K (aom)):=by
 obtain ⟨f,fd,D⟩:=T.d_law_way_right
 refine D.can (D.fn.ok sc_law_way_right (fun vs H Q E h=>lenP h fun ss Q' q=>by obtain ⟨n,es,rfl,hW,kk⟩:=q;rfl) (fun cdv A outer s H vs Q E hr h=>?_))
 have nd:=sc_law_way_right.nd
 refine ⟨_,(aac (ab1 (aad (ab9 T) hr (aaa (pv 0) aab)) (abm rfl (aao (aai (i:=1) nd rfl (Or.inl rfl)) (aao (aai (i:=2) nd rfl (Or.inl rfl)) (aao (aai (i:=3) nd rfl (Or.inl rfl)) abb)))))
  (aac (aar (i:=4) nd rfl (Or.inr rfl) (aad (am0 T) hr (aaa (pv 0) aab)))
  (aac (abf (PW.pt (ad2 (aaw ad3 (aak aa8 (by rfl) T.b_len aca (aaa (pv 4) aab)) (aaq aa9 (pv 1) aae) (aau _)) (ad2 (aaw ad3 (aas aat (pv 4) aae (fun _ _=>rfl)) (pv 2) (aau _)) (ad2 (aaw ad3 (aas aat (pv 4) (aoq akj aae) (fun _ _=>rfl)) (pv 3) (aau _)) (aew (aaw (ahf hr.units) (pv 4) (aad (aft T) hr (aaa (pv 0) (aaa (pv 2) (aaa (pv 3) aab)))) (aau _)))))))
   (aaf (aan ad1))
   aa3)
  (aac (abf (aaw (ahf hr.units) (aco rfl (N:=["k","web","way"]) (src:=[none,some 0,some 4]) (by exact aa4 rfl rfl rfl rfl rfl rfl) (acy rfl T.b_range (aaa (pv 1) aab)) (fun _ _ _ _=>(aai (i:=0) (show List.Nodup (["k","web","way"]:List Str) by decide +kernel) rfl (Or.inl rfl) (hf:=Or.inr rfl))) (fun _ _ _ _=>acz (aaw ad3 (aad (amy T) hr (aaa (pv 1) (aaa (aas (show IxR _ (abw K) from aat) (pv 2) (pv 0) (fun _ _=>rfl)) (aaa (aas (show IxR _ (abw K) from aat) (pv 2) (aaq aa9 (pv 0) aae) (fun _ _=>rfl)) aab)))) aae (aau _))) (fun _ _ _ _=>(pv 0))) (abn aab) (aau _))
   (aaf (aan ad1))
   aa3)
  (aac (ab1 (aad (am1 T) hr (aaa (pv 0) aab)) (abm rfl (aao (aai (i:=5) nd rfl (Or.inl rfl)) (aao (aai (i:=6) nd rfl (Or.inl rfl)) abb))))
  (aac (abf (PW.pt (ad2 (aaw ad3 (pv 5) (aaq aez (aaq aa9 (pv 1) aae) aae) (aau _)) (ad2 (aaw ad3 (aak aa8 (by rfl) T.b_len aca (aaa (pv 6) aab)) (aaq aa9 aae (aaq adr (pv 1) aae)) (aau _)) (aew (aaw (ahf hr.units) (aco rfl (N:=["place","way"]) (src:=[none,some 4]) (by exact aa4 rfl rfl rfl rfl rfl rfl) (abk (pv 6)) (fun _ _ _ _=>(aai (i:=0) (show List.Nodup (["place","way"]:List Str) by decide +kernel) rfl (Or.inl rfl) (hf:=Or.inr rfl))) (fun _ _ _ _=>acz (aaw (aeo hr.units) (pv 0) (pv 1) rfl)) (fun _ _ _ _=>(pv 0))) (abn aab) (aau _))))))
   (aaf (aan ad1))
   aa3)
  (aaf (aan (abt (aqe hr.units) (aak ao1 (by rfl) T.b_sorted aen (aaa (aro auw (pv 4) (am4 (aaq aez (pv 1) aae)) (am4 (aaq aa9 (aaq aa9 (aaq aez (pv 1) aae) aae) (aaq adr (pv 1) aae)))) aab)) (pv 6) (aau _)))))))))),?_⟩
 refine aa1 h fun ss Q' q B hK=>?_
 refine exS2 ss q fun n es q1_=>?_
 have hW:=q1_.1
 have kk:=q1_.2
 clear q1_ q
 show EvS B _ _ [some (.st (webD n es)),none,none,none,none,none,none]
 have M:=hW.m
 have hn:=M.lo
 have hn6:=hW.web.hi
 have hin:=M.inn
 have hJ:=M.join
 have hlen:=hW.web.len
 row_cond go
 refine ⟨n,es,rfl,hn,by omega,hin,by omega,hJ,fun x a b hF=>?_⟩
 row_cond go
 refine ⟨n,es,rfl,hn,by omega,hin,by omega,⟨hW.len,hJ⟩,fun x2 a2 b2 d ws hF2 hd hw=>abc abg ?_⟩
 obtain rfl:=aoj hF.top hF2.top
 obtain ⟨rfl,rfl⟩:=atw hF hF2
 obtain ⟨W,rfl⟩:=FarW.of M hF hd hw
 have hwl:=hw.len
 have hd60:d < 60:=by
  have h1:=List.Nodup.length_le_of_subset (l₂:=(List.range n.toNat).map fun (i:Nat)=>(i:Int)) W.nodup fun q hq=>by
   obtain ⟨i,hi⟩:=List.getElem?_of_mem hq
   have:=(List.getElem?_eq_some_iff.mp hi).1
   obtain ⟨y,hy,y0,y1,_,_⟩:=W.get (i:=i) (by omega)
   rw [hi] at hy
   cases hy
   exact (Order.id n).mem.mpr ⟨y0,y1⟩
  simp at h1
  omega
 have hml:(ws.map PyData.int).length=d+1:=by rw [List.length_map,hwl]
 have at0:atI (ws.map PyData.int) 0=some (.int a):=ade (by omega) (by rw [List.getElem?_map,show (0:Int).toNat=0 from rfl,hw.fst];rfl)
 have atl:atI (ws.map PyData.int) (-1)=some (.int b):=by
  unfold atI ixN
  rw [if_neg (by omega),if_pos (by omega)]
  show (ws.map PyData.int)[(-1+((ws.map PyData.int).length:Int)).toNat]?=_
  rw [hml,show (-1+((d+1:Nat):Int)).toNat=d by omega,List.getElem?_map,W.last]
  rfl
 row_cond go
 refine ⟨n,a,b,es,d,rfl,by omega,hin,by omega,W.a0,W.a1,W.b0,W.b1,hd,fun zs hz=>ad5 ?_⟩
 obtain rfl:=WayTo.uniq hn M.len hJ.conn hw hz
 refine agk (agp _) (agp _) (aok _) ?_
 rw [alr (agp ws)]
 row_cond go
 unfold rngD
 refine adw (xs:=List.range (d:Int).toNat) (f:=fun i:Nat=>PyData.int (0+(i:Int))) (fun i:Nat=>PyData.int (0+(i:Int))) (fun _=>false) rfl (by simp;omega) (fun i hi B' hB=>?_) ?_
 ·have hi':=List.mem_range.mp hi
  obtain ⟨y,hy,y0,y1,yb,ya⟩:=W.get (i:=i) (by omega)
  obtain ⟨z,hz',z0,z1,zb,za⟩:=W.get (i:=i+1) (by omega)
  have hyz:=W.along hy 1 z hz'
  have hone:Gr.farO (Tied es) y z=some 1:=by
   obtain ⟨k,hk⟩:=ad7 hJ y0 y1 z0 z1
   have hk2:dsF es y z=(k:Int):=by simp only [dsF,hk,Option.getD_some]
   have hne:y ≠ z:=fun e=>by rw [e] at ya;omega
   have hk0:k ≠ 0:=fun e=>hne (ac1 hJ y0 y1 z0 z1 (by omega))
   rw [hk,show k=1 by omega]
  have a1:atI (ws.map PyData.int) (0+(i:Int))=some (.int y):=ade (by omega) (by rw [List.getElem?_map,show (0+(i:Int)).toNat=i by omega,hy];rfl)
  have a2:atI (ws.map PyData.int) (0+(i:Int)+1)=some (.int z):=ade (by omega) (by rw [List.getElem?_map,show (0+(i:Int)+1).toNat=i+1 by omega,hz'];rfl)
  row_cond go
  refine ⟨n,y,z,es,rfl,by omega,hin,by omega,y0,by omega,z0,by omega,?_⟩
  rw [hone,show oD (some 1)=PyData.int 1 from rfl]
  row_cond go
  exact fun q=>nomatch q
 ·rw [show ((List.range (d:Int).toNat).filter fun _=>false).map (fun i:Nat=>PyData.int (0+(i:Int)))=[] by simp]
  row_cond go
  refine agk rfl rfl (by decide) ?_
  row_cond go
  rw [if_neg (show ¬ ((!(PyData.list []).eqv (PyData.list []))=true) from Bool.false_ne_true)]
  row_cond go
  refine ⟨n,es,rfl,hn,by omega,hin,by omega,hJ,fun wd ps hM=>abc alp ?_⟩
  obtain ⟨hwd,hmem⟩:=W.mids hM
  have hpl:((ps.map PyData.int).length:Int)=1+(d:Int) % 2:=by
   rw [List.length_map,(W.mid_perm hM).length_eq,List.length_take,List.length_drop,hwl]
   omega
  row_cond go
  refine adw (xs:=ps) (f:=PyData.int) PyData.int (fun _=>false) rfl (by rw [List.length_map] at hpl;omega) (fun p hp B' hB=>?_) ?_
  ·have hpw:p∈ws:=List.mem_of_mem_drop (List.mem_of_mem_take ((W.mid_perm hM).mem_iff.mp hp))
   row_cond go
   refine ae5 rfl (amj ws) (by simp [PyData.depth]) ?_
   rw [if_pos rfl,amk,decide_eq_true hpw]
   row_cond go
   exact fun q=>nomatch q
  ·rw [show (ps.filter fun _=>false).map PyData.int=[] by simp]
   row_cond go
   refine agk rfl rfl (by decide) ?_
   row_cond go
   rw [if_neg (show ¬ ((!(PyData.list []).eqv (PyData.list []))=true) from Bool.false_ne_true)]
   repeat (first | (refine abp (aqz ?_)) | row_cond st)
   refine ⟨(ws.drop (d / 2)).take (1+d % 2),?_,by rw [List.length_take];omega,fun ms hp hs=>ad5 ?_⟩
   ·rw [show (d:Int) / 2+1+(d:Int) % 2=((d / 2+1+d % 2:Nat):Int) by omega,show (d:Int) / 2=((d / 2:Nat):Int) by omega]
    unfold cutD
    rw [HT.sIx_nat,HT.sIx_nat,hml,show min (d / 2) (d+1)=d / 2 by omega,show min (d / 2+1+d % 2) (d+1) - d / 2=1+d % 2 by omega,List.map_take,List.map_drop]
   ·obtain rfl:=W.mid_cut hM hp hs
    row_cond go
    refine ant (agp _) (agp _) (aok _) ?_
    rw [alr (agp ms)]
    row_cond go
    exact kk
theorem sc_law_ends_right:FnScope ["store","web","far","ends","place","seen"] ["store","web"] (aah s_law_ends_right):=by row_cond sc
theorem af9 (T:Txt K mg):Can P w K mg base "_law_ends_right" 11 ["store","web"] (spI K (awv)):=by
 obtain ⟨f,fd,D⟩:=T.d_law_ends_right
 refine D.can (D.fn.ok sc_law_ends_right (fun vs H Q E h=>lenI h fun A ss Q' q=>by obtain ⟨n,es,rfl,rfl,hW,kk⟩:=q;rfl) (fun cdv A outer s H vs Q E hr h=>?_))
 have nd:=sc_law_ends_right.nd
 refine ⟨_,(aac (aar (i:=2) nd rfl (Or.inr rfl) (aas aat (aad (ab9 T) hr (aaa (pv 1) aab)) aae (fun _ _=>rfl)))
  (aac (aar (i:=3) nd rfl (Or.inl rfl) (aad (amf T) hr (aaa (pv 1) aab)))
  (aac (aar (i:=4) nd rfl (Or.inl rfl) (aad (aa0 T) hr (aaa (pv 0) (aaa (aas aat (pv 1) aae (fun _ _=>rfl)) aab))))
  (aac (aar (i:=5) nd rfl (Or.inl rfl) (aad (ado T) hr (aaa (pv 1) (aaa (pv 4) aab))))
  (aac (abf (PW.pt (ad2 (aaw (aeo hr.units) (adm PySem.F.plainAttrs_list PySem.F.slot_list_index PySem.F.type_list_index ag5 (pv 5) (aaa (aak (ab7 rfl) (by rfl) T.b_max acj (aaa (pv 5) aab)) aab)) (pv 3) rfl) (aew (aaw aj8 (aak aa8 (by rfl) T.b_len aca (aaa (pv 3) aab)) (aak (ada rfl) (by rfl) T.b_min aee (aaa aae (aaa (aas aat (pv 1) aae (fun _ _=>rfl)) aab))) (aau _)))))
   (aaf (aan ad1))
   aa3)
  (aaf (aan (abt (aqe hr.units) (aco rfl (N:=["end","far","web"]) (src:=[none,some 2,some 1]) (by exact aa4 rfl rfl rfl rfl rfl rfl) (abk (pv 3)) (fun _ _ _ _=>(aai (i:=0) (show List.Nodup (["end","far","web"]:List Str) by decide +kernel) rfl (Or.inl rfl) (hf:=Or.inr rfl))) (fun _ _ _ _=>acz (aaw ad3 (aak (show aa7 _ (.builtin "max") (aep K) from (ab7 rfl)) (by rfl) T.b_max acj (aaa (aad (ado T) hr (aaa (pv 2) (aaa (pv 0) aab))) aab)) (pv 1) (aau _))) (fun _ _ _ _=>(pv 0))) (abn aab) (aau _))))))))),?_⟩
 refine ahm h fun A0 ss Q' q B hK=>?_
 obtain ⟨n,es,rfl,rfl,hW,kk⟩:=q
 show EvS B _ _ [some (.io OSt),some (.st (webD n es)),none,none,none,none]
 have M:=hW.m
 have hn:=M.lo
 have hn1:1<=n.toNat:=by omega
 have hn6:=hW.web.hi
 have hin:=M.inn
 have hJ:=M.join
 have hlen:=hW.web.len
 row_cond go
 refine ⟨n,es,rfl,hn,by omega,hin,by omega,hJ,fun x a b hF=>?_⟩
 obtain ⟨d,ws,W,rfl⟩:∃ d ws,FarW n es a b d ws/\x=(d:Int):=by
  obtain ⟨d,hd,_⟩:=aev hJ hF.b0 hF.b1 hF.a0 hF.a1
  obtain ⟨ws,hw⟩:=aol hin hd
  obtain ⟨W,e⟩:=FarW.of M hF hd hw
  exact ⟨d,ws,W,e⟩
 row_cond go
 refine ⟨n,es,rfl,hn,by omega,hin,by omega,⟨hW.len,hJ⟩,fun x2 hx2=>abc abg ?_⟩
 obtain rfl:=aoj hF.top hx2
 have hel:=W.ends_len
 have hel2:=ends_len n.toNat es (d:Int)
 have hml:((abx n.toNat es (d:Int)).map PyData.int).length=(abx n.toNat es (d:Int)).length:=List.length_map ..
 row_cond go
 refine ⟨n,rfl,rfl,by omega,by omega,fun u u0 u1=>?_⟩
 have hix:=ame hn1 (dsF es u)
 have hie:=W.ends_ix u0 u1
 have hmx:=afa hn1 (dsF es u)
 row_cond go
 refine ⟨n,u,es,rfl,by omega,hin,by omega,u0,by omega,?_⟩
 rw [aiq hJ (by omega) (by omega),ag8]
 refine abc abg ?_
 row_cond go
 refine ⟨ach n.toNat (dsF es u),rfl,?_⟩
 row_cond go
 refine acm (ago hn1 _) fun y hy=>?_
 obtain rfl:=adl hy hmx
 refine ⟨_,ixF n.toNat (dsF es u),rfl,hix.1,hix.2,?_⟩
 row_cond go
 refine ae5 rfl (amj _) (by simp [PyData.depth]) ?_
 rw [if_pos rfl,amk,decide_eq_true hie]
 have hnl:¬ (((abx n.toNat es (d:Int)).length:Int) < if n < 2 then n else 2):=by omega
 row_cond go
 refine adw (xs:=abx n.toNat es (d:Int)) (f:=PyData.int) PyData.int (fun _=>false) rfl (by omega) (fun p hp B' hB=>?_) ?_
 ·obtain ⟨p0,p1,ep⟩:=ends_mem.mp hp
  row_cond go
  refine ⟨n,p,es,rfl,by omega,hin,by omega,p0,by omega,?_⟩
  rw [aiq hJ (by omega) (by omega),ag8]
  row_cond go
  refine acm (ago hn1 _) fun y hy=>?_
  obtain rfl:=adl hy (afa hn1 _)
  rw [ep]
  row_cond go
  have hdd:(!decide ((d:Int)=(d:Int)))=false:=by rw [decide_eq_true rfl];rfl
  exact ⟨hdd,rfl,fun q=>absurd (hdd.symm.trans q) (fun y=>nomatch y)⟩
 ·rw [show ((abx n.toNat es (d:Int)).filter fun _=>false).map PyData.int=[] by simp]
  row_cond go
  refine ant rfl rfl (by decide) ?_
  row_cond go
  exact kk
theorem sc_law_parting_right:FnScope ["web","told","far"] ["web"] (aah s_law_parting_right):=by row_cond sc
theorem afb (T:Txt K mg):Can P w K mg base "_law_parting_right" 10 ["web"] (spP K (aom)):=by
 obtain ⟨f,fd,D⟩:=T.d_law_parting_right
 refine D.can (D.fn.ok sc_law_parting_right (fun vs H Q E h=>lenP h fun ss Q' q=>by obtain ⟨n,es,rfl,hW,kk⟩:=q;rfl) (fun cdv A outer s H vs Q E hr h=>?_))
 have nd:=sc_law_parting_right.nd
 refine ⟨_,(aac (aar (i:=1) nd rfl (Or.inl rfl) (aad (ah0 T) hr (aaa (pv 0) aab)))
  (aac (aar (i:=2) nd rfl (Or.inl rfl) (aas aat (aad (ab9 T) hr (aaa (pv 0) aab)) aae (fun _ _=>rfl)))
  (aac (abf (aaw aib (pv 1) aea (aau _))
   (aaf (aan (abt agc (aas aat (pv 0) aae (fun _ _=>rfl)) aae (aau _))))
   aa3)
  (aaf (aan (adp (abt (axq hr.units) (aas aat (pv 1) aae (fun _ _=>rfl)) (aas aat (pv 0) aae (fun _ _=>rfl)) rfl) (adp (abt at7 (aaq aa9 (aaq ac2 aae (aas aat (pv 1) aae (fun _ _=>rfl))) aae) (pv 2) (aau _)) (aex (abt aor (aas aat (pv 1) aae (fun _ _=>rfl)) (aak (afe rfl) (by rfl) T.b_max acj (aaa aae (aaa (aaq aa9 (aaq adq (pv 2) aae) (aiz aoy (by rfl) T.b_int aqb (aaa (abt aos (pv 2) aae (aau _)) aab))) aab))) (aau _)))))))))),?_⟩
 refine aa1 h fun ss Q' q B hK=>?_
 refine exS2 ss q fun n es q1_=>?_
 have hW:=q1_.1
 have kk:=q1_.2
 clear q1_ q
 show EvS B _ _ [some (.st (webD n es)),none,none]
 have M:=hW.m
 have hn:=M.lo
 have hn6:=hW.web.hi
 have hin:=M.inn
 have hJ:=M.join
 have hlen:=hW.web.len
 have hel:=hW.len
 row_cond go
 refine ⟨n,es,rfl,hn,by omega,hin,by omega,⟨hW.len,hJ⟩,fun D hD=>?_⟩
 row_cond go
 refine ⟨n,es,rfl,hn,by omega,hin,by omega,hJ,fun x a b hF=>?_⟩
 obtain ⟨d,ws,W,rfl⟩:∃ d ws,FarW n es a b d ws/\x=(d:Int):=by
  obtain ⟨d,hd,_⟩:=aev hJ hF.b0 hF.b1 hF.a0 hF.a1
  obtain ⟨ws,hw⟩:=aol hin hd
  obtain ⟨W,e⟩:=FarW.of M hF hd hw
  exact ⟨d,ws,W,e⟩
 rcases hD with ⟨he,rfl⟩ | ⟨z,hz,rfl⟩
 ·have hn1:n=1:=by rw [he] at hel;simp at hel;omega
  subst hn1
  row_cond go
  rw [show isNone PyData.none=true from rfl]
  row_cond go
  exact kk
 ·obtain ⟨xs,_,h2,h3,_⟩:=hz
  obtain ⟨hze,hpt⟩:=h2 z h3
  obtain ⟨q1,q2,q3,q4⟩:=W.part hze hpt
  row_cond go
  rw [show isNone (z3D z)=false from rfl]
  row_cond go
  refine ae5 (ajd z.2) (afn es) (Nat.le_trans (af4 _) (by decide)) ?_
  rw [if_neg Bool.false_ne_true,an5,decide_eq_true hze]
  row_cond go
  show Q' (.st (.bool (decide _)))
  rw [decide_eq_true]
  ·exact kk
  ·by_cases hd1:(1:Int) < (d:Int)
   ·rw [decide_eq_true hd1,if_pos rfl]
    split <;> omega
   ·rw [decide_eq_false hd1,if_neg Bool.false_ne_true]
    split <;> omega
theorem sc_law:FnScope ["script","at","store","web","n","ties","spare"] ["script"] (aah s_law):=by row_cond sc
theorem aww (T:Txt K mg) {f:Addr} {fd:FuncData} (D:DefAt K mg "law" s_law ["script"] f fd):FnOk P w K mg base CX0 12 f fd ["script"] (spP K (auo)):=by
 refine D.fn.ok sc_law (fun vs H Q E h=>lenP h fun ss Q' q=>by obtain ⟨ns,rfl,hns,kk⟩:=q;rfl) (fun cdv A outer s H vs Q E hr h=>?_)
 have nd:=sc_law.nd
 refine ⟨_,(aac (aey PassesOwn.never rfl (acy rfl T.b_range (aaa (aak (ada rfl) (by rfl) T.b_min aee (aaa (aak (afe rfl) (by rfl) T.b_max acj (aaa (aak aa8 (by rfl) T.b_len aca (aaa (pv 0) aab)) (aaa aae aab))) (aaa aae aab))) aab)) (aai (i:=1) nd rfl (Or.inl rfl))
   (aac (aar (i:=2) nd rfl (Or.inl rfl) (aad (aj4 T) hr (aaa (aad (al8 T) hr (aaa (pv 0) (aaa (pv 1) aab))) aab)))
    (aac (aar (i:=3) nd rfl (Or.inl rfl) (aad (al9 T) hr (aaa (pv 2) aab)))
    (aac (abf (PW.pt (ad2 (act (aci (aad (aeu T) hr (aaa (pv 3) aab)))) (aew (act (aci (aad (agu T) hr (aaa (pv 3) aab)))))))
     (aaf (aan ad1))
     aa3)
    (aac (abf (PW.pt (ad2 (act (aci (aad (af9 T) hr (aaa (pv 2) (aaa (pv 3) aab))))) (aew (act (aci (aad (afb T) hr (aaa (pv 3) aab)))))))
     (aaf (aan ad1))
     aa3)
    (aac (ab1 (pv 3) (abm rfl (aao (aai (i:=4) nd rfl (Or.inl rfl)) (aao (aai (i:=5) nd rfl (Or.inr rfl)) abb))))
    (aac (afd (i:=6) nd rfl (Or.inl rfl) rfl (N:=["b","ties"]) (src:=[none,some 5]) (by exact aa4 rfl rfl rfl rfl rfl rfl) (aiu rfl T.b_range (aaa aae (aaa (pv 4) aab))) (fun _ _ _ _=>(aai (i:=0) (show List.Nodup (["b","ties"]:List Str) by decide +kernel) rfl (Or.inl rfl) (hf:=Or.inr rfl))) (fun _ _ _ _=>acz (aaw (aeo hr.units) (ac9 (aaa aae (aaa (pv 0) aab))) (pv 1) rfl)) (fun _ _ _ _=>(ac9 (aaa aae (aaa (pv 0) aab)))))
    (aaf (abf (PW.pt (aw2 (aaw (ahf hr.units) (pv 6) (abn aab) (aau _)) (aus (aci (aad (aeu T) hr (aaa (aad (aj7 T) hr (aaa (pv 3) (aaa (abn (aaa (aas aat (pv 6) (aad (aa0 T) hr (aaa (pv 2) (aaa (aak aa8 (by rfl) T.b_len aca (aaa (pv 6) aab)) aab))) (fun _ _=>rfl)) aab)) aab))) aab))))))
     (aaf (aan ad1))
     aa3)))))))))
  (aaf (aan ad1))),?_⟩
 refine aa1 h fun ss Q' q B hK=>?_
 refine exS1 ss q fun ns q1_=>?_
 have hns:=q1_.1
 have kk:=q1_.2
 clear q1_ q
 show EvS B _ _ [some (.scr ns),none,none,none,none,none,none]
 row_cond go
 refine alg (fun i e=>∃ v1 v2 v3 v4 v5 v6,e=[some (.scr ns),v1,v2,v3,v4,v5,v6]) ⟨_,_,_,_,_,_,rfl⟩ ?_ ?_
 ·rintro i e hi q0_
  refine exE6 e q0_ fun v1 v2 v3 v4 v5 v6=>?_
  clear q0_
  have hi20:(i:Int) < 20:=by
   revert hi
   split <;> split <;> omega
  row_cond go
  refine ⟨ns,0+(i:Int),rfl,by omega,by omega,fun c=>?_⟩
  row_cond go
  refine ⟨c,rfl,fun g t u=>?_⟩
  repeat (first | (refine atp 2 rfl ?_) | row_cond st)
  refine ⟨rfl,rfl,fun n es hW=>?_⟩
  have M:=hW.m
  have hn:=M.lo
  have hn6:=hW.web.hi
  have hin:=M.inn
  have hJ:=M.join
  have hlen:=hW.web.len
  have hel:=hW.len
  row_cond go
  refine ⟨n,es,rfl,hn,by omega,hin,by omega,fun bb hbb=>?_⟩
  obtain rfl:bb=true:=hbb.mpr ⟨hW.len,hJ⟩
  row_cond go
  refine ⟨n,es,rfl,hW,?_⟩
  row_cond go
  refine ⟨n,es,rfl,rfl,hW,?_⟩
  row_cond go
  refine ⟨n,es,rfl,hW,?_⟩
  row_cond go
  unfold rngD
  refine adw (xs:=List.range (n - 1).toNat) (f:=fun i:Nat=>PyData.int (1+(i:Int))) (fun i:Nat=>prD (0,1+(i:Int))) (fun i:Nat => !decide ((0,1+(i:Int))∈es)) rfl (by simp;omega) (fun j hj B' hB=>?_) ?_
  ·row_cond go
   refine ae5 (ajd (_,_)) (afn es) (Nat.le_trans (af4 (_,_)) (by decide)) ?_
   rw [if_pos rfl,show PyData.tuple [PyData.int 0,PyData.int (1+(j:Int))]=prD (0,1+(j:Int)) from rfl,an5]
   row_cond go
   intro _
   row_cond go
   exact rfl
  ·obtain ⟨fs,hfs,hfm,hfl⟩:∃ fs:List (Int × Int),((List.range (n - 1).toNat).filter fun i:Nat => !decide ((0,1+(i:Int))∈es)).map (fun i:Nat=>prD (0,1+(i:Int)))=fs.map prD/\(∀ p∈fs,0<=p.1/\p.1 < p.2/\p.2 < n/\p ∉ es)/\fs.length<=60:=by
    refine ⟨((List.range (n - 1).toNat).filter fun i:Nat => !decide ((0,1+(i:Int))∈es)).map fun i:Nat=>(0,1+(i:Int)),by rw [List.map_map];rfl,fun p hp=>?_,?_⟩
    ·obtain ⟨j,hj,rfl⟩:=List.mem_map.mp hp
     obtain ⟨h1,h2⟩:=List.mem_filter.mp hj
     have:=List.mem_range.mp h1
     simp only [Bool.not_eq_true',decide_eq_false_iff_not] at h2
     exact ⟨by simp,by simp only;omega,by simp only;omega,h2⟩
    ·rw [List.length_map]
     have:=List.length_filter_le (fun i:Nat => !decide ((0,1+(i:Int))∈es)) (List.range (n - 1).toNat)
     rw [List.length_range] at this
     omega
   rw [hfs]
   refine abc abg ?_
   have hpl:aaj (.list (fs.map prD))=true:=afn fs
   have hdp:(PyData.list (fs.map prD)).depth<=60:=by
    have h:PyData.depthAll (fs.map prD)<=1:=agx fun d hd=>by
     obtain ⟨p,_,rfl⟩:=List.mem_map.mp hd
     exact af4 p
    simp only [PyData.depth]
    omega
   row_cond go
   refine agk hpl rfl hdp ?_
   cases efs:fs with
   | nil =>
    rw [show PyData.eqv (.list (List.map prD [])) (.list [])=true from rfl]
    row_cond go
    exact ⟨_,_,_,_,_,_,rfl⟩
   | cons p0 fs0 =>
    rw [← efs,show PyData.eqv (.list (fs.map prD)) (.list [])=false by rw [efs];rfl]
    have hflp:0 < fs.length:=by rw [efs];simp
    have hml:(fs.map prD).length=fs.length:=List.length_map ..
    row_cond go
    refine ⟨(fs.length:Int),rfl,by rw [hml];rfl,by omega,by omega,fun r r0 r1=>?_⟩
    obtain ⟨p,hp⟩:∃ p,fs[r.toNat]?=some p:=⟨_,List.getElem?_eq_getElem (show r.toNat < fs.length by omega)⟩
    have hpa:atI (fs.map prD) r=some (prD p):=ade r0 (by rw [List.getElem?_map,hp];rfl)
    obtain ⟨q0,q1,q2,q3⟩:=hfm p (List.mem_of_getElem? hp)
    row_cond go
    refine ⟨n,es,[p],rfl,by omega,by simp,⟨fun q hq=>by cases List.mem_singleton.mp hq;exact ⟨q0,q1,q2⟩,List.nodup_append.mpr ⟨hW.web.ps.nd,by simp,fun x hx y hy e=>?_⟩⟩,by rw [List.length_append];simp;omega,fun qs hr hq=>aue ?_⟩
    ·cases List.mem_singleton.mp hy
     subst e
     exact q3 hx
    ·have hql:qs.length=es.length+1:=by rw [hq.length_eq];simp
     have hqi:InN n qs:=fun x hx=>by
      rcases List.mem_append.mp (hq.mem_iff.mp hx) with z | z
      ·exact hin x z
      ·cases List.mem_singleton.mp z
       exact ⟨by omega,by omega,by omega,by omega⟩
     row_cond go
     refine ⟨n,qs,rfl,hn,by omega,hqi,by omega,fun b2 hb2=>?_⟩
     obtain rfl:b2=false:=by
      cases b2 with
      | false=>rfl
      | true=>have:=(hb2.mp rfl).1;omega
     row_cond go
     exact ⟨_,_,_,_,_,_,rfl⟩
 ·rintro e q0_
  refine exE6 e q0_ fun v1 v2 v3 v4 v5 v6=>?_
  clear q0_
  row_cond go
  exact kk
theorem azf (T:Txt K mg) {f:Addr} {fd:FuncData} (D:DefAt K mg "law" s_law ["script"] f fd):FnOk P w K mg base CX0 12 f fd ["script"] (aps K):=(aww T D).imp fun _ _ _ _ h=>atv h
end
theorem len0 {α:Type} {us:List α} (h:us.length=0):us=[]:=List.eq_nil_of_length_eq_zero h
theorem len1 {α:Type} {us:List α} (h:us.length=1):∃ a0,us=[a0]:=by
 cases us with
 | nil=>cases h
 | cons a us=>exact ⟨a,by rw [len0 (Nat.succ.inj h)]⟩
theorem len2 {α:Type} {us:List α} (h:us.length=2):∃ a0 a1,us=[a0,a1]:=by
 cases us with
 | nil=>cases h
 | cons a us=>obtain ⟨a1,e⟩:=len1 (Nat.succ.inj h);exact ⟨a,a1,by rw [e]⟩
theorem len3 {α:Type} {us:List α} (h:us.length=3):∃ a0 a1 a2,us=[a0,a1,a2]:=by
 cases us with
 | nil=>cases h
 | cons a us=>obtain ⟨a1,a2,e⟩:=len2 (Nat.succ.inj h);exact ⟨a,a1,a2,by rw [e]⟩
def Bnd (x:Str) (st:Stmt) (ps:List Str):Prop:=∀ (kV doc pm:Value) (an:Option Addr) (cdv ct:Value) (us:List Value),us.length=ps.length->bindArgs (fnOf x x (acd st) (ab2 st) (aah st) .none kV doc pm an cdv ct) ⟨us,[]⟩=pure (ps.zip us)
def FnIn (K:Frag) (x:Str) (st:Stmt):Prop:=∃ f oc od kV dc pm an cd ct sl,nsIn K mainGlobals x=some (some (.ref f))/\K.lookup f=some ⟨oc,od,.func (fnOf x x (acd st) (ab2 st) (aah st) .none kV dc pm an cd ct),sl⟩/\codeIn K cd x=true/\keepIn K (.ref f)=true
theorem fn_in {K:Frag} {x:Str} {st:Stmt} {f:Addr} {od an:Option Addr} {sl:Array (Option Value)} {oc kV dc pm cd ct:Value} (a:nsIn K mainGlobals x=some (some (.ref f))) (l:K.lookup f=some ⟨oc,od,.func (fnOf x x (acd st) (ab2 st) (aah st) .none kV dc pm an cd ct),sl⟩) (c:codeIn K cd x=true) (k:keepIn K (.ref f)=true):FnIn K x st:=⟨f,oc,od,kV,dc,pm,an,cd,ct,sl,a,l,c,k⟩
theorem bnd1 {st:Stmt} {x:Str} {ps:List Str} (hp:ps.length=1) (h:∀ (kV doc pm:Value) (an:Option Addr) (cdv ct:Value) (u0:Value),bindArgs (fnOf x x (acd st) (ab2 st) (aah st) .none kV doc pm an cdv ct) ⟨[u0],[]⟩=pure (ps.zip [u0])):Bnd x st ps:=by
 intro kV doc pm an cdv ct us hl
 rw [hp] at hl
 obtain ⟨_,rfl⟩:=len1 hl
 exact h _ _ _ _ _ _ _
theorem bnd2 {st:Stmt} {x:Str} {ps:List Str} (hp:ps.length=2) (h:∀ (kV doc pm:Value) (an:Option Addr) (cdv ct:Value) (u0 u1:Value),bindArgs (fnOf x x (acd st) (ab2 st) (aah st) .none kV doc pm an cdv ct) ⟨[u0,u1],[]⟩=pure (ps.zip [u0,u1])):Bnd x st ps:=by
 intro kV doc pm an cdv ct us hl
 rw [hp] at hl
 obtain ⟨_,_,rfl⟩:=len2 hl
 exact h _ _ _ _ _ _ _ _
theorem bnd3 {st:Stmt} {x:Str} {ps:List Str} (hp:ps.length=3) (h:∀ (kV doc pm:Value) (an:Option Addr) (cdv ct:Value) (u0 u1 u2:Value),bindArgs (fnOf x x (acd st) (ab2 st) (aah st) .none kV doc pm an cdv ct) ⟨[u0,u1,u2],[]⟩=pure (ps.zip [u0,u1,u2])):Bnd x st ps:=by
 intro kV doc pm an cdv ct us hl
 rw [hp] at hl
 obtain ⟨_,_,_,rfl⟩:=len3 hl
 exact h _ _ _ _ _ _ _ _ _
theorem aav {K:Frag} {h:Heap} {mg:Str->Option Value} {x:Str} {st:Stmt} {ps:List Str} (X:K.In h) (G:h.Ns mainGlobals mg) (q:FnIn K x st)
  (hb:Bnd x st ps):∃ f fd,DefAt K mg x st ps f fd:=by
 obtain ⟨f,oc,od,kV,dc,pm,an,cd,ct,sl,a,l,c,k⟩:=q
 exact ⟨_,_,have F:=axf (st:=st) l c k;⟨F,mg_of X G a,F.binds hb⟩⟩
theorem txt_mk {K:Frag} {h:Heap} {mg:Str->Option Value} (X:K.In h) (G:h.Ns mainGlobals mg)
  (h0:FnIn K "is_whole" s_is_whole)
  (h1:FnIn K "is_between" s_is_between)
  (h2:FnIn K "is_place" s_is_place)
  (h3:FnIn K "is_tie" s_is_tie)
  (h4:FnIn K "are_ties" s_are_ties)
  (h5:FnIn K "is_rising" s_is_rising)
  (h6:FnIn K "tied_places" s_tied_places)
  (h7:FnIn K "far_from" s_far_from)
  (h8:FnIn K "need_place" s_need_place)
  (h9:FnIn K "all_far" s_all_far)
  (h10:FnIn K "how_far" s_how_far)
  (h11:FnIn K "is_joined" s_is_joined)
  (h12:FnIn K "short_way" s_short_way)
  (h13:FnIn K "need_joined" s_need_joined)
  (h14:FnIn K "far_rows" s_far_rows)
  (h15:FnIn K "most_far" s_most_far)
  (h16:FnIn K "farthest_two" s_farthest_two)
  (h17:FnIn K "middles" s_middles)
  (h18:FnIn K "is_tree" s_is_tree)
  (h19:FnIn K "need_tree" s_need_tree)
  (h20:FnIn K "far_way" s_far_way)
  (h21:FnIn K "far_ends" s_far_ends)
  (h22:FnIn K "parting_tie" s_parting_tie)
  (h23:FnIn K "parted_far" s_parted_far)
  (h24:FnIn K "with_ties" s_with_ties)
  (h25:FnIn K "_law_cell" s_law_cell)
  (h26:FnIn K "_law_store" s_law_store)
  (h27:FnIn K "_law_take" s_law_take)
  (h28:FnIn K "_law_tree_ties" s_law_tree_ties)
  (h29:FnIn K "_law_renumbered" s_law_renumbered)
  (h30:FnIn K "_law_tree" s_law_tree)
  (h31:FnIn K "_law_way_right" s_law_way_right)
  (h32:FnIn K "_law_ends_right" s_law_ends_right)
  (h33:FnIn K "_law_parting_right" s_law_parting_right)
  (h34:FnIn K "law" s_law)
  (z_ValueError:nsIn K mainGlobals "ValueError" = some none)
  (z_all:nsIn K mainGlobals "all" = some none)
  (z_max:nsIn K mainGlobals "max" = some none)
  (z_min:nsIn K mainGlobals "min" = some none)
  (z_sorted:nsIn K mainGlobals "sorted" = some none)
  (z_range:nsIn K mainGlobals "range" = some none)
  (z_list:nsIn K mainGlobals "list" = some none)
  (z_isinstance:nsIn K mainGlobals "isinstance" = some none)
  (z_int:nsIn K mainGlobals "int" = some none)
  (z_len:nsIn K mainGlobals "len" = some none)
  (z_set:nsIn K mainGlobals "set" = some none)
  (z_bool:nsIn K mainGlobals "bool" = some none)
  (z_tuple:nsIn K mainGlobals "tuple" = some none)
  (z_enumerate:nsIn K mainGlobals "enumerate" = some none)
  (z_zip:nsIn K mainGlobals "zip" = some none)
  : Txt K mg where
  b_ValueError:=mg_none_of X G z_ValueError
  b_all:=mg_none_of X G z_all
  b_max:=mg_none_of X G z_max
  b_min:=mg_none_of X G z_min
  b_sorted:=mg_none_of X G z_sorted
  b_range:=mg_none_of X G z_range
  b_list:=mg_none_of X G z_list
  b_isinstance:=mg_none_of X G z_isinstance
  b_int:=mg_none_of X G z_int
  b_len:=mg_none_of X G z_len
  b_set:=mg_none_of X G z_set
  b_bool:=mg_none_of X G z_bool
  b_tuple:=mg_none_of X G z_tuple
  b_enumerate:=mg_none_of X G z_enumerate
  b_zip:=mg_none_of X G z_zip
  d_is_whole:=aav X G h0 (bnd1 rfl fun _ _ _ _ _ _ _=>rfl)
  d_is_between:=aav X G h1 (bnd3 rfl fun _ _ _ _ _ _ _ _ _=>rfl)
  d_is_place:=aav X G h2 (bnd2 rfl fun _ _ _ _ _ _ _ _=>rfl)
  d_is_tie:=aav X G h3 (bnd2 rfl fun _ _ _ _ _ _ _ _=>rfl)
  d_are_ties:=aav X G h4 (bnd2 rfl fun _ _ _ _ _ _ _ _=>rfl)
  d_is_rising:=aav X G h5 (bnd1 rfl fun _ _ _ _ _ _ _=>rfl)
  d_tied_places:=aav X G h6 (bnd1 rfl fun _ _ _ _ _ _ _=>rfl)
  d_far_from:=aav X G h7 (bnd2 rfl fun _ _ _ _ _ _ _ _=>rfl)
  d_need_place:=aav X G h8 (bnd2 rfl fun _ _ _ _ _ _ _ _=>rfl)
  d_all_far:=aav X G h9 (bnd2 rfl fun _ _ _ _ _ _ _ _=>rfl)
  d_how_far:=aav X G h10 (bnd3 rfl fun _ _ _ _ _ _ _ _ _=>rfl)
  d_is_joined:=aav X G h11 (bnd1 rfl fun _ _ _ _ _ _ _=>rfl)
  d_short_way:=aav X G h12 (bnd3 rfl fun _ _ _ _ _ _ _ _ _=>rfl)
  d_need_joined:=aav X G h13 (bnd1 rfl fun _ _ _ _ _ _ _=>rfl)
  d_far_rows:=aav X G h14 (bnd1 rfl fun _ _ _ _ _ _ _=>rfl)
  d_most_far:=aav X G h15 (bnd1 rfl fun _ _ _ _ _ _ _=>rfl)
  d_farthest_two:=aav X G h16 (bnd1 rfl fun _ _ _ _ _ _ _=>rfl)
  d_middles:=aav X G h17 (bnd1 rfl fun _ _ _ _ _ _ _=>rfl)
  d_is_tree:=aav X G h18 (bnd1 rfl fun _ _ _ _ _ _ _=>rfl)
  d_need_tree:=aav X G h19 (bnd1 rfl fun _ _ _ _ _ _ _=>rfl)
  d_far_way:=aav X G h20 (bnd1 rfl fun _ _ _ _ _ _ _=>rfl)
  d_far_ends:=aav X G h21 (bnd1 rfl fun _ _ _ _ _ _ _=>rfl)
  d_parting_tie:=aav X G h22 (bnd1 rfl fun _ _ _ _ _ _ _=>rfl)
  d_parted_far:=aav X G h23 (bnd2 rfl fun _ _ _ _ _ _ _ _=>rfl)
  d_with_ties:=aav X G h24 (bnd2 rfl fun _ _ _ _ _ _ _ _=>rfl)
  d_law_cell:=aav X G h25 (bnd2 rfl fun _ _ _ _ _ _ _ _=>rfl)
  d_law_store:=aav X G h26 (bnd1 rfl fun _ _ _ _ _ _ _=>rfl)
  d_law_take:=aav X G h27 (bnd2 rfl fun _ _ _ _ _ _ _ _=>rfl)
  d_law_tree_ties:=aav X G h28 (bnd3 rfl fun _ _ _ _ _ _ _ _ _=>rfl)
  d_law_renumbered:=aav X G h29 (bnd3 rfl fun _ _ _ _ _ _ _ _ _=>rfl)
  d_law_tree:=aav X G h30 (bnd1 rfl fun _ _ _ _ _ _ _=>rfl)
  d_law_way_right:=aav X G h31 (bnd1 rfl fun _ _ _ _ _ _ _=>rfl)
  d_law_ends_right:=aav X G h32 (bnd2 rfl fun _ _ _ _ _ _ _ _=>rfl)
  d_law_parting_right:=aav X G h33 (bnd1 rfl fun _ _ _ _ _ _ _=>rfl)
  d_law:=aav X G h34 (bnd1 rfl fun _ _ _ _ _ _ _=>rfl)
theorem walk {l:PySem.W.OpenLaw} {q:Program} {loose:List Str} {XP:(Str->Option Value)->Heap->Prop} {YP:World->Heap->Prop} {d:DefRec} {K:Params->Frag} (hn:l.most=some 63) (hdf:d.params.defaults=[]) (hnm:d.name = "law")
  (hY:∀ (w:World) (h:Heap),YP w h->(K w.params).In h)
  (F:∀ (w:World) (mg:Str->Option Value) (h:Heap),(K w.params).In h->h.Ns mainGlobals mg->Txt (K w.params) mg) :
  PySem.W.WalkO q loose XP YP l.row.toRowW d [] (fun f vs=>PySem.call f vs):=by
 refine L2.walk_of (n:=63) (k:=12) (x:="script") (CX:=fun _=>CX0) (sp:=fun w=>aps (K w.params)) hn (by decide) hdf ⟨rfl,by decide,by decide⟩ hY (fun w mg fa h X G e=>?_) (fun _ _ a ns hl _ hS=>⟨a,ns,rfl,hS,hl,fun _=>rfl⟩) fun _ _ _ _ _ z=>z
 have T:=F w mg h X G
 rw [hnm] at e
 obtain ⟨f1,fd1,D⟩:=T.d_law
 have e1:=e.symm.trans D.mgx
 cases e1
 refine ⟨fd1,fun s u=>?_,fun base _ _=>?_⟩
 ·obtain ⟨oc,od,kV,doc,pm,an,cdv,ct,osl,rfl,lk,hcd⟩:=D.fn.ex
  exact .of_eq rfl
 ·exact azf T D
end G
theorem PySem.W.Fast.tw11306665309198450125 : True := trivial
theorem PySem.W.Fast.tw5469295911550984624 : True := trivial
theorem PySem.W.Fast.tw8826918011699153127 : True := trivial
theorem PySem.W.Fast.tw1720367716524727614 : True := trivial
theorem PySem.W.Fast.tw7475450754885976199 : True := trivial
theorem PySem.W.Fast.tw10299339502598318184 : True := trivial
theorem PySem.W.Fast.tw13721936580682481846 : True := trivial
theorem PySem.W.Fast.tw6524338421186924132 : True := trivial
theorem PySem.W.Fast.tw6844802042967273717 : True := trivial
theorem PySem.W.Fast.tw860435823402794010 : True := trivial
theorem PySem.W.Fast.tw4503078683884504618 : True := trivial
theorem PySem.W.Fast.tw11892588105246060037 : True := trivial
theorem PySem.W.Fast.tw16602583488957687383 : True := trivial
theorem PySem.W.Fast.tw17133550527259937079 : True := trivial
theorem PySem.W.Fast.tw8594397380739457760 : True := trivial
theorem PySem.W.Fast.tw17903776876162363649 : True := trivial
theorem PySem.W.Fast.tw1327595302976157514 : True := trivial
theorem PySem.W.Fast.tw16431937688929309287 : True := trivial
theorem PySem.W.Fast.tw10473763937072044680 : True := trivial
theorem PySem.W.Fast.tw4969948986709419726 : True := trivial
theorem PySem.W.Fast.tw9658355029529374884 : True := trivial
theorem PySem.W.Fast.tw16638774889058011815 : True := trivial
theorem PySem.W.Fast.tw11890069676170400324 : True := trivial
theorem PySem.W.Fast.tw17369488101987263798 : True := trivial
theorem PySem.W.Fast.tw17485323432152963477 : True := trivial
theorem PySem.W.Fast.tw12197895742709933115 : True := trivial
theorem PySem.W.Fast.tw1997666949297776906 : True := trivial
theorem PySem.W.Fast.tw11101867651825544405 : True := trivial
theorem PySem.W.Fast.tw18332789528208834801 : True := trivial
theorem PySem.W.Fast.tw5313317149926350723 : True := trivial
theorem PySem.W.Fast.tw9613944741320787259 : True := trivial
theorem PySem.W.Fast.tw1182175446877879968 : True := trivial
theorem PySem.W.Fast.tw11572536871602051699 : True := trivial
theorem PySem.W.Fast.tw12140483624611417758 : True := trivial
theorem PySem.W.Fast.tw2371979644130949183 : True := trivial
theorem PySem.W.Fast.tw18220757616397251327 : True := trivial
theorem PySem.W.Fast.tw9845322503569334869 : True := trivial
theorem PySem.W.Fast.tw8340945992016367452 : True := trivial
theorem PySem.W.Fast.tw11676581530332042497 : True := trivial
theorem PySem.W.Fast.tw13178995327716758676 : True := trivial
theorem PySem.W.Fast.tw5876324373900938024 : True := trivial
theorem PySem.W.Fast.tw16191316322466724959 : True := trivial
theorem PySem.W.Fast.tw10605119403978318491 : True := trivial
theorem PySem.W.Fast.tw17383813398810165232 : True := trivial
theorem PySem.W.Fast.tw1322958324775440196 : True := trivial
theorem PySem.W.Fast.tw3055206713955641919 : True := trivial
theorem PySem.W.Fast.tw16408324432365290733 : True := trivial
theorem PySem.W.Fast.tw18241058689676872470 : True := trivial
theorem PySem.W.Fast.tw8823813090871968155 : True := trivial
theorem PySem.W.Fast.tw9722596106709651278 : True := trivial
theorem PySem.W.Fast.tw13590666349766142152 : True := trivial
theorem PySem.W.Fast.tw4097019121849351930 : True := trivial
theorem PySem.W.Fast.tw2880418650984344846 : True := trivial
theorem PySem.W.Fast.tw4419710006422595092 : True := trivial
theorem PySem.W.Fast.tw16138491570914239944 : True := trivial
theorem PySem.W.Fast.tw15325741875626746791 : True := trivial
theorem PySem.W.Fast.tw9114763608551400139 : True := trivial
theorem PySem.W.Fast.tw8522267642602555887 : True := trivial
theorem PySem.W.Fast.tw9797002794961253218 : True := trivial
theorem PySem.W.Fast.tw10534117389079888082 : True := trivial
theorem PySem.W.Fast.tw9039580456506061490 : True := trivial
theorem PySem.W.Fast.tw15426057136334686134 : True := trivial
theorem PySem.W.Fast.tw10041806433722923597 : True := trivial
theorem PySem.W.Fast.tw834879317598039739 : True := trivial
theorem PySem.W.Fast.tw16722812021609576302 : True := trivial
theorem PySem.W.Fast.tw12879774769049049404 : True := trivial
theorem PySem.W.Fast.tw18282467056633840964 : True := trivial
theorem PySem.W.Fast.tw5068776205062758879 : True := trivial
theorem PySem.W.Fast.tw11196589450687821337 : True := trivial
theorem PySem.W.Fast.tw7222754474578804687 : True := trivial
theorem PySem.W.Fast.tw12658734311235064760 : True := trivial
theorem PySem.W.Fast.tw8104543961236489819 : True := trivial
theorem PySem.W.Fast.tw4530632703138690448 : True := trivial
theorem PySem.W.Fast.tw1843277580526082272 : True := trivial
theorem PySem.W.Fast.tw11906702437049606550 : True := trivial
theorem PySem.W.Fast.tw2309125684483640431 : True := trivial
theorem PySem.W.Fast.tw4976215371161626637 : True := trivial
theorem PySem.W.Fast.tw911554382407041284 : True := trivial
theorem PySem.W.Fast.tw7198483410438800092 : True := trivial
theorem PySem.W.Fast.tw3200990644515340165 : True := trivial
theorem PySem.W.Fast.tw15626603817699892868 : True := trivial
theorem PySem.W.Fast.tw12727118664856291835 : True := trivial
theorem PySem.W.Fast.tw11890493641295134364 : True := trivial
theorem PySem.W.Fast.tw3875269783547405196 : True := trivial
theorem PySem.W.Fast.tw12241678851675345399 : True := trivial
theorem PySem.W.Fast.tw8925783656277474301 : True := trivial
theorem PySem.W.Fast.tw7149140715159315043 : True := trivial
theorem PySem.W.Fast.tw2835856301977793289 : True := trivial
theorem PySem.W.Fast.tw2826676017093232466 : True := trivial
theorem PySem.W.Fast.tw71729826612050498 : True := trivial
theorem PySem.W.Fast.tw18144953135544794622 : True := trivial
theorem PySem.W.Fast.tw3632136851609340648 : True := trivial
theorem PySem.W.Fast.tw2528582272681404363 : True := trivial
theorem PySem.W.Fast.tw14624067472644397053 : True := trivial
theorem PySem.W.Fast.tw14284208883611314287 : True := trivial
theorem PySem.W.Fast.tw6425296607771758439 : True := trivial
theorem PySem.W.Fast.tw16327195977008293403 : True := trivial
theorem PySem.W.Fast.tw9674014927460693343 : True := trivial
theorem PySem.W.Fast.tw10727443063219245120 : True := trivial
theorem PySem.W.Fast.tw2355704267517510145 : True := trivial
theorem PySem.W.Fast.tw11874347096539084617 : True := trivial
theorem PySem.W.Fast.tw18179277393168825900 : True := trivial
theorem PySem.W.Fast.tw13562420806970824975 : True := trivial
theorem PySem.W.Fast.tw14237927308836801979 : True := trivial
theorem PySem.W.Fast.tw5439731481345169677 : True := trivial
theorem PySem.W.Fast.tw14481339188837493124 : True := trivial
theorem PySem.W.Fast.tw12993376510509398870 : True := trivial
theorem PySem.W.Fast.tw3877821688255279373 : True := trivial
theorem PySem.W.Fast.tw9902028723368456340 : True := trivial
theorem PySem.W.Fast.tw2572760905411917692 : True := trivial
theorem PySem.W.Fast.tw2580952512039450367 : True := trivial
theorem PySem.W.Fast.tw4312663837185743557 : True := trivial
theorem PySem.W.Fast.tw18140177504431303578 : True := trivial
theorem PySem.W.Fast.tw3145805833298333983 : True := trivial
theorem PySem.W.Fast.tw9704957761163204914 : True := trivial
theorem PySem.W.Fast.tw7168383384115138485 : True := trivial
theorem PySem.W.Fast.tw11922552522403967804 : True := trivial
theorem PySem.W.Fast.tw13619501140064190790 : True := trivial
theorem PySem.W.Fast.tw5420822147759960508 : True := trivial
theorem PySem.W.Fast.tw10071777336756088652 : True := trivial
theorem PySem.W.Fast.tw4487756446499005422 : True := trivial
theorem PySem.W.Fast.tw5147672276293521044 : True := trivial
theorem PySem.W.Fast.tw12213530118307482537 : True := trivial
theorem PySem.W.Fast.tw6242302420527787231 : True := trivial
theorem PySem.W.Fast.tw850697852791540961 : True := trivial
theorem PySem.W.Fast.tw10809607924209961991 : True := trivial
theorem PySem.W.Fast.tw4370967887663643655 : True := trivial
theorem PySem.W.Fast.tw696513643541031731 : True := trivial
theorem PySem.W.Fast.tw3016485109713066328 : True := trivial
theorem PySem.W.Fast.tw2366642879780245983 : True := trivial
theorem PySem.W.Fast.tw13997833980346741776 : True := trivial
theorem PySem.W.Fast.tw499366478181835967 : True := trivial
theorem PySem.W.Fast.tw2083558334078811123 : True := trivial
theorem PySem.W.Fast.tw8805941923155729624 : True := trivial
theorem PySem.W.Fast.tw16630384510297311375 : True := trivial
theorem PySem.W.Fast.tw8740929228886449921 : True := trivial
theorem PySem.W.Fast.tw3469571669493412683 : True := trivial
theorem PySem.W.Fast.tw6512408835958613738 : True := trivial
theorem PySem.W.Fast.tw7653392860710535131 : True := trivial
theorem PySem.W.Fast.tw13988378344583082990 : True := trivial
theorem PySem.W.Fast.tw2104250741102128264 : True := trivial
theorem PySem.W.Fast.tw1253036578247483946 : True := trivial
theorem PySem.W.Fast.tw9679482142228151937 : True := trivial
theorem PySem.W.Fast.tw9654541890142254571 : True := trivial
theorem PySem.W.Fast.tw6578778561891155691 : True := trivial
theorem PySem.W.Fast.tw9833359994948627727 : True := trivial
theorem PySem.W.Fast.tw15602219316713779810 : True := trivial
theorem PySem.W.Fast.tw4912883036491561889 : True := trivial
theorem PySem.W.Fast.tw12841509513835706781 : True := trivial
theorem PySem.W.Fast.tw10305868884375006707 : True := trivial
theorem PySem.W.Fast.tw13541176248378595393 : True := trivial
theorem PySem.W.Fast.tw6277518707983893645 : True := trivial
theorem PySem.W.Fast.tw8440338853633876033 : True := trivial
theorem PySem.W.Fast.tw9142278356696180285 : True := trivial
theorem PySem.W.Fast.tw802728391259321865 : True := trivial
theorem PySem.W.Fast.tw12839973049988928568 : True := trivial
theorem PySem.W.Fast.tw11554843047698614226 : True := trivial
theorem PySem.W.Fast.tw2025161591274448091 : True := trivial
theorem PySem.W.Fast.tw17230440189613197963 : True := trivial
theorem PySem.W.Fast.tw9353660480171570660 : True := trivial
theorem PySem.W.Fast.tw14911448014673917988 : True := trivial
theorem PySem.W.Fast.tw12338805594953055543 : True := trivial
theorem PySem.W.Fast.tw15336303869140537149 : True := trivial
theorem PySem.W.Fast.tw18331464609468225579 : True := trivial
open PySem PySem.W PyProof.Rows
set_option maxRecDepth 100000 in
set_option maxHeartbeats 0 in
theorem PySem.Challenge.cw_fewties_k40_whole_ways_and_middles_holds : PySem.Challenge.rw_fewties_k40_whole_ways_and_middles.Holds := by
 w_on;o_law;k_head;(case hw=>w_witness2)
 k_fill
 refine G.walk (l:=PySem.Challenge.rw_fewties_k40_whole_ways_and_middles) rfl rfl rfl (fun w h Y=>PySem.W.kIn_of Y) ?F
 case F =>
  intro w mg h KX GG
  refine' G.txt_mk KX GG ..
  all_goals try (refine' G.fn_in ?a_ ?l_ ?c_ ?k_;(case a_=>k_is);(case l_=>k_is);(case c_=>k_is);(case k_=>k_is))
  all_goals try k_is
#print axioms PySem.Challenge.cw_fewties_k40_whole_ways_and_middles_holds
