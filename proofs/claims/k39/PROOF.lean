import PyProof.Rows.All
import Wide.All
import OpenK.AllK
import Wide.FinOn
import PyProof.EqAt
import PyProof.EqKinds
import PyProof.TupleCall
import PyProof.Rows.SortRuns
import PyProof.NeData
import PyProof.P3In
import PyProof.WalkInts
import PyProof.Rows.SortWalk
import PyProof.SumWalkG
import PyProof.Rows.CallKwBuiltin
import KE.KDictList
import PyProof.WalksEnum
import PyProof.ZipIter
import PyProof.ConsumeWalk
import PyProof.ListRange
import PyProof.TupleOfSeq
import PyProof.Rows.RuleN_abs
import KE.KDictOf
import PyProof.AttrMissHeap
import PyProof.Rows.SetFrom
import KE.KDictLaws
import PySem.Challenge.RW_fewties_k39_where_trees_are_parted
set_option Elab.async false
set_option linter.all false
set_option compiler.extract_closed false
set_option maxRecDepth 100000
set_option maxHeartbeats 4000000
local macro_rules | `(tactic| row_cond lo) => `(tactic| first | lia | omega)
namespace L2
open PySem PySem.Spec PyProof.Rows
noncomputable abbrev Key:=Sum Int Str
noncomputable def ae7:Key->Value->Bool
 | .inl k,v=>Value.isInt k v
 | .inr x,v=>Value.isStrOf x v
noncomputable def keyH (w:World):Key->Int
 | .inl k=>hashInt k
 | .inr x=>hashStr w x
theorem aba:∀ {k:Key} {v:Value},ae7 k v=true->(∃ i t,k=Sum.inl i/\v=Value.int i t)\/(∃ x t,k=Sum.inr x/\v=Value.str x t)
 | .inl i,v,h=>by
  obtain ⟨t,e⟩:=Value.isInt_shape (k:=i) (v:=v) h
  exact .inl ⟨i,t,rfl,e⟩
 | .inr x,v,h=>by
  obtain ⟨t,e⟩:=Value.isStrOf_shape (x:=x) (v:=v) h
  exact .inr ⟨x,t,rfl,e⟩
theorem aor (i:Int) (t:Tok):ae7 (.inl i) (.int i t)=true:=by simp [ae7,Value.isInt]
theorem aos (x:Str) (t:Tok):ae7 (.inr x) (.str x t)=true:=by simp [ae7,Value.isStrOf]
theorem awd (a b:Int):decide ((Sum.inl a:Key)=Sum.inl b)=(a == b):=by
 by_cases e:a=b
 ·subst e;simp
 ·have h:¬ (Sum.inl a:Key)=Sum.inl b:=fun q=>e (Sum.inl.inj q)
  rw [decide_eq_false h]
  exact (beq_eq_false_iff_ne.mpr e).symm
theorem awe (a b:Str):decide ((Sum.inr a:Key)=Sum.inr b)=decide (a=b):=by
 by_cases e:a=b
 ·subst e;simp
 ·have h:¬ (Sum.inr a:Key)=Sum.inr b:=fun q=>e (Sum.inr.inj q)
  rw [decide_eq_false h,decide_eq_false e]
theorem awf (a:Int) (b:Str):decide ((Sum.inl a:Key)=Sum.inr b)=false:=decide_eq_false (fun q=>nomatch q)
theorem awg (a:Str) (b:Int):decide ((Sum.inr a:Key)=Sum.inl b)=false:=decide_eq_false (fun q=>nomatch q)
noncomputable def aa9 (prog:Program) (w:World):PySem.KeyKind prog w Key where
 is:=ae7
 hash:=keyH w
 inj:=fun v a b ha hb=>by
  rcases aba ha with ⟨i,t,rfl,rfl⟩ | ⟨x,t,rfl,rfl⟩
  ·rcases aba hb with ⟨j,u,rfl,e⟩ | ⟨y,u,rfl,e⟩
   ·injection e with e1 _;rw [e1]
   ·exact nomatch e
  ·rcases aba hb with ⟨j,u,rfl,e⟩ | ⟨y,u,rfl,e⟩
   ·exact nomatch e
   ·injection e with e1 _;rw [e1]
 byValue:=fun k v h=>by
  rcases aba h with ⟨i,t,rfl,rfl⟩ | ⟨x,t,rfl,rfl⟩ <;> rfl
 pyHash:=fun hv h=>by
  rcases aba hv with ⟨i,t,rfl,rfl⟩ | ⟨x,t,rfl,rfl⟩
  ·exact wpAny_pyHash_int h
  ·exact wpAny_pyHash_str h
 eqBool:=fun hu hv h=>by
  rcases aba hu with ⟨i,t,rfl,rfl⟩ | ⟨x,t,rfl,rfl⟩
  ·rcases aba hv with ⟨j,u,rfl,rfl⟩ | ⟨y,u,rfl,rfl⟩
   ·rw [awd] at h;exact wpAny_eqBool_int h
   ·rw [awf] at h;exact SeqAt.EqAt.int_str i t y u _ _ _ _ h
  ·rcases aba hv with ⟨j,u,rfl,rfl⟩ | ⟨y,u,rfl,rfl⟩
   ·rw [awg] at h;exact SeqAt.EqAt.str_int x t j u _ _ _ _ h
   ·rw [awe] at h;exact wpAny_eqBool_str h
 «strs»:=fun k x t v h=>by
  rcases aba h with ⟨i,u,rfl,e⟩ | ⟨y,u,rfl,e⟩
  ·exact nomatch e
  ·injection e with e1 _
   subst e1
   cases v <;> rfl
theorem alb (prog:Program) (w:World) (i:Int) (t:Tok):(aa9 prog w).is (.inl i) (.int i t)=true:=aor i t
theorem alc (prog:Program) (w:World) (x:Str) (t:Tok):(aa9 prog w).is (.inr x) (.str x t)=true:=aos x t
end L2
namespace L2
open PySem PySem.Spec PyProof.Rows
inductive V where
 | non | bl (b:Bool) | int (i:Int) | str (x:Str) | byt (b:Array UInt8) | flt (b:UInt64) | ref (a:Addr) | ty (n:String)
 deriving DecidableEq
noncomputable def RelV:V->Value->Prop
 | .non,u=>u=Value.none
 | .bl b,u=>u=Value.bool b
 | .int i,u=>∃ t,u=Value.int i t
 | .str x,u=>∃ t,u=Value.str x t
 | .byt b,u=>∃ t,u=Value.bytes b t
 | .flt b,u=>∃ t,u=Value.float b t
 | .ref a,u=>u=Value.ref a
 | .ty n,u=>u=Value.type n
abbrev Vals:List V->List Value->Prop:=Paired RelV
theorem Vals.length {xs:List V} {us:List Value} (r:Vals xs us):xs.length=us.length:=Paired.length r
theorem Vals.get:∀ {xs:List V} {us:List Value} {i:Nat} {x:V},Vals xs us->xs[i]?=some x->∃ u,us[i]?=some u/\RelV x u
 | _,_,_,_,.nil,e=>by simp at e
 | _,_,0,_,.cons r _,e=>by simp at e;subst e;exact ⟨_,rfl,r⟩
 | _,_,i+1,x,.cons _ t,e=>by
  obtain ⟨u,h1,h2⟩:=Vals.get (i:=i) (x:=x) t (by simpa using e)
  exact ⟨u,by simpa using h1,h2⟩
theorem Vals.set {x:V} {u:Value} (r:RelV x u):∀ {xs:List V} {us:List Value} (i:Nat),Vals xs us->Vals (xs.set i x) (us.set i u)
 | _,_,_,.nil => .nil
 | _,_,0,.cons _ t => .cons r t
 | _,_,i+1,.cons q t => .cons q (Vals.set r i t)
theorem Vals.append:∀ {xs ys:List V} {us ws:List Value},Vals xs us->Vals ys ws->Vals (xs ++ ys) (us ++ ws)
 | _,_,_,_,.nil,s=>s
 | _,_,_,_,.cons r t,s => .cons r (Vals.append t s)
theorem Vals.take:∀ {xs:List V} {us:List Value} (n:Nat),Vals xs us->Vals (xs.take n) (us.take n)
 | _,_,0,_ => .nil
 | _,_,_+1,.nil => .nil
 | _,_,n+1,.cons r t => .cons r (Vals.take n t)
theorem Vals.drop:∀ {xs:List V} {us:List Value} (n:Nat),Vals xs us->Vals (xs.drop n) (us.drop n)
 | _,_,0,r=>r
 | _,_,_+1,.nil => .nil
 | _,_,n+1,.cons _ t=>Vals.drop n t
noncomputable def RelO:Option V->Option Value->Prop
 | some v,some u=>RelV v u
 | none,none=>True
 | _,_=>False
def KV {κ:Type}:List (κ × V)->List (κ × Value)->Prop:=Paired fun (p : κ × V) (q : κ × Value)=>p.1=q.1/\RelV p.2 q.2
noncomputable def kV:Key->V
 | .inl i => .int i
 | .inr x => .str x
inductive HO where
 /-- a list -/
 | lst (xs:List V)
 /-- a tuple (never changes) -/
 | tup (xs:List V)
 /-- a dict whose keys are ints and texts; one whose keys are tuples of ints and texts (the empty one is both) -/
 | dK (kvs:List (Key × V)) | dT (kvs:List (List Key × V))
 /-- a set of ints: its members, its size -/
 | set (S:Int->Bool) (n:Nat)
 /-- an instance of the class at C, its dict at dx, its attributes -/
 | ins (C dx:Addr) (fs:List (Str × V))
 /-- the dict of the instance at x -/
 | own (x:Addr)
 /-- the dict of an exception -/
 | xd (fs:List (Str × V))
 /-- a bound method, f of x -/
 | met (f x:Addr)
 /-- a range object lo, lo + 1, .. below hi -/
 | rng (lo hi:Int)
 /-- a thing that is known to the object (the script; a dict while a loop walks it): read, never written while it is so -/
 | frz (o:Obj) (u:HO)
 /-- a code object's table -/
 | tbl (ps:Array Value)
 /-- any other thing, by what is true of its one object (a def of one's own: SetO a S n:=HO.ext fun h => ..) -/
 | ext (φ:Heap->Prop)
noncomputable abbrev Hp:=Addr->Option HO
noncomputable def upd (H:Hp) (a:Addr) (o:HO):Hp:=fun b=>if b=a then some o else H b
theorem aag {H:Hp} {a:Addr} {o:HO}:upd H a o a=some o:=by unfold upd;rw [if_pos rfl]
theorem aac {H:Hp} {a b:Addr} {o:HO} (h:b ≠ a):upd H a o b=H b:=by unfold upd;rw [if_neg h]
theorem aak {H:Hp} {a b:Addr} {o:HO} (h:H a=some o) (h':H b=none):a ≠ b:=by
 intro e;subst e;rw [h] at h';cases h'
section
variable (P:Program) (w:World)
noncomputable def ObjOk (H:Hp) (h:Heap) (a:Addr):HO->Prop
 | .lst xs=>xs.length<=sizeLine/\∃ (its:List Value) (n:Nat),Vals xs its/\h.get? a=some { cls:=.type "list",data:=.seq its.toArray n }
 | .tup xs=>xs.length<=sizeLine/\∃ its:List Value,Vals xs its/\IsTup h a its.toArray
 | .dK kvs=>kvs.length<=sizeLine/\(a == sysModules)=false/\∃ vs,KV kvs vs/\h.DictOf (aa9 P w) a vs
 | .dT kvs=>kvs.length<=sizeLine/\(a == sysModules)=false/\∃ xs:List (List Key × Addr × Value),
   Paired (fun (p:List Key × V) (q:List Key × Addr × Value)=>p.1=q.1/\H q.2.1=some (.tup (p.1.map kV))/\RelV p.2 q.2.2) kvs xs /\
   ∃ o es ep,h.get? a=some o/\o.ExactDict/\o.data=.dict es ep/\es.toList=xs.map (entryOfKey (tupleKind (aa9 P w)))/\(xs.map (·.1)).Nodup
 | .set S n=>h.SetOf (intKind P w) a S n
 | .ins C dx fs=>H dx=some (.own a)/\fs.length<=1000/\dx ≠ a/\h.get? a=some (PySem.W.instObj C dx) /\
   ∃ mA,h.Ns1 dx mA/\(∀ f,RelO (fs.lookup f) (mA f))/\PySem.Within mA (fs.map (·.1))
 | .own _=>∃ o,h.get? a=some o
 | .xd fs=>∃ mA,h.Ns1 a mA/\∀ f,RelO (fs.lookup f) (mA f)
 | .rng lo hi=>∃ t u v,h.get? a=some { cls:=.type "range",data:=.fields #[.int lo t,.int hi u,.int 1 v] }
 | .frz o u=>h.get? a=some o/\ObjOk H h a u
 | .tbl ps=>h.get? a=some { cls:=.none,data:=.fields ps }
 | .met f x=>h.get? a=some (PySem.W.methodObj (.ref f) (.ref x))
 | .ext φ => φ h/\(∃ o,h.get? a=some o)/\∀ h1 h2:Heap,φ h1->(∀ o,h1.get? a=some o->h2.get? a=some o)->φ h2
def HOk (H:Hp) (h:Heap):Prop:=∀ a o,H a=some o->ObjOk P w H h a o
end
section
variable {P:Program} {w:World} {H H':Hp} {h h':Heap} {a:Addr} {o:HO}
theorem ObjOk.lt (x:ObjOk P w H h a o):a < h.objs.size:=by
 cases o with
 | lst xs=>obtain ⟨_,_,_,_,e⟩:=x;exact Heap.lt_size e
 | tup xs=>obtain ⟨_,_,_,p⟩:=x;exact p.lt
 | dK kvs=>obtain ⟨_,_,_,_,o,_,_,e,_⟩:=x;exact Heap.lt_size e
 | dT kvs=>obtain ⟨_,_,_,_,o,_,_,e,_⟩:=x;exact Heap.lt_size e
 | set S n=>obtain ⟨o,_,_,_,e,_⟩:=x;exact Heap.lt_size e
 | ins C dx fs=>obtain ⟨_,_,_,e,_⟩:=x;exact Heap.lt_size e
 | own y=>obtain ⟨_,e⟩:=x;exact Heap.lt_size e
 | xd fs=>obtain ⟨_,⟨_,_,_,e,_⟩,_⟩:=x;exact Heap.lt_size e
 | rng lo hi=>obtain ⟨_,_,_,e⟩:=x;exact Heap.lt_size e
 | frz ob u=>obtain ⟨e,_⟩:=x;exact Heap.lt_size e
 | tbl ps=>exact Heap.lt_size (show h.get? a=some _ from x)
 | met f y=>exact Heap.lt_size (show h.get? a=some _ from x)
 | ext φ=>obtain ⟨_,⟨_,e⟩,_⟩:=x;exact Heap.lt_size e
theorem Paired.mapP {α β:Type} {F G : α->β->Prop}:∀ {l₁:List α} {l₂:List β},Paired F l₁ l₂->(∀ a b,F a b->G a b)->Paired G l₁ l₂
 | _,_,.nil,_ => .nil
 | _,_,.cons r t,f => .cons (f _ _ r) (Paired.mapP t f)
theorem ObjOk.stay (x:ObjOk P w H h a o) (k:∀ b u,(b=a\/H b=some (.own a))->h.get? b=some u->h'.get? b=some u)
  (ho:∀ b,H b=some (.own a)->H' b=some (.own a)) (ht:∀ b xs,H b=some (.tup xs)->H' b=some (.tup xs)):ObjOk P w H' h' a o:=by
 induction o with
 | lst xs=>obtain ⟨z,its,n,r,e⟩:=x;exact ⟨z,its,n,r,k _ _ (.inl rfl) e⟩
 | tup xs=>obtain ⟨z,its,r,ob,e,c⟩:=x;exact ⟨z,its,r,ob,k _ _ (.inl rfl) e,c⟩
 | dK kvs=>obtain ⟨z,y,vs,r,ob,es,ep,e,c⟩:=x;exact ⟨z,y,vs,r,ob,es,ep,k _ _ (.inl rfl) e,c⟩
 | dT kvs =>
  obtain ⟨z,y,xs,r,ob,es,ep,e,c⟩:=x
  exact ⟨z,y,xs,Paired.mapP r fun p q z=>⟨z.1,ht _ _ z.2.1,z.2.2⟩,ob,es,ep,k _ _ (.inl rfl) e,c⟩
 | set S n=>obtain ⟨ob,es,ep,t,e,c⟩:=x;exact ⟨ob,es,ep,t,k _ _ (.inl rfl) e,c⟩
 | ins C dx fs =>
  obtain ⟨d,z,ne,e,mA,⟨od,es,ep,e2,c⟩,r⟩:=x
  exact ⟨ho _ d,z,ne,k _ _ (.inl rfl) e,mA,⟨od,es,ep,k _ _ (.inr d) e2,c⟩,r⟩
 | own y=>obtain ⟨ob,e⟩:=x;exact ⟨ob,k _ _ (.inl rfl) e⟩
 | xd fs=>obtain ⟨mA,⟨od,es,ep,e,c⟩,r⟩:=x;exact ⟨mA,⟨od,es,ep,k _ _ (.inl rfl) e,c⟩,r⟩
 | rng lo hi=>obtain ⟨t,u,v,e⟩:=x;exact ⟨t,u,v,k _ _ (.inl rfl) e⟩
 | frz ob u ih=>obtain ⟨e,q⟩:=x;exact ⟨k _ _ (.inl rfl) e,ih q⟩
 | tbl ps =>
  have e:h.get? a=some { cls:=.none,data:=.fields ps }:=x
  show h'.get? a=some { cls:=.none,data:=.fields ps }
  exact k a _ (.inl rfl) e
 | met f y =>
  have e:h.get? a=some (PySem.W.methodObj (.ref f) (.ref y)):=x
  show h'.get? a=some (PySem.W.methodObj (.ref f) (.ref y))
  exact k a _ (.inl rfl) e
 | ext φ=>obtain ⟨p,⟨o,e⟩,st⟩:=x;exact ⟨st _ _ p fun o q=>k _ _ (.inl rfl) q,⟨o,k _ _ (.inl rfl) e⟩,st⟩
theorem HOk.lt (x:HOk P w H h) (e:H a=some o):a < h.objs.size:=(x a o e).lt
theorem HOk.fresh (x:HOk P w H h) (e:h.objs.size<=a):H a=none:=by
 cases q:H a with
 | none=>rfl
 | some u=>exact absurd (Nat.lt_of_lt_of_le (x.lt q) e) (Nat.lt_irrefl _)
theorem HOk.kept (x:HOk P w H h) (k:∀ b u,h.get? b=some u->h'.get? b=some u):HOk P w H h':=fun a o e =>
 (x a o e).stay (fun b u _ q=>k b u q) (fun _ q=>q) fun _ _ q=>q
theorem HOk.laid (x:HOk P w H h) (k:∀ b u,h.get? b=some u->h'.get? b=some u) (hp:h.objs.size<=a) (new:ObjOk P w (upd H a o) h' a o):HOk P w (upd H a o) h':=fun b u e=>by
 have hn:=x.fresh hp
 by_cases hb:b=a
 ·subst hb;rw [aag] at e;cases e;exact new
 ·rw [aac hb] at e
  exact (x b u e).stay (fun c v _ q=>k c v q) (fun c q=>by rw [aac (aak q hn)];exact q) fun c xs q=>by rw [aac (aak q hn)];exact q
end
def Rd (H:Hp) (a:Addr) (u:HO):Prop:=H a=some u\/∃ o,H a=some (.frz o u)
theorem Rd.of {H:Hp} {a:Addr} {u:HO} (h:H a=some u):Rd H a u:=.inl h
theorem Rd.ok {P:Program} {w:World} {H:Hp} {h:Heap} {a:Addr} {u:HO} (r:Rd H a u) (x:HOk P w H h):ObjOk P w H h a u:=by
 rcases r with r | ⟨o,r⟩
 ·exact x a u r
 ·obtain ⟨_,q⟩:=x a _ r
  exact q
noncomputable def Mut:Option HO->Prop
 | some (.lst _)=>True
 | some (.dK _)=>True
 | some (.dT _)=>True
 | some (.set _ _)=>True
 | some (.ins _ _ _)=>True
 | some (.ext _)=>True
 | _=>False
section
variable {P:Program} {w:World} {H:Hp} {h h':Heap} {x e:Addr} {o':HO}
theorem HOk.write (ok:HOk P w H h) (mu:Mut (H x)) (he:e=x\/H e=some (.own x)) (k:∀ b u,b ≠ e->h.get? b=some u->h'.get? b=some u) (heo:∃ u,h'.get? e=some u)
  (new:ObjOk P w (upd H x o') h' x o'):HOk P w (upd H x o') h':=fun b u q=>by
 have nown:∀ c y,H c=some (.own y)->c ≠ x:=fun c y r z=>by subst z;rw [r] at mu;exact mu
 have ntup:∀ c xs,H c=some (.tup xs)->c ≠ x:=fun c xs r z=>by subst z;rw [r] at mu;exact mu
 by_cases hb:b=x
 ·subst hb;rw [aag] at q;cases q;exact new
 ·rw [aac hb] at q
  by_cases hbe:b=e
  ·have q':H b=some (.own x):=by
    rcases he with z | z
    ·exact absurd (hbe.trans z) hb
    ·rw [hbe];exact z
   rw [q] at q';cases q'
   obtain ⟨v,hv⟩:=heo
   exact ⟨v,by rw [hbe];exact hv⟩
  ·refine (ok b u q).stay (fun c v hc r=>k c v ?_ r) (fun c r=>by rw [aac (nown c b r)];exact r) fun c xs r=>by rw [aac (ntup c xs r)];exact r
   rcases hc with rfl | hc
   ·exact hbe
   ·rintro rfl
    rcases he with z | z
    ·exact nown c b hc z
    ·rw [hc] at z;cases z;exact hb rfl
end
structure Un (fs ex:List Addr) (H H':Hp) (h h':Heap):Prop where
 keep:∀ b o,h.get? b=some o->H b=none->b ∉ fs->b ∉ ex->h'.get? b=some o
 slot:∀ b o,h.get? b=some o->H b=none->b∈fs->b ∉ ex->∃ sl,h'.get? b=some { o with slots:=sl }
 free:∀ b o,h.get? b=some o->H b=none->b ∉ ex->H' b=none
 there:∀ b o,h.get? b=some o->b ∉ ex->∃ o',h'.get? b=some o'
 tups:∀ b xs,H b=some (.tup xs)->H' b=some (.tup xs)
 frzs:∀ b o u,H b=some (.frz o u)->H' b=some (.frz o u)
 tbls:∀ b ps,H b=some (.tbl ps)->∃ more,H' b=some (.tbl (ps ++ more))
section
variable {fs fs' ex ex':List Addr} {H H1 H2:Hp} {h h1 h2 h':Heap} {a x e:Addr} {o:HO}
theorem Un.any (u:Un fs ex H H1 h h1) {b:Addr} {ob:Obj} (q:h.get? b=some ob) (n:H b=none) (hx:b ∉ ex):∃ sl,h1.get? b=some { ob with slots:=sl }:=by
 by_cases hb:b∈fs
 ·exact u.slot b ob q n hb hx
 ·exact ⟨ob.slots,u.keep b ob q n hb hx⟩
theorem Un.trans (a:Un fs ex H H1 h h1) (b:Un fs ex H1 H2 h1 h2):Un fs ex H H2 h h2 where
 keep:=fun c ob q n hc hx=>b.keep c ob (a.keep c ob q n hc hx) (a.free c ob q n hx) hc hx
 slot:=fun c ob q n hc hx=>by
  obtain ⟨sl,e1⟩:=a.slot c ob q n hc hx
  obtain ⟨sl',e2⟩:=b.slot c _ e1 (a.free c ob q n hx) hc hx
  exact ⟨sl',e2⟩
 free:=fun c ob q n hx=>by
  obtain ⟨o',e1⟩:=a.there c ob q hx
  exact b.free c o' e1 (a.free c ob q n hx) hx
 there:=fun c ob q hx=>by
  obtain ⟨o',e1⟩:=a.there c ob q hx
  exact b.there c o' e1 hx
 tups:=fun c xs q=>b.tups c xs (a.tups c xs q)
 frzs:=fun c ob xs q=>b.frzs c ob xs (a.frzs c ob xs q)
 tbls:=fun c ps q=>by
  obtain ⟨m1,e1⟩:=a.tbls c ps q
  obtain ⟨m2,e2⟩:=b.tbls c _ e1
  exact ⟨m1 ++ m2,by rw [e2,Array.append_assoc]⟩
theorem Un.kept (k:∀ b u,h.get? b=some u->h'.get? b=some u):Un fs ex H H h h' :=
 ⟨fun b ob q _ _ _=>k b ob q,fun b ob q _ _ _=>⟨ob.slots,k b ob q⟩,fun _ _ _ n _=>n,fun b ob q _=>⟨ob,k b ob q⟩,fun _ _ q=>q,fun _ _ _ q=>q,fun _ ps q=>⟨#[],by rw [q];simp⟩⟩
theorem Un.refl:Un fs ex H H h h:=Un.kept fun _ _ q=>q
theorem Un.laid (k:∀ b u,h.get? b=some u->h'.get? b=some u) (hp:h.objs.size<=a) (hn:H a=none):Un fs ex H (upd H a o) h h' where
 keep:=fun b u q _ _ _=>k b u q
 slot:=fun b u q _ _ _=>⟨u.slots,k b u q⟩
 free:=fun b u q n _=>by rw [aac (Nat.ne_of_lt (Nat.lt_of_lt_of_le (Heap.lt_size q) hp))];exact n
 there:=fun b u q _=>⟨u,k b u q⟩
 tups:=fun b xs q=>by rw [aac (aak q hn)];exact q
 frzs:=fun b u xs q=>by rw [aac (aak q hn)];exact q
 tbls:=fun b ps q=>⟨#[],by rw [aac (aak q hn),q];simp⟩
theorem Un.write (mu:Mut (H x)) (he:e=x\/H e=some (.own x)) (k:∀ b u,b ≠ e->h.get? b=some u->h'.get? b=some u) (heo:∃ u,h'.get? e=some u):Un fs ex H (upd H x o) h h':=by
 have hx:∀ b,H b=none->b ≠ x:=fun b n z=>by subst z;rw [n] at mu;exact mu
 have hb:∀ b,H b=none->b ≠ e:=fun b n z=>by
  subst z
  rcases he with r | r
  ·exact hx b n r
  ·rw [n] at r;cases r
 have hm:∀ b u,H b=some u->¬ Mut (some u)->b ≠ x:=fun b u q nm z=>by subst z;rw [q] at mu;exact nm mu
 refine ⟨fun b u q n _ _=>k b u (hb b n) q,fun b u q n _ _=>⟨u.slots,k b u (hb b n) q⟩,fun b u q n _=>by rw [aac (hx b n)];exact n,fun b u q _=>?_,
  fun b xs q=>by rw [aac (hm b _ q fun z=>z)];exact q,fun b u xs q=>by rw [aac (hm b _ q fun z=>z)];exact q,fun b ps q=>⟨#[],by rw [aac (hm b _ q fun z=>z),q];simp⟩⟩
 by_cases hbe:b=e
 ·subst hbe;exact heo
 ·exact ⟨u,k b u hbe q⟩
theorem Un.mono (u:Un fs ex H H1 h h1) (hs:∀ b∈fs,b∈fs') (hx:∀ b∈ex,b∈ex'):Un fs' ex' H H1 h h1 :=
 ⟨fun b ob q n hb he=>u.keep b ob q n (fun z=>hb (hs b z)) fun z=>he (hx b z),fun _ _ q n _ he=>u.any q n fun z=>he (hx _ z),fun b ob q n he=>u.free b ob q n fun z=>he (hx b z),fun b ob q he=>u.there b ob q fun z=>he (hx b z),u.tups,u.frzs,u.tbls⟩
end
noncomputable def trk (h:Heap) (H:Hp):List Addr:=(List.range h.objs.size).filter fun a=>(H a).isSome
noncomputable def hidT (h:Heap) (H:Hp):Heap:=PySem.W.hideAll h (trk h H)
theorem aot (h:Heap) (H:Hp):(hidT h H).objs.size=h.objs.size:=PySem.W.hideAll_size _ _
theorem aqv {h:Heap} {H:Hp} {b:Addr} {o:Obj} (e:h.get? b=some o) (n:H b=none):(hidT h H).get? b=some o :=
 PySem.W.hideAll_get _ e fun hm=>by
  have q:(H b).isSome=true:=(List.mem_filter.mp hm).2
  rw [n] at q;simp at q
theorem att {h:Heap} {H:Hp} {b:Addr} {o:Obj} (e:(hidT h H).get? b=some o):h.get? b=some o/\H b=none:=by
 have e':h.get? b=some o:=PySem.W.of_hideAll (trk h H) e
 refine ⟨e',?_⟩
 cases q:H b with
 | none=>rfl
 | some x =>
  have hm:b∈trk h H:=List.mem_filter.mpr ⟨List.mem_range.mpr (Heap.lt_size e'),by simp [q]⟩
  have z:(hidT h H).get? b=none:=PySem.W.hideAll_none (trk h H) hm
  rw [z] at e;cases e
noncomputable def atu (g h:Heap) (L:Addr):List (Addr × Obj):=(List.range h.objs.size).filterMap fun a=>if a=L\/(g.get? a).isSome=true then none else (h.get? a).map fun o=>(a,o)
noncomputable def rest (g h:Heap) (L d:Addr):List (Addr × Obj):=(atu g h L).filter fun p=>decide (p.1 ≠ d)
end L2
namespace L2
open PySem PySem.Spec PyProof.Rows
structure Mod (K:PySem.W.Frag) (mg:Str->Option Value) (base:Heap):Prop where
 kin:K.In base
 glob:base.Ns mainGlobals mg
 blt:∃ mb,base.Ns builtinsNs mb/\∀ x:Str,x ≠ "__name__"->mb x=bootBuiltins x
 nolimit:base.NoLimit
/-- the context: a def's body (or a comprehension's block) running. base: fixed through the whole law; s₀, H₀: the entry; outer: the frames whose slots others may change (a def's callers); stack: all frames that run;
  ex: iterators that were made ahead of the entry and are walked here (a comprehension's);fn: the names whose cells were made at the entry (a def: all;a comprehension's block: its own);calm: not within an except suite;pn: pins that every state bears;xe: what is wanted of an exception that leaves the code -/
structure Cx where
 prog:Program
 w:World
 K:PySem.W.Frag
 mg:Str->Option Value
 base:Heap
 A:Around
 N:List Str
 s₀:Shared
 H₀:Hp
 env:Env
 outer:List Env
 stack:List Env
 ex:List Addr
 fn:Str->Bool
 calm:Bool
 pn:List (Addr × Obj)
 xe:Value->Shared->Prop
noncomputable def frs (l:List Env):List Addr:=l.filterMap (·.frame)
noncomputable abbrev Cx.fs (X:Cx):List Addr:=frs X.outer
def Vis (sc:Scope) (x:Str):Prop:=sc.names.lookup x=some .local\/sc.names.lookup x=some .cell\/sc.names.lookup x=some .free
def Loc (sc:Scope) (x:Str):Prop:=sc.names.lookup x=some .local\/sc.names.lookup x=some .cell
def Look (env:Env) (h:Heap) (m:Str->Option Value) (x:Str) (u:Value):Prop :=
 (env.kindOf x=some .local/\m x=some u)\/((env.kindOf x=some .cell\/env.kindOf x=some .free)/\∃ c,env.cells.lookup x=some c/\h.IsCell c (some u))
structure Cx.Ok (X:Cx):Prop where
 mod:Mod X.K X.mg X.base
 kind:X.env.scope.kind=.function
 glob:X.env.globals=mainGlobals
 blt:X.env.builtins=builtinsNs
 above:X.s₀.heap.objs.size<=X.env.locals
 inj:∀ x y c,X.env.cells.lookup x=some c->X.env.cells.lookup y=some c->x=y
 has:∀ x,(X.env.kindOf x=some .cell\/X.env.kindOf x=some .free)->∃ c,X.env.cells.lookup x=some c
 cab:∀ x c,X.fn x=true->X.env.cells.lookup x=some c->X.s₀.heap.objs.size<=c
 hd:X.calm=true->X.A.handled=none
 frames:X.A.frames=some X.stack
 stk:X.stack=X.outer\/(X.stack=X.env :: X.outer/\X.env.frame=some X.env.locals)
 exf:∀ b∈X.ex,b ≠ X.env.locals/\∀ x c,X.env.cells.lookup x=some c->c ≠ b
 bs:∀ b o,X.base.get? b=some o->X.s₀.heap.get? b=some o/\X.H₀ b=none
 bsz:X.base.objs.size<=X.s₀.heap.objs.size
 noex:∀ b o,X.base.get? b=some o->b ∉ X.ex
 exfs:∀ b∈X.ex,b ∉ X.fs
 funs:X.s₀.heap.FunFrames X.base X.outer
 frf:∀ b∈X.fs,X.H₀ b=none
structure Inv (X:Cx) (pins:List (Addr × Obj)) (σ:List (Option V)) (H:Hp) (s:Shared):Prop where
 ok:X.Ok
 os:s.os=X.s₀.os
 bare:AllBare s.gens
 base:Un X.fs X.ex X.H₀ H X.s₀.heap s.heap
 loc:∃ m,s.heap.Ns X.env.locals m/\∀ (i:Nat) (x:Str) (v:V),X.N[i]?=some x->σ[i]?=some (some v)->Vis X.env.scope x->∃ u,RelV v u/\Look X.env s.heap m x u
 cell:∀ x c,X.env.cells.lookup x=some c->∃ v,s.heap.IsCell c v
 free:H X.env.locals=none
 freeC:∀ x c,X.env.cells.lookup x=some c->H c=none
 pin:∀ p∈X.pn ++ pins,s.heap.get? p.1=some p.2/\H p.1=none/\p.1 ≠ X.env.locals/\p.1 ∉ X.fs/\∀ v,p.2.data ≠ .cell v
 hok:HOk X.prog X.w H s.heap
 len : σ.length=X.N.length
section
variable {X:Cx} {pins:List (Addr × Obj)} {σ:List (Option V)} {H H':Hp} {s:Shared} {h':Heap}
theorem Cx.Ok.nofr (ok:X.Ok) {b:Addr} {o:Obj} (e:X.base.get? b=some o):b ∉ X.fs:=fun hb=>by
 have:=(ok.funs.mem hb).1
 rw [e] at this;cases this
theorem Inv.bs (I:Inv X pins σ H s):∀ b o,X.base.get? b=some o->s.heap.get? b=some o/\H b=none:=fun b o e =>
 ⟨I.base.keep b o (I.ok.bs b o e).1 (I.ok.bs b o e).2 (I.ok.nofr e) (I.ok.noex b o e),I.base.free b o (I.ok.bs b o e).1 (I.ok.bs b o e).2 (I.ok.noex b o e)⟩
theorem Inv.bk (I:Inv X pins σ H s):∀ b o,X.base.get? b=some o->s.heap.get? b=some o:=fun b o e=>(I.bs b o e).1
theorem Inv.mod (I:Inv X pins σ H s):Mod X.K X.mg X.base:=I.ok.mod
theorem Inv.kIn (I:Inv X pins σ H s):X.K.In s.heap:=I.ok.mod.kin.keeps I.bk
theorem Inv.fr (I:Inv X pins σ H s):∃ m,Fr X.base X.env.locals s.heap m :=
 let ⟨m,hn,_⟩:=I.loc
 ⟨m,hn,I.bk,Nat.le_trans I.ok.bsz I.ok.above⟩
theorem Inv.lt (I:Inv X pins σ H s):X.env.locals < s.heap.objs.size:=let ⟨_,hn,_⟩:=I.loc;hn.lt
theorem Inv.sz (I:Inv X pins σ H s):X.s₀.heap.objs.size<=s.heap.objs.size:=Nat.le_trans I.ok.above (Nat.le_of_lt I.lt)
theorem Inv.nofs (I:Inv X pins σ H s) {a:Addr} (h:s.heap.objs.size<=a):a ∉ X.fs:=fun hb=>by
 obtain ⟨_,o,ho,_⟩:=I.ok.funs.mem hb
 exact absurd (Nat.lt_of_lt_of_le (Heap.lt_size ho) (Nat.le_trans I.sz h)) (Nat.lt_irrefl _)
theorem Inv.cne (I:Inv X pins σ H s):∀ x c,X.env.cells.lookup x=some c->c ≠ X.env.locals:=fun x c e z=>by
 obtain ⟨v,o,ho,hd⟩:=I.cell x c e
 obtain ⟨m,⟨o',es,ep,ho',hd',_⟩,_⟩:=I.loc
 rw [z,ho'] at ho;cases ho;rw [hd'] at hd;cases hd
theorem Inv.funs (I:Inv X pins σ H s):s.heap.FunFrames X.base X.outer:=by
 have all:∀ (l:List Env),(∀ b∈frs l,b∈X.fs)->X.s₀.heap.FunFrames X.base l->s.heap.FunFrames X.base l:=by
  intro l
  induction l with
  | nil=>intro _ _;trivial
  | cons env r ih =>
   intro hs hl
   obtain ⟨hk,⟨L,o,hf,hn,ho,hd⟩,hr⟩:=hl
   have hL:L∈X.fs:=hs L (by unfold frs;rw [List.filterMap_cons,hf];exact List.mem_cons_self)
   obtain ⟨sl,e⟩:=I.base.slot L o ho (I.ok.frf L hL) hL fun z=>I.ok.exfs L z hL
   exact ⟨hk,⟨L,_,hf,hn,e,hd⟩,ih (fun b hb=>hs b (by unfold frs;rw [List.filterMap_cons,hf];exact List.mem_cons_of_mem _ hb)) hr⟩
 exact all X.outer (fun _ hb=>hb) I.ok.funs
theorem Inv.stack (I:Inv X pins σ H s):s.heap.FunFrames X.base X.stack:=by
 rcases I.ok.stk with e | ⟨e,hf⟩
 ·rw [e];exact I.funs
 ·rw [e]
  obtain ⟨m,hn,_⟩:=I.loc
  refine .cons (by rw [I.ok.kind];decide) hf hn ?_ I.funs
  exact Heap.get?_none_of_le (Nat.le_trans I.ok.bsz I.ok.above)
theorem Inv.stkSub (I:Inv X pins σ H s):∀ b∈frs X.stack,b∈X.env.locals :: X.fs:=fun b hb=>by
 rcases I.ok.stk with e | ⟨e,hf⟩
 ·rw [e] at hb;exact List.mem_cons_of_mem _ hb
 ·rw [e] at hb
  unfold frs at hb
  rw [List.filterMap_cons,hf] at hb
  exact hb
theorem Inv.stkFree (I:Inv X pins σ H s):∀ b∈frs X.stack,H b=none:=fun b hb=>by
 rcases List.mem_cons.mp (I.stkSub b hb) with e | hb
 ·rw [e];exact I.free
 ·obtain ⟨_,o,ho,_⟩:=I.ok.funs.mem hb
  exact I.base.free b o ho (I.ok.frf b hb) fun z=>I.ok.exfs b z hb
theorem Inv.step {g':Array GenState} {t':Nat} {d':Drawn} {ch:List Addr} (I:Inv X pins σ H s)
  (hch:∀ b∈ch,(b∈X.ex\/X.s₀.heap.objs.size<=b)/\b ≠ X.env.locals/\(∀ x c,X.env.cells.lookup x=some c->c ≠ b)/\∀ p∈X.pn ++ pins,p.1 ≠ b)
  (keep:∀ b o,b ≠ X.env.locals->b ∉ X.fs->b ∉ ch->s.heap.get? b=some o->H b=none->h'.get? b=some o)
  (slot:∀ b o,b ≠ X.env.locals->b∈X.fs->b ∉ ch->s.heap.get? b=some o->H b=none->∃ sl,h'.get? b=some { o with slots:=sl }) (free:∀ b o,b ∉ ch->s.heap.get? b=some o->H b=none->H' b=none)
  (there:∀ b o,b ∉ ch->s.heap.get? b=some o->∃ o',h'.get? b=some o')
  (tups:∀ b xs,H b=some (.tup xs)->H' b=some (.tup xs)) (frzs:∀ b o u,H b=some (.frz o u)->H' b=some (.frz o u)) (tbls:∀ b ps,H b=some (.tbl ps)->∃ more,H' b=some (.tbl (ps ++ more)))
  (ns:∀ m,s.heap.Ns X.env.locals m->h'.Ns X.env.locals m) (hok:HOk X.prog X.w H' h') (hg:AllBare g') :
  Inv X pins σ H' { s with heap:=h',gens:=g',drawn:=d',toks:=t' }:=by
 have neL:∀ b o,X.s₀.heap.get? b=some o->b ≠ X.env.locals:=fun b o e=>Nat.ne_of_lt (Nat.lt_of_lt_of_le (Heap.lt_size e) I.ok.above)
 have neC:∀ b o,X.s₀.heap.get? b=some o->b ∉ X.ex->b ∉ ch:=fun b o e hx hb=>by
  rcases (hch b hb).1 with z | z
  ·exact hx z
  ·exact absurd (Nat.lt_of_lt_of_le (Heap.lt_size e) z) (Nat.lt_irrefl _)
 have cellK:∀ x c,X.env.cells.lookup x=some c->∀ v,s.heap.IsCell c v->h'.IsCell c v:=fun x c e v z_=>by
  obtain ⟨o,ho,hd⟩:=z_
  have nch:c ∉ ch:=fun z=>(hch c z).2.2.1 x c e rfl
  by_cases hc:c∈X.fs
  ·obtain ⟨sl,q⟩:=slot c o (I.cne x c e) hc nch ho (I.freeC x c e)
   exact ⟨_,q,hd⟩
  ·exact ⟨o,keep c o (I.cne x c e) hc nch ho (I.freeC x c e),hd⟩
 refine ⟨I.ok,I.os,hg,⟨fun b o e n hb hx=>?_,fun b o e n hb hx=>?_,fun b o e n hx=>?_,fun b o e hx=>?_,fun b xs e=>tups b xs (I.base.tups b xs e),fun b o xs e=>frzs b o xs (I.base.frzs b o xs e),fun b ps e=>?_⟩,?_,fun x c e=>?_,?_,fun x c e=>?_,fun p hp=>?_,hok,I.len⟩
 ·exact keep b o (neL b o e) hb (neC b o e hx) (I.base.keep b o e n hb hx) (I.base.free b o e n hx)
 ·obtain ⟨sl,e1⟩:=I.base.slot b o e n hb hx
  obtain ⟨sl',e2⟩:=slot b _ (neL b o e) hb (neC b o e hx) e1 (I.base.free b o e n hx)
  exact ⟨sl',e2⟩
 ·obtain ⟨o',e1⟩:=I.base.there b o e hx
  exact free b o' (neC b o e hx) e1 (I.base.free b o e n hx)
 ·obtain ⟨o',e1⟩:=I.base.there b o e hx
  exact there b o' (neC b o e hx) e1
 ·obtain ⟨m1,e1⟩:=I.base.tbls b ps e
  obtain ⟨m2,e2⟩:=tbls b _ e1
  exact ⟨m1 ++ m2,by rw [e2,Array.append_assoc]⟩
 ·obtain ⟨m,hn,hl⟩:=I.loc
  refine ⟨m,ns m hn,fun i x v e1 e2 e3=>?_⟩
  obtain ⟨u,r,l⟩:=hl i x v e1 e2 e3
  refine ⟨u,r,?_⟩
  rcases l with l | ⟨k,c,e,z⟩
  ·exact .inl l
  ·exact .inr ⟨k,c,e,cellK x c e _ z⟩
 ·obtain ⟨v,z⟩:=I.cell x c e
  exact ⟨v,cellK x c e v z⟩
 ·obtain ⟨m,⟨o,_,_,ho,_⟩,_⟩:=I.loc
  exact free _ o (fun z=>(hch _ z).2.1 rfl) ho I.free
 ·obtain ⟨v,o,ho,hd⟩:=I.cell x c e
  exact free c o (fun z=>(hch c z).2.2.1 x c e rfl) ho (I.freeC x c e)
 ·obtain ⟨e,n,ne,nf,d⟩:=I.pin p hp
  have nch:p.1 ∉ ch:=fun z=>(hch p.1 z).2.2.2 p hp rfl
  exact ⟨keep p.1 p.2 ne nf nch e n,free p.1 p.2 nch e n,ne,nf,d⟩
theorem Inv.un {t':Nat} (I:Inv X pins σ H s) (u:Un X.fs [] H H' s.heap h') (hok:HOk X.prog X.w H' h'):Inv X pins σ H' { s with heap:=h',toks:=t' }:=by
 obtain ⟨m,⟨o,es,ep,ho,r⟩,_⟩:=id I.loc
 obtain ⟨sl,hL⟩:=u.any ho I.free (by simp)
 exact I.step (g':=s.gens) (d':=s.drawn) (ch:=[]) (fun _ z=>nomatch z) (fun b o _ hb _ e n=>u.keep b o e n hb (by simp)) (fun b o _ hb _ e n=>u.slot b o e n hb (by simp)) (fun b o _ e n=>u.free b o e n (by simp)) (fun b o _ e=>u.there b o e (by simp)) u.tups u.frzs u.tbls (fun m' hm=>by
  obtain ⟨o',es',ep',ho',r'⟩:=hm
  rw [ho] at ho';cases ho'
  exact ⟨_,es',ep',hL,r'⟩) hok I.bare
theorem Inv.call {g':Array GenState} {t':Nat} {d':Drawn} {ch:List Addr} (I:Inv X pins σ H s) (u:Un (frs X.stack) ch H H' s.heap h') (hok:HOk X.prog X.w H' h') (hg:AllBare g')
  (hch:∀ b∈ch,(b∈X.ex\/X.s₀.heap.objs.size<=b)/\b ≠ X.env.locals/\(∀ x c,X.env.cells.lookup x=some c->c ≠ b)/\∀ p∈X.pn ++ pins,p.1 ≠ b) :
  Inv X pins σ H' { s with heap:=h',gens:=g',drawn:=d',toks:=t' }:=by
 obtain ⟨m,⟨o,es,ep,ho,r⟩,_⟩:=id I.loc
 obtain ⟨sl,hL⟩:=u.any ho I.free fun z=>(hch _ z).2.1 rfl
 exact I.step (ch:=ch) hch (fun b o hL hb hc e n=>u.keep b o e n (fun z=>(List.mem_cons.mp (I.stkSub b z)).elim hL hb) hc) (fun b o _ _ hc e n=>u.any e n hc) (fun b o hc e n=>u.free b o e n hc) (fun b o hc e=>u.there b o e hc) u.tups u.frzs u.tbls (fun m' hm=>by
  obtain ⟨o',es',ep',ho',r'⟩:=hm
  rw [ho] at ho';cases ho'
  exact ⟨_,es',ep',hL,r'⟩) hok hg
theorem Inv.turned {t':Nat} {it:Addr} (I:Inv X pins σ H s) (k:∀ b o,b ≠ it->s.heap.get? b=some o->h'.get? b=some o) (hn:H it=none) (hL:it ≠ X.env.locals)
  (h1:it∈X.ex\/X.s₀.heap.objs.size<=it) (h2:∀ x c,X.env.cells.lookup x=some c->c ≠ it) (h3:∀ p∈X.pn ++ pins,p.1 ≠ it):Inv X pins σ H { s with heap:=h',toks:=t' }:=by
 have nit:∀ b u,H b=some u->b ≠ it:=fun b u e z=>by rw [z,hn] at e;cases e
 refine I.step (g':=s.gens) (d':=s.drawn) (ch:=[it]) (fun b hb=>?_) (fun b o _ _ hc e _=>k b o (fun z=>hc (by simp [z])) e) (fun b o _ _ hc e _=>⟨o.slots,k b o (fun z=>hc (by simp [z])) e⟩) (fun _ _ _ _ n=>n)
  (fun b o hc e=>⟨o,k b o (fun z=>hc (by simp [z])) e⟩) (fun _ _ e=>e) (fun _ _ _ e=>e) (fun b ps e=>⟨#[],by rw [e];simp⟩) (fun m hm=>?_) (fun b u e=>?_) I.bare
 ·have e:b=it:=by simpa using hb
  subst e
  exact ⟨h1,hL,h2,h3⟩
 ·obtain ⟨o,es,ep,ho,r⟩:=hm
  exact ⟨o,es,ep,k _ o (Ne.symm hL) ho,r⟩
 ·refine (I.hok b u e).stay (fun c v hc q=>k c v ?_ q) (fun _ q=>q) fun _ _ q=>q
  rcases hc with z | z
  ·rw [z];exact nit b u e
  ·exact nit c _ z
theorem Inv.tok (I:Inv X pins σ H s) (t:Nat):Inv X pins σ H { s with toks:=t }:=I.un (h':=s.heap) (t':=t) Un.refl I.hok
theorem Inv.kept {t':Nat} (I:Inv X pins σ H s) (k:∀ b u,s.heap.get? b=some u->h'.get? b=some u):Inv X pins σ H { s with heap:=h',toks:=t' }:=I.un (Un.kept k) (I.hok.kept k)
theorem Inv.laid {a:Addr} {o:HO} {t':Nat} (I:Inv X pins σ H s) (k:∀ b u,s.heap.get? b=some u->h'.get? b=some u) (hp:s.heap.objs.size<=a) (new:ObjOk X.prog X.w (upd H a o) h' a o) :
  Inv X pins σ (upd H a o) { s with heap:=h',toks:=t' }:=I.un (Un.laid k hp (I.hok.fresh hp)) (I.hok.laid k hp new)
theorem Inv.write {x e:Addr} {o:HO} {t':Nat} (I:Inv X pins σ H s) (mu:Mut (H x)) (he:e=x\/H e=some (.own x)) (k:∀ b u,b ≠ e->s.heap.get? b=some u->h'.get? b=some u) (heo:∃ u,h'.get? e=some u)
  (new:ObjOk X.prog X.w (upd H x o) h' x o):Inv X pins σ (upd H x o) { s with heap:=h',toks:=t' }:=I.un (Un.write mu he k heo) (I.hok.write mu he k heo new)
theorem Inv.pins_of {pins':List (Addr × Obj)} (I:Inv X pins σ H s) (h:∀ p∈pins',s.heap.get? p.1=some p.2/\H p.1=none/\p.1 ≠ X.env.locals/\p.1 ∉ X.fs/\∀ v,p.2.data ≠ .cell v):Inv X pins' σ H s :=
 ⟨I.ok,I.os,I.bare,I.base,I.loc,I.cell,I.free,I.freeC,fun p hp=>(List.mem_append.mp hp).elim (fun z=>I.pin p (List.mem_append_left _ z)) (h p),I.hok,I.len⟩
theorem nodup_ix {N:List Str} (hN:N.Nodup) {i j:Nat} {x:Str} (a:N[i]?=some x) (b:N[j]?=some x):i=j:=by
 obtain ⟨h1,e1⟩:=List.getElem?_eq_some_iff.mp a
 obtain ⟨h2,e2⟩:=List.getElem?_eq_some_iff.mp b
 exact (List.getElem_inj hN).mp (e1.trans e2.symm)
theorem ahq {M:Model} {A:Around} {E:Value->Shared->Prop} {i:Nat} {x:Str} {v:V} {u:Value} {Q:Unit->Shared->Prop} (I:Inv X pins σ H s) (hN:X.N.Nodup) (hi:X.N[i]?=some x) (hx:Loc X.env.scope x) (r:RelV v u)
  (h:∀ s',Inv X pins (σ.set i (some v)) H s'->(∃ a,Heap.SameBut a s.heap s'.heap/\(a=X.env.locals\/X.env.cells.lookup x=some a))->Q () s') (hf:X.fn x=true\/X.env.scope.names.lookup x=some .local:=by first | exact .inl rfl | exact .inr rfl | assumption):wpAny M A (storeName X.env x u) Q E s:=by
 obtain ⟨m,hn,hl⟩:=id I.loc
 have hcls:(X.env.scope.kind == .class || (X.env.scope.kind == .module && X.env.locals != X.env.globals))=false:=by rw [I.ok.kind];rfl
 have hiσ:i < σ.length:=by rw [I.len];exact (List.getElem?_eq_some_iff.mp hi).1
 have cne:=I.cne
 have tracked:∀ {a:Addr} {h':Heap},(∃ o,s.heap.get? a=some o/\H a=none)->Heap.SameBut a s.heap h'->HOk X.prog X.w H h':=fun {a h'} ha hs b ob e=>by
  obtain ⟨_,_,hfree⟩:=ha
  refine (I.hok b ob e).stay (fun c w' hc q=>(hs.2 c ?_).trans q) (fun _ q=>q) fun _ _ q=>q
  rintro rfl
  rcases hc with rfl | hc
  ·rw [hfree] at e;cases e
  ·rw [hfree] at hc;cases hc
 rcases hx with hk | hk
 ·refine wpAny_storeName_local hk hn (fun h' hn' hs=>?_) hcls
  obtain ⟨oL,_,_,hoL,_⟩:=id hn
  refine h _ ⟨I.ok,I.os,I.bare,⟨fun b o e n hb hx=>?_,fun b o e n hb hx=>?_,I.base.free,fun b o e hx=>?_,I.base.tups,I.base.frzs,I.base.tbls⟩,⟨_,hn',fun j y v' e1 e2 e3=>?_⟩,fun y c e=>?_,I.free,I.freeC,fun p hp=>?_,tracked ⟨oL,hoL,I.free⟩ hs,by simpa using I.len⟩ ⟨_,hs,.inl rfl⟩
  ·exact (hs.2 b (Nat.ne_of_lt (Nat.lt_of_lt_of_le (Heap.lt_size e) I.ok.above))).trans (I.base.keep b o e n hb hx)
  ·obtain ⟨sl,e1⟩:=I.base.slot b o e n hb hx
   exact ⟨sl,(hs.2 b (Nat.ne_of_lt (Nat.lt_of_lt_of_le (Heap.lt_size e) I.ok.above))).trans e1⟩
  ·obtain ⟨o',e1⟩:=I.base.there b o e hx
   exact ⟨o',(hs.2 b (Nat.ne_of_lt (Nat.lt_of_lt_of_le (Heap.lt_size e) I.ok.above))).trans e1⟩
  ·by_cases hj:j=i
   ·subst hj
    rw [hi] at e1;cases e1
    rw [List.getElem?_set_self hiσ] at e2
    cases e2
    exact ⟨u,r,.inl ⟨hk,by simp⟩⟩
   ·rw [List.getElem?_set_ne (Ne.symm hj)] at e2
    obtain ⟨u',r',q⟩:=hl j y v' e1 e2 e3
    refine ⟨u',r',?_⟩
    rcases q with ⟨k,e⟩ | ⟨k,c,e,z⟩
    ·refine .inl ⟨k,?_⟩
     have:y ≠ x:=fun e=>hj (nodup_ix hN e1 (e ▸ hi))
     simp [this,e]
    ·exact .inr ⟨k,c,e,z.sameBut hs (cne y c e)⟩
  ·obtain ⟨w',z⟩:=I.cell y c e
   exact ⟨w',z.sameBut hs (cne y c e)⟩
  ·obtain ⟨e,n,ne,nf,d⟩:=I.pin p hp
   exact ⟨(hs.2 p.1 ne).trans e,n,ne,nf,d⟩
 ·have hfn:X.fn x=true:=by
   rcases hf with z | z
   ·exact z
   ·rw [z] at hk;cases hk
  obtain ⟨c,hc⟩:=I.ok.has x (.inl hk)
  obtain ⟨w',z⟩:=I.cell x c hc
  refine wpAny_storeName_cell I.ok.kind hk hc z (fun h' hc' hs=>?_)
  obtain ⟨oc,hoc,hocd⟩:=id z
  refine h { s with heap:=h' } ⟨I.ok,I.os,I.bare,⟨fun b o e n hb hx=>?_,fun b o e n hb hx=>?_,I.base.free,fun b o e hx=>?_,I.base.tups,I.base.frzs,I.base.tbls⟩,⟨m,hn.sameBut hs (Ne.symm (cne x c hc)),fun j y v' e1 e2 e3=>?_⟩,fun y c' e=>?_,I.free,I.freeC,fun p hp=>?_,tracked ⟨oc,hoc,I.freeC x c hc⟩ hs,by simpa using I.len⟩ ⟨c,hs,.inr hc⟩
  ·exact (hs.2 b (Nat.ne_of_lt (Nat.lt_of_lt_of_le (Heap.lt_size e) (I.ok.cab x c hfn hc)))).trans (I.base.keep b o e n hb hx)
  ·obtain ⟨sl,e1⟩:=I.base.slot b o e n hb hx
   exact ⟨sl,(hs.2 b (Nat.ne_of_lt (Nat.lt_of_lt_of_le (Heap.lt_size e) (I.ok.cab x c hfn hc)))).trans e1⟩
  ·obtain ⟨o',e1⟩:=I.base.there b o e hx
   exact ⟨o',(hs.2 b (Nat.ne_of_lt (Nat.lt_of_lt_of_le (Heap.lt_size e) (I.ok.cab x c hfn hc)))).trans e1⟩
  ·by_cases hj:j=i
   ·subst hj
    rw [hi] at e1;cases e1
    rw [List.getElem?_set_self hiσ] at e2
    cases e2
    exact ⟨u,r,.inr ⟨.inl hk,c,hc,hc'⟩⟩
   ·rw [List.getElem?_set_ne (Ne.symm hj)] at e2
    obtain ⟨u',r',q⟩:=hl j y v' e1 e2 e3
    refine ⟨u',r',?_⟩
    rcases q with q | ⟨k,c',e,z'⟩
    ·exact .inl q
    ·refine .inr ⟨k,c',e,z'.sameBut hs ?_⟩
     rintro rfl
     exact hj (nodup_ix hN e1 (I.ok.inj _ _ _ e hc ▸ hi))
  ·by_cases hcc:c'=c
   ·subst hcc;exact ⟨_,hc'⟩
   ·obtain ⟨w2,z2⟩:=I.cell y c' e
    exact ⟨w2,z2.sameBut hs hcc⟩
  ·obtain ⟨e,n,ne,nf,d⟩:=I.pin p hp
   refine ⟨(hs.2 p.1 ?_).trans e,n,ne,nf,d⟩
   intro q
   rw [q,hoc] at e
   have q':oc=p.2:=Option.some.inj e
   exact d w' (by rw [← q'];exact hocd)
theorem ajg {M:Model} {A:Around} {E:Value->Shared->Prop} {i:Nat} {x:Str} {v:V} {u:Value} {Q:Unit->Shared->Prop} (I:Inv X pins σ H s) (hN:X.N.Nodup) (hi:X.N[i]?=some x) (hx:Loc X.env.scope x) (r:RelV v u)
  (h:∀ s',Inv X pins (σ.set i (some v)) H s'->Q () s') (hf:X.fn x=true\/X.env.scope.names.lookup x=some .local:=by first | exact .inl rfl | exact .inr rfl | assumption):wpAny M A (storeName X.env x u) Q E s :=
 ahq I hN hi hx r (fun s' I' _=>h s' I') hf
theorem Inv.call' {s':Shared} {ch:List Addr} (I:Inv X pins σ H s) (ho:s'.os=s.os) (u:Un (frs X.stack) ch H H' s.heap s'.heap) (hok:HOk X.prog X.w H' s'.heap) (hg:AllBare s'.gens)
  (hch:∀ b∈ch,(b∈X.ex\/X.s₀.heap.objs.size<=b)/\b ≠ X.env.locals/\(∀ x c,X.env.cells.lookup x=some c->c ≠ b)/\∀ p∈X.pn ++ pins,p.1 ≠ b):Inv X pins σ H' s':=by
 obtain ⟨h',g',d',t',o'⟩:=s'
 have e:o'=s.os:=ho
 subst e
 exact I.call (g':=g') (t':=t') (d':=d') u hok hg hch
end
noncomputable abbrev XK:=Value->Option Addr->Hp->Prop
noncomputable abbrev St:=List (Option V)
noncomputable abbrev VK:=V->Hp->Prop
noncomputable abbrev TE:=St->Hp->VK->Prop
noncomputable abbrev TT:=St->Hp->(Bool->Hp->Prop)->Prop
noncomputable abbrev TA:=St->Hp->(List V->Hp->Prop)->Prop
structure Ends where
 nx:St->Hp->Prop
 rt:VK
 bk:St->Hp->Prop:=fun _ _=>False
 ct:St->Hp->Prop:=fun _ _=>False
noncomputable abbrev TS:=Ends->St->Hp->Prop
def EP (X:Cx) (pins:List (Addr × Obj)) (σ:St) (Q:VK) (u:Value) (s':Shared):Prop:=∃ v H',Inv X pins σ H' s'/\RelV v u/\Q v H'
def TP (X:Cx) (pins:List (Addr × Obj)) (σ:St) (Q:Bool->Hp->Prop) (b:Bool) (s':Shared):Prop:=∃ H',Inv X pins σ H' s'/\Q b H'
def AP (X:Cx) (pins:List (Addr × Obj)) (σ:St) (Q:List V->Hp->Prop) (us:List Value) (s':Shared):Prop:=∃ vs H',Inv X pins σ H' s'/\Vals vs us/\Q vs H'
def SP (X:Cx) (pins:List (Addr × Obj)) (D:Ends) (f:Flow) (s':Shared):Prop :=
 match f with
 | .next=>∃ σ' H',Inv X pins σ' H' s'/\D.nx σ' H'
 | .brk=>∃ σ' H',Inv X pins σ' H' s'/\D.bk σ' H'
 | .cont=>∃ σ' H',Inv X pins σ' H' s'/\D.ct σ' H'
 | .ret u=>∃ v σ' H',Inv X pins σ' H' s'/\RelV v u/\D.rt v H'
def PE (X:Cx) (e:Expr) (t:TE):Prop :=
 ∀ (pins:List (Addr × Obj)) (s:Shared) (σ:St) (H:Hp) (Q:VK),Inv X pins σ H s->t σ H Q->wpAny (model X.prog X.w) X.A (eval e X.env) (EP X pins σ Q) X.xe s
def PT (X:Cx) (e:Expr) (t:TT):Prop :=
 ∀ (pins:List (Addr × Obj)) (s:Shared) (σ:St) (H:Hp) (Q:Bool->Hp->Prop),Inv X pins σ H s->t σ H Q->wpAny (model X.prog X.w) X.A (isTrue e X.env (eval e X.env)) (TP X pins σ Q) X.xe s
def PW (X:Cx) (e:Expr) (t:TT):Prop :=
 ∀ (whole:Sem Value) (pins:List (Addr × Obj)) (s:Shared) (σ:St) (H:Hp) (Q:Bool->Hp->Prop),Inv X pins σ H s->t σ H Q->wpAny (model X.prog X.w) X.A (isTrue e X.env whole) (TP X pins σ Q) X.xe s
theorem PW.pt {X:Cx} {e:Expr} {t:TT} (h:PW X e t):PT X e t:=h _
def PA (X:Cx) (es:List Expr) (t:TA):Prop :=
 ∀ (pos:Pos) (pins:List (Addr × Obj)) (s:Shared) (σ:St) (H:Hp) (Q:List V->Hp->Prop),Inv X pins σ H s->t σ H Q->wpAny (model X.prog X.w) X.A (spliced (backTo pos (starEach es X.env))) (AP X pins σ Q) X.xe s
def PS (X:Cx) (st:Stmt) (t:TS):Prop :=
 ∀ (pins:List (Addr × Obj)) (s:Shared) (σ:St) (H:Hp) (D:Ends),Inv X pins σ H s->t D σ H->wpAny (model X.prog X.w) X.A (exec st X.env) (SP X pins D) X.xe s
def PSs (X:Cx) (st:List Stmt) (t:TS):Prop :=
 ∀ (pins:List (Addr × Obj)) (s:Shared) (σ:St) (H:Hp) (D:Ends),Inv X pins σ H s->t D σ H->wpAny (model X.prog X.w) X.A (execs st X.env) (SP X pins D) X.xe s
theorem thn {α:Type} {t:Sem α} {Q Q' : α->Shared->Prop} {M:Model} {A:Around} {E:Value->Shared->Prop} {s:Shared} (h:wpAny M A t Q E s) (hQ:∀ a s,Q a s->Q' a s):wpAny M A t Q' E s:=wpAny_mono h hQ fun _ _ x=>x
end L2
namespace L2
open PySem PySem.Spec PyProof.Rows
section
variable {X:Cx}
def tVar (i:Nat):TE:=fun σ H Q=>∃ v,σ[i]?=some (some v)/\Q v H
def tC (v:V):TE:=fun _ H Q=>Q v H
theorem awh {i:Nat} {x:Str} {pos:Pos} (hN:X.N[i]?=some x) (hv:Vis X.env.scope x) (hd:(x == ("__debug__" : Str))=false:=by decide) (hcd:(x == ("__classdict__" : Str))=false:=by decide):PE X (.Name x pos) (tVar i):=by
 intro pins s σ H Q I h
 obtain ⟨v,e,h⟩:=h
 obtain ⟨m,hn,hl⟩:=I.loc
 obtain ⟨u,r,l⟩:=hl i x v hN e hv
 have fin:EP X pins σ Q u s:=⟨v,H,I,r,h⟩
 rcases l with ⟨hk,hm⟩ | ⟨hk,c,hc,hcell⟩
 ·exact wpAny_Name (wpAny_loadName_local I.ok.kind hk hn hm fin) hd
 ·rcases hk with hk | hk
  ·exact wpAny_Name (wpAny_loadName_cell I.ok.kind hk hc hcell fin) hd
  ·exact wpAny_Name (wpAny_loadName_free I.ok.kind hk hc hcell fin hcd) hd
theorem aae {i j pos}:PE X (.Constant (.int i) j pos) (tC (.int i)):=fun _ _ _ H _ I h=>wpAny_Constant_int ⟨.int i,H,I.tok _,⟨_,rfl⟩,h⟩
theorem ai8 {b j pos}:PE X (.Constant (.bool b) j pos) (tC (.bl b)):=fun _ _ _ H _ I h=>Constant_bool ⟨.bl b,H,I,rfl,h⟩
theorem ab7 {j pos}:PE X (.Constant .none j pos) (tC .non):=fun _ _ _ H _ I h=>Constant_none ⟨.non,H,I,rfl,h⟩
def Gl (X:Cx) (x:Str):Prop:=X.env.kindOf x=some .globalImplicit
theorem atv {E:Value->Shared->Prop} {pins:List (Addr × Obj)} {s:Shared} {σ:St} {H:Hp} {x:Str} {u:Value} {pos:Pos} {Q:Value->Shared->Prop} (I:Inv X pins σ H s) (hg:Gl X x) (hm:X.mg x=some u) (h:Q u s)
  (hd:(x == ("__debug__" : Str))=false:=by decide):wpAny (model X.prog X.w) X.A (eval (.Name x pos) X.env) Q E s :=
 Calls.Name_function_global I.ok.kind hg (Calls.loadGlobal_global (by rw [I.ok.glob];exact I.mod.glob.keeps I.bk) hm h) hd
theorem ace {E:Value->Shared->Prop} {pins:List (Addr × Obj)} {s:Shared} {σ:St} {H:Hp} {x:Str} {u:Value} {pos:Pos} {Q:Value->Shared->Prop} (I:Inv X pins σ H s) (hg:Gl X x) (hm:X.mg x=none) (hv:bootBuiltins x=some u) (h:Q u s)
  (hn:x ≠ "__name__":=by decide) (hd:(x == ("__debug__" : Str))=false:=by decide):wpAny (model X.prog X.w) X.A (eval (.Name x pos) X.env) Q E s:=by
 obtain ⟨mb,h1,h2⟩:=I.mod.blt
 exact Calls.Name_function_global I.ok.kind hg (Calls.loadGlobal_builtin (by rw [I.ok.glob];exact I.mod.glob.keeps I.bk) hm (by rw [I.ok.blt];exact h1.keeps I.bk) ((h2 x hn).trans hv) h) hd
theorem abi {x:Str} {v:V} {u:Value} {pos:Pos} (hg:Gl X x) (hm:X.mg x=none) (hv:bootBuiltins x=some u) (r:RelV v u) (hn:x ≠ "__name__":=by decide) (hd:(x == ("__debug__" : Str))=false:=by decide):PE X (.Name x pos) (tC v) :=
 fun _ _ _ H _ I h=>ace I hg hm hv ⟨v,H,I,r,h⟩ hn hd
variable {a b:Expr} {ta tb:TE} {pos:Pos}
def tB (t:TE):TT:=fun σ H Q=>t σ H fun x H1=>∃ c,x=.bl c/\Q c H1
theorem adi {e:Expr} {t:TE} (h:PE X e t) (he:∀ whole,isTrue e X.env whole=(do let v ← whole;standAt e.pos;holding [v] (truthy v)):=by intro _;rfl):PT X e (tB t):=by
 intro pins s σ H Q I hw
 refine isTrue_plain (thn (h pins s σ H _ I hw) fun v s1 ⟨x,H1,I1,r1,q1⟩=>?_) (he _)
 obtain ⟨d,rfl,q⟩:=q1
 cases r1
 exact wpAny_truthy_bool ⟨H1,I1,q⟩
variable {tA tB':TT} {rest:List Expr}
def tAnd (t u:TT):TT:=fun σ H Q=>t σ H fun c H1=>if c=true then u σ H1 Q else Q false H1
def tOr (t u:TT):TT:=fun σ H Q=>t σ H fun c H1=>if c=true then Q true H1 else u σ H1 Q
def tNot (t:TT):TT:=fun σ H Q=>t σ H fun c H1=>Q (!c) H1
theorem atw (ha:PT X a tA):PW X (.BoolOp .And [a] pos) tA:=by
 intro wh pins s σ H Q I h
 refine isTrue_and (thn (ha pins s σ H Q I h) fun c s1 e=>?_)
 cases c with
 | true=>exact isTrue_and_nil e
 | false=>exact e
theorem aou (ha:PT X a tA):PW X (.BoolOp .Or [a] pos) tA:=by
 intro wh pins s σ H Q I h
 refine isTrue_or (thn (ha pins s σ H Q I h) fun c s1 e=>?_)
 cases c with
 | false=>exact isTrue_or_nil e
 | true=>exact e
theorem awi (ha:PT X a tA) (hb:PW X (.BoolOp .And (b :: rest) pos) tB'):PW X (.BoolOp .And (a :: b :: rest) pos) (tAnd tA tB'):=by
 intro wh pins s σ H Q I h
 refine isTrue_and (thn (ha pins s σ H _ I h) fun c s1 ⟨H1,I1,q1⟩=>?_)
 cases c with
 | true=>exact hb wh pins s1 σ H1 Q I1 q1
 | false=>exact ⟨H1,I1,q1⟩
theorem am7 (ha:PT X a tA) (hb:PW X (.BoolOp .Or (b :: rest) pos) tB'):PW X (.BoolOp .Or (a :: b :: rest) pos) (tOr tA tB'):=by
 intro wh pins s σ H Q I h
 refine isTrue_or (thn (ha pins s σ H _ I h) fun c s1 ⟨H1,I1,q1⟩=>?_)
 cases c with
 | true=>exact ⟨H1,I1,q1⟩
 | false=>exact hb wh pins s1 σ H1 Q I1 q1
theorem aem (ha:PT X a tA):PT X (.UnaryOp .Not a pos) (tNot tA):=by
 intro pins s σ H Q I h
 exact isTrue_not (ha pins s σ H (fun c H1=>Q (!c) H1) I h)
def am8 (ta tb:TE):TE:=fun σ H Q=>ta σ H fun x H1=>∃ c,x=.bl c/\if c=true then tb σ H1 Q else Q (.bl false) H1
def am9 (ta:TE):TE:=fun σ H Q=>ta σ H fun x H1=>∃ c,x=.bl c/\Q (.bl (!c)) H1
theorem aen {op} {t:TE} (h:PE X a t):PE X (.BoolOp op [a] pos) t:=fun pins s σ H Q I hw=>BoolOp_one (h pins s σ H Q I hw)
theorem ady (ha:PE X a ta) (hb:PE X (.BoolOp .And (b :: rest) pos) tb):PE X (.BoolOp .And (a :: b :: rest) pos) (am8 ta tb):=by
 intro pins s σ H Q I h
 refine BoolOp_and (thn (ha pins s σ H _ I h) fun v s1 ⟨x,H1,I1,r1,q1⟩=>?_)
 obtain ⟨c,rfl,q1⟩:=q1
 cases r1
 refine wpAny_truthy_bool ?_
 cases c with
 | true=>exact hb pins s1 σ H1 Q I1 q1
 | false=>exact ⟨.bl false,H1,I1,rfl,q1⟩
theorem aov (ha:PE X a ta):PE X (.UnaryOp .Not a pos) (am9 ta):=by
 intro pins s σ H Q I h
 refine UnaryOp_ (thn (ha pins s σ H _ I h) fun v s1 ⟨x,H1,I1,r1,q1⟩=>?_)
 obtain ⟨c,rfl,q1⟩:=q1
 cases r1
 exact not_of (wpAny_truthy_bool ⟨.bl (!c),H1,I1,rfl,q1⟩)
end
end L2
namespace L2
open PySem PySem.Spec PyProof.Rows
def SqL (K:PySem.W.Frag) (H:Hp) (a:Addr) (xs:List V):Prop :=
 Rd H a (.lst xs) ∨
  ∃ (o:Obj) (its:Array Value) (n:Nat),K.lookup a=some o/\o.cls=.type "list"/\o.dict=none/\o.data=.seq its n/\its.size<=sizeLine/\Vals xs its.toList
def SqT (K:PySem.W.Frag) (H:Hp) (a:Addr) (xs:List V):Prop :=
 Rd H a (.tup xs) ∨
  ∃ (o:Obj) (its:Array Value) (n:Nat),K.lookup a=some o/\o.cls=.type "tuple"/\o.data=.seq its n/\its.size<=sizeLine/\Vals xs its.toList
noncomputable def absV:Value->Option V
 | .none=>some .non
 | .bool b=>some (.bl b)
 | .int i _=>some (.int i)
 | .str x _=>some (.str x)
 | .bytes b _=>some (.byt b)
 | .float b _=>some (.flt b)
 | .ref a=>some (.ref a)
 | .type n=>some (.ty n)
 | _=>none
theorem RelV.abs {x:V} {u:Value} (r:RelV x u):absV u=some x:=by
 cases x with
 | non=>cases r;rfl
 | bl _=>cases r;rfl
 | int _=>obtain ⟨t,rfl⟩:=r;rfl
 | str _=>obtain ⟨t,rfl⟩:=r;rfl
 | byt _=>obtain ⟨t,rfl⟩:=r;rfl
 | flt _=>obtain ⟨t,rfl⟩:=r;rfl
 | ref _=>cases r;rfl
 | ty _=>cases r;rfl
theorem RelV.inj {x y:V} {u:Value} (r:RelV x u) (q:RelV y u):x=y:=Option.some.inj (r.abs.symm.trans q.abs)
theorem Vals.inj:∀ {xs ys:List V} {us:List Value},Vals xs us->Vals ys us->xs=ys
 | _,_,_,.nil,.nil=>rfl
 | _,_,_,.cons r t,.cons r' t'=>by rw [r.inj r',Vals.inj t t']
section
variable {X:Cx} {pins:List (Addr × Obj)} {σ:St} {H:Hp} {s:Shared} {a:Addr} {xs ys:List V}
theorem SqL.of {K:PySem.W.Frag} (h:H a=some (.lst xs)):SqL K H a xs:=.inl (.inl h)
theorem SqT.of {K:PySem.W.Frag} (h:H a=some (.tup xs)):SqT K H a xs:=.inl (.inl h)
theorem Inv.list (I:Inv X pins σ H s) (h:SqL X.K H a xs):∃ its:List Value,Vals xs its/\PlainL s.heap a its.toArray/\xs.length<=sizeLine:=by
 rcases h with h | ⟨o,its,n,hk,hc,hd,hs,hz,r⟩
 ·obtain ⟨z,its,n,r,e⟩:=h.ok I.hok
  exact ⟨its,r,⟨_,n,e,rfl,rfl,rfl⟩,z⟩
 ·refine ⟨its.toList,r,⟨o,n,I.kIn a o hk,hc,hd,by simpa using hs⟩,?_⟩
  have e:=r.length
  simp only [Array.length_toList] at e
  row_cond lo
theorem Inv.tuple (I:Inv X pins σ H s) (h:SqT X.K H a xs):∃ its:List Value,Vals xs its/\IsTup s.heap a its.toArray/\xs.length<=sizeLine:=by
 rcases h with h | ⟨o,its,n,hk,hc,hs,hz,r⟩
 ·obtain ⟨z,its,r,p⟩:=h.ok I.hok
  exact ⟨its,r,p,z⟩
 ·refine ⟨its.toList,r,⟨o,I.kIn a o hk,hc,n,by simpa using hs⟩,?_⟩
  have e:=r.length
  simp only [Array.length_toList] at e
  row_cond lo
theorem Inv.list_inj (I:Inv X pins σ H s) (h:SqL X.K H a xs) (h':SqL X.K H a ys):xs=ys:=by
 obtain ⟨its,r,⟨o,n,e,_,_,d⟩,_⟩:=I.list h
 obtain ⟨its',r',⟨o',n',e',_,_,d'⟩,_⟩:=I.list h'
 rw [e] at e';cases e'
 rw [d] at d'
 injection d' with d1 _
 have:its=its':=by simpa using congrArg Array.toList d1
 subst this
 exact r.inj r'
end
noncomputable abbrev Cx.wish (X:Cx) (E:Value->Shared->Prop):Cx:={ X with xe:=E }
noncomputable abbrev Cx.nox (X:Cx):Cx:=X.wish fun _ _=>False
theorem Cx.Ok.wish {X:Cx} (ok:X.Ok) (E:Value->Shared->Prop):(X.wish E).Ok :=
 ⟨ok.mod,ok.kind,ok.glob,ok.blt,ok.above,ok.inj,ok.has,ok.cab,ok.hd,ok.frames,ok.stk,ok.exf,ok.bs,ok.bsz,ok.noex,ok.exfs,ok.funs,ok.frf⟩
theorem Cx.Ok.unwish {X:Cx} {E:Value->Shared->Prop} (ok:(X.wish E).Ok):X.Ok :=
 ⟨ok.mod,ok.kind,ok.glob,ok.blt,ok.above,ok.inj,ok.has,ok.cab,ok.hd,ok.frames,ok.stk,ok.exf,ok.bs,ok.bsz,ok.noex,ok.exfs,ok.funs,ok.frf⟩
section
variable {X:Cx} {pins:List (Addr × Obj)} {σ:St} {H:Hp} {s:Shared} {E:Value->Shared->Prop}
theorem Inv.wish (I:Inv X pins σ H s) (E:Value->Shared->Prop):Inv (X.wish E) pins σ H s:=⟨I.ok.wish E,I.os,I.bare,I.base,I.loc,I.cell,I.free,I.freeC,I.pin,I.hok,I.len⟩
theorem Inv.unwish (I:Inv (X.wish E) pins σ H s):Inv X pins σ H s:=⟨I.ok.unwish,I.os,I.bare,I.base,I.loc,I.cell,I.free,I.freeC,I.pin,I.hok,I.len⟩
theorem SP.unwish {D:Ends} {f:Flow} {s':Shared} (h:SP (X.wish E) pins D f s'):SP X pins D f s':=by
 cases f with
 | next=>obtain ⟨σ',H',I,q⟩:=h;exact ⟨σ',H',I.unwish,q⟩
 | brk=>obtain ⟨σ',H',I,q⟩:=h;exact ⟨σ',H',I.unwish,q⟩
 | cont=>obtain ⟨σ',H',I,q⟩:=h;exact ⟨σ',H',I.unwish,q⟩
 | ret u=>obtain ⟨v,σ',H',I,r,q⟩:=h;exact ⟨v,σ',H',I.unwish,r,q⟩
theorem PSs.nox {st:List Stmt} {t:TS} (h:PSs X.nox st t):PSs X st t:=fun pins s σ H D I hw =>
 wpAny_mono (h pins s σ H D (I.wish _) hw) (fun _ _ q=>q.unwish) fun _ _ z=>False.elim z
end
section
variable {X:Cx} {st:Stmt} {rest:List Stmt} {t u:TS} {e:Expr} {te:TE} {pos:Pos}
def asw:TS:=fun D σ H=>D.nx σ H
def tSeq (t u:TS):TS:=fun D σ H=>t { D with nx:=u D } σ H
theorem aa7:PSs X [] asw:=fun _ _ σ H _ I h=>wpAny_execs_nil ⟨σ,H,I,h⟩
theorem aad (h1:PS X st t) (h2:PSs X rest u):PSs X (st :: rest) (tSeq t u):=by
 intro pins s σ H D I h
 refine wpAny_execs_cons (thn (h1 pins s σ H { D with nx:=u D } I h) fun f s1 q=>?_)
 cases f with
 | next =>
  obtain ⟨σ',H',I',q⟩:=q
  exact h2 pins s1 σ' H' D I' q
 | ret v=>exact q
 | brk=>exact q
 | cont=>exact q
theorem aah (h1:PS X st t):PSs X [st] t:=by
 intro pins s σ H D I h
 refine wpAny_execs_cons (thn (h1 pins s σ H D I h) fun f s1 q=>?_)
 cases f with
 | next=>exact wpAny_execs_nil q
 | ret v=>exact q
 | brk=>exact q
 | cont=>exact q
theorem Inv.quiet {pins:List (Addr × Obj)} {σ:St} {H:Hp} {s:Shared} (I:Inv X pins σ H s):interactive X.env=false:=by simp [interactive,I.ok.kind]
def asx (te:TE):TS:=fun D σ H=>te σ H fun _ H1=>D.nx σ H1
theorem abr (he:PE X e te) (hs:swapsWith e none pos.line X.env=pure false:=by rfl):PS X (.Expr e pos) (asx te):=by
 intro pins s σ H D I h
 exact wpAny_Expr_any (thn (he pins s σ H _ I h) fun v s1 ⟨x,H1,I1,r1,q1⟩=>⟨σ,H1,I1,q1⟩) I.quiet hs
def tRet (te:TE):TS:=fun D σ H=>te σ H D.rt
theorem aav (he:PE X e te):PS X (.Return (some e) pos) (tRet te):=by
 intro pins s σ H D I h
 exact wpAny_Return_some (thn (he pins s σ H _ I h) fun v s1 ⟨x,H1,I1,r1,q1⟩=>⟨x,σ,H1,I1,r1,q1⟩)
def tIfS (c:TT) (t u:TS):TS:=fun D σ H=>c σ H fun b H1=>if b=true then t D σ H1 else u D σ H1
theorem abk {c:Expr} {a b:List Stmt} {tc:TT} (hc:PT X c tc) (ha:PSs X a t) (hb:PSs X b u):PS X (.If c a b pos) (tIfS tc t u):=by
 intro pins s σ H D I h
 refine wpAny_If (thn (hc pins s σ H _ I h) fun d s1 ⟨H1,I1,q1⟩=>?_)
 cases d with
 | true=>exact ha pins s1 σ H1 D I1 q1
 | false=>exact hb pins s1 σ H1 D I1 q1
def awj:TS:=fun _ _ _=>False
theorem afo:PS X st awj:=fun _ _ _ _ _ _ h=>h.elim
end
noncomputable abbrev TG:=V->St->Hp->(St->Hp->Prop)->Prop
noncomputable abbrev TGs:=List V->St->Hp->(St->Hp->Prop)->Prop
def PG (X:Cx) (target:Expr) (t:TG):Prop :=
 ∀ (pins:List (Addr × Obj)) (s:Shared) (σ:St) (H:Hp) (v:V) (u:Value) (Q:St->Hp->Prop),Inv X pins σ H s->RelV v u->t v σ H Q ->
  wpAny (model X.prog X.w) X.A (assign target X.env u) (fun _ s'=>∃ σ' H',Inv X pins σ' H' s'/\Q σ' H') X.xe s
def PGs (X:Cx) (ts:List Expr) (t:TGs):Prop :=
 ∀ (pins:List (Addr × Obj)) (s:Shared) (σ:St) (H:Hp) (vs:List V) (us:List Value) (Q:St->Hp->Prop),Inv X pins σ H s->Vals vs us->t vs σ H Q ->
  wpAny (model X.prog X.w) X.A (assignInOrder ((assignEach ts X.env).map (·.2)) us) (fun _ s'=>∃ σ' H',Inv X pins σ' H' s'/\Q σ' H') X.xe s
noncomputable abbrev TSet:=V->V->V->Hp->(Hp->Prop)->Prop
def PSet (X:Cx) (t:TSet):Prop :=
 ∀ (pins:List (Addr × Obj)) (s:Shared) (σ:St) (H:Hp) (o i v:V) (ov iv u:Value) (Q:Hp->Prop),Inv X pins σ H s->RelV o ov->RelV i iv->RelV v u->t o i v H Q ->
  wpAny (model X.prog X.w) X.A (setItem ov iv u) (fun _ s'=>∃ H',Inv X pins σ H' s'/\Q H') X.xe s
section
variable {X:Cx} {pos:Pos}
def aa5 (i:Nat):TG:=fun v σ H Q=>Q (σ.set i (some v)) H
theorem aam {i:Nat} {x:Str} (hN:X.N.Nodup) (hi:X.N[i]?=some x) (hx:Loc X.env.scope x) (hf:X.fn x=true\/X.env.scope.names.lookup x=some .local:=by first | exact .inl rfl | exact .inr rfl | assumption):PG X (.Name x pos) (aa5 i):=by
 intro pins s σ H v u Q I r h
 exact wpAny_assign_Name (ajg I hN hi hx r (fun s' I'=>⟨_,H,I',h⟩) hf)
def gNil:TGs:=fun vs σ H Q=>vs=[]/\Q σ H
def act (t:TG) (u:TGs):TGs:=fun vs σ H Q=>∃ v r,vs=v :: r/\t v σ H fun σ' H'=>u r σ' H' Q
theorem acb:PGs X [] gNil:=by
 intro pins s σ H vs us Q I r h
 obtain ⟨e,h⟩:=h
 subst e
 cases r
 exact assignInOrder_nil ⟨σ,H,I,h⟩
theorem aa2 {e:Expr} {es:List Expr} {t:TG} {u:TGs} (h1:PG X e t) (h2:PGs X es u)
  (hs:(assignEach (e :: es) X.env).map (·.2)=assign e X.env :: (assignEach es X.env).map (·.2):=by rfl):PGs X (e :: es) (act t u):=by
 intro pins s σ H vs us Q I r h
 obtain ⟨v,vr,e1,h⟩:=h
 subst e1
 cases r with
 | cons r rr =>
  rw [hs]
  refine assignInOrder_cons (thn (h1 pins s σ H _ _ _ I r h) fun _ s1 ⟨σ1,H1,I1,q1⟩=>?_)
  exact h2 pins s1 σ1 H1 _ _ Q I1 rr q1
def gTup (K:PySem.W.Frag) (n:Nat) (t:TGs):TG:=fun v σ H Q=>∃ a xs,v=.ref a/\SqT K H a xs/\xs.length=n/\t xs σ H Q
theorem acx {es:List Expr} {k:Nat} {t:TGs} {n:Nat} (hc:X.calm=true) (h:PGs X es t)
  (hn:(assignEach es X.env).length=n:=by rfl) (hst:(assignEach es X.env).findIdx? (·.1)=none:=by rfl):PG X (.Tuple es k pos) (gTup X.K n t):=by
 intro pins s σ H v u Q I r hw
 obtain ⟨a,xs,e1,hq,hl,hw⟩:=hw
 subst e1
 cases r
 obtain ⟨its,rv,ht,hz⟩:=I.tuple hq
 refine assign_Tuple_tuple (I.ok.hd hc) ht (by simp [hn,← hl,rv.length]) hst fun h' hx=>?_
 have I1:Inv X pins σ H { s with heap:=h' }:=I.kept (t':=s.toks) fun b o e=>hx b o (Nat.ne_of_lt (Heap.lt_size e)) e
 exact h pins _ σ H xs _ Q I1 (by simpa using rv) hw
def gSub (to ti:TE) (t:TSet):TG:=fun v σ H Q=>to σ H fun o H1=>ti σ H1 fun i H2=>t o i v H2 fun H3=>Q σ H3
theorem adz {o i:Expr} {to ti:TE} {t:TSet} (ho:PE X o to) (hi:PE X i ti) (hs:PSet X t)
  (ha:∀ v,assign (.Subscript o i pos) X.env v=(do
   let ov ← holding [v] (eval o X.env)
   let iv ← holding [v,ov] (eval i X.env)
   standAt pos
   holding [v,ov,iv] (setItem ov iv v)
   release [v,ov,iv] []):=by intro _;rfl):PG X (.Subscript o i pos) (gSub to ti t):=by
 intro pins s σ H v u Q I r h
 rw [ha]
 refine wpAny_bind (wpAny_holding (thn (ho pins s σ H _ I h) fun ov s1 ⟨x,H1,I1,r1,q1⟩=>?_))
 refine wpAny_bind (wpAny_holding (thn (hi pins s1 σ H1 _ I1 q1) fun iv s2 ⟨y,H2,I2,r2,q2⟩=>?_))
 refine wpAny_bind (wpAny_standAt (wpAny_bind (wpAny_holding (thn (hs pins s2 σ H2 x y v ov iv u _ I2 r1 r2 r q2) fun _ s3 ⟨H3,I3,q3⟩=>?_))))
 exact wpAny_release ⟨σ,H3,I3,q3⟩
def tAsg (te:TE) (g:TG):TS:=fun D σ H=>te σ H fun x H1=>g x σ H1 D.nx
theorem acf {tg e:Expr} {te:TE} {g:TG} (he:PE X e te) (hg:PG X tg g) (hs:swapsWithSole [tg] e pos.line X.env=pure false:=by rfl) (hw:swappedStores [tg] e X.env=pure none:=by rfl)
  (h1:(assignEach [tg] X.env).map (·.2)=[assign tg X.env]:=by rfl):PS X (.Assign [tg] e pos) (tAsg te g):=by
 intro pins s σ H D I h
 refine wpAny_Assign_stores (thn (he pins s σ H _ I h) fun v s1 ⟨x,H1,I1,r1,q1⟩=>?_) hs hw
 rw [h1]
 exact thn (hg pins s1 σ H1 x v _ I1 r1 q1) fun _ s2 q=>q
theorem aan {i:Nat} {x:Str} {e:Expr} {te:TE} {pos':Pos} (hN:X.N.Nodup) (hi:X.N[i]?=some x) (hx:Loc X.env.scope x) (he:PE X e te) (hs:swapsWith e (some (.Name x pos')) pos.line X.env=pure false:=by rfl) (hf:X.fn x=true\/X.env.scope.names.lookup x=some .local:=by first | exact .inl rfl | exact .inr rfl | assumption) :
  PS X (.Assign [.Name x pos'] e pos) (tAsg te (aa5 i)):=by
 intro pins s σ H D I h
 refine wpAny_Assign_Name (thn (he pins s σ H _ I h) fun v s1 ⟨y,H1,I1,r1,q1⟩=>?_) hs
 exact ajg I1 hN hi hx r1 (fun s2 I2=>⟨_,H1,I2,q1⟩) hf
end
section
variable {X:Cx} {pos:Pos}
def aow (c:TT) (tb:TS):TS:=fun D σ H=>∃ W:Nat->St->Hp->Prop,(∃ m,W m σ H)/\∀ m σ H,W m σ H ->
 c σ H fun b H1=>if b=true then ∃ N:St->Hp->Prop,(∀ σ' H',N σ' H'->∃ m',m' < m/\W m' σ' H')/\tb { D with nx:=N,ct:=N,bk:=D.nx } σ H1 else D.nx σ H1
theorem ajh {c:Expr} {body:List Stmt} {tc:TT} {tb:TS} (hp:PassesOwn (model X.prog X.w) X.A X.env X.xe) (hc:PT X c tc) (hb:PSs X body tb):PS X (.While c body [] pos) (aow tc tb):=by
 intro pins s σ H D I h
 obtain ⟨W,⟨m0,w0⟩,turn⟩:=h
 refine wpAny_While (codeAny_whileLoop (fun n s'=>∃ σ' H',Inv X pins σ' H' s'/\W n σ' H') ?_ m0 ⟨σ,H,I,w0⟩)
 rintro n s1 ⟨σ1,H1,I1,w1⟩
 refine wpAny_passesOwn hp (thn (hc pins s1 σ1 H1 _ I1 (turn n σ1 H1 w1)) fun b s2 ⟨H2,I2,q2⟩=>?_)
 cases b with
 | true =>
  obtain ⟨N,hN,q2⟩:=q2
  rw [if_pos rfl]
  refine wpAny_passesOwn hp (thn (hb pins s2 σ1 H2 _ I2 q2) fun f s3 q3=>?_)
  cases f with
  | next =>
   obtain ⟨σ3,H3,I3,n3⟩:=q3
   obtain ⟨m',hm,w3⟩:=hN σ3 H3 n3
   exact ⟨m',hm,σ3,H3,I3,w3⟩
  | cont =>
   obtain ⟨σ3,H3,I3,n3⟩:=q3
   obtain ⟨m',hm,w3⟩:=hN σ3 H3 n3
   exact ⟨m',hm,σ3,H3,I3,w3⟩
  | brk=>exact q3
  | ret v=>exact q3
 | false =>
  rw [if_neg Bool.false_ne_true]
  exact wpAny_execs_nil ⟨σ1,H2,I2,q2⟩
end
structure It where
 go:Nat->Hp->Prop
 yld:Nat->Hp->V->Hp->Prop
 stop:Nat->Hp->Prop
def FpOk (X:Cx) (pins:List (Addr × Obj)) (H:Hp) (b:Addr):Prop :=
 H b=none/\b ≠ X.env.locals/\b ∉ X.fs/\(b∈X.ex\/X.s₀.heap.objs.size<=b)/\(∀ x c,X.env.cells.lookup x=some c->c ≠ b)/\∀ p∈X.pn ++ pins,p.1 ≠ b
theorem Inv.fpOk {X:Cx} {pins:List (Addr × Obj)} {σ:St} {H H':Hp} {s:Shared} {b:Addr} (I:Inv X pins σ H s) (hb:s.heap.objs.size<=b) (hn:H' b=none):FpOk X pins H' b:=by
 refine ⟨hn,Nat.ne_of_gt (Nat.lt_of_lt_of_le I.lt hb),I.nofs hb,.inr (Nat.le_trans I.sz hb),fun x c e z=>?_,fun p hp z=>?_⟩
 ·obtain ⟨v,q⟩:=I.cell x c e
  exact absurd (Nat.lt_of_lt_of_le q.lt (by rw [z];exact hb)) (Nat.lt_irrefl _)
 ·exact absurd (Nat.lt_of_lt_of_le (Heap.lt_size (I.pin p hp).1) (by rw [z];exact hb)) (Nat.lt_irrefl _)
structure Turn (P:Program) (w:World) (K:PySem.W.Frag) (tg:Expr) (J:It) (fp:List Addr) (it:Addr) (tn:Nat->Heap->Prop):Prop where
 mem:it∈fp
 obj:∀ i h,tn i h->∀ b∈fp,∃ o,h.get? b=some o/\∀ v,o.data ≠ .cell v
 keep:∀ i h h',tn i h->(∀ b∈fp,∀ o,h.get? b=some o->h'.get? b=some o)->tn i h'
 item:∀ (X:Cx),X.prog=P->X.w=w->X.K=K->X.calm=true->∀ (i:Nat) (pins:List (Addr × Obj)) (s:Shared) (σ:St) (H:Hp) (E:Value->Shared->Prop),Inv X pins σ H s->(∀ b∈fp,FpOk X pins H b)->tn i s.heap->J.go i H ->
  wpAny (model P w) X.A (pyNext (.ref it)) (fun r s1=>∃ u,r=some u /\
   wpAny (model P w) X.A (letOwnedTupleGo tg (.ref it) u) (fun _ s2=>∃ x H',Inv X pins σ H' s2/\RelV x u/\J.yld i H x H'/\tn (i+1) s2.heap/\∀ b∈fp,H' b=none) E s1) E s
 done:∀ (X:Cx),X.prog=P->X.w=w->X.K=K->X.calm=true->∀ (i:Nat) (pins:List (Addr × Obj)) (s:Shared) (σ:St) (H:Hp) (E:Value->Shared->Prop),Inv X pins σ H s->(∀ b∈fp,FpOk X pins H b)->tn i s.heap->J.stop i H ->
  wpAny (model P w) X.A (pyNext (.ref it)) (fun r s1=>r=none/\Inv X pins σ H s1) E s
 self:∀ (A:Around) (i:Nat) (s:Shared) (Q:Value->Shared->Prop) (E:Value->Shared->Prop),tn i s.heap->Q (.ref it) s->wpAny (model P w) A (pyIter (.ref it)) Q E s
noncomputable abbrev TI:=St->Hp->(It->Hp->Prop)->Prop
def PIE (X:Cx) (pins:List (Addr × Obj)) (σ:St) (tg:Expr) (R:It->Hp->Prop) (itv:Value) (s2:Shared):Prop :=
 ∃ (it:Addr) (fp:List Addr) (tn:Nat->Heap->Prop) (J:It) (H':Hp),itv=.ref it/\Inv X pins σ H' s2/\Turn X.prog X.w X.K tg J fp it tn/\tn 0 s2.heap/\(∀ b∈fp,FpOk X pins H' b)/\R J H'
def PI (X:Cx) (tg iter:Expr) (wi:TI):Prop :=
 ∀ (pins:List (Addr × Obj)) (s:Shared) (σ:St) (H:Hp) (R:It->Hp->Prop),Inv X pins σ H s->wi σ H R ->
  wpAny (model X.prog X.w) X.A (eval iter X.env) (fun v s1=>wpAny (model X.prog X.w) X.A (pyIter v) (PIE X pins σ tg R) X.xe s1) X.xe s
theorem asz {M:Model} {A:Around} {E:Value->Shared->Prop} {s:Shared} {tg:Expr} {it:Addr} {u:Value} {o:Obj} {n:String} {vs:Array Value} {Q:Unit->Shared->Prop} (ho:s.heap.get? it=some o) (hc:o.cls=.type n) (hd:o.data=.fields vs)
  (hn:["enumerate","zip","dict_itemiterator","dict_reverseitemiterator","odict_iterator","itertools.zip_longest","itertools.pairwise"].contains n=false) (hQ:Q () s):wpAny M A (letOwnedTupleGo tg (.ref it) u) Q E s:=by
 unfold letOwnedTupleGo
 cases tg <;> first
  | exact wpAny_pure hQ
  | (cases u <;> first
    | exact wpAny_pure hQ
    | (refine wpAny_bind (wpAny_load ho ?_)
       rw [hc,hd]
       show wpAny M A (if (["enumerate","zip","dict_itemiterator","dict_reverseitemiterator","odict_iterator","itertools.zip_longest","itertools.pairwise"].contains n && vs[0]? == some (rawInt _))=true then _ else _) Q E s
       rw [if_neg (by intro h;rw [hn,Bool.false_and] at h;cases h)]
       exact wpAny_pure hQ))
noncomputable def Itl (K:PySem.W.Frag) (a:Addr):It :=
 ⟨fun i H=>∃ xs x,SqL K H a xs/\xs[i]?=some x,fun i H x H'=>H'=H/\∀ xs,SqL K H a xs->xs[i]?=some x,fun i H=>∃ xs,SqL K H a xs/\xs.length<=i⟩
noncomputable def Itr (lo:Int) (n:Nat):It:=⟨fun i _=>i < n,fun i H x H'=>H'=H/\x=.int (lo+i),fun i _=>n<=i⟩
theorem aox {P:Program} {w:World} {K:PySem.W.Frag} {tg:Expr} (a it:Addr):Turn P w K tg (Itl K a) [it] it (fun i h=>h.IsListIter it a i) where
 mem:=by simp
 obj:=fun i h st b hb=>by
  have e:b=it:=by simpa using hb
  subst e
  obtain ⟨o,e,c,d⟩:=st
  exact ⟨o,e,fun v z=>by rw [d] at z;cases z⟩
 keep:=fun i h h' st k=>st.at fun o e=>k it (by simp) o e
 item:=by
  intro X hP hw hK hc i pins s σ H E I hf st hg
  subst hP hw hK
  obtain ⟨xs,x,hq,hx⟩:=hg
  obtain ⟨its,rv,p,hz⟩:=I.list hq
  obtain ⟨u,hu,ru⟩:=rv.get hx
  obtain ⟨f0,f1,f2,f3,f4,f5⟩:=hf it (by simp)
  refine wpAny_pyNext_list_item st p.isList (x:=u) (by simpa using hu) fun h' st' sb=>?_
  have I1:Inv X pins σ H { s with heap:=h' }:=I.turned (t':=s.toks) (fun b o hb e=>(sb.2 b hb).trans e) f0 f1 f3 f4 f5
  obtain ⟨o,e,c,d⟩:=id st'
  exact ⟨u,rfl,asz (s:={ s with heap:=h' }) e c d (by decide) ⟨x,H,I1,ru,⟨rfl,fun ys hy=>by rw [I.list_inj hy hq];exact hx⟩,st',fun b hb=>(hf b hb).1⟩⟩
 done:=by
  intro X hP hw hK hc i pins s σ H E I hf st hg
  subst hP hw hK
  obtain ⟨xs,hq,hx⟩:=hg
  obtain ⟨its,rv,p,hz⟩:=I.list hq
  obtain ⟨f0,f1,f2,f3,f4,f5⟩:=hf it (by simp)
  have hl:=rv.length
  exact wpAny_pyNext_list_end (I.ok.hd hc) st p.isList (by simp;row_cond lo) fun h' eb=>⟨rfl,I.turned (t':=s.toks) (fun b o hb e=>eb b o hb e) f0 f1 f3 f4 f5⟩
 self:=fun _ _ _ _ _ st h=>wpAny_pyIter_listiter st h
theorem ana {P:Program} {w:World} {K:PySem.W.Frag} {tg:Expr} (it:Addr) (lo:Int) (n:Nat):Turn P w K tg (Itr lo n) [it] it (fun i h=>IsRangeIter h it (lo+(i:Nat) * 1) ((n:Int) - (i:Nat)) 1) where
 mem:=by simp
 obj:=fun i h st b hb=>by
  have e:b=it:=by simpa using hb
  subst e
  exact ⟨_,st,fun v z=>by
   have z':Data.fields _=Data.cell v:=z
   cases z'⟩
 keep:=fun i h h' st k=>k it (by simp) _ st
 item:=by
  intro X hP hw hK hc i pins s σ H E I hf st hg
  subst hP hw hK
  obtain ⟨f0,f1,f2,f3,f4,f5⟩:=hf it (by simp)
  have W:=Walks.range (prog:=X.prog) (w:=X.w) (I.ok.hd hc) it lo 1 n
  refine W.item i s _ _ hg st fun v h' tk hv st' kk=>?_
  obtain ⟨t,rfl⟩:=hv
  have I1:Inv X pins σ H { s with heap:=h',toks:=tk }:=I.turned (fun b o hb e=>kk b o (by simpa using hb) e) f0 f1 f3 f4 f5
  refine ⟨_,rfl,asz (s:={ s with heap:=h',toks:=tk }) (n:="range_iterator") st' rfl rfl (by decide) ⟨.int (lo+i),H,I1,⟨t,?_⟩,⟨rfl,rfl⟩,st',fun b hb=>(hf b hb).1⟩⟩
  rw [Int.mul_one]
 done:=by
  intro X hP hw hK hc i pins s σ H E I hf st hg
  subst hP hw hK
  obtain ⟨f0,f1,f2,f3,f4,f5⟩:=hf it (by simp)
  exact wpAny_pyNext_range_end (I.ok.hd hc) st (by have:n<=i:=hg;row_cond lo) fun h' eb=>⟨rfl,I.turned (t':=s.toks) (fun b o hb e=>eb b o hb e) f0 f1 f3 f4 f5⟩
 self:=fun _ _ _ _ _ st h=>wpAny_pyIter_rangeiter st h
end L2
namespace L2
open PySem PySem.Spec PyProof.Rows
section
variable {X:Cx} {tg:Expr}
def anb (K:PySem.W.Frag) (tl:TE):TI:=fun σ H R=>tl σ H fun x H1=>∃ a,x=.ref a/\(∃ xs,SqL K H1 a xs)/\R (Itl K a) H1
theorem abt {l:Expr} {tl:TE} (hl:PE X l tl):PI X tg l (anb X.K tl):=by
 intro pins s σ H R I h
 refine thn (hl pins s σ H _ I h) fun v s1 ⟨x,H1,I1,r1,q1⟩=>?_
 obtain ⟨a,e,⟨xs,hq⟩,q⟩:=q1
 subst e
 cases r1
 obtain ⟨its,rv,p,hz⟩:=I1.list hq
 refine wpAny_pyIter_list p.isList ?_
 refine ⟨s1.heap.objs.size,[s1.heap.objs.size],_,_,H1,rfl,I1.kept (t':=s1.toks) fun b o e=>Heap.get?_push_of_some _ e,aox a _,⟨_,Heap.get?_push_size _ rfl,rfl,rfl⟩,fun b hb=>?_,q⟩
 have e:b=s1.heap.objs.size:=by simpa using hb
 subst e
 exact I1.fpOk (Nat.le_refl _) (I1.hok.fresh (Nat.le_refl _))
theorem aji {pins:List (Addr × Obj)} {σ:St} {H:Hp} {s:Shared} {R:It->Hp->Prop} {E:Value->Shared->Prop} {lo hi:Int} {t u v:Tok} {tk:Nat} (I:Inv X pins σ H s) (h1 : -(2 ^ 62)<=lo) (h2:lo < 2 ^ 62) (h3 : -(2 ^ 62)<=hi) (h4:hi < 2 ^ 62)
  (q:R (Itr lo (hi - lo).toNat) H):wpAny (model X.prog X.w) X.A (pyIter (.ref s.heap.objs.size)) (PIE X pins σ tg R) E { s with heap:=s.heap.push { cls:=.type "range",data:=.fields #[.int lo t,.int hi u,.int 1 v] },toks:=tk }:=by
 refine wpAny_pyIter_range (IsRange.new ..) (small_one h1 h2 h3 h4) ?_
 have I1:Inv X pins σ H { s with heap:=s.heap.push { cls:=.type "range",data:=.fields #[.int lo t,.int hi u,.int 1 v] },toks:=tk }:=I.kept fun b o e=>Heap.get?_push_of_some _ e
 refine ⟨(s.heap.push { cls:=.type "range",data:=.fields #[.int lo t,.int hi u,.int 1 v] }).objs.size,[(s.heap.push { cls:=.type "range",data:=.fields #[.int lo t,.int hi u,.int 1 v] }).objs.size],_,_,H,rfl,
  I1.kept (t':=tk) fun b o e=>Heap.get?_push_of_some _ e,ana _ lo (hi - lo).toNat,?_,fun b hb=>?_,q⟩
 ·have e1:lo+((0:Nat):Int) * 1=lo:=by simp
  have e2:(((hi - lo).toNat:Nat):Int) - ((0:Nat):Int)=Builtin.Range.rangeSize lo hi 1:=by rw [rangeSize_one];split <;> row_cond lo
  show IsRangeIter _ _ (lo+((0:Nat):Int) * 1) ((((hi - lo).toNat:Nat):Int) - ((0:Nat):Int)) 1
  rw [e1,e2]
  exact Heap.get?_push_size _ rfl
 ·have e:b=(s.heap.push { cls:=.type "range",data:=.fields #[.int lo t,.int hi u,.int 1 v] }).objs.size:=by simpa using hb
  subst e
  exact I1.fpOk (Nat.le_refl _) (I1.hok.fresh (Nat.le_refl _))
def as0 (ta:TA):TI:=fun σ H R=>ta σ H fun vs H1=>∃ j:Int,vs=[.int j]/\-(2 ^ 62)<=j/\j < 2 ^ 62/\R (Itr 0 j.toNat) H1
def as4 (ta:TA):TI:=fun σ H R=>ta σ H fun vs H1=>∃ i j:Int,vs=[.int i,.int j]/\(-(2 ^ 62)<=i/\i < 2 ^ 62/\-(2 ^ 62)<=j/\j < 2 ^ 62)/\R (Itr i (j - i).toNat) H1
theorem acd {a:Expr} {ta:TA} {p pos:Pos} (hg:Gl X "range") (hm:X.mg "range" = none) (ha:PA X [a] ta) (hs:starEach [a] X.env=[(false,eval a X.env)]:=by rfl):PI X tg (.Call (.Name "range" p) [a] [] pos) (as0 ta):=by
 intro pins s σ H R I h
 refine Call_ (ace I hg hm boot_range (PyProof.Rows.callWith_type1 (thn (ha pos pins s σ H _ I h) fun us s1 ⟨vs,H1,I1,r1,q1⟩=>?_) hs rfl))
 obtain ⟨j,e,q1,q2,q⟩:=q1
 subst e
 cases r1 with
 | cons r rr =>
  cases rr
  obtain ⟨t,rfl⟩:=r
  exact call_range_1 (aji I1 (by row_cond lo) (by row_cond lo) q1 q2 (by simpa using q))
theorem aoy {a b:Expr} {ta:TA} {p pos:Pos} (hg:Gl X "range") (hm:X.mg "range" = none) (ha:PA X [a,b] ta) (hs:starEach [a,b] X.env=[(false,eval a X.env),(false,eval b X.env)]:=by rfl) (hs2:starEach [b] X.env=[(false,eval b X.env)]:=by rfl) :
  PI X tg (.Call (.Name "range" p) [a,b] [] pos) (as4 ta):=by
 intro pins s σ H R I h
 refine Call_ (ace I hg hm boot_range (PyProof.Rows.callWith_type1 (thn (ha pos pins s σ H _ I h) fun us s1 ⟨vs,H1,I1,r1,q1⟩=>?_) (by rw [hs,hs2]) (by rw [hs2];rfl)))
 obtain ⟨i,j,e,⟨q1,q2,q3,q4⟩,q⟩:=q1
 subst e
 cases r1 with
 | cons r rr =>
  cases rr with
  | cons r' rr =>
   cases rr
   obtain ⟨t,rfl⟩:=r
   obtain ⟨t',rfl⟩:=r'
   exact call_range_2 (aji I1 q1 q2 q3 q4 q)
def tFor (wi:TI) (g:TG) (tb:TS):TS:=fun D σ H=>wi σ H fun J H1=>∃ W:Nat->Nat->St->Hp->Prop,(∃ m,W 0 m σ H1)/\∀ i m σ H,W i m σ H ->
 (J.stop i H/\D.nx σ H)\/(J.go i H/\∃ N:St->Hp->Prop,(∀ σ' H',N σ' H'->∃ m',m' < m/\W (i+1) m' σ' H')/\∀ x H',J.yld i H x H'->g x σ H' fun σ2 H2=>tb { D with nx:=N,ct:=N,bk:=D.nx } σ2 H2)
noncomputable def adj (fp:List Addr) (h:Heap):List (Addr × Obj):=fp.filterMap fun b=>(h.get? b).map fun o=>(b,o)
theorem abl {fp:List Addr} {h:Heap} {b:Addr} {o:Obj} (hb:b∈fp) (e:h.get? b=some o):(b,o)∈adj fp h:=List.mem_filterMap.mpr ⟨b,hb,by rw [e];rfl⟩
theorem aoz {fp:List Addr} {h:Heap} {p:Addr × Obj} (hp:p∈adj fp h):p.1∈fp/\h.get? p.1=some p.2:=by
 obtain ⟨b,hb,e⟩:=List.mem_filterMap.mp hp
 cases q:h.get? b with
 | none=>rw [q] at e;cases e
 | some o =>
  rw [q] at e
  have e':(b,o)=p:=Option.some.inj e
  subst e'
  exact ⟨hb,q⟩
theorem Inv.pinned {pins:List (Addr × Obj)} {σ:St} {H:Hp} {s:Shared} {fp:List Addr} (I:Inv X pins σ H s) (hf:∀ b∈fp,FpOk X pins H b) (ho:∀ b∈fp,∃ o,s.heap.get? b=some o/\∀ v,o.data ≠ .cell v):Inv X (pins ++ adj fp s.heap) σ H s :=
 I.pins_of fun p hp=>(List.mem_append.mp hp).elim (fun z=>I.pin p (List.mem_append_right _ z)) fun z=>by
  obtain ⟨hb,e⟩:=aoz z
  obtain ⟨f0,f1,f2,_⟩:=hf p.1 hb
  obtain ⟨o,e',d⟩:=ho p.1 hb
  rw [e] at e';cases e'
  exact ⟨e,f0,f1,f2,d⟩
theorem Inv.unpinned {pins pl:List (Addr × Obj)} {σ:St} {H:Hp} {s:Shared} (I:Inv X (pins ++ pl) σ H s):Inv X pins σ H s:=I.pins_of fun p hp=>I.pin p (List.mem_append_right _ (List.mem_append_left _ hp))
theorem acg {iter:Expr} {body:List Stmt} {wi:TI} {g:TG} {tb:TS} {pos:Pos} (hp:PassesOwn (model X.prog X.w) X.A X.env X.xe) (hc:X.calm=true) (hi:PI X tg iter wi) (hg:PG X tg g) (hb:PSs X body tb)
  (hs:∀ x,foldedSetIterable iter X.env x=pure x:=by intro _;rfl):PS X (.For tg iter body [] pos) (tFor wi g tb):=by
 intro pins s σ H D I h
 refine wpAny_For (thn (hi pins s σ H _ I h) fun v s1 h1=>thn h1 fun itv s2 h2=>?_) hs
 obtain ⟨it,fp,tn,J,H2,e,I2,T,st2,f2,W,⟨m0,w0⟩,turn⟩:=h2
 subst e
 -- what stays true of the iterator's objects through the loop
 have stat:∀ {H':Hp},(∀ b∈fp,H' b=none)->∀ b∈fp,FpOk X pins H' b:=fun hn b hb=>⟨hn b hb,(f2 b hb).2⟩
 refine codeAny_forLoop_any (fun n s'=>∃ i σ' H',Inv X pins σ' H' s'/\tn i s'.heap/\(∀ b∈fp,H' b=none)/\W i n σ' H') ?_ m0 ⟨0,σ,H2,I2,st2,fun b hb=>(f2 b hb).1,w0⟩
 rintro n s3 ⟨i,σ3,H3,I3,st3,fr3,w3⟩
 rcases turn i n σ3 H3 w3 with ⟨stop,qn⟩ | ⟨go,N,hN,step⟩
 ·refine wpAny_passesOwn hp (thn (T.done X rfl rfl rfl hc i pins s3 σ3 H3 X.xe I3 (stat fr3) st3 stop) fun r s4 ⟨hr,I4⟩=>?_)
  subst hr
  exact wpAny_execs_nil ⟨σ3,H3,I4,qn⟩
 ·refine wpAny_passesOwn hp (thn (T.item X rfl rfl rfl hc i pins s3 σ3 H3 X.xe I3 (stat fr3) st3 go) fun r s4 ⟨u,hr,h4⟩=>?_)
  subst hr
  refine wpAny_passesOwn hp (thn h4 fun _ s5 ⟨x,H5,I5,r5,y5,st5,fr5⟩=>?_)
  have I5':=I5.pinned (stat fr5) (T.obj _ _ st5)
  refine wpAny_passesOwn hp (thn (hg _ s5 σ3 H5 x u _ I5' r5 (step x H5 y5)) fun _ s6 ⟨σ6,H6,I6,q6⟩=>?_)
  refine wpAny_passesOwn hp (thn (hb _ s6 σ6 H6 _ I6 q6) fun f s7 q7=>?_)
  have again:∀ {σ7:St} {H7:Hp},Inv X (pins ++ adj fp s5.heap) σ7 H7 s7->N σ7 H7->∃ m,m < n/\∃ i σ' H',Inv X pins σ' H' s7/\tn i s7.heap/\(∀ b∈fp,H' b=none)/\W i m σ' H':=fun {σ7 H7} I7 n7=>by
   obtain ⟨m',hm,w7⟩:=hN σ7 H7 n7
   refine ⟨m',hm,i+1,σ7,H7,I7.unpinned,T.keep _ _ _ st5 fun b hb o e=>(I7.pin (b,o) (List.mem_append_right _ (List.mem_append_right _ (abl hb e)))).1,fun b hb=>?_,w7⟩
   obtain ⟨o,e,d⟩:=T.obj _ _ st5 b hb
   exact (I7.pin (b,o) (List.mem_append_right _ (List.mem_append_right _ (abl hb e)))).2.1
  cases f with
  | next=>obtain ⟨σ7,H7,I7,n7⟩:=q7;exact again I7 n7
  | cont=>obtain ⟨σ7,H7,I7,n7⟩:=q7;exact again I7 n7
  | brk=>obtain ⟨σ7,H7,I7,q7⟩:=q7;exact ⟨σ7,H7,I7.unpinned,q7⟩
  | ret v=>obtain ⟨x7,σ7,H7,I7,r7,q7⟩:=q7;exact ⟨x7,σ7,H7,I7.unpinned,r7,q7⟩
end
end L2
namespace L2
open PySem PySem.Spec PyProof.Rows
noncomputable abbrev R2:=V->V->Hp->VK->Prop
def OpR (X:Cx) (f:Value->Value->Sem Value) (r:R2):Prop :=
 ∀ (pins:List (Addr × Obj)) (s:Shared) (σ:St) (H:Hp) (x y:V) (v u:Value) (Q:VK),Inv X pins σ H s->RelV x v->RelV y u->r x y H Q ->
  wpAny (model X.prog X.w) X.A (f v u) (EP X pins σ Q) X.xe s
def abh (X:Cx) (f:Value) (r:List V->Hp->VK->Prop):Prop :=
 ∀ (pins:List (Addr × Obj)) (s:Shared) (σ:St) (H:Hp) (xs:List V) (us:List Value) (Q:VK),Inv X pins σ H s->Vals xs us->r xs H Q ->
  wpAny (model X.prog X.w) X.A (call f us) (EP X pins σ Q) X.xe s
def TruR (X:Cx) (r:V->Hp->(Bool->Hp->Prop)->Prop):Prop :=
 ∀ (pins:List (Addr × Obj)) (s:Shared) (σ:St) (H:Hp) (x:V) (v:Value) (Q:Bool->Hp->Prop),Inv X pins σ H s->RelV x v->r x H Q ->
  wpAny (model X.prog X.w) X.A (truthy v) (TP X pins σ Q) X.xe s
def tOp (r:R2) (ta tb:TE):TE:=fun σ H Q=>ta σ H fun x H1=>tb σ H1 fun y H2=>r x y H2 Q
def rI (C:Int->Int->Prop) (g:Int->Int->V):R2:=fun x y H Q=>∃ i j,x=.int i/\y=.int j/\C i j/\Q (g i j) H
def rI0 (g:Int->Int->V):R2:=fun x y H Q=>∃ i j,x=.int i/\y=.int j/\Q (g i j) H
section
variable {X:Cx} {a b c:Expr} {ta tb tc:TE} {pos:Pos}
theorem binT (ha:PE X a ta) (hb:PE X b tb) {pins:List (Addr × Obj)} {s:Shared} {σ:St} {H:Hp} {R:V->V->Hp->Prop} (I:Inv X pins σ H s)
  (h:ta σ H fun x H1=>tb σ H1 fun y H2=>R x y H2) {Q:Value->Shared->Prop} {f:Value->Value->Sem Value}
  (hf:∀ v u s2 x y H2,Inv X pins σ H2 s2->RelV x v->RelV y u->R x y H2->wpAny (model X.prog X.w) X.A (f v u) Q X.xe s2) :
  wpAny (model X.prog X.w) X.A (eval a X.env) (fun v s₁=>wpAny (model X.prog X.w) X.A (eval b X.env) (fun u s₂=>wpAny (model X.prog X.w) X.A (f v u) Q X.xe s₂) X.xe s₁) X.xe s:=by
 refine thn (ha pins s σ H _ I h) fun v s1 ⟨x,H1,I1,r1,q1⟩=>?_
 refine thn (hb pins s1 σ H1 _ I1 q1) fun u s2 ⟨y,H2,I2,r2,q2⟩=>?_
 exact hf v u s2 x y H2 I2 r1 r2 q2
theorem aau {op:Operator} {r:R2} (ho:OpR X (binaryOp op) r) (ha:PE X a ta) (hb:PE X b tb):PE X (.BinOp a op b pos) (tOp r ta tb):=by
 intro pins s σ H Q I h
 exact wpAny_BinOp (binT ha hb I h fun v u s2 x y H2 I2 rx ry q=>ho pins s2 σ H2 x y v u Q I2 rx ry q)
theorem opI {f:Value->Value->Sem Value} {C:Int->Int->Prop} {g:Int->Int->Int}
  (rule:∀ (i j:Int) (t u:Tok) (s:Shared) (Q:Value->Shared->Prop) (E:Value->Shared->Prop),C i j->Q (.int (g i j) s.toks) { s with toks:=s.toks+1 }->wpAny (model X.prog X.w) X.A (f (.int i t) (.int j u)) Q E s) :
  OpR X f (rI C fun i j => .int (g i j)):=by
 intro pins s σ H x y v u Q I rx ry h
 obtain ⟨i,j,rfl,rfl,hc,q⟩:=h
 obtain ⟨t,rfl⟩:=rx
 obtain ⟨t',rfl⟩:=ry
 exact rule i j t t' s _ _ hc ⟨.int (g i j),H,I.tok _,⟨_,rfl⟩,q⟩
theorem opI0 {f:Value->Value->Sem Value} {g:Int->Int->Int}
  (rule:∀ (i j:Int) (t u:Tok) (s:Shared) (Q:Value->Shared->Prop) (E:Value->Shared->Prop),Q (.int (g i j) s.toks) { s with toks:=s.toks+1 }->wpAny (model X.prog X.w) X.A (f (.int i t) (.int j u)) Q E s) :
  OpR X f (rI0 fun i j => .int (g i j)):=by
 intro pins s σ H x y v u Q I rx ry h
 obtain ⟨i,j,rfl,rfl,q⟩:=h
 obtain ⟨t,rfl⟩:=rx
 obtain ⟨t',rfl⟩:=ry
 exact rule i j t t' s _ _ ⟨.int (g i j),H,I.tok _,⟨_,rfl⟩,q⟩
theorem opB0 {f:Value->Value->Sem Value} {g:Int->Int->Bool}
  (rule:∀ (i j:Int) (t u:Tok) (s:Shared) (Q:Value->Shared->Prop) (E:Value->Shared->Prop),Q (.bool (g i j)) s->wpAny (model X.prog X.w) X.A (f (.int i t) (.int j u)) Q E s) :
  OpR X f (rI0 fun i j => .bl (g i j)):=by
 intro pins s σ H x y v u Q I rx ry h
 obtain ⟨i,j,rfl,rfl,q⟩:=h
 obtain ⟨t,rfl⟩:=rx
 obtain ⟨t',rfl⟩:=ry
 exact rule i j t t' s _ _ ⟨.bl (g i j),H,I,rfl,q⟩
def CDiv (i j:Int):Prop:=0 < j/\j < 1073741824
def CPow (i j:Int):Prop:=0<=j/\j<=1000000/\i.natAbs < 2 ^ 64
def CMul (i j:Int):Prop:=(-(2 ^ 64) < i/\i < 2 ^ 64)\/(-(2 ^ 64) < j/\j < 2 ^ 64)
theorem CMul.ok {i j:Int} (h:CMul i j):IntMulOk i j:=by
 rcases h with ⟨h1,h2⟩ | ⟨h1,h2⟩
 ·exact .of_left (intBits_le_64 h1 h2)
 ·exact .of_right (intBits_le_64 h1 h2)
theorem ab3:OpR X (binaryOp .Add) (rI0 fun i j => .int (i+j)):=opI0 fun _ _ _ _ _ _ _ q=>add_int q
theorem aeo:OpR X (binaryOp .Sub) (rI0 fun i j => .int (i - j)):=opI0 fun _ _ _ _ _ _ _ q=>sub_int q
theorem acy:OpR X (binaryOp .Mult) (rI CMul fun i j => .int (i * j)):=opI fun _ _ _ _ _ _ _ hc q=>mul_int q hc.ok
theorem alt:OpR X (binaryOp .FloorDiv) (rI CDiv fun i j => .int (i / j)):=opI fun i j _ _ _ _ _ hc q=>by
 have h1:(0:Int) < j:=hc.1
 have h2:j < 1073741824:=hc.2
 exact floordiv_int (by row_cond lo) (by rw [Int.fdiv_eq_ediv_of_nonneg i (by row_cond lo)];exact q) (.inl (PyProof.noPylong_small (by row_cond lo)))
theorem ad0:OpR X (binaryOp .Mod) (rI (fun _ j=>0 < j) fun i j => .int (i % j)):=opI fun i j _ _ _ _ _ hc q=>by
 have h1:(0:Int) < j:=hc
 exact mod_int' (by row_cond lo) (by rw [Int.fmod_eq_emod_of_nonneg i (by row_cond lo)];exact q)
theorem awk:OpR X (binaryOp .Pow) (rI CPow fun i j => .int (i ^ j.toNat)):=opI fun _ _ _ _ _ _ _ hc q=>pow_int_small hc.1 hc.2.1 hc.2.2 q
end
noncomputable def scal:V->V->Bool
 | .non,.non=>true | .non,.int _=>true | .int _,.non=>true | .non,.bl _=>true | .bl _,.non=>true | .non,.str _=>true | .str _,.non=>true
 | .int _,.int _=>true | .bl _,.bl _=>true | .str _,.str _=>true | .byt _,.byt _=>true
 | .int _,.str _=>true | .str _,.int _=>true | .bl _,.str _=>true | .str _,.bl _=>true
 | _,_=>false
def rEq:R2:=fun x y H Q=>scal x y=true/\Q (.bl (decide (x=y))) H
def rNe:R2:=fun x y H Q=>scal x y=true/\Q (.bl (!decide (x=y))) H
theorem ae8 {i j:Int}:decide (V.int i=V.int j)=(i == j):=by
 rw [Bool.eq_iff_iff]
 simp
theorem ajj {i j:Bool}:decide (V.bl i=V.bl j)=(i == j):=by
 rw [Bool.eq_iff_iff]
 simp
theorem alu {i j:Str}:decide (V.str i=V.str j)=(i == j):=by
 rw [Bool.eq_iff_iff]
 simp
theorem alv {i j:Array UInt8}:decide (V.byt i=V.byt j)=(i.toList == j.toList):=by
 rw [Bool.eq_iff_iff]
 cases i
 cases j
 simp
section
variable {X:Cx} {a b c:Expr} {ta tb tc:TE} {pos:Pos}
theorem aar {pins:List (Addr × Obj)} {σ:St} {H:Hp} {s:Shared} {Q:VK} {k k':Bool} (I:Inv X pins σ H s) (q:Q (.bl k) H) (e:k=k'):EP X pins σ Q (.bool k') s:=by
 subst e
 exact ⟨.bl k,H,I,rfl,q⟩
theorem as6:OpR X (compareOp .Eq) rEq:=by
 intro pins s σ H x y v u Q I rx ry h
 obtain ⟨hs,q⟩:=h
 cases x with
 | non =>
  cases rx
  cases y with
  | non=>cases ry;exact PySem.EqNone.eq_none_none (aar I q (by simp))
  | bl j=>cases ry;exact PySem.EqNone.eq_none_bool (aar I q (by simp))
  | int j=>obtain ⟨t',rfl⟩:=ry;exact PySem.EqNone.eq_none_int (aar I q (by simp))
  | str j=>obtain ⟨t',rfl⟩:=ry;exact PySem.EqNone.eq_none_str (aar I q (by simp))
  | _=>exact absurd (show false=true from hs) Bool.false_ne_true
 | bl i =>
  cases rx
  cases y with
  | non=>cases ry;exact PySem.EqNone.eq_bool_none (aar I q (by simp))
  | bl j=>cases ry;exact eq_bool (aar I q ajj)
  | str j=>obtain ⟨t',rfl⟩:=ry;exact PySem.EqMixed.eq_bool_str (aar I q (by simp))
  | _=>exact absurd (show false=true from hs) Bool.false_ne_true
 | int i =>
  obtain ⟨t,rfl⟩:=rx
  cases y with
  | non=>cases ry;exact PySem.EqNone.eq_int_none (aar I q (by simp))
  | int j=>obtain ⟨t',rfl⟩:=ry;exact eq_int (aar I q ae8)
  | str j=>obtain ⟨t',rfl⟩:=ry;exact PySem.EqMixed.eq_int_str (aar I q (by simp))
  | _=>exact absurd (show false=true from hs) Bool.false_ne_true
 | str i =>
  obtain ⟨t,rfl⟩:=rx
  cases y with
  | non=>cases ry;exact PySem.EqNone.eq_str_none (aar I q (by simp))
  | bl j=>cases ry;exact PySem.EqMixed.eq_str_bool (aar I q (by simp))
  | int j=>obtain ⟨t',rfl⟩:=ry;exact PySem.EqMixed.eq_str_int (aar I q (by simp))
  | str j=>obtain ⟨t',rfl⟩:=ry;exact eq_str (aar I q alu)
  | _=>exact absurd (show false=true from hs) Bool.false_ne_true
 | byt i =>
  obtain ⟨t,rfl⟩:=rx
  cases y with
  | byt j=>obtain ⟨t',rfl⟩:=ry;exact PySem.W.eq_bytes (aar I q alv)
  | _=>exact absurd (show false=true from hs) Bool.false_ne_true
 | _=>cases y <;> exact absurd (show false=true from hs) Bool.false_ne_true
theorem anc:OpR X (compareOp .NotEq) rNe:=by
 intro pins s σ H x y v u Q I rx ry h
 obtain ⟨hs,q⟩:=h
 cases x with
 | non =>
  cases rx
  cases y with
  | non=>cases ry;exact PySem.EqNone.ne_none_none (aar I q (by simp))
  | bl j=>cases ry;exact PySem.EqNone.ne_none_bool (aar I q (by simp))
  | int j=>obtain ⟨t',rfl⟩:=ry;exact PySem.EqNone.ne_none_int (aar I q (by simp))
  | str j=>obtain ⟨t',rfl⟩:=ry;exact PySem.EqNone.ne_none_str (aar I q (by simp))
  | _=>exact absurd (show false=true from hs) Bool.false_ne_true
 | bl i =>
  cases rx
  cases y with
  | non=>cases ry;exact PySem.EqNone.ne_bool_none (aar I q (by simp))
  | bl j=>cases ry;exact ne_bool (aar I q (congrArg not ajj))
  | str j=>obtain ⟨t',rfl⟩:=ry;exact PySem.EqMixed.ne_bool_str (aar I q (by simp))
  | _=>exact absurd (show false=true from hs) Bool.false_ne_true
 | int i =>
  obtain ⟨t,rfl⟩:=rx
  cases y with
  | non=>cases ry;exact PySem.EqNone.ne_int_none (aar I q (by simp))
  | int j=>obtain ⟨t',rfl⟩:=ry;exact ne_int (aar I q (congrArg not ae8))
  | str j=>obtain ⟨t',rfl⟩:=ry;exact PySem.EqMixed.ne_int_str (aar I q (by simp))
  | _=>exact absurd (show false=true from hs) Bool.false_ne_true
 | str i =>
  obtain ⟨t,rfl⟩:=rx
  cases y with
  | non=>cases ry;exact PySem.EqNone.ne_str_none (aar I q (by simp))
  | bl j=>cases ry;exact PySem.EqMixed.ne_str_bool (aar I q (by simp))
  | int j=>obtain ⟨t',rfl⟩:=ry;exact PySem.EqMixed.ne_str_int (aar I q (by simp))
  | str j=>obtain ⟨t',rfl⟩:=ry;exact ne_str (aar I q (congrArg not alu))
  | _=>exact absurd (show false=true from hs) Bool.false_ne_true
 | byt i =>
  obtain ⟨t,rfl⟩:=rx
  cases y with
  | byt j=>obtain ⟨t',rfl⟩:=ry;exact PySem.W.ne_bytes (aar I q (congrArg not alv))
  | _=>exact absurd (show false=true from hs) Bool.false_ne_true
 | _=>cases y <;> exact absurd (show false=true from hs) Bool.false_ne_true
theorem ane:OpR X (compareOp .Lt) (rI0 fun i j => .bl (decide (i < j))):=opB0 fun _ _ _ _ _ _ _ q=>lt_int q
theorem as7:OpR X (compareOp .LtE) (rI0 fun i j => .bl (decide (i<=j))):=opB0 fun _ _ _ _ _ _ _ q=>le_int q
theorem af2:OpR X (compareOp .Gt) (rI0 fun i j => .bl (decide (j < i))):=opB0 fun _ _ _ _ _ _ _ q=>gt_int q
theorem ayq:OpR X (compareOp .GtE) (rI0 fun i j => .bl (decide (j<=i))):=opB0 fun _ _ _ _ _ _ _ q=>ge_int q
theorem awl:OpR X (compareOp .Is) (fun x y H Q=>y=.non/\Q (.bl (decide (x=.non))) H):=by
 intro pins s σ H x y v u Q I rx ry h
 obtain ⟨rfl,q⟩:=h
 cases ry
 refine is_none_gen (aar I q ?_)
 cases x <;> first
  | (cases rx;rfl)
  | (obtain ⟨t,rfl⟩:=rx;rfl)
theorem atx:OpR X (compareOp .IsNot) (fun x y H Q=>y=.non/\Q (.bl (!decide (x=.non))) H):=by
 intro pins s σ H x y v u Q I rx ry h
 obtain ⟨rfl,q⟩:=h
 cases ry
 refine isnot_none_gen (aar I q ?_)
 cases x <;> first
  | (cases rx;rfl)
  | (obtain ⟨t,rfl⟩:=rx;rfl)
theorem aaw (b:Expr) {op:CmpOp} (h:op ≠ .In:=by decide) (h2:op ≠ .NotIn:=by decide):behindInMarks op b=false:=by
 have e1:(op == CmpOp.In)=false:=by cases op <;> first | rfl | exact absurd rfl h
 have e2:(op == CmpOp.NotIn)=false:=by cases op <;> first | rfl | exact absurd rfl h2
 cases b <;> simp [behindInMarks,e1,e2]
theorem acl {op:CmpOp} {r:R2} (ho:OpR X (compareOp op) r) (ha:PE X a ta) (hb:PE X b tb) (hm:behindInMarks op b=false):PE X (.Compare a [op] [b] pos) (tOp r ta tb):=by
 intro pins s σ H Q I h
 exact wpAny_Compare1 (binT ha hb I h fun v u s2 x y H2 I2 rx ry q=>ho pins s2 σ H2 x y v u Q I2 rx ry q) hm
def as8 (t:TE):TT:=fun σ H Q=>t σ H fun x H'=>∃ k,x=.bl k/\Q k H'
theorem aa1 {op:CmpOp} {r:R2} (ho:OpR X (compareOp op) r) (ha:PE X a ta) (hb:PE X b tb) (hm:behindInMarks op b=false):PT X (.Compare a [op] [b] pos) (as8 (tOp r ta tb)):=by
 intro pins s σ H Q I h
 refine wpAny_isTrue_Compare1 (thn (ha pins s σ H _ I h) fun v s1 ⟨x,H1,I1,r1,q1⟩=>thn (hb pins s1 σ H1 _ I1 q1) fun u s2 ⟨y,H2,I2,r2,q2⟩ =>
  thn (ho pins s2 σ H2 x y v u _ I2 r1 r2 q2) fun c s3 ⟨z,H3,I3,r3,k,e,q3⟩=>?_) hm
 subst e
 cases r3
 exact wpAny_truthy_bool ⟨H3,I3,q3⟩
def ajk (r r':R2) (ta tb tc:TE):TE:=fun σ H Q=>ta σ H fun x H1=>tb σ H1 fun y H2=>r x y H2 fun z H3=>∃ k,z=.bl k /\
 (if k=true then tc σ H3 fun w' H4=>r' y w' H4 Q else Q (.bl false) H3)
theorem aqw {op op':CmpOp} {r r':R2} (ho:OpR X (compareOp op) r) (ho':OpR X (compareOp op') r') (ha:PE X a ta) (hb:PE X b tb) (hc:PE X c tc)
  (hm:lastMarks [op,op'] [b,c]=false:=by with_unfolding_all rfl):PE X (.Compare a [op,op'] [b,c] pos) (ajk r r' ta tb tc):=by
 intro pins s σ H Q I h
 refine Compare_chain (thn (ha pins s σ H _ I h) fun v s1 ⟨x,H1,I1,r1,q1⟩=>chain_link (thn (hb pins s1 σ H1 _ I1 q1) fun u s2 ⟨y,H2,I2,r2,q2⟩ =>
  thn (ho pins s2 σ H2 x y v u _ I2 r1 r2 q2) fun d s3 ⟨z,H3,I3,r3,k,e,q3⟩=>?_)) hm
 subst e
 cases r3
 refine wpAny_truthy_bool ?_
 cases k with
 | false=>exact ite_ff ⟨.bl false,H3,I3,rfl,q3⟩
 | true=>exact ite_tt (chain_last (thn (hc pins s3 σ H3 _ I3 q3) fun w' s4 ⟨z',H4,I4,r4,q4⟩=>ho' pins s4 σ H4 y z' u w' Q I4 r2 r4 q4))
def TruV (K:PySem.W.Frag) (x:V) (H:Hp) (k:Bool):Prop :=
 match x with
 | .non=>k=false
 | .bl b=>k=b
 | .int i=>k=(i != 0)
 | .str y=>y.length<=sizeLine/\k=((y.length:Int) != 0)
 | .byt y=>y.size<=sizeLine/\k=((y.size:Int) != 0)
 | .ref p=>(∃ xs,SqL K H p xs/\k = !xs.isEmpty)\/(∃ xs,SqT K H p xs/\k = !xs.isEmpty)\/∃ kvs,H p=some (.dK kvs)/\k = !kvs.isEmpty
 | _=>False
theorem anf {κ:Type} {kvs:List (κ × V)} {vs:List (κ × Value)} (r:KV kvs vs):(!vs.isEmpty) = !kvs.isEmpty:=by
 cases r <;> rfl
theorem af3 {xs:List V} {its:List Value} (r:Vals xs its):(!its.toArray.isEmpty) = !xs.isEmpty:=by
 cases r <;> simp
theorem aep:(sizeLine:Nat) < 2 ^ 63:=by rw [sizeLine_eq];decide
theorem awm:TruR X (fun x H Q=>∃ k,TruV X.K x H k/\Q k H):=by
 intro pins s σ H x v Q I rx h
 obtain ⟨k,e,q⟩:=h
 have hl:=aep
 have hs:sizeLine=16777216:=sizeLine_eq
 cases x with
 | non =>
  cases rx
  have e':k=false:=e
  subst e'
  exact truthy_none ⟨H,I,q⟩
 | bl b =>
  cases rx
  have e':k=b:=e
  subst e'
  exact wpAny_truthy_bool ⟨H,I,q⟩
 | int i =>
  obtain ⟨t,rfl⟩:=rx
  have e':k=(i != 0):=e
  subst e'
  exact PySem.P.truthy_int ⟨H,I,q⟩
 | str y =>
  obtain ⟨t,rfl⟩:=rx
  obtain ⟨hy,e'⟩:y.length<=sizeLine/\k=((y.length:Int) != 0):=e
  subst e'
  exact PySem.P.truthy_str (by row_cond lo) ⟨H,I.tok _,q⟩
 | byt y =>
  obtain ⟨t,rfl⟩:=rx
  obtain ⟨hy,e'⟩:y.size<=sizeLine/\k=((y.size:Int) != 0):=e
  subst e'
  exact PySem.W.truthy_bytes (by row_cond lo) ⟨H,I.tok _,q⟩
 | ref p =>
  cases rx
  have e':(∃ xs,SqL X.K H p xs/\k = !xs.isEmpty)\/(∃ xs,SqT X.K H p xs/\k = !xs.isEmpty)\/∃ kvs,H p=some (.dK kvs)/\k = !kvs.isEmpty:=e
  rcases e' with ⟨xs,hx,e'⟩ | ⟨xs,hx,e'⟩ | ⟨kvs,hx,e'⟩
  ·subst e'
   obtain ⟨its,r,pl,hz⟩:=I.list hx
   have hlen:=r.length
   exact wpAny_truthy_list pl.isList (by simp only [List.size_toArray];row_cond lo) ⟨H,I.tok _,by rw [af3 r];exact q⟩
  ·subst e'
   obtain ⟨its,r,pl,hz⟩:=I.tuple hx
   have hlen:=r.length
   exact truthy_tuple pl (by simp only [List.size_toArray];row_cond lo) ⟨H,I.tok _,by rw [af3 r];exact q⟩
  ·subst e'
   obtain ⟨hz,hS,vs,r,m⟩:kvs.length<=sizeLine/\(p == sysModules)=false/\∃ vs,KV kvs vs/\s.heap.DictOf (aa9 X.prog X.w) p vs:=I.hok p _ hx
   have hlen:kvs.length=vs.length:=Paired.length r
   exact wpAny_truthy_dict hS m (by row_cond lo) ⟨H,I.tok _,by rw [anf r];exact q⟩
 | _=>exact (show False from e).elim
theorem aqx (ha:PE X a ta) (he:∀ whole,isTrue a X.env whole=(do let v ← whole;standAt a.pos;holding [v] (truthy v))) :
  PT X a (fun σ H Q=>ta σ H fun x H'=>∃ k,TruV X.K x H' k/\Q k H'):=by
 intro pins s σ H Q I h
 exact isTrue_plain (thn (ha pins s σ H _ I h) fun v s1 ⟨x,H1,I1,r1,q1⟩=>awm pins s1 σ H1 x v Q I1 r1 q1) (he _)
theorem acu {x:V} {us:List Value} (r:Vals [x] us):∃ u,us=[u]/\RelV x u:=by
 cases r with
 | cons r1 r2=>cases r2;exact ⟨_,rfl,r1⟩
theorem af4 {x y:V} {us:List Value} (r:Vals [x,y] us):∃ u w',us=[u,w']/\RelV x u/\RelV y w':=by
 cases r with
 | cons r1 r2 =>
  cases r2 with
  | cons r3 r4=>cases r4;exact ⟨_,_,rfl,r1,r3⟩
theorem ao0 (hc:X.calm=true):abh X (.builtin "max") (fun xs H Q=>∃ i j,xs=[.int i,.int j]/\Q (.int (if j > i then j else i)) H):=by
 intro pins s σ H xs us Q I r h
 obtain ⟨i,j,rfl,q⟩:=h
 obtain ⟨u,w',rfl,⟨t,rfl⟩,⟨t',rfl⟩⟩:=af4 r
 refine max_two_ints (I.ok.hd hc) fun h' tk k=>⟨_,H,I.kept k,?_,q⟩
 by_cases hj:j > i
 ·rw [if_pos hj,if_pos hj];exact ⟨_,rfl⟩
 ·rw [if_neg hj,if_neg hj];exact ⟨_,rfl⟩
theorem ao1 (hc:X.calm=true):abh X (.builtin "min") (fun xs H Q=>∃ i j,xs=[.int i,.int j]/\Q (.int (if j < i then j else i)) H):=by
 intro pins s σ H xs us Q I r h
 obtain ⟨i,j,rfl,q⟩:=h
 obtain ⟨u,w',rfl,⟨t,rfl⟩,⟨t',rfl⟩⟩:=af4 r
 refine min_two_ints (I.ok.hd hc) fun h' tk k=>⟨_,H,I.kept k,?_,q⟩
 by_cases hj:j < i
 ·rw [if_pos hj,if_pos hj];exact ⟨_,rfl⟩
 ·rw [if_neg hj,if_neg hj];exact ⟨_,rfl⟩
end
end L2
namespace L2
open PySem PySem.Spec PyProof.Rows
structure ObjM (h:Heap) (x dx C:Addr) (mA:Str->Option Value):Prop where
 obj:h.get? x=some (PySem.W.instObj C dx)
 ns:h.Ns1 dx mA
 ne:dx ≠ x
theorem ao2 {h:Heap} {dx:Addr} {mA:Str->Option Value} (n:h.Ns1 dx mA):∃ od,h.get? dx=some od/\∀ name,PySem.W.lookIn name od=some (mA name):=by
 obtain ⟨o,es,ep,ho,hd,hk,_,hm⟩:=n
 refine ⟨o,ho,fun name=>?_⟩
 have e:=hm name
 unfold nsFind findBy at e
 rw [← Array.find?_toList] at e
 unfold PySem.W.lookIn
 rw [hd]
 dsimp only
 split
 ·rename_i y q
  rw [q] at e
  exact congrArg some e
 ·rename_i q
  rw [q] at e
  have a:es.toList.any (·.refKey)=false:=by
   rw [List.any_eq_false]
   intro y hy
   obtain ⟨z,t,hkey⟩:=hk y (Array.mem_toList_iff.mp hy)
   simp [DictEntry.refKey,hkey]
  have a':¬ es.toList.any (·.refKey)=true:=by rw [a];exact Bool.false_ne_true
  rw [if_neg a']
  exact congrArg some e
theorem ObjM.look {h:Heap} {x dx C:Addr} {mA:Str->Option Value} (I:ObjM h x dx C mA):∃ od,PySem.W.InstAt h x (PySem.W.instObj C dx) C (some od)/\∀ name,PySem.W.lookIn name od=some (mA name) :=
 let ⟨od,ho,hl⟩:=ao2 I.ns
 ⟨od,⟨I.obj,rfl,rfl,ho⟩,hl⟩
section
variable {prog:Program} {w:World} {A:Around} {E:Value->Shared->Prop} {s:Shared} {K:PySem.W.Frag} {x dx C f:Addr} {mA:Str->Option Value} {name:Str} {v:Value}
end
noncomputable def putF (f:Str) (v:V):List (Str × V)->List (Str × V)
 | []=>[(f,v)]
 | (g,x) :: r=>if g=f then (g,v) :: r else (g,x) :: putF f v r
section
variable {P:Program} {w:World} {H H':Hp} {h h':Heap} {a C dx:Addr} {fs fs':List (Str × V)}
theorem ins_get (hok:HOk P w H h) (e:H a=some (.ins C dx fs)):∃ mA,ObjM h a dx C mA/\(∀ f,RelO (fs.lookup f) (mA f))/\PySem.Within mA (fs.map (·.1))/\fs.length<=1000/\H dx=some (.own a):=by
 obtain ⟨d,z,ne,ob,mA,n,r,q⟩:=(show ObjOk P w H h a (.ins C dx fs) from hok a _ e)
 exact ⟨mA,⟨ob,n,ne⟩,r,q,z,d⟩
end
structure Cls (K:PySem.W.Frag) (C:Addr):Prop where
 pg:PySem.W.plainGet K C Str.empty=true
 hd:PySem.W.hasDictIn K C=true
 po:PySem.W.plainOver K C=true
 sa:PySem.W.findIn K (.ref C) "__setattr__" = some (some (.builtin "object.__setattr__"))
theorem Cls.get {K:PySem.W.Frag} {C:Addr} (c:Cls K C) (f:Str):PySem.W.plainGet K C f=true:=c.pg
section
variable {X:Cx} {pins:List (Addr × Obj)} {σ:St} {H:Hp} {s:Shared} {a C dx:Addr} {fs:List (Str × V)} {f:Str} {v:V} {A:Around} {E:Value->Shared->Prop}
end
section
variable {X:Cx} {o e value:Expr} {f:Str} {pos pos' tpos:Pos} {ta tv:TE}
end
section
variable {X:Cx} {pins:List (Addr × Obj)} {σ:St} {H:Hp} {s:Shared} {A:Around} {E:Value->Shared->Prop} {Q:Value->Shared->Prop} {c:Value} {b:Bool}
inductive TyOf (K:PySem.W.Frag) (H:Hp):V->Value->Prop where
 | non:TyOf K H .non (.type "NoneType")
 | bl (x:Bool):TyOf K H (.bl x) (.type "bool")
 | int (i:Int):TyOf K H (.int i) (.type "int")
 | str (x:Str):TyOf K H (.str x) (.type "str")
 | flt (x:UInt64):TyOf K H (.flt x) (.type "float")
 | lst {a:Addr} {xs:List V} (e:H a=some (.lst xs)):TyOf K H (.ref a) (.type "list")
 | frz {a:Addr} {o:Obj} {xs:List V} (e:H a=some (.frz o (.lst xs))):TyOf K H (.ref a) (.type "list")
 | tup {a:Addr} {xs:List V} (e:H a=some (.tup xs)):TyOf K H (.ref a) (.type "tuple")
 | dK {a:Addr} {kvs:List (Key × V)} (e:H a=some (.dK kvs)):TyOf K H (.ref a) (.type "dict")
 | dT {a:Addr} {kvs:List (List Key × V)} (e:H a=some (.dT kvs)):TyOf K H (.ref a) (.type "dict")
 | ins {a C dx:Addr} {fs:List (Str × V)} (e:H a=some (.ins C dx fs)) (cl:Cls K C) (ha:PySem.W.findIn K (.ref C) "__class__" = some (some (.builtin "object.__class__")))
   (hn:PySem.W.specialIn K (.builtin "object.__class__") "__get__" = some (some (.builtin "getset_descriptor.__get__"))) (htk:PySem.W.takesIn K (.builtin "object.__class__")=some true)
   (hm:PySem.W.mroIn K C (.type "object")=some true):TyOf K H (.ref a) (.ref C)
theorem ao3 {x:V} {u t:Value} (I:Inv X pins σ H s) (rx:RelV x u) (ty:TyOf X.K H x t) (e:PySem.W.kitOne X.K t c=some b) (h:∀ tk,Q (.bool b) { s with toks:=tk }) :
  wpAny (model X.prog X.w) A (call (.builtin "isinstance") [u,c]) Q E s:=by
 cases ty with
 | non=>cases (show u=Value.none from rx);exact PySem.W.kia_one PySem.W.kitx_none I.kIn True.intro e (fun z=>nomatch z) h
 | bl y=>cases (show u=Value.bool y from rx);exact PySem.W.kia_one PySem.W.kitx_bool I.kIn True.intro e (fun z=>nomatch z) h
 | int i=>obtain ⟨t,q⟩:=(show ∃ t,u=Value.int i t from rx);cases q;exact PySem.W.kia_one PySem.W.kitx_int I.kIn True.intro e (fun z=>nomatch z) h
 | str y=>obtain ⟨t,q⟩:=(show ∃ t,u=Value.str y t from rx);cases q;exact PySem.W.kia_one PySem.W.kitx_str I.kIn True.intro e (fun z=>nomatch z) h
 | flt y=>obtain ⟨t,q⟩:=(show ∃ t,u=Value.float y t from rx);cases q;exact PySem.W.kia_one PySem.W.kitx_float I.kIn True.intro e (fun z=>nomatch z) h
 | @lst a xs ea =>
  cases (show u=Value.ref a from rx)
  obtain ⟨_,_,n,_,h1⟩:=(show ObjOk X.prog X.w H s.heap a (.lst xs) from I.hok a _ ea)
  exact PySem.W.kia_one PySem.W.kitx_list I.kIn ⟨_,h1,rfl⟩ e (fun z=>nomatch z) h
 | @frz a ob xs ea =>
  cases (show u=Value.ref a from rx)
  obtain ⟨_,_,_,n,_,h1⟩:=(show ObjOk X.prog X.w H s.heap a (.frz ob (.lst xs)) from I.hok a _ ea)
  exact PySem.W.kia_one PySem.W.kitx_list I.kIn ⟨_,h1,rfl⟩ e (fun z=>nomatch z) h
 | @tup a xs ea =>
  cases (show u=Value.ref a from rx)
  obtain ⟨_,_,_,p⟩:=(show ObjOk X.prog X.w H s.heap a (.tup xs) from I.hok a _ ea)
  obtain ⟨o,h1,h2,_⟩:=p
  exact PySem.W.kia_one PySem.W.kitx_tuple I.kIn ⟨o,h1,h2⟩ e (fun z=>nomatch z) h
 | @dK a kvs ea =>
  cases (show u=Value.ref a from rx)
  obtain ⟨_,_,vs,_,p⟩:=(show ObjOk X.prog X.w H s.heap a (.dK kvs) from I.hok a _ ea)
  obtain ⟨o,es,ep,h1,h2,_⟩:=p
  exact PySem.W.kia_one PySem.W.kitx_dict I.kIn ⟨o,h1,h2.1⟩ e (fun z=>nomatch z) h
 | @dT a kvs ea =>
  cases (show u=Value.ref a from rx)
  obtain ⟨_,_,xs,_,o,es,ep,h1,h2,_⟩:=(show ObjOk X.prog X.w H s.heap a (.dT kvs) from I.hok a _ ea)
  exact PySem.W.kia_one PySem.W.kitx_dict I.kIn ⟨o,h1,h2.1⟩ e (fun z=>nomatch z) h
 | @ins a C dx fs ea cl ha hn htk hm =>
  cases (show u=Value.ref a from rx)
  obtain ⟨mA,O,_⟩:=ins_get I.hok ea
  obtain ⟨od,J,_⟩:=O.look
  exact PySem.W.kia_one (PySem.W.kitx_own (cl.get _) cl.hd ha hn htk hm) I.kIn J e (fun z=>nomatch z) h
end
end L2
namespace L2
open PySem PySem.Spec PyProof.Rows
structure Room (k:Nat) (A:Around):Prop where
 hd:A.handled=none
 dp:A.depth+3 * k+5 < recursionLimit
 un:A.units+16 * k+200 < cLine
theorem Room.mono {j k:Nat} {A:Around} (r:Room k A) (h:j<=k):Room j A:=⟨r.hd,by have:=r.dp;row_cond lo,by have:=r.un;row_cond lo⟩
theorem Room.deeper {k:Nat} {A:Around} (r:Room (k+1) A) (env:Env):Room k (A.deeper env) :=
 ⟨r.hd,by have:=r.dp;show A.depth+1+3 * k+5 < _;row_cond lo,by have:=r.un;show A.units+3+16 * k+200 < _;row_cond lo⟩
theorem Room.in1 {k:Nat} {A:Around} (r:Room (k+1) A):Room k A.in1 :=
 ⟨r.hd,by have:=r.dp;show A.depth+3 * k+5 < _;row_cond lo,by have:=r.un;show A.units+1+16 * k+200 < _;row_cond lo⟩
theorem Room.depth {k:Nat} {A:Around} (r:Room k A):A.depth < recursionLimit:=by have:=r.dp;row_cond lo
theorem Room.units {k:Nat} {A:Around} (r:Room k A):A.units+64 < cLine:=by have:=r.un;row_cond lo
def tNil:TA:=fun _ H Q=>Q [] H
def aa6 (ta:TE) (tr:TA):TA:=fun σ H Q=>ta σ H fun x H1=>tr σ H1 fun xs H2=>Q (x :: xs) H2
section
variable {X:Cx} {e:Expr} {es:List Expr} {te:TE} {t:TA} {pos:Pos}
theorem aab:PA X [] tNil:=fun _ _ _ _ H Q I h=>Calls.spliced_nil ⟨[],H,I,.nil,h⟩
theorem aaa (ha:PE X e te) (hr:PA X es t) (hs:starEach (e :: es) X.env=(false,eval e X.env) :: starEach es X.env:=by rfl):PA X (e :: es) (aa6 te t):=by
 intro pos pins s σ H Q I h
 rw [hs]
 show wpAny _ _ (spliced ((false,eval e X.env) :: backTo pos (starEach es X.env))) _ _ s
 refine Calls.spliced_cons (thn (ha pins s σ H _ I h) fun u s1 ⟨x,H1,I1,r1,q1⟩=>?_)
 exact thn (hr pos pins s1 σ H1 _ I1 q1) fun us s2 ⟨xs,H2,I2,r2,q2⟩=>⟨x :: xs,H2,I2,.cons r1 r2,q2⟩
def tTup (t:TA):TE:=fun σ H Q=>t σ H fun xs H1=>xs.length<=sizeLine/\∀ p,H1 p=none->Q (.ref p) (upd H1 p (.tup xs))
def tLst (t:TA):TE:=fun σ H Q=>t σ H fun xs H1=>xs.length<=sizeLine/\∀ p,H1 p=none->Q (.ref p) (upd H1 p (.lst xs))
theorem ach {x1} (h:PA X es t):PE X (.Tuple es x1 pos) (tTup t):=by
 intro pins s σ H Q I hq
 refine wpAny_Tuple_spliced (thn (h pos pins s σ H _ I hq) fun us s1 ⟨xs,H1,I1,r,z,q⟩=>⟨by rw [← r.length];exact z,?_⟩)
 have hf:H1 s1.heap.objs.size=none:=I1.hok.fresh (Nat.le_refl _)
 refine ⟨.ref s1.heap.objs.size,upd H1 s1.heap.objs.size (.tup xs),I1.laid (t':=s1.toks) (fun b u e=>Heap.get?_push_of_some _ e) (Nat.le_refl _) ?_,rfl,q _ hf⟩
 exact ⟨z,us,r,⟨_,Heap.get?_push_size _ rfl,rfl,_,rfl⟩⟩
theorem abc (h:PA X es t):PE X (.List es pos) (tLst t):=by
 intro pins s σ H Q I hq
 refine wpAny_List_spliced (thn (h pos pins s σ H _ I hq) fun us s1 ⟨xs,H1,I1,r,z,q⟩=>⟨by rw [← r.length];exact z,?_⟩)
 have hf:H1 s1.heap.objs.size=none:=I1.hok.fresh (Nat.le_refl _)
 refine ⟨.ref s1.heap.objs.size,upd H1 s1.heap.objs.size (.lst xs),I1.laid (t':=s1.toks) (fun b u e=>Heap.get?_push_of_some _ e) (Nat.le_refl _) ?_,rfl,q _ hf⟩
 exact ⟨z,us,0,r,Heap.get?_push_size _ rfl⟩
end
noncomputable abbrev Sp:=List V->Hp->VK->XK->Prop
noncomputable abbrev CXT:=List Env->Hp->Shared->XK->Value->Shared->Prop
structure Env0 (P:Program) (w:World) (K:PySem.W.Frag) (mg:Str->Option Value) (base:Heap) (A:Around) (outer:List Env) (s:Shared) (H:Hp):Prop where
 frames:A.frames=some outer
 mod:Mod K mg base
 bs:∀ b o,base.get? b=some o->s.heap.get? b=some o/\H b=none
 bsz:base.objs.size<=s.heap.objs.size
 funs:s.heap.FunFrames base outer
 frf:∀ b∈frs outer,H b=none
 hok:HOk P w H s.heap
 bare:AllBare s.gens
def CE (outer:List Env) (P:Program) (w:World) (H:Hp) (s:Shared) (Q:VK) (u:Value) (s':Shared):Prop :=
 ∃ v H',s'.os=s.os/\AllBare s'.gens/\Un (frs outer) [] H H' s.heap s'.heap/\HOk P w H' s'.heap/\RelV v u/\Q v H'
def CR (CX:CXT) (outer:List Env) (P:Program) (w:World) (H:Hp) (s:Shared) (Q:VK) (E:XK) (r:Result) (s':Shared):Prop :=
 match r with
 | .ok (.ret u)=>CE outer P w H s Q u s'
 | .ok _=>False
 | .error e=>CX outer H s E e s'
structure FnOk (P:Program) (w:World) (K:PySem.W.Frag) (mg:Str->Option Value) (base:Heap) (CX:CXT) (k:Nat) (f:Addr) (fd:FuncData) (ps:List Str) (sp:Sp):Prop where
 len:∀ vs H Q E,sp vs H Q E->vs.length=ps.length
 run:∀ (A:Around) (outer:List Env) (s:Shared) (H:Hp) (args:Args) (us:List Value) (vs:List V) (Q:VK) (E:XK),Room k A->Env0 P w K mg base A outer s H->BindsTo s fd args (ps.zip us)->Vals vs us->sp vs H Q E ->
  codeAny (model P w) A (.call (.ref f) args) (CR CX outer P w H s Q E) s
theorem FnOk.mono {P:Program} {w:World} {K:PySem.W.Frag} {mg:Str->Option Value} {base:Heap} {CX:CXT} {j k:Nat} {f:Addr} {fd:FuncData} {ps:List Str} {sp:Sp} (F:FnOk P w K mg base CX j f fd ps sp) (h:j<=k) :
  FnOk P w K mg base CX k f fd ps sp:=⟨F.len,fun A outer s H args us vs Q E hr=>F.run A outer s H args us vs Q E (hr.mono h)⟩
theorem FnOk.imp {P:Program} {w:World} {K:PySem.W.Frag} {mg:Str->Option Value} {base:Heap} {CX:CXT} {k:Nat} {f:Addr} {fd:FuncData} {ps:List Str} {sp sp':Sp} (F:FnOk P w K mg base CX k f fd ps sp)
  (h:∀ vs H Q E,sp' vs H Q E->sp vs H Q E):FnOk P w K mg base CX k f fd ps sp' :=
 ⟨fun vs H Q E q=>F.len vs H Q E (h _ _ _ _ q),fun A outer s H args us vs Q E hr he hb hv hs=>F.run A outer s H args us vs Q E hr he hb hv (h _ _ _ _ hs)⟩
theorem Env0.in1 {P:Program} {w:World} {K:PySem.W.Frag} {mg:Str->Option Value} {base:Heap} {A:Around} {outer:List Env} {s:Shared} {H:Hp} (e:Env0 P w K mg base A outer s H) :
  Env0 P w K mg base A.in1 outer s H:=⟨e.frames,e.mod,e.bs,e.bsz,e.funs,e.frf,e.hok,e.bare⟩
section
variable {X:Cx} {pins:List (Addr × Obj)} {σ:St} {H:Hp} {s s':Shared}
theorem Inv.env0 (I:Inv X pins σ H s):Env0 X.prog X.w X.K X.mg X.base X.A X.stack s H :=
 ⟨I.ok.frames,I.ok.mod,I.bs,Nat.le_trans I.ok.bsz I.sz,I.stack,I.stkFree,I.hok,I.bare⟩
theorem Inv.after {Q:VK} {u:Value} (I:Inv X pins σ H s) (h:CE X.stack X.prog X.w H s Q u s'):EP X pins σ Q u s':=by
 obtain ⟨v,H',os,bare,un,hok,r,q⟩:=h
 obtain ⟨hh,g,d,t,os'⟩:=s'
 obtain rfl:os'=s.os:=os
 exact ⟨v,H',I.call (h':=hh) (g':=g) (d':=d) (t':=t) (ch:=[]) un hok bare (fun b z=>absurd z (by simp)),r,q⟩
end
def ab1 (sp:Sp) (dvs:List V) (E:XK) (t:TA):TE:=fun σ H Q=>t σ H fun vs H1=>sp (vs ++ dvs) H1 Q E
def Binds (K:PySem.W.Frag) (fd:FuncData) (ps:List Str) (ds:List Value):Prop :=
 ∀ (s:Shared) (us:List Value),K.In s.heap->(us ++ ds).length=ps.length->BindsTo s fd ⟨us,[]⟩ (ps.zip (us ++ ds))
theorem Binds.all {K:PySem.W.Frag} {fd:FuncData} {ps:List Str} (h:∀ us:List Value,us.length=ps.length->bindArgs fd ⟨us,[]⟩=pure (ps.zip us)):Binds K fd ps []:=fun s us _ hl=>by
 rw [List.append_nil] at hl ⊢
 exact .of_eq (h us hl)
def ajl (CX:CXT) (X:Cx) (E:XK):Prop:=∀ (pins:List (Addr × Obj)) (σ:St) (H:Hp) (s:Shared) (e:Value) (s':Shared),Inv X pins σ H s->CX X.stack H s E e s'->X.xe e s'
section
variable {X:Cx} {CX:CXT} {k:Nat} {f C:Addr} {fd:FuncData} {ps:List Str} {sp:Sp} {dvs:List V} {ds:List Value} {E:XK} {x m:Str} {p pos apos:Pos} {e o:Expr} {es:List Expr} {ta:TE} {t:TA}
theorem awn {pins:List (Addr × Obj)} {σ:St} {H:Hp} {s:Shared} {Q:VK} {us:List Value} {vs:List V} (F:FnOk X.prog X.w X.K X.mg X.base CX k f fd ps sp) (hr:Room k X.A) (hb:Binds X.K fd ps ds) (hd:Vals dvs ds) (hx:ajl CX X E)
  (I:Inv X pins σ H s) (r:Vals vs us) (h:sp (vs ++ dvs) H Q E):wpAny (model X.prog X.w) X.A (call (.ref f) us) (EP X pins σ Q) X.xe s:=by
 have r2:Vals (vs ++ dvs) (us ++ ds):=r.append hd
 have hl:(us ++ ds).length=ps.length:=by rw [← r2.length];exact F.len _ _ _ _ h
 refine wpAny_call (codeAny_mono (F.run X.A X.stack s H ⟨us,[]⟩ (us ++ ds) (vs ++ dvs) Q E hr I.env0 (hb s us I.kIn hl) r2 h) fun r s' hq=>?_)
 cases r with
 | error e=>exact hx pins σ H s e s' I hq
 | ok fl =>
  cases fl with
  | ret u=>exact I.after hq
  | next=>exact False.elim hq
  | brk=>exact False.elim hq
  | cont=>exact False.elim hq
theorem aty (F:FnOk X.prog X.w X.K X.mg X.base CX k f fd ps sp) (hr:Room k X.A) (hg:Gl X x) (hm:X.mg x=some (.ref f)) (hk:PySem.W.keepIn X.K (.ref f)=true) (hb:Binds X.K fd ps ds) (hd:Vals dvs ds) (hx:ajl CX X E)
  (ha:PA X (e :: es) t) (hdb:(x == ("__debug__" : Str))=false:=by decide) (he:starEach (e :: es) X.env=(false,eval e X.env) :: starEach es X.env:=by rfl) (hpl:(backTo pos (starEach es X.env)).any (·.1)=false:=by rfl) :
  PE X (.Call (.Name x p) (e :: es) [] pos) (ab1 sp dvs E t):=by
 intro pins s σ H Q I h
 refine wpAny_Call_Name_kw (atv I hg hm ?_ hdb)
 refine PySem.W.callWith_K (h₀:=X.base) I.ok.mod.kin hk (thn (ha pos pins s σ H _ I h) fun us s1 ⟨vs,H1,I1,r,q⟩=>⟨I1.kIn,?_⟩) he hpl
 exact awn F hr hb hd hx I1 r q
end
def PK (X:Cx) (kws:List Keyword) (t:TA):Prop :=
 ∀ (pos:Pos) (pins:List (Addr × Obj)) (s:Shared) (σ:St) (H:Hp) (Q:List V->Hp->Prop),Inv X pins σ H s->t σ H Q->wpAny (model X.prog X.w) X.A (evalAll ((backToKw pos (keywordEach kws X.env)).map (·.2))) (AP X pins σ Q) X.xe s
section
variable {X:Cx} {CX:CXT} {k:Nat} {f C:Addr} {fd:FuncData} {ps ks:List Str} {sp:Sp} {E:XK} {x m:Str} {p pos apos kpos:Pos} {e o:Expr} {es:List Expr} {kws:List Keyword} {te ta:TE} {t tk:TA} {nm:Option Str}
theorem awo:PK X [] tNil:=fun _ _ _ _ H Q I h=>wpAny_evalAll_nil ⟨[],H,I,.nil,h⟩
theorem atz (ha:PE X e te) (hr:PK X kws t):PK X (⟨nm,e,kpos⟩ :: kws) (aa6 te t):=by
 intro pos pins s σ H Q I h
 show wpAny _ _ (evalAll ((do let v ← eval e X.env;standAt pos;pure v) :: (backToKw pos (keywordEach kws X.env)).map (·.2))) _ _ s
 refine wpAny_evalAll_cons (wpAny_bind (thn (ha pins s σ H _ I h) fun u s1 ⟨x,H1,I1,r1,q1⟩=>wpAny_bind (wpAny_standAt (wpAny_pure ?_))))
 exact thn (hr pos pins s1 σ H1 _ I1 q1) fun us s2 ⟨xs,H2,I2,r2,q2⟩=>⟨x :: xs,H2,I2,.cons r1 r2,q2⟩
variable {g:List Value->List Value->List Value} {gV:List V->List V->List V}
end
structure FnScope (N P:List Str) (sc:Scope):Prop where
 kind:sc.kind=.function
 co:sc.isCoroutine=false
 gen:sc.isGenerator=false
 nd:N.Nodup
 pre:N.take P.length=P
 par:∀ x∈P,sc.names.lookup x=some .local\/sc.names.lookup x=some .cell
 nofree:∀ y∈sc.names,y.2 ≠ .free
theorem ahr {kindOf:Str->Option NameKind} {x:Str}:∀ {binds:List (Str × Value)} {m:Str->Option Value},(∀ v,(x,v) ∉ binds)->bindL kindOf binds m x=m x
 | [],_,_=>rfl
 | (n,v) :: r,m,h=>by
  unfold bindL
  rw [ahr fun w hw=>h w (List.mem_cons_of_mem _ hw)]
  split
  ·have:x ≠ n:=by rintro rfl;exact h v List.mem_cons_self
   simp [this]
  ·rfl
theorem ahs {kindOf:Str->Option NameKind} {x:Str}:∀ {binds:List (Str × Value)} {m:Str->Option Value},(∀ v,(x,v) ∉ binds)->bindC kindOf binds m x=m x
 | [],_,_=>rfl
 | (n,v) :: r,m,h=>by
  unfold bindC
  rw [ahs fun w hw=>h w (List.mem_cons_of_mem _ hw)]
  split
  ·rfl
  ·have:x ≠ n:=by rintro rfl;exact h v List.mem_cons_self
   simp [this]
theorem aht {kindOf:Str->Option NameKind} {x:Str} {v:Value}:∀ {P:List Str} {vs:List Value} {i:Nat} {m:Str->Option Value},P.Nodup->P[i]?=some x->vs[i]?=some v->kindOf x=some .local ->
  bindL kindOf (P.zip vs) m x=some v
 | [],_,_,_,_,h,_,_=>by simp at h
 | _ :: _,[],_,_,_,_,h,_=>by simp at h
 | p :: P,w :: vs,0,m,nd,h1,h2,hk=>by
  simp at h1 h2;subst h1;subst h2
  show bindL kindOf ((p,w) :: P.zip vs) m p=_
  unfold bindL
  rw [ahr fun v hv=>(List.nodup_cons.mp nd).1 (List.of_mem_zip hv).1,if_pos hk]
  simp
 | p :: P,w :: vs,i+1,m,nd,h1,h2,hk=>by
  show bindL kindOf ((p,w) :: P.zip vs) m x=_
  unfold bindL
  exact aht (i:=i) (List.nodup_cons.mp nd).2 (by simpa using h1) (by simpa using h2) hk
theorem ahu {kindOf:Str->Option NameKind} {x:Str} {v:Value}:∀ {P:List Str} {vs:List Value} {i:Nat} {m:Str->Option Value},P.Nodup->P[i]?=some x->vs[i]?=some v->kindOf x ≠ some .local ->
  bindC kindOf (P.zip vs) m x=some v
 | [],_,_,_,_,h,_,_=>by simp at h
 | _ :: _,[],_,_,_,_,h,_=>by simp at h
 | p :: P,w :: vs,0,m,nd,h1,h2,hk=>by
  simp at h1 h2;subst h1;subst h2
  show bindC kindOf ((p,w) :: P.zip vs) m p=_
  unfold bindC
  rw [ahs fun v hv=>(List.nodup_cons.mp nd).1 (List.of_mem_zip hv).1,if_neg hk]
  simp
 | p :: P,w :: vs,i+1,m,nd,h1,h2,hk=>by
  show bindC kindOf ((p,w) :: P.zip vs) m x=_
  unfold bindC
  exact ahu (i:=i) (List.nodup_cons.mp nd).2 (by simpa using h1) (by simpa using h2) hk
noncomputable def start (N:List Str) (vs:List V):St:=vs.map some ++ List.replicate (N.length - vs.length) none
noncomputable def cxOf (CX:CXT) (P:Program) (w:World) (K:PySem.W.Frag) (mg:Str->Option Value) (base:Heap) (N:List Str) (qual:Str) (scope:Scope) (f:Addr) (cd:Value) (A:Around) (outer:List Env) (s:Shared) (H:Hp) (E:XK):Cx where
 prog:=P
 w:=w
 K:=K
 mg:=mg
 base:=base
 A:=A.deeper (envOfC qual scope s.heap.objs.size f cd)
 N:=N
 s₀:=s
 H₀:=H
 env:=envOfC qual scope s.heap.objs.size f cd
 outer:=outer
 stack:=envOfC qual scope s.heap.objs.size f cd :: outer
 ex:=[]
 calm:=true
 fn:=fun _=>true
 pn:=[]
 xe:=fun e s'=>wpAny (model P w) (A.deeper (envOfC qual scope s.heap.objs.size f cd)) (leaving (envOfC qual scope s.heap.objs.size f cd) e) (fun _ s''=>CX outer H s E e s'') (fun e' s''=>CX outer H s E e' s'') s'
theorem ajm {sc:Scope} {n:Nat} {x:Str} (h:sc.names.lookup x=some .cell):∃ c,(cellsFrom n sc.names []).lookup x=some c:=by
 have q:=PySem.W.cellsFrom_some sc.names n [] (.inl h)
 exact Option.isSome_iff_exists.mp q
theorem ao4 {CX:CXT} {P:Program} {w:World} {K:PySem.W.Frag} {mg:Str->Option Value} {base:Heap} {N ps:List Str} {qual:Str} {scope:Scope} {f:Addr} {cd:Value} {A:Around} {outer:List Env} {s s1:Shared} {H:Hp} {E:XK} {us:List Value} {vs:List V}
  (S:FnScope N ps scope) (hd:A.handled=none) (e0:Env0 P w K mg base A outer s H) (hl:vs.length=ps.length) (r:Vals vs us)
  (x:InCallC s s.heap.objs.size (bindL (envOfC qual scope s.heap.objs.size f cd).kindOf (ps.zip us) fun _=>none) (cellsFrom (s.heap.objs.size+1) scope.names []) (bindC (envOfC qual scope s.heap.objs.size f cd).kindOf (ps.zip us) fun _=>none) s1) :
  Inv (cxOf CX P w K mg base N qual scope f cd A outer s H E) [] (start N vs) H s1:=by
 have hpl:ps.length<=N.length:=by have:=congrArg List.length S.pre;rw [List.length_take] at this;row_cond lo
 obtain ⟨h1,tk,rfl,hk⟩:=x.done
 have noA:∀ b:Addr,b ∉ (cxOf CX P w K mg base N qual scope f cd A outer s H E).ex:=fun b z=>absurd (show b∈([]:List Addr) from z) (by simp)
 refine ⟨⟨e0.mod,S.kind,rfl,rfl,Nat.le_refl _,fun y z c h1 h2=>?_,fun y hy=>?_,fun y c _ h=>?_,fun _=>hd,Around.frames_deeper e0.frames,.inr ⟨rfl,rfl⟩,fun b z=>absurd z (noA b),e0.bs,e0.bsz,fun b _ _=>noA b,fun b z=>absurd z (noA b),e0.funs,e0.frf⟩,
  rfl,e0.bare,Un.kept hk,⟨_,x.toInCall.ns,fun i y v h1 h2 h3=>?_⟩,fun y c h=>⟨_,x.cell y c h⟩,e0.hok.fresh (Nat.le_refl _),fun y c h=>?_,fun p hp=>absurd (show p∈([]:List (Addr × Obj)) from hp) (by simp),e0.hok.kept hk,?_⟩
 ·exact name_of_addr x.apart (PySem.mem_of_lookup h1) (PySem.mem_of_lookup h2)
 ·have hy:scope.names.lookup y=some .cell\/scope.names.lookup y=some .free:=hy
  rcases hy with hy | hy
  ·exact ajm hy
  ·exact absurd rfl (S.nofree _ (PySem.mem_of_lookup hy))
 ·exact Nat.le_of_lt (x.above y c (PySem.mem_of_lookup h))
 ·have hi:i < vs.length:=by
   unfold start at h2
   by_cases hi:i < vs.length
   ·exact hi
   ·rw [List.getElem?_append_right (by simpa using hi)] at h2
    rw [List.getElem?_replicate] at h2
    split at h2 <;> cases h2
  have ha:vs[i]?=some v:=by
   unfold start at h2
   rw [List.getElem?_append_left (by simpa using hi),List.getElem?_map] at h2
   cases e:vs[i]? with
   | none=>rw [e] at h2;cases h2
   | some a=>rw [e] at h2;cases h2;rfl
  obtain ⟨u,hu,rv⟩:=r.get ha
  have hp:ps[i]?=some y:=by
   rw [← S.pre,List.getElem?_take_of_lt (by row_cond lo)];exact h1
  have ndP:ps.Nodup:=by rw [← S.pre];exact S.nd.sublist (List.take_sublist _ _)
  refine ⟨u,rv,?_⟩
  rcases S.par y (List.mem_of_getElem? hp) with k | k
  ·exact .inl ⟨k,aht ndP hp hu k⟩
  ·obtain ⟨c,e⟩:=ajm (n:=s.heap.objs.size+1) k
   refine .inr ⟨.inl k,c,e,?_⟩
   have q:=x.cell y c e
   rw [ahu ndP hp hu (by show scope.names.lookup y ≠ _;rw [k];decide)] at q
   exact q
 ·exact e0.hok.fresh (Nat.le_of_lt (x.above y c (PySem.mem_of_lookup h)))
 ·unfold start
  show _=N.length
  rw [List.length_append,List.length_map,List.length_replicate]
  row_cond lo
theorem ayr {CX:CXT} {P:Program} {w:World} {K:PySem.W.Frag} {mg:Str->Option Value} {base:Heap} {k:Nat} {f:Addr} {name qual:Str} {params:Arguments} {body:List Stmt} {scope:Scope} {dV kV doc pm cdv ct oc:Value} {an od:Option Addr}
  {osl:Array (Option Value)} {N ps:List Str} {sp:Sp} (lk:K.lookup f=some ⟨oc,od,.func (PySem.W.fnOf name qual params body scope dV kV doc pm an cdv ct),osl⟩) (hcd:PySem.W.codeIn K cdv qual=true) (S:FnScope N ps scope)
  (len:∀ vs H Q E,sp vs H Q E->vs.length=ps.length)
  (hbody:∀ (A:Around) (outer:List Env) (s:Shared) (H:Hp) (vs:List V) (Q:VK) (E:XK),Room k (A.deeper (envOfC qual scope s.heap.objs.size f cdv))->sp vs H Q E ->
   ∃ t,PSs (cxOf CX P w K mg base N qual scope f cdv A outer s H E) body t/\t { nx:=fun _ H'=>Q .non H',rt:=Q } (start N vs) H) :
  FnOk P w K mg base CX (k+1) f (PySem.W.fnOf name qual params body scope dV kV doc pm an cdv ct) ps sp:=by
 refine ⟨len,fun A outer s H args us vs Q E hr e0 hb r hsp=>?_⟩
 have hl:=len _ _ _ _ hsp
 have KX:K.In s.heap:=e0.mod.kin.keeps fun b o e=>(e0.bs b o e).1
 have lim:s.heap.NoLimit:=e0.mod.nolimit.keeps fun b o e=>(e0.bs b o e).1
 have hkind:∀ y∈ps.zip us,scope.names.lookup y.1=some .local\/(scope.names.lookup y.1=some .cell/\((cellsFrom (s.heap.objs.size+1) scope.names []).lookup y.1).isSome=true):=fun ⟨n,v⟩ hy=>by
  rcases S.par n (List.of_mem_zip hy).1 with q | q
  ·exact .inl q
  ·exact .inr ⟨q,PySem.W.cellsFrom_some _ _ _ (.inl q)⟩
 refine codeAny_call_function hr.depth (KX _ _ lk) rfl S.co S.gen rfl (PySem.W.codeRec_of KX hcd) (hb _ _ _ _ ?_)
 refine wpAny_newFunctionEnv_cells S.kind hkind fun env he s1 x=>?_
 subst he
 refine ⟨lim.keeps x.toInCall.keep,codeAny_func ?_⟩
 obtain ⟨t,ht,hq⟩:=hbody A outer s H vs Q E (hr.deeper _) hsp
 have I:Inv (cxOf CX P w K mg base N qual scope f cdv A outer s H E) [] (start N vs) H s1:=ao4 S hr.hd e0 hl r x
 refine wpAny_mono (ht [] s1 (start N vs) H _ I hq) (fun fl s' hs=>?_) fun e s' hs=>hs
 have fin:∀ {σ':St} {H':Hp} {v:V} {u:Value},Inv (cxOf CX P w K mg base N qual scope f cdv A outer s H E) [] σ' H' s'->RelV v u->Q v H'->CE outer P w H s Q u s' :=
  fun {σ' H' v u} J rv q=>⟨v,H',J.os,J.bare,J.base,J.hok,rv,q⟩
 cases fl with
 | ret u =>
  obtain ⟨v,σ',H',J,rv,q⟩:=hs
  exact fin J rv q
 | next =>
  obtain ⟨σ',H',J,q⟩:=hs
  exact fin (v:=V.non) (u:=Value.none) J rfl q
 | brk =>
  obtain ⟨_,_,_,q⟩:=hs
  exact False.elim q
 | cont =>
  obtain ⟨_,_,_,q⟩:=hs
  exact False.elim q
end L2
namespace L2
open PySem PySem.Spec PyProof.Rows
section
variable {X:Cx} {x:Str} {p pos:Pos} {e:Expr} {es:List Expr} {t:TA} {id T:String} {r:List V->Hp->VK->Prop}
def tCB (r:List V->Hp->VK->Prop) (t:TA):TE:=fun σ H Q=>t σ H fun vs H1=>r vs H1 Q
theorem aal (hc:abh X (.builtin id) r) (hg:Gl X x) (hm:X.mg x=none) (hv:bootBuiltins x=some (.builtin id)) (ha:PA X (e :: es) t) (hn:x ≠ "__name__":=by decide) (hdb:(x == ("__debug__" : Str))=false:=by decide)
  (he:starEach (e :: es) X.env=(false,eval e X.env) :: starEach es X.env:=by rfl) (hpl:(backTo pos (starEach es X.env)).any (·.1)=false:=by rfl):PE X (.Call (.Name x p) (e :: es) [] pos) (tCB r t):=by
 intro pins s σ H Q I h
 refine wpAny_Call_Name_kw (ace I hg hm hv ?_ hn hdb)
 exact PyProof.Rows.callWith_builtin1 (thn (ha pos pins s σ H _ I h) fun us s1 ⟨vs,H1,I1,r1,q1⟩=>hc pins s1 σ H1 vs us Q I1 r1 q1) he hpl
theorem ahv (hc:abh X (.type T) r) (hg:Gl X x) (hm:X.mg x=none) (hv:bootBuiltins x=some (.type T)) (ha:PA X (e :: es) t) (hn:x ≠ "__name__":=by decide) (hdb:(x == ("__debug__" : Str))=false:=by decide)
  (he:starEach (e :: es) X.env=(false,eval e X.env) :: starEach es X.env:=by rfl) (hpl:(backTo pos (starEach es X.env)).any (·.1)=false:=by rfl):PE X (.Call (.Name x p) (e :: es) [] pos) (tCB r t):=by
 intro pins s σ H Q I h
 refine wpAny_Call_Name_kw (ace I hg hm hv ?_ hn hdb)
 exact PyProof.Rows.callWith_type1 (thn (ha pos pins s σ H _ I h) fun us s1 ⟨vs,H1,I1,r1,q1⟩=>hc pins s1 σ H1 vs us Q I1 r1 q1) he hpl
end
end L2
namespace HT
open PySem PyProof.Rows
noncomputable def lexLt:List Int->List Int->Bool
 | [],[]=>false
 | [],_ :: _=>true
 | _ :: _,[]=>false
 | x :: xs,y :: ys=>if x=y then lexLt xs ys else decide (x < y)
theorem ad8 (x y:Int) (xs ys:List Int):lexLt (x :: xs) (y :: ys)=if x=y then lexLt xs ys else decide (x < y):=rfl
theorem aqy (A:Around) (s:Shared) (a:Int) (t:Tok) (c:Int) (u:Tok) (prog:Program) (w:World) (E:Value->Shared->Prop) (Q:Value->Shared->Prop) (h:Q (.bool (decide (a < c))) s) :
  wpAny (model prog w) A (richCompare .Lt (.int a t) (.int c u)) Q E s :=
 (PyProof.Rows.lt_int h:wpAny (model prog w) A (compareOp .Lt (.int a t) (.int c u)) Q E s)
section
open PySem.SeqAt
open PySem.AutoSeq1 (wpAny_loadPart')
open PySem.MeetsSeq PySem.MeetsSeq2 PySem.MeetsSeq3
end
section
variable {prog:Program} {w:World} {A:Around} {E:Value->Shared->Prop} {s:Shared}
end
end HT
namespace L2
open PySem PySem.Spec PyProof.Rows
noncomputable abbrev TO:=St->Hp->(Option Int->Hp->Prop)->Prop
theorem adb {ns:List Int}:∀ {us:List Value},Vals (ns.map V.int) us->IntsAre us ns:=by
 induction ns with
 | nil=>intro us r;rw [List.map_nil] at r;cases r;exact .nil
 | cons n ns ih =>
  intro us r
  rw [List.map_cons] at r
  cases r with
  | cons r1 r2 =>
   obtain ⟨t,e⟩:=r1
   subst e
   exact .cons n t (ih r2)
section
variable {X:Cx} {e:Expr} {te:TE} {lo hi:Option Expr} {tl th:TO} {pos p2:Pos}
def SlR (X:Cx) (r:V->Option Int->Option Int->Hp->VK->Prop):Prop :=
 ∀ (pins:List (Addr × Obj)) (s:Shared) (σ:St) (H:Hp) (x:V) (v vl vu:Value) (lo hi:Option Int) (sl:Addr) (Q:VK),Inv X pins σ H s->RelV x v->s.heap.IsSliceOf sl vl vu .none->IsPart vl lo->IsPart vu hi->r x lo hi H Q ->
  ∃ T id,typeLookup (.type T) "__getitem__" = pure (some (.builtin id))/\s.TypeIs v T/\wpAny (model X.prog X.w) X.A (getItem v (.ref sl)) (EP X pins σ Q) X.xe s
end
end L2
namespace L2
open PySem PySem.Spec PyProof.Rows
noncomputable def ixN (n:Nat) (i:Int):Option Nat:=if 0<=i then (if i < n then some i.toNat else none) else if -(n:Int)<=i then some (i+n).toNat else none
noncomputable def atI {α:Type} (xs:List α) (i:Int):Option α:=(ixN xs.length i).bind fun j=>xs[j]?
theorem alw {n:Nat} {i:Int} {j:Nat} (h:ixN n i=some j):seqIndex? i n=some j/\j < n/\-(n:Int)<=i/\i < n:=by
 unfold ixN at h
 by_cases h0:0<=i
 ·rw [if_pos h0] at h
  by_cases h1:i < n
  ·rw [if_pos h1] at h
   have e:i.toNat=j:=Option.some.inj h
   exact ⟨by rw [seqIndex_of h0 h1,e],by row_cond lo,by row_cond lo,h1⟩
  ·rw [if_neg h1] at h;cases h
 ·rw [if_neg h0] at h
  by_cases h1 : -(n:Int)<=i
  ·rw [if_pos h1] at h
   have e:(i+n).toNat=j:=Option.some.inj h
   exact ⟨by rw [seqIndex_neg (by row_cond lo) h1,e],by row_cond lo,h1,by row_cond lo⟩
  ·rw [if_neg h1] at h;cases h
theorem alx {α:Type} {xs:List α} {i:Int} {v : α} (h:atI xs i=some v):∃ j,seqIndex? i xs.length=some j/\xs[j]?=some v/\j < xs.length/\-(xs.length:Int)<=i/\i < xs.length:=by
 unfold atI at h
 cases e:ixN xs.length i with
 | none=>rw [e] at h;cases h
 | some j =>
  rw [e] at h
  obtain ⟨h1,h2,h3,h4⟩:=alw e
  exact ⟨j,h1,h,h2,h3,h4⟩
theorem adg {α:Type} {xs:List α} {j:Nat} {v : α} (h:xs[j]?=some v):atI xs (j:Int)=some v:=by
 have hj:j < xs.length:=(List.getElem?_eq_some_iff.mp h).1
 have e:ixN xs.length (j:Int)=some j:=by
  unfold ixN
  rw [if_pos (by row_cond lo),if_pos (by row_cond lo)];simp
 unfold atI;rw [e];exact h
def at3 (b:Expr):Prop:=∀ o i,subscripted b false o i=operate [o,i] (getItem o i)
def IxR (X:Cx) (r:R2):Prop :=
 ∀ (value slice:Expr) (pins:List (Addr × Obj)) (s:Shared) (σ:St) (H:Hp) (x y:V) (v u:Value) (Q:VK),Inv X pins σ H s->RelV x v->RelV y u->r x y H Q ->
  subscripted slice false v u=operate [v,u] (getItem v u)->wpAny (model X.prog X.w) X.A (subscriptTail value slice v u) (EP X pins σ Q) X.xe s
def MtR (X:Cx) (id:String) (r:V->List V->Hp->VK->Prop):Prop :=
 ∀ (pins:List (Addr × Obj)) (s:Shared) (σ:St) (H:Hp) (x:V) (xs:List V) (v:Value) (us:List Value) (Q:VK),Inv X pins σ H s->RelV x v->Vals xs us->r x xs H Q ->
  wpAny (model X.prog X.w) X.A (call (.builtin id) (v :: us)) (EP X pins σ Q) X.xe s
section
variable {X:Cx} {a b:Expr} {ta tb:TE} {pos:Pos}
theorem IxR.or {r r':R2} (h:IxR X r) (h':IxR X r'):IxR X (fun x y H Q=>r x y H Q\/r' x y H Q):=by
 intro value slice pins s σ H x y v u Q I rx ry q hs
 rcases q with q | q
 ·exact h value slice pins s σ H x y v u Q I rx ry q hs
 ·exact h' value slice pins s σ H x y v u Q I rx ry q hs
theorem aas {r:R2} (hr:IxR X r) (ha:PE X a ta) (hb:PE X b tb) (hs:at3 b):PE X (.Subscript a b pos) (tOp r ta tb):=by
 intro pins s σ H Q I h
 exact Subscript_ (binT ha hb I h fun v u s2 x y H2 I2 rx ry q=>hr a b pins s2 σ H2 x y v u Q I2 rx ry q (hs _ _))
def rIxL (K:PySem.W.Frag):R2:=fun x y H Q=>∃ p xs i v,x=.ref p/\y=.int i/\SqL K H p xs/\atI xs i=some v/\Q v H
def rIxT (K:PySem.W.Frag):R2:=fun x y H Q=>∃ p xs i v,x=.ref p/\y=.int i/\SqT K H p xs/\atI xs i=some v/\Q v H
theorem ix_list:IxR X (rIxL X.K):=by
 intro value slice pins s σ H x y v u Q I rx ry h hs
 obtain ⟨p,xs,i,z,rfl,rfl,hq,he,q⟩:=h
 cases rx
 obtain ⟨t,rfl⟩:=ry
 obtain ⟨its,r,pl,hz⟩:=I.list hq
 obtain ⟨j,h1,h2,h3,h4,h5⟩:=alx he
 obtain ⟨w,ew,rw'⟩:=r.get h2
 have hl:=r.length
 have hn:=aep
 have fin:EP X pins σ Q w s:=⟨z,H,I,rw',q⟩
 by_cases h0:0<=i
 ·have hj:i.toNat=j:=by
   rw [seqIndex_of h0 h5] at h1
   exact Option.some.inj h1
  exact item_listR pl.isList h0 (by row_cond lo) (by rw [hj];simpa using ew) fin hs
 ·have hj:(i+(its.toArray.size:Int)).toNat=j:=by
   rw [seqIndex_neg (by row_cond lo) h4] at h1
   rw [List.size_toArray,← hl]
   exact Option.some.inj h1
  exact subscriptTail_builtinR (x:=w) pl.isList.typeIs slot_list_getitem.lookup
   (wpAny_getItem_list_neg (Q:=fun r s'=>r=w/\EP X pins σ Q r s') pl.isList (by row_cond lo) (by rw [List.size_toArray] <;> row_cond lo) (by row_cond lo) (by rw [hj];simpa using ew) ⟨rfl,fin⟩) hs
theorem awp:IxR X (rIxT X.K):=by
 intro value slice pins s σ H x y v u Q I rx ry h hs
 obtain ⟨p,xs,i,z,rfl,rfl,hq,he,q⟩:=h
 cases rx
 obtain ⟨t,rfl⟩:=ry
 obtain ⟨its,r,pl,hz⟩:=I.tuple hq
 obtain ⟨j,h1,h2,h3,h4,h5⟩:=alx he
 obtain ⟨w,ew,rw'⟩:=r.get h2
 have hl:=r.length
 have hn:=aep
 have fin:EP X pins σ Q w s:=⟨z,H,I,rw',q⟩
 exact subscriptTail_builtinR (x:=w) pl.typeIs slot_tuple_getitem.lookup
  (getItem_tuple (j:=j) (Q:=fun r s'=>r=w/\EP X pins σ Q r s') pl (by row_cond lo) (by row_cond lo) (by rw [List.size_toArray,← hl];exact h1) (by simpa using ew) ⟨rfl,fin⟩) hs
theorem ang (its:List Value) (n j:Nat) (u:Value):Obj.mapSeq (·.setIfInBounds j u) { cls:=.type "list",data:=.seq its.toArray n }={ cls:=.type "list",data:=.seq (its.set j u).toArray n }:=by
 simp [Obj.mapSeq]
theorem Inv.lst {pins:List (Addr × Obj)} {σ:St} {H:Hp} {s:Shared} {p:Addr} {xs:List V} (I:Inv X pins σ H s) (h:H p=some (.lst xs)) :
  ∃ (its:List Value) (n:Nat),Vals xs its/\s.heap.get? p=some { cls:=.type "list",data:=.seq its.toArray n }/\xs.length<=sizeLine:=by
 obtain ⟨z,its,n,r,e⟩:=I.hok p _ h
 exact ⟨its,n,r,e,z⟩
theorem Inv.lstUpd {pins:List (Addr × Obj)} {σ:St} {H:Hp} {s:Shared} {p:Addr} {xs ys:List V} {its its':List Value} {n n':Nat} {f:Obj->Obj} (I:Inv X pins σ H s) (h:H p=some (.lst xs))
  (ho:s.heap.get? p=some { cls:=.type "list",data:=.seq its.toArray n }) (hf:f { cls:=.type "list",data:=.seq its.toArray n }={ cls:=.type "list",data:=.seq its'.toArray n' }) (r:Vals ys its') (hz:ys.length<=sizeLine) (t:Nat) :
  Inv X pins σ (upd H p (.lst ys)) { s with heap:=s.heap.update p f,toks:=t }:=by
 have e:(s.heap.update p f).get? p=some { cls:=.type "list",data:=.seq its'.toArray n' }:=by
  rw [Heap.get?_update_self f ho (by rw [hf] <;> rfl),hf]
 refine I.write (x:=p) (e:=p) (by rw [h];trivial) (.inl rfl) (fun b u hb q=>(Heap.get?_update_other _ _ (Ne.symm hb)).trans q) ⟨_,e⟩ ?_
 exact ⟨hz,its',n',r,e⟩
def anh:V->V->V->Hp->(Hp->Prop)->Prop:=fun o i v H Q=>∃ p xs k j,o=.ref p/\i=.int k/\H p=some (.lst xs)/\ixN xs.length k=some j/\Q (upd H p (.lst (xs.set j v)))
theorem acm:PSet X anh:=by
 intro pins s σ H o i v ov iv u Q I ro ri rv h
 obtain ⟨p,xs,k,j,rfl,rfl,hp,hj,q⟩:=h
 cases ro
 obtain ⟨t,rfl⟩:=ri
 obtain ⟨its,n,r,ho,hz⟩:=I.lst hp
 obtain ⟨h1,h2,h3,h4⟩:=alw hj
 have hl:=r.length
 have hn:=aep
 have I':Inv X pins σ (upd H p (.lst (xs.set j v))) { s with heap:=s.heap.update p (Obj.mapSeq (·.setIfInBounds j u)) } :=
  I.lstUpd hp ho (ang its n j u) (r.set rv j) (by rw [List.length_set];exact hz) s.toks
 by_cases h0:0<=k
 ·have hk:k.toNat=j:=by
   rw [seqIndex_of h0 h4] at h1
   exact Option.some.inj h1
  exact PySem.W.ki_setAt ho h0 (by row_cond lo) (by rw [List.size_toArray,← hl];exact h4) (by rw [hk];exact ⟨_,I',q⟩)
 ·have hk:(k+(its.toArray.size:Int)).toNat=j:=by
   rw [seqIndex_neg (by row_cond lo) h3] at h1
   rw [List.size_toArray,← hl]
   exact Option.some.inj h1
  exact PySem.W.ki_setBack ho (by row_cond lo) (by rw [List.size_toArray,← hl];exact h3) (by row_cond lo) (by rw [hk];exact ⟨_,I',q⟩)
theorem ajn:abh X (.builtin "len") (fun xs H Q=>∃ p ys,xs=[.ref p]/\(SqL X.K H p ys\/SqT X.K H p ys)/\Q (.int ys.length) H):=by
 intro pins s σ H xs us Q I r h
 obtain ⟨p,ys,rfl,hq,q⟩:=h
 obtain ⟨u,rfl,rx⟩:=acu r
 cases rx
 have hn:=aep
 rcases hq with hq | hq
 ·obtain ⟨its,r',pl,hz⟩:=I.list hq
  have hlen:=r'.length
  exact Calls.call_len_list pl.isList (by simp only [List.size_toArray] <;> row_cond lo) ⟨.int ys.length,H,I.tok _,⟨s.toks+1,by rw [List.size_toArray,hlen]⟩,q⟩
 ·obtain ⟨its,r',pl,hz⟩:=I.tuple hq
  have hlen:=r'.length
  exact len_tuple pl (by simp only [List.size_toArray] <;> row_cond lo) ⟨.int ys.length,H,I.tok _,⟨s.toks+1,by rw [List.size_toArray,hlen]⟩,q⟩
theorem ajo:abh X (.type "list") (fun xs H Q=>∃ p ys,xs=[.ref p]/\(SqL X.K H p ys\/SqT X.K H p ys)/\∀ l,H l=none->Q (.ref l) (upd H l (.lst ys))):=by
 intro pins s σ H xs us Q I r h
 obtain ⟨p,ys,rfl,hq,q⟩:=h
 obtain ⟨u,rfl,rx⟩:=acu r
 cases rx
 have fin:∀ (its:List Value),Vals ys its->ys.length<=sizeLine->∀ (h':Heap) (c':Nat),(∀ b o',s.heap.get? b=some o'->h'.get? b=some o') ->
   h'.get? s.heap.objs.size=some { cls:=.type "list",dict:=none,data:=.seq its.toArray c',slots:=#[] }->EP X pins σ Q (.ref s.heap.objs.size) { s with heap:=h' }:=fun its r' hz h' c' kp e =>
  ⟨.ref s.heap.objs.size,_,I.laid (t':=s.toks) kp (Nat.le_refl _) (show ObjOk X.prog X.w _ h' _ (.lst ys) from ⟨hz,its,c',r',e⟩),rfl,q _ (I.hok.fresh (Nat.le_refl _))⟩
 rcases hq with hq | hq
 ·obtain ⟨its,r',pl,hz⟩:=I.list hq
  have hlen:=r'.length
  obtain ⟨o,ho,hc,n,hd⟩:=pl.isList
  exact call_list_seq p (.inl rfl) ho hc hd (fun h' c' kp e=>fin its r' hz h' c' kp e) (by simp only [List.size_toArray] <;> row_cond lo)
 ·obtain ⟨its,r',pl,hz⟩:=I.tuple hq
  have hlen:=r'.length
  obtain ⟨o,ho,hc,n,hd⟩:=pl
  exact call_list_seq p (.inr rfl) ho hc hd (fun h' c' kp e=>fin its r' hz h' c' kp e) (by simp only [List.size_toArray] <;> row_cond lo)
def tyV (K:PySem.W.Frag) (T:String) (x:V) (H:Hp):Prop:=match x with
 | .str _=>T = "str"
 | .int _=>T = "int"
 | .ref p=>(T = "list"/\∃ xs,SqL K H p xs)\/(T = "tuple"/\∃ o,K.lookup p=some o/\o.cls=.type "tuple"/\o.dict=none) ∨
   (T = "dict"/\((∃ kvs,H p=some (.dK kvs))\/∃ kvs,H p=some (.dT kvs)))\/(T = "set"/\∃ S n,H p=some (.set S n))
 | _=>False
theorem awq {pins:List (Addr × Obj)} {σ:St} {H:Hp} {s:Shared} {T:String} {x:V} {v:Value} (I:Inv X pins σ H s) (r:RelV x v) (ty:tyV X.K T x H) :
  s.TypeIs v T/\∀ a,v=.ref a->∃ ob,s.heap.get? a=some ob/\ob.dict=none:=by
 cases x with
 | str z =>
  obtain ⟨t,rfl⟩:=r
  cases (show T = "str" from ty)
  exact ⟨typeIs_str s z t,fun _ e=>nomatch e⟩
 | int i =>
  obtain ⟨t,rfl⟩:=r
  cases (show T = "int" from ty)
  exact ⟨typeIs_int s i t,fun _ e=>nomatch e⟩
 | ref p =>
  cases r
  rcases ty with ⟨rfl,xs,hq⟩ | ⟨rfl,o,hk,hc,hd⟩ | ⟨rfl,hk⟩ | ⟨rfl,S,n,hk⟩
  ·obtain ⟨its,_,pl,_⟩:=I.list hq
   refine ⟨pl.isList.typeIs,fun a e=>?_⟩
   cases e
   obtain ⟨o,n,e,c,hd,_⟩:=pl
   exact ⟨o,e,hd⟩
  ·refine ⟨⟨o,I.kIn p o hk,hc⟩,fun a e=>?_⟩
   cases e
   exact ⟨o,I.kIn _ o hk,hd⟩
  ·have z:∃ o,s.heap.get? p=some o/\o.ExactDict:=by
    rcases hk with ⟨kvs,hk⟩ | ⟨kvs,hk⟩
    ·obtain ⟨_,_,_,_,o,_,_,e,ex,_⟩:=I.hok p _ hk
     exact ⟨o,e,ex⟩
    ·obtain ⟨_,_,_,_,o,_,_,e,ex,_⟩:=I.hok p _ hk
     exact ⟨o,e,ex⟩
   obtain ⟨o,e,ex⟩:=z
   refine ⟨⟨o,e,ex.1⟩,fun a e2=>?_⟩
   cases e2
   exact ⟨o,e,ex.2.1⟩
  ·obtain ⟨o,_,_,_,e,ex,_⟩:=I.hok p _ hk
   refine ⟨⟨o,e,ex.1⟩,fun a e2=>?_⟩
   cases e2
   exact ⟨o,e,ex.2.1⟩
 | _=>exact False.elim ty
def tBM (K:PySem.W.Frag) (T:String) (r:V->List V->Hp->VK->Prop) (to:TE) (t:TA):TE:=fun σ H Q=>to σ H fun x H1=>tyV K T x H1/\t σ H1 fun xs H2=>r x xs H2 Q
variable {o e:Expr} {es:List Expr} {to:TE} {t:TA} {name:Str} {apos cpos:Pos} {T id:String} {r:V->List V->Hp->VK->Prop}
theorem adc (pa:PlainAttrs T) (slot:Slot T name id) (hty:typeOf (.builtin id)=pure (.type "method_descriptor")) (hm:MtR X id r) (ho:PE X o to) (ha:PA X (e :: es) t)
  (hbase:attributeBase o name X.env (eval o X.env)=eval o X.env:=by rfl)
  (hfew:((backTo cpos (starEach (e :: es) X.env)).all (fun x => !x.1) && (backToKw cpos (keywordEach [] X.env)).all (fun x=>x.1.isSome)
   && decide ((e :: es).length+([]:List Keyword).length+(if ([]:List Keyword).isEmpty then 0 else 1) < 30))=true:=by rfl)
  (hline:(apos.endLine == cpos.line)=true:=by rfl) (hs:starEach (e :: es) X.env=(false,eval e X.env) :: starEach es X.env:=by rfl) (hplain:(backTo cpos (starEach es X.env)).any (·.1)=false:=by rfl) :
  PE X (.Call (.Attribute o name apos) (e :: es) [] cpos) (tBM X.K T r to t):=by
 intro pins s σ H Q I h
 refine wpAny_Call_method_late hbase hfew hline rfl (thn (ho pins s σ H _ I h) fun v s1 ⟨x,H1,I1,r1,ty,q1⟩=>?_)
 obtain ⟨h1,h2⟩:=awq I1 r1 ty
 refine ⟨T,id,pa,slot,hty,h1,h2,?_⟩
 have hA:=ha cpos pins s1 σ H1 _ I1 q1
 rw [hs] at hA ⊢
 refine Calls.callWith_builtin (by show (false || (backTo cpos (starEach es X.env)).any (·.1))=false;rw [hplain] <;> rfl) (Calls.evalArgs_plain ?_)
 exact thn hA fun us s2 ⟨vs,H2,I2,r2,q2⟩=>hm pins s2 σ H2 x vs v us Q I2 r1 r2 q2
/- xs.append(e), list.index on a module's tuple .. are MtR facts of 06m -/
end
end L2
namespace L2
open PySem PySem.Spec PyProof.Rows
def MtM (X:Cx) (id:String) (r:V->List V->Hp->VK->Prop):Prop :=
 ∀ (pins:List (Addr × Obj)) (s:Shared) (σ:St) (H:Hp) (x:V) (xs:List V) (v:Value) (us:List Value) (Q:VK),Inv X pins σ H s->RelV x v->Vals xs us->r x xs H Q ->
  wpAny (model X.prog X.w) X.A (call (.builtin id) (v :: us)) (EP X pins σ Q) X.xe s
theorem Vals.one:∀ {x:V} {us:List Value},Vals [x] us->∃ u,us=[u]/\RelV x u
 | _,_,.cons r .nil=>⟨_,rfl,r⟩
theorem Vals.eraseIdx:∀ {xs:List V} {us:List Value} (i:Nat),Vals xs us->Vals (xs.eraseIdx i) (us.eraseIdx i)
 | _,_,_,.nil => .nil
 | _,_,0,.cons _ t=>t
 | _,_,i+1,.cons r t => .cons r (Vals.eraseIdx i t)
theorem Vals.rep {xs:List V} {us:List Value} (h:Vals xs us):∀ k:Nat,Vals (List.replicate k xs).flatten (List.replicate k us).flatten
 | 0 => .nil
 | k+1=>by
  rw [List.replicate_succ,List.replicate_succ,List.flatten_cons,List.flatten_cons]
  exact Vals.append h (Vals.rep h k)
theorem ahw {α:Type}:∀ (l:List α) (i:Nat),(l.eraseIdx i).length<=l.length
 | [],_=>Nat.le_refl _
 | _ :: _,0=>Nat.le_succ _
 | _ :: r,i+1=>Nat.succ_le_succ (ahw r i)
theorem ahx (its:List Value):∀ (k:Nat) (acc:List Value),
  List.foldl (fun x1 x2=>x1 ++ x2) acc.toArray (List.replicate k its.toArray)=(acc ++ (List.replicate k its).flatten).toArray
 | 0,acc=>by simp
 | k+1,acc=>by
  have e:acc.toArray ++ its.toArray=(acc ++ its).toArray:=by simp
  have e2:(acc ++ its) ++ (List.replicate k its).flatten=acc ++ (List.replicate (k+1) its).flatten:=by
   rw [List.replicate_succ,List.flatten_cons,List.append_assoc]
  rw [← e2,← ahx its k (acc ++ its),← e,List.replicate_succ,List.foldl_cons]
section
variable {X:Cx} {pins:List (Addr × Obj)} {σ:St} {H:Hp} {s:Shared} {l b:Addr} {xs ys zs:List V}
theorem Inv.lset {its its':List Value} {n:Nat} {f:Array Value->Array Value} {t':Nat} (I:Inv X pins σ H s) (hH:H l=some (.lst xs))
  (e:s.heap.get? l=some { cls:=.type "list",data:=.seq its.toArray n }) (hf:f its.toArray=its'.toArray) (hv:Vals ys its') (hz:ys.length<=sizeLine) :
  Inv X pins σ (upd H l (.lst ys)) { s with heap:=s.heap.update l (Obj.mapSeq f),toks:=t' }:=by
 have q:=PySem.IsL.update e f
 rw [hf] at q
 refine I.write (x:=l) (e:=l) (by rw [hH];exact trivial) (.inl rfl) (fun b' u hb hu=>(Heap.get?_update_other s.heap (Obj.mapSeq f) (Ne.symm hb)).trans hu) ⟨_,q⟩ ?_
 exact ⟨hz,its',_,hv,q⟩
theorem Inv.lnew {its:List Value} {t':Nat} (I:Inv X pins σ H s) (hv:Vals ys its) (hz:ys.length<=sizeLine) :
  Inv X pins σ (upd H s.heap.objs.size (.lst ys)) { s with heap:=s.heap.push { cls:=.type "list",data:=.seq its.toArray },toks:=t' } :=
 I.laid (fun _ _ q=>Heap.get?_push_of_some _ q) (Nat.le_refl _) ⟨hz,its,0,hv,Heap.get?_push_size _ rfl⟩
theorem Inv.fresh (I:Inv X pins σ H s):H s.heap.objs.size=none:=I.hok.fresh (Nat.le_refl _)
theorem Inv.lstM (I:Inv X pins σ H s) (hH:H l=some (.lst xs)):xs.length<=sizeLine/\∃ (its:List Value) (n:Nat),Vals xs its/\xs.length=its.length/\s.heap.get? l=some { cls:=.type "list",data:=.seq its.toArray n }:=by
 obtain ⟨z,its,n,r,e⟩:=I.hok l _ hH
 exact ⟨z,its,n,r,r.length,e⟩
theorem aqz {n:Nat} (h:n<=sizeLine):Builtin.List.listTooLong n=false:=by
 unfold Builtin.List.listTooLong
 exact decide_eq_false (by row_cond lo)
end
section
variable {X:Cx}
def acn:V->List V->Hp->VK->Prop:=fun x vs H Q=>∃ l xs y,x=.ref l/\vs=[y]/\H l=some (.lst xs)/\xs.length < sizeLine/\Q .non (upd H l (.lst (xs ++ [y])))
theorem abe:MtM X "list.append" acn:=by
 intro pins s σ H x vs v us Q I rx rv h
 obtain ⟨l,xs,y,rfl,rfl,hH,hz,q⟩:=h
 cases rx
 obtain ⟨u,rfl,ru⟩:=rv.one
 obtain ⟨z,its,n,r,hl,e⟩:=I.lstM hH
 refine call_meets F.slot_list_append ⟨_,e,rfl⟩ F.entry_list_append (F.args_list_append_2 _ _) (PySem.list_append l its.toArray n u (by rw [List.size_toArray];row_cond lo)) ⟨e,?_⟩
 refine ⟨.non,_,I.lset (its':=its ++ [u]) hH e (by simp) (r.append (.cons ru .nil)) ?_,rfl,q⟩
 rw [List.length_append,List.length_singleton]
 row_cond lo
def af5:V->List V->Hp->VK->Prop:=fun x vs H Q=>∃ l xs i k y,x=.ref l/\vs=[.int i]/\H l=some (.lst xs)/\-(2 ^ 63)<=i/\i < 2 ^ 63/\seqIndex? i xs.length=some k/\xs[k]?=some y/\Q y (upd H l (.lst (xs.eraseIdx k)))
theorem aq0:MtM X "list.pop" af5:=by
 intro pins s σ H x vs v us Q I rx rv h
 obtain ⟨l,xs,i,k,y,rfl,rfl,hH,h1,h2,hk,hy,q⟩:=h
 cases rx
 obtain ⟨u,rfl,ru⟩:=rv.one
 obtain ⟨t,rfl⟩:=ru
 obtain ⟨z,its,n,r,hl,e⟩:=I.lstM hH
 obtain ⟨w,hw,rw'⟩:=r.get hy
 refine call_meets F.slot_list_pop ⟨_,e,rfl⟩ F.entry_list_pop (F.args_list_pop_2 _ _)
  (MeetsSeq.list_pop_at l its.toArray n i t k w (fitsIndex_both h1 h2) (by rw [List.size_toArray,← hl];exact hk) (by rw [← Array.getElem?_toList];exact hw) (by rw [List.size_toArray];row_cond lo)) ⟨e,?_⟩
 refine ⟨y,_,I.lset (its':=its.eraseIdx k) hH e ?_ (r.eraseIdx k) ?_,rw',q⟩
 ·show its.toArray.eraseIdxIfInBounds k=(its.eraseIdx k).toArray
  rw [List.eraseIdxIfInBounds_toArray]
 ·have:=ahw xs k
  row_cond lo
def rCat:R2:=fun x y H Q=>∃ l b xs zs,x=.ref l/\y=.ref b/\H l=some (.lst xs)/\H b=some (.lst zs)/\xs.length+zs.length<=sizeLine/\∀ p,H p=none->Q (.ref p) (upd H p (.lst (xs ++ zs)))
theorem awr:OpR X (binaryOp .Add) rCat:=by
 intro pins s σ H x y v u Q I rx ry h
 obtain ⟨l,b,xs,zs,rfl,rfl,hH,hB,hz,q⟩:=h
 cases rx
 cases ry
 obtain ⟨z,its,n,r,hl,e⟩:=I.lstM hH
 obtain ⟨z2,its2,n2,r2,hl2,e2⟩:=I.lstM hB
 refine PySem.P.add_list e e2 ?_ (by rw [List.size_toArray,List.size_toArray];row_cond lo)
 have ea:its.toArray ++ its2.toArray=(its ++ its2).toArray:=by simp
 rw [ea]
 exact ⟨.ref _,_,I.lnew (t':=s.toks) (r.append r2) (by rw [List.length_append];row_cond lo),rfl,q _ I.fresh⟩
def rRep:R2:=fun x y H Q=>∃ l k xs,x=.ref l/\y=.int k/\H l=some (.lst xs)/\-(2 ^ 63)<=k/\k < 2 ^ 63/\xs.length * k.toNat<=sizeLine /\
 ∀ p,H p=none->Q (.ref p) (upd H p (.lst (List.replicate k.toNat xs).flatten))
theorem aly {α:Type} (xs:List α) (k:Nat):(List.replicate k xs).flatten.length=k * xs.length:=by
 induction k with
 | zero=>simp
 | succ k ih=>rw [List.replicate_succ,List.flatten_cons,List.length_append,ih,Nat.succ_mul,Nat.add_comm]
theorem ao5:OpR X (binaryOp .Mult) rRep:=by
 intro pins s σ H x y v u Q I rx ry h
 obtain ⟨l,k,xs,rfl,rfl,hH,h1,h2,hz,q⟩:=h
 cases rx
 obtain ⟨t,rfl⟩:=ry
 obtain ⟨z,its,n,r,hl,e⟩:=I.lstM hH
 have hlen:its.toArray.size * k.toNat<=sizeLine:=by rw [List.size_toArray,← hl];exact hz
 have hcap:¬ its.toArray.size * k.toNat > (2 ^ 63 - 1) / 8:=by
  have:(sizeLine:Nat)<=(2 ^ 63 - 1) / 8:=by decide
  row_cond lo
 have hfit:¬ (!Builtin.List.listFitsIndex k)=true:=by
  rw [fitsIndex_both h1 h2]
  exact Bool.false_ne_true
 have hlong:¬ Builtin.List.listTooLong (its.toArray.size * k.toNat)=true:=by
  rw [aqz hlen]
  exact Bool.false_ne_true
 have hnew:List.foldl (fun x1 x2=>x1 ++ x2) #[] (List.replicate (if its.toArray.isEmpty=true then 0 else k.toNat) its.toArray)=(List.replicate k.toNat its).flatten.toArray:=by
  have f0:∀ m:Nat,List.foldl (fun x1 x2=>x1 ++ x2) #[] (List.replicate m its.toArray)=(List.replicate m its).flatten.toArray:=fun m=>by
   have:=ahx its m []
   rw [List.nil_append] at this
   exact this
  rw [f0]
  cases its with
  | nil=>simp
  | cons a r'=>rw [if_neg (by simp)]
 refine wpAny_binaryOp_repeat_ref (T:="list") (U:="int") (by decide) ⟨_,e,rfl⟩ (fun s'=>typeIs_int s' k t) noFill_list_mul F.fills_int_mul F.slot_int_rmul repeat_list F.slot_int_index.lookup
  (call_meets F.slot_int_rmul (typeIs_int s k t) F.entry_int_rmul (F.args_int_rmul_2 _ _) (int___rmul___int_list k t l its.toArray n)
   ⟨e,rfl,⟨_,e,rfl⟩,call_meets F.slot_list_mul ⟨_,e,rfl⟩ F.entry_list_mul (F.args_list_mul_2 _ _) (AutoListH.list___mul___list_int_3 l its.toArray n k t hfit hcap hlong) ⟨e,?_⟩⟩)
 rw [hnew]
 exact ⟨.ref _,_,I.lnew (t':=s.toks) (r.rep k.toNat) (by rw [aly,Nat.mul_comm];exact hz),rfl,q _ I.fresh⟩
end
section
variable {prog:Program} {w:World} {A:Around} {E:Value->Shared->Prop} {s:Shared}
end
section
variable {X:Cx}
end
end L2
namespace L2
open PySem PySem.Spec PyProof.Rows
section
variable {κ:Type} [DecidableEq κ]
noncomputable def valV (kvs:List (κ × V)) (k : κ):Option V:=(kvs.find? fun kv=>decide (kv.1=k)).map (·.2)
noncomputable def putK (kvs:List (κ × V)) (k : κ) (v:V):List (κ × V) :=
 if (kvs.any fun kv=>decide (kv.1=k))=true then kvs.map (fun kv=>if kv.1=k then (kv.1,v) else kv) else kvs ++ [(k,v)]
noncomputable def as9 (kvs:List (κ × V)) (k : κ):List (κ × V):=kvs.filter fun kv=>decide (kv.1 ≠ k)
theorem ad9 {p : κ × V} {r:List (κ × V)} {k : κ} (e:p.1=k):valV (p :: r) k=some p.2:=by simp [valV,List.find?_cons,e]
theorem adk {p : κ × V} {r:List (κ × V)} {k : κ} (e:¬ p.1=k):valV (p :: r) k=valV r k:=by simp [valV,List.find?_cons,e]
theorem afp (k : κ):∀ kvs:List (κ × V),(kvs.any fun kv=>decide (kv.1=k))=(valV kvs k).isSome
 | []=>rfl
 | p :: r=>by
  rw [List.any_cons]
  by_cases e:p.1=k
  ·simp only [ad9 e,decide_eq_true e,Bool.true_or,Option.isSome_some]
  ·rw [adk e,decide_eq_false e,Bool.false_or];exact afp k r
theorem RelO.getD {o:Option V} {u:Option Value} {d:V} {d':Value} (r:RelO o u) (rd:RelV d d'):RelV (o.getD d) (u.getD d'):=by
 cases o with
 | none=>cases u with
  | none=>exact rd
  | some _=>exact (show False from r).elim
 | some _=>cases u with
  | none=>exact (show False from r).elim
  | some _=>exact r
theorem KV.val {kvs:List (κ × V)} {vs:List (κ × Value)} (r:KV kvs vs) (k : κ):RelO (valV kvs k) (valueAt vs k):=by
 unfold KV at r
 induction r with
 | nil=>exact True.intro
 | @cons p q ps qs h t ih =>
  obtain ⟨h1,h2⟩:=h
  by_cases e:p.1=k
  ·have e':q.1=k:=h1.symm.trans e
   have b:valueAt (q :: qs) k=some q.2:=by simp [valueAt,List.find?_cons,e']
   rw [ad9 e,b];exact h2
  ·have e':¬ q.1=k:=fun z=>e (h1.trans z)
   have b:valueAt (q :: qs) k=valueAt qs k:=by simp [valueAt,List.find?_cons,e']
   rw [adk e,b];exact ih
theorem KV.any {kvs:List (κ × V)} {vs:List (κ × Value)} (r:KV kvs vs) (k : κ):(kvs.any fun kv=>decide (kv.1=k))=vs.any fun kv=>decide (kv.1=k):=by
 unfold KV at r
 induction r with
 | nil=>rfl
 | cons h t ih=>rw [List.any_cons,List.any_cons,ih,h.1]
theorem KV.drop {kvs:List (κ × V)} {vs:List (κ × Value)} (r:KV kvs vs) (k : κ):KV (as9 kvs k) (without vs k):=by
 unfold KV at r ⊢
 unfold as9 without
 induction r with
 | nil=>exact .nil
 | @cons p q ps qs h t ih =>
  obtain ⟨h1,h2⟩:=h
  rw [List.filter_cons,List.filter_cons]
  by_cases e:p.1=k
  ·have a:¬ decide (p.1 ≠ k)=true:=by simp [e]
   have b:¬ decide (q.1 ≠ k)=true:=by simp [h1.symm.trans e]
   rw [if_neg a,if_neg b];exact ih
  ·have e':¬ q.1=k:=fun z=>e (h1.trans z)
   have a:decide (p.1 ≠ k)=true:=by simp [e]
   have b:decide (q.1 ≠ k)=true:=by simp [e']
   rw [if_pos a,if_pos b];exact .cons ⟨h1,h2⟩ ih
theorem KV.length {kvs:List (κ × V)} {vs:List (κ × Value)} (r:KV kvs vs):kvs.length=vs.length:=Paired.length r
end
theorem ani {P:Program} {w:World} {k:Key} {u:Value} (r:RelV (kV k) u):(aa9 P w).is k u=true:=by
 cases k with
 | inl i=>obtain ⟨t,e⟩:=(show ∃ t,u=Value.int i t from r);subst e;exact alb P w i t
 | inr x=>obtain ⟨t,e⟩:=(show ∃ t,u=Value.str x t from r);subst e;exact alc P w x t
theorem ahy {P:Program} {w:World}:∀ {ks:List Key} {us:List Value},Vals (ks.map kV) us->ItemsAre (aa9 P w) ks us
 | [],_,r=>by rw [List.map_nil] at r;cases r;exact .nil
 | k :: ks,_,r=>by
  rw [List.map_cons] at r
  cases r with
  | cons h t=>exact .cons (ani h) (ahy t)
abbrev KT (H:Hp):List (List Key × V)->List (List Key × Addr × Value)->Prop:=Paired fun p q=>p.1=q.1/\H q.2.1=some (.tup (p.1.map kV))/\RelV p.2 q.2.2
theorem KT.val {H:Hp} {kvs:List (List Key × V)} {xs:List (List Key × Addr × Value)} (r:KT H kvs xs) (k:List Key):RelO (valV kvs k) ((atKey xs k).map (·.2)):=by
 induction r with
 | nil=>exact True.intro
 | @cons p q ps qs h t ih =>
  obtain ⟨h1,_,h2⟩:=h
  by_cases e:p.1=k
  ·have e':q.1=k:=h1.symm.trans e
   have b:atKey (q :: qs) k=some q.2:=by simp [atKey,List.find?_cons,e']
   rw [ad9 e,b];exact h2
  ·have e':¬ q.1=k:=fun z=>e (h1.trans z)
   have b:atKey (q :: qs) k=atKey qs k:=by simp [atKey,List.find?_cons,e']
   rw [adk e,b];exact ih
theorem KT.keeps {H H':Hp} {kvs:List (List Key × V)} {xs:List (List Key × Addr × Value)} (r:KT H kvs xs) (ht:∀ b ys,H b=some (.tup ys)->H' b=some (.tup ys)):KT H' kvs xs :=
 Paired.mapP r fun _ _ z=>⟨z.1,ht _ _ z.2.1,z.2.2⟩
section
variable {P:Program} {w:World} {H:Hp} {h:Heap} {a:Addr}
theorem ata {u:HO} (ok:HOk P w H h) (e:Rd H a u):ObjOk P w H h a u:=e.ok ok
theorem anj {kvs:List (Key × V)} (ok:HOk P w H h) (e:Rd H a (.dK kvs)):kvs.length<=sizeLine/\(a == sysModules)=false/\∃ vs,KV kvs vs/\h.DictOf (aa9 P w) a vs :=
 show ObjOk P w H h a (.dK kvs) from ata ok e
theorem ays {kvs:List (Key × V)} (ok:HOk P w H h) (e:H a=some (.dK kvs)):kvs.length<=sizeLine/\(a == sysModules)=false/\∃ vs,KV kvs vs/\h.DictOf (aa9 P w) a vs:=anj ok (.inl e)
theorem ao6 {ks:List Key} (ok:HOk P w H h) (e:H a=some (.tup (ks.map kV))):(tupleKind (aa9 P w)).is h ks a:=by
 obtain ⟨_,its,r,o,h1,h2,n,h3⟩:=(show ObjOk P w H h a (.tup (ks.map kV)) from ok a _ e)
 exact ⟨o,its.toArray,n,h1,h2,h3,by simpa using ahy r⟩
theorem atb {kvs:List (List Key × V)} (ok:HOk P w H h) (e:Rd H a (.dT kvs)):kvs.length<=sizeLine/\(a == sysModules)=false /\
  ∃ xs,KT H kvs xs/\h.DictOfH (tupleKind (aa9 P w)) a xs:=by
 obtain ⟨z,y,xs,r,o,es,ep,h1,h2,h3,h4,h5⟩:=(show ObjOk P w H h a (.dT kvs) from ata ok e)
 refine ⟨z,y,xs,r,o,es,ep,h1,h2,h3,h4,fun x hx=>?_,h5⟩
 have all:∀ {l:List (List Key × V)} {m:List (List Key × Addr × Value)},KT H l m->∀ x∈m,(tupleKind (aa9 P w)).is h x.1 x.2.1:=by
  intro l m q
  induction q with
  | nil=>intro x hx;exact nomatch hx
  | @cons p q ps qs hq t ih =>
   intro x hx
   rcases List.mem_cons.mp hx with e | hx
   ·subst e
    exact ao6 ok (by rw [← hq.1];exact hq.2.1)
   ·exact ih x hx
 exact all r x hx
end
def DGet (H:Hp) (a:Addr) (y:V) (r:Option V):Prop :=
 (∃ kvs k,Rd H a (.dK kvs)/\y=kV k/\r=valV kvs k)\/∃ kvs k b,Rd H a (.dT kvs)/\y=.ref b/\H b=some (.tup (k.map kV))/\r=valV kvs k
def DPut (H:Hp) (a:Addr) (y v:V) (H':Hp):Prop :=
 (∃ kvs k,H a=some (.dK kvs)/\y=kV k/\kvs.length < sizeLine/\H'=upd H a (.dK (putK kvs k v))) ∨
 ∃ kvs k b,H a=some (.dT kvs)/\y=.ref b/\H b=some (.tup (k.map kV))/\kvs.length < sizeLine/\H'=upd H a (.dT (putK kvs k v))
theorem DGet.k {H:Hp} {a:Addr} {kvs:List (Key × V)} {k:Key} (e:H a=some (.dK kvs)):DGet H a (kV k) (valV kvs k):=.inl ⟨kvs,k,.inl e,rfl,rfl⟩
theorem DPut.k {H:Hp} {a:Addr} {kvs:List (Key × V)} {k:Key} {v:V} (e:H a=some (.dK kvs)) (hl:kvs.length < sizeLine):DPut H a (kV k) v (upd H a (.dK (putK kvs k v))):=.inl ⟨kvs,k,e,rfl,hl,rfl⟩
section
variable {X:Cx} {pins:List (Addr × Obj)} {σ:St} {H:Hp} {s:Shared} {a:Addr} {y v:V} {u r:Value} {o:Option V} {A:Around} {E:Value->Shared->Prop}
theorem Inv.big (I:Inv X pins σ H s):sysModules < s.heap.objs.size:=by
 have h:mainGlobals < s.heap.objs.size:=(I.mod.glob.keeps I.bk).lt
 exact Nat.lt_trans (by decide) h
theorem at4 {h':Heap} {t':Nat} {ob:HO} (I:Inv X pins σ H s) (mu:Mut (H a)) (hs:Heap.SameBut a s.heap h') (he:∃ q,h'.get? a=some q) (new:ObjOk X.prog X.w (upd H a ob) h' a ob) :
  Inv X pins σ (upd H a ob) { s with heap:=h',toks:=t' } :=
 I.write (x:=a) (e:=a) mu (.inl rfl) (fun b q hb z=>(hs.2 b hb).trans z) he new
theorem aws {P:Program} {w:World} {H':Hp} {h':Heap} {kvs:List (Key × V)} {vs:List (Key × Value)} (z:kvs.length<=sizeLine) (hd:(a == sysModules)=false) (rel:KV kvs vs) (dd:h'.DictOf (aa9 P w) a vs) :
  ObjOk P w H' h' a (.dK kvs):=⟨z,hd,vs,rel,dd⟩
end
section
variable {X:Cx} {pins:List (Addr × Obj)} {σ:St} {H:Hp} {s:Shared} {a:Addr} {kvs:List (Key × V)} {k:Key} {u:Value} {A:Around} {E:Value->Shared->Prop}
end
section
variable {X:Cx} {o i e value:Expr} {pos pos' tpos:Pos} {td ty tv:TE}
end
theorem aq1 {P:Program} {w:World} {H:Hp} (h:Heap) (hb:sysModules < h.objs.size):ObjOk P w H (h.push { cls:=.type "dict",data:=.dict #[] }) h.objs.size (.dK []) :=
 ⟨Nat.zero_le _,beq_eq_false_iff_ne.mpr (Ne.symm (Nat.ne_of_lt hb)),[],.nil,Heap.DictOf.new h⟩
def ao7:TE:=fun _ H Q=>∀ p,H p=none->Q (.ref p) (upd H p (.dK []))
section
variable {X:Cx} {pos:Pos}
theorem aq2:PE X (.Dict [] [] pos) ao7:=fun pins s σ H Q I h =>
 wpAny_Dict_empty ⟨.ref s.heap.objs.size,_,I.laid (a:=s.heap.objs.size) (o:=.dK []) (t':=s.toks) (fun _ _ q=>Heap.get?_push_of_some _ q) (Nat.le_refl _) (aq1 s.heap I.big),rfl,h _ (I.hok.fresh (Nat.le_refl _))⟩
end
structure M1 (X:Cx) (o:Expr) (m:Str) (apos:Pos) (e:Expr) (cpos:Pos):Prop where
 base:attributeBase o m X.env (eval o X.env)=eval o X.env
 few:((backTo cpos (starEach [e] X.env)).all (fun x => !x.1) && (backToKw cpos (keywordEach [] X.env)).all (fun x=>x.1.isSome)
  && decide (([e]:List Expr).length+([]:List Keyword).length+(if ([]:List Keyword).isEmpty then 0 else 1) < 30))=true
 line:(apos.endLine == cpos.line)=true
 trees:backTo cpos (starEach [e] X.env)=[(false,eval e X.env)]
structure M2 (X:Cx) (o:Expr) (m:Str) (apos:Pos) (e f:Expr) (cpos:Pos):Prop where
 base:attributeBase o m X.env (eval o X.env)=eval o X.env
 few:((backTo cpos (starEach [e,f] X.env)).all (fun x => !x.1) && (backToKw cpos (keywordEach [] X.env)).all (fun x=>x.1.isSome)
  && decide (([e,f]:List Expr).length+([]:List Keyword).length+(if ([]:List Keyword).isEmpty then 0 else 1) < 30))=true
 line:(apos.endLine == cpos.line)=true
 trees:backTo cpos (starEach [e,f] X.env)=[(false,eval e X.env),(false,eval f X.env)]
def IsD (H:Hp) (a:Addr):Prop:=(∃ kvs,Rd H a (.dK kvs))\/∃ kvs,Rd H a (.dT kvs)
theorem ao8 {X:Cx} {pins:List (Addr × Obj)} {σ:St} {H:Hp} {s:Shared} {a:Addr} (I:Inv X pins σ H s) (d:IsD H a) :
  s.TypeIs (.ref a) "dict"/\(∀ b,Value.ref a=.ref b->∃ ob,s.heap.get? b=some ob/\ob.dict=none)/\(a == sysModules)=false:=by
 rcases d with ⟨kvs,e⟩ | ⟨kvs,e⟩
 ·obtain ⟨_,hd,vs,_,dd⟩:=anj I.hok e
  refine ⟨dd.typeIs,fun b q=>?_,hd⟩
  cases q
  obtain ⟨ob,_,_,h1,h2,_⟩:=dd
  exact ⟨ob,h1,h2.2.1⟩
 ·obtain ⟨_,hd,xs,_,dd⟩:=atb I.hok e
  refine ⟨dd.typeIs,fun b q=>?_,hd⟩
  cases q
  obtain ⟨ob,_,_,h1,h2,_⟩:=dd
  exact ⟨ob,h1,h2.2.1⟩
section
variable {X:Cx} {pins:List (Addr × Obj)} {σ:St} {H:Hp} {s:Shared} {a:Addr} {y d:V} {u r:Value} {o:Option V} {A:Around} {E:Value->Shared->Prop}
theorem awt {Q:Value->Shared->Prop} (hu:A.units+1 < cLine) (I:Inv X pins σ H s) (g:DGet H a y o) (ry:RelV y u) (rd:RelV d r) (h:∀ w' s',Inv X pins σ H s'->RelV (o.getD d) w'->Q w' s') :
  wpAny (model X.prog X.w) A (call (.builtin "dict.get") [.ref a,u,r]) Q E s:=by
 rcases g with ⟨kvs,k,e,ey,l⟩ | ⟨kvs,k,b,e,ey,eb,l⟩
 ·subst ey
  obtain ⟨z,hd,vs,rel,dd⟩:=anj I.hok e
  refine call_meetsIn PySem.F.slot_dict_get dd.typeIs PySem.F.entry_dict_get (PySem.F.args_dict_get_3 _ _ _) (meets_dict_get_default (aa9 X.prog X.w) a (ani ry) hd r) ⟨_,dd.mapOf,h _ _ (I.tok _) ?_⟩
  rw [l]
  exact (rel.val k).getD rd
 ·subst ey
  cases (show u=Value.ref b from ry)
  obtain ⟨z,hd,xs,rel,dd⟩:=atb I.hok e
  refine call_meetsIn PySem.F.slot_dict_get dd.typeIs PySem.F.entry_dict_get (PySem.F.args_dict_get_3 _ _ _) (meetsH_dict_get_default (tupleKind (aa9 X.prog X.w)) a b hd r) ⟨tupleKind_room_in1 hu,k,xs,ao6 I.hok eb,dd,h _ _ (I.tok _) ?_⟩
  rw [l]
  exact (rel.val k).getD rd
end
def af6 (td ty tx:TE):TE:=fun σ H Q=>td σ H fun x H1=>∃ a,x=.ref a/\IsD H1 a/\ty σ H1 fun y H2=>tx σ H2 fun z H3=>∃ o,DGet H3 a y o/\Q (o.getD z) H3
section
variable {X:Cx} {o e f:Expr} {apos cpos:Pos} {td ty tx:TE}
theorem aq3 (hu:X.A.units+1 < cLine) (ho:PE X o td) (he:PE X e ty) (hf:PE X f tx) (m:M2 X o "get" apos e f cpos):PE X (.Call (.Attribute o "get" apos) [e,f] [] cpos) (af6 td ty tx):=by
 intro pins s σ H Q I h
 refine wpAny_Call_method m.base m.few m.line PySem.F.plainAttrs_dict PySem.F.slot_dict_get PySem.F.type_dict_get (thn (ho pins s σ H _ I h) fun u s1 ⟨x,H1,I1,rx,a,ex,d,q1⟩=>?_)
 subst ex
 obtain rfl:u=Value.ref a:=rx
 obtain ⟨t1,t2,_⟩:=ao8 I1 d
 refine ⟨t1,t2,?_⟩
 rw [m.trees]
 refine Calls.callWith_builtin rfl (Calls.evalArgs_plain (Calls.spliced_cons (thn (he pins s1 σ H1 _ I1 q1) fun iv s2 ⟨y,H2,I2,ry,q2⟩ =>
  Calls.spliced_cons (thn (hf pins s2 σ H2 _ I2 q2) fun fv s3 ⟨z,H3,I3,rz,ov,g,q3⟩=>Calls.spliced_nil ?_))))
 exact awt hu I3 g ry rz fun w' s4 I4 rw'=>⟨_,H3,I4,rw',q3⟩
end
section
variable {X:Cx} {pins:List (Addr × Obj)} {σ:St} {H:Hp} {s:Shared} {a:Addr} {kvs:List (Key × V)} {A:Around} {E:Value->Shared->Prop}
end
section
variable {X:Cx} {pins:List (Addr × Obj)} {σ:St} {H:Hp} {s:Shared} {a:Addr} {y:V} {u:Value} {A:Around} {E:Value->Shared->Prop}
end
end L2
namespace Att
open PySem PySem.W PySem.Calls PyProof.Rows
theorem af7 {P:Params} {h:Heap}:∀ (ns:List Int) (vs:List Value),WellAll P h vs (ns.map WData.int)->IntsAre vs ns:=by
 intro ns
 induction ns with
 | nil =>
  intro vs w
  rw [List.map_nil] at w
  cases w
  exact .nil
 | cons n ns ih =>
  intro vs w
  rw [List.map_cons] at w
  cases w with
  | cons a b =>
   cases a
   exact .cons _ _ (ih _ b)
theorem ao9 {l:OpenLaw} {n:Nat} (hn:l.most=some n) {P:Params} {h:Heap} {args:List WData} {vals:List Value}
  (hpre:l.row.toRowW.claim.pre args=true) (hwl:WellAll P h vals args) :
  ∃ a vs ns,vals=[Value.ref a]/\args=[WData.list (ns.map WData.int)]/\h.get? a=some { cls:=.type "list",data:=.seq vs.toArray }/\IntsAre vs ns/\ns.length<=n:=by
 have hsh:WShape.hasAll [] args [.list .int]=true:=(pre_splitW hpre).1
 have hc:l.pre.holds [] { args:=args }=true:=(pre_splitW hpre).2
 obtain ⟨d,r,rfl,h1,h2⟩:=hasAllW_cons hsh
 obtain rfl:=hasAllW_nil h2
 obtain ⟨xs,rfl,h3⟩:=hasW_list h1
 obtain ⟨ns,rfl⟩:=items_int h3
 have hlen:ns.length<=n:=by
  unfold OpenLaw.pre at hc
  have h4:(WTm.not (.lt (.lit (.int (n:Int))) (.len (.arg 0)))).holds [] { args:=[.list (ns.map .int)] }=true:=by
   have h4:=(holds_andW hc).1
   rw [hn] at h4
   exact h4
  have h5:=condW_of h4 (w_not (w_lt w_lit (w_len_list (w_arg rfl))))
  rw [List.length_map] at h5
  refine Nat.le_of_not_lt fun q=>?_
  have q':(n:Int) < ((ns.length:Nat):Int):=by row_cond lo
  first
   | (rw [decide_eq_true q'] at h5;exact absurd h5 (by decide))
   | (simp at h5; row_cond lo)
 cases hwl with
 | cons w1 w2 =>
  cases w2
  cases w1 with
  | list ho hall=>exact ⟨_,_,ns,rfl,rfl,ho,af7 ns _ hall,hlen⟩
theorem apa (l:OpenLaw) (args:List WData):l.row.toRowW.claim.post args (.bool true) args=true :=
 postW_of (r:=l.row.toRowW) (X:=(true == true))
  (show WShape.has [] (.bool true) .bool=true by first | rfl | decide | simp [WShape.has,WShape.arms,WShape.armsAll])
  (show (WTm.eq .res (.lit (.bool true))).value [] { args:=args,res:=some (.bool true),after:=args }=some (.bool (true == true)) from w_eq_bool (w_res rfl) w_lit) rfl
theorem attach_call {l:OpenLaw} {n:Nat} {q:Program} {loose:List Str} {XP:(Str->Option Value)->Heap->Prop} {YP:World->Heap->Prop} {d:DefRec}
  (hn:l.most=some n) (hdf:d.params.defaults=[])
  (call:∀ (w:World) (s₀ s₁:Shared) (mg mb:Str->Option Value) (fa:Addr) (o:Obj) (pm cd doc:Value) (a:Addr) (vs:List Value) (ns:List Int),
   Ground q loose [] XP w s₀ mg mb s₁.heap->YP w s₁.heap ->
   s₁.heap.get? fa=some o->o.data=.func (docDef d.name d.params d.body d.scope pm cd doc)->s₁.heap.CodeRec cd d.name->mg d.name=some (.ref fa) ->
   s₁.heap.get? a=some { cls:=.type "list",data:=.seq vs.toArray }->IntsAre vs ns->ns.length<=n->s₁.gens = #[] ->
   codeAny (model l.prog w) callerA (.call (.ref fa) ⟨[.ref a],[]⟩) (fun r s'=>r=.ok (.ret (.bool true))/\OldK s₁.heap s'.heap/\s'.os=s₁.os/\AllBare s'.gens) s₁) :
  WalkO q loose XP YP l.row.toRowW d [] (fun f vs=>PySem.call f vs):=by
 intro w s₀ s₁ mg mb G Y fa o pm cd doc dV kV ho hd hcd hD hmg hg args vals as hpre hlay hrd hwl hlo
 obtain rfl:dV=.none:=Dflts.none hD hdf
 obtain rfl:kV=.none:=Dflts.noKw hD
 obtain ⟨a,vs,ns,rfl,rfl,hobj,hints,hlen⟩:=ao9 hn hpre hwl
 refine enter_call (codeAny_mono (call w s₀ s₁ mg mb fa o pm cd doc a vs ns G Y ho (fd_plain hd) hcd hmg hobj hints hlen hg) fun r s' hq=>?_)
 obtain ⟨rfl,h2,h3,h4⟩:=hq
 exact ⟨.inl ⟨.bool true,.bool true,[],rfl,fun _=>rfl,.bool true,apa l _,fun _=>⟨List.Pairwise.nil,fun _ hm=>(nomatch hm)⟩⟩,h2,h3,h4⟩
section
variable {prog:Program} {w:World} {A:Around} {E:Value->Shared->Prop} {s:Shared} {K:Frag}
end
end Att
namespace L2
open PySem PySem.Spec PyProof.Rows
theorem ahz:∀ {vs:List Value} {ns:List Int},IntsAre vs ns->Vals (ns.map V.int) vs
 | _,_,.nil => .nil
 | _,_,.cons n t h => .cons ⟨t,rfl⟩ (ahz h)
def Only (H:Hp):Prop:=∀ b,H b=none\/∃ o xs,H b=some (.frz o (.lst xs))
theorem aq4 {P:Program} {w:World} {K:PySem.W.Frag} {mg mb:Str->Option Value} {CX:CXT} {k:Nat} {fa a:Addr} {fd:FuncData} {x:Str} {sp:Sp} {s₁:Shared} {vs:List Value} {ns:List Int}
  (KX:K.In s₁.heap) (hns:s₁.heap.Ns mainGlobals mg) (hb:s₁.heap.Ns builtinsNs mb) (hbb:∀ x:Str,x ≠ "__name__"->mb x=bootBuiltins x) (hlim:s₁.heap.NoLimit) (hg:s₁.gens = #[])
  (ha:s₁.heap.get? a=some { cls:=.type "list",data:=.seq vs.toArray }) (hi:IntsAre vs ns) (hl:ns.length<=sizeLine) (hr:Room k callerA)
  (F:∀ base:Heap,K.In base->base.Ns mainGlobals mg->FnOk P w K mg base CX k fa fd [x] sp) (hbind:∀ (s:Shared) (u:Value),BindsTo s fd ⟨[u],[]⟩ [(x,u)])
  (hsp:∀ H:Hp,Only H->SqL K H a (ns.map V.int)->sp [.ref a] H (fun v _=>v=.bl true) fun _ _ _=>False)
  (hCX:∀ H e s',CX [] H s₁ (fun _ _ _=>False) e s'->False) :
  codeAny (model P w) callerA (.call (.ref fa) ⟨[.ref a],[]⟩) (fun r s'=>r=.ok (.ret (.bool true))/\OldK s₁.heap s'.heap/\s'.os=s₁.os/\AllBare s'.gens) s₁:=by
 have rv:=ahz hi
 have lenV:=hi.length
 -- from an abstract heap in which nothing but the script may be tracked
 have core:∀ H:Hp,Only H->SqL K H a (ns.map V.int)->HOk P w H s₁.heap->(∀ b,H b ≠ none->b=a)->(H a ≠ none->K.lookup a=none) ->
   codeAny (model P w) callerA (.call (.ref fa) ⟨[.ref a],[]⟩) (fun r s'=>r=.ok (.ret (.bool true))/\OldK s₁.heap s'.heap/\s'.os=s₁.os/\AllBare s'.gens) s₁:=by
  intro H hO hS hok hA hK
  have base_of:∀ {b:Addr} {o:Obj},s₁.heap.get? b=some o->H b=none->(hidT s₁.heap H).get? b=some o:=fun e n=>aqv e n
  have noA:∀ {b:Addr} {o:Obj} {es:Array DictEntry} {ep:Nat},s₁.heap.get? b=some o->o.data=.dict es ep->H b=none:=fun {b o es ep} e d=>by
   cases q:H b with
   | none=>rfl
   | some u =>
    have e':b=a:=hA b (by rw [q];simp)
    subst e'
    rw [ha] at e;cases e
    have d':Data.seq vs.toArray _=Data.dict es ep:=d
    cases d'
  have nsK:∀ {b:Addr} {m:Str->Option Value},s₁.heap.Ns b m->(hidT s₁.heap H).Ns b m:=fun {b m} ⟨o,es,ep,e,d,r⟩=>⟨o,es,ep,base_of e (noA e d),d,r⟩
  have hKb:K.In (hidT s₁.heap H):=fun b o e=>base_of (KX b o e) (by
   cases q:H b with
   | none=>rfl
   | some u =>
    have e':b=a:=hA b (by rw [q];simp)
    subst e'
    rw [hK (by rw [q];simp)] at e;cases e)
  have hM:Mod K mg (hidT s₁.heap H):=⟨hKb,nsK hns,⟨mb,nsK hb,hbb⟩,let ⟨mc,h1,h2⟩:=hlim;⟨mc,nsK h1,h2⟩⟩
  have e0:Env0 P w K mg (hidT s₁.heap H) callerA [] s₁ H:=⟨rfl,hM,fun b o e=>att e,Nat.le_of_eq (aot _ _),trivial,fun b hb=>absurd (show b∈([]:List Addr) from hb) (by simp),hok,.of_eq hg⟩
  refine codeAny_mono ((F _ hKb (nsK hns)).run callerA [] s₁ H ⟨[.ref a],[]⟩ [.ref a] [.ref a] _ _ hr e0 (hbind s₁ (.ref a)) (.cons rfl .nil) (hsp H hO hS)) fun r s' h=>?_
  cases r with
  | error e=>exact (hCX H e s' h).elim
  | ok fl =>
   cases fl with
   | next=>exact False.elim h
   | brk=>exact False.elim h
   | cont=>exact False.elim h
   | ret u =>
    obtain ⟨v,H',os,bare,un,hok',r',q⟩:=h
    have q':v=.bl true:=q
    subst q'
    obtain rfl:u=Value.bool true:=r'
    refine ⟨rfl,OldK.of_keep fun b o e=>?_,os,bare⟩
    cases q:H b with
    | none=>exact un.keep b o e q (by intro z;exact absurd (show b∈([]:List Addr) from z) (by simp)) (by simp)
    | some u =>
     rcases hO b with z | ⟨ob,xs,z⟩
     ·rw [q] at z;cases z
     ·have z2:=un.frzs b ob _ z
      obtain ⟨e1,_⟩:=hok b _ z
      obtain ⟨e2,_⟩:=hok' b _ z2
      rw [e] at e1;cases e1
      exact e2
 cases hk:K.lookup a with
 | some o =>
  -- the script is one of the module's own objects
  have e:=KX a o hk
  rw [ha] at e
  cases e
  refine core (fun _=>none) (fun _ => .inl rfl) (.inr ⟨_,vs.toArray,_,hk,rfl,rfl,rfl,by rw [List.size_toArray,lenV];exact hl,by simpa using rv⟩) (fun b u z=>by have z':(none:Option HO)=some u:=z;cases z') (fun b z=>absurd rfl z) fun z=>absurd rfl z
 | none =>
  refine core (fun b=>if b=a then some (.frz { cls:=.type "list",data:=.seq vs.toArray } (.lst (ns.map V.int))) else none) (fun b=>?_) (.inl (.inr ⟨{ cls:=.type "list",data:=.seq vs.toArray },if_pos rfl⟩)) (fun b u z=>?_) (fun b z=>?_) fun _=>hk
  ·by_cases hb:b=a
   ·exact .inr ⟨_,_,if_pos hb⟩
   ·exact .inl (if_neg hb)
  ·by_cases hb:b=a
   ·have z':=(if_pos hb).symm.trans z
    cases z'
    subst hb
    exact ⟨ha,by rw [List.length_map];exact hl,vs,_,rv,ha⟩
   ·have z':=(if_neg hb).symm.trans z
    cases z'
  ·by_cases hb:b=a
   ·exact hb
   ·exact absurd (if_neg hb) z
end L2
namespace L2
open PySem PySem.Spec PyProof.Rows
noncomputable abbrev KOf {K:PySem.W.Frag} {h:Heap} (_:K.In h):PySem.W.Frag:=K
theorem walk_of {l:PySem.W.OpenLaw} {n k:Nat} {q:Program} {loose:List Str} {XP:(Str->Option Value)->Heap->Prop} {YP:World->Heap->Prop} {d:DefRec} {K:Params->PySem.W.Frag} {CX:World->CXT} {sp:World->Sp} {x:Str}
  (hn:l.most=some n) (hn2:n<=sizeLine) (hdf:d.params.defaults=[]) (hr:Room k callerA)
  (hY:∀ (w:World) (h:Heap),YP w h->(K w.params).In h)
  (F:∀ (w:World) (mg:Str->Option Value) (fa:Addr) (h:Heap),(K w.params).In h->h.Ns mainGlobals mg->mg d.name=some (.ref fa) ->
   ∃ fd:FuncData,(∀ (s:Shared) (u:Value),BindsTo s fd ⟨[u],[]⟩ [(x,u)]) /\
    ∀ base:Heap,(K w.params).In base->base.Ns mainGlobals mg->FnOk l.prog w (K w.params) mg base (CX w) k fa fd [x] (sp w))
  (hsp:∀ (w:World) (H:Hp) (a:Addr) (ns:List Int),ns.length<=n->Only H->SqL (K w.params) H a (ns.map V.int)->sp w [.ref a] H (fun v _=>v=.bl true) fun _ _ _=>False)
  (hCX:∀ (w:World) (H:Hp) (s:Shared) (e:Value) (s':Shared),CX w [] H s (fun _ _ _=>False) e s'->False) :
  PySem.W.WalkO q loose XP YP l.row.toRowW d [] (fun f vs=>PySem.call f vs):=by
 refine Att.attach_call hn hdf fun w s₀ s₁ mg mb fa o pm cd doc a vs ns G Y ho hd hcd hmg hobj hints hlen hg=>?_
 have KX:=hY w _ Y
 obtain ⟨fd,hb,hF⟩:=F w mg fa _ KX G.T.g hmg
 exact aq4 KX G.T.g G.T.b G.T.builtins G.T.nolimit hg hobj hints (Nat.le_trans hlen hn2) hr hF hb (fun H hO hS=>hsp w H a ns hlen hO hS) fun H e s'=>hCX w H s₁ e s'
end L2
/- THE LAST THEOREM (shape; LID, My.* are yours):
  My.Adr: a structure of the addresses that your layer names (classes,functions);My.Txt K t: a structure (Prop) of the equations over K;
  My.txt_mk:{K} {implicit addresses ..} (e1:nsIn K mainGlobals "law" = some (some (.ref f))) (e2:K.lookup f=some ⟨oc,od,.func (fnOf "law" "law" params body scope dV kV doc pm an cdv ct),sl⟩) (e3:codeIn K cdv "law" = true) .. : ∃ t,My.Txt K t
set_option maxRecDepth 100000 in
set_option maxHeartbeats 0 in
theorem PySem.Challenge.cw_LID_holds : PySem.Challenge.rw_LID.Holds := by
 w_on;o_law;k_head;(case hw=>w_witness2)
 k_fill
 refine L2.walk_of (l:=PySem.Challenge.rw_LID) (n:=63) (k:=40) (x:="script") (CX:=fun w => ..) (sp:=fun _=>My.sp_law) rfl (by decide) rfl ⟨rfl,by decide,by decide⟩ (fun w h Y=>PySem.W.kIn_of Y) ?F ?S ?C
 case F =>
  intro w mg fa h KX G hmg
  have T:∃ t,My.Txt (L2.KOf KX) t:=by
   dsimp only [L2.KOf]                          -- K must stand as «<heap const> w.params» for k_is
   refine' My.txt_mk ?e1 ?e2 ?e3 ..
   (case e1=>PySem.W.k_is)                    -- in the order: a name -> its address -> its object -> its parts
   (case e2=>PySem.W.k_is)
   ..
  obtain ⟨t,T⟩:=T
  have e0:=hmg.symm.trans (PySem.W.mg_of KX G T.law)
  cases e0                                       -- fa is the law's own address
  exact ⟨_,fun s u => .of_eq rfl,fun base kb nb=>My.law_fn T kb nb⟩     -- if «.of_eq rfl» comes too early: refine' ⟨_,?b,fun base kb nb=>My.law_fn T kb nb⟩;exact fun s u => .of_eq rfl
 case S=>exact fun w H a ns hl hO hS => ..
 case C=>exact ..
(the tactic k_is has no namespace: write k_is) -/
namespace L2
open PySem PySem.Spec PyProof.Rows
noncomputable def aaq (s:Stmt):Arguments:=match s with
 | .FunctionDef _ a _ _ _ _ _ _ _ _=>a
 | _=>{ posonlyargs:=[],args:=[],vararg:=none,kwonlyargs:=[],kw_defaults:=[],kwarg:=none,defaults:=[] }
noncomputable def aap (s:Stmt):List Stmt:=match s with
 | .FunctionDef _ _ b _ _ _ _ _ _ _=>b
 | _=>[]
noncomputable def aaf (s:Stmt):Scope:=match s with
 | .FunctionDef _ _ _ _ _ _ sc _ _ _=>sc
 | _=>{ kind:=.function,names:=[],isGenerator:=false,isCoroutine:=false }
noncomputable abbrev CX0:CXT:=fun _ _ _ _ _ _=>False
noncomputable abbrev E0:XK:=fun _ _ _=>False
theorem ayt {X:Cx}:ajl CX0 X E0:=fun _ _ _ _ _ _ _ h=>h.elim
structure Fun (K:PySem.W.Frag) (x qual:Str) (st:Stmt) (f:Addr) (fd:FuncData):Prop where
 ex:∃ (oc:Value) (od:Option Addr) (kV doc pm:Value) (an:Option Addr) (cdv ct:Value) (osl:Array (Option Value)),
  fd=PySem.W.fnOf x qual (aaq st) (aap st) (aaf st) .none kV doc pm an cdv ct/\K.lookup f=some ⟨oc,od,.func fd,osl⟩/\PySem.W.codeIn K cdv qual=true
 kp:PySem.W.keepIn K (.ref f)=true
section
variable {P:Program} {w:World} {K:PySem.W.Frag} {mg:Str->Option Value} {base:Heap}
theorem Fun.ok {x qual:Str} {st:Stmt} {f:Addr} {fd:FuncData} {N ps:List Str} {k:Nat} {sp:Sp} (F:Fun K x qual st f fd) (S:FnScope N ps (aaf st)) (len:∀ vs H Q E,sp vs H Q E->vs.length=ps.length)
  (hbody:∀ (cdv:Value) (A:Around) (outer:List Env) (s:Shared) (H:Hp) (vs:List V) (Q:VK) (E:XK),Room k (A.deeper (envOfC qual (aaf st) s.heap.objs.size f cdv))->sp vs H Q E ->
   ∃ t,PSs (cxOf CX0 P w K mg base N qual (aaf st) f cdv A outer s H E).nox (aap st) t/\t { nx:=fun _ H'=>Q .non H',rt:=Q } (start N vs) H):FnOk P w K mg base CX0 (k+1) f fd ps sp:=by
 obtain ⟨oc,od,kV,doc,pm,an,cdv,ct,osl,rfl,lk,hcd⟩:=F.ex
 refine ayr lk hcd S len fun A outer s H vs Q E hr hsp=>?_
 obtain ⟨t,h,q⟩:=hbody cdv A outer s H vs Q E hr hsp
 exact ⟨t,h.nox,q⟩
theorem Fun.binds {x qual:Str} {st:Stmt} {f:Addr} {fd:FuncData} {ps:List Str} (F:Fun K x qual st f fd)
  (h:∀ (kV doc pm:Value) (an:Option Addr) (cdv ct:Value) (us:List Value),us.length=ps.length->bindArgs (PySem.W.fnOf x qual (aaq st) (aap st) (aaf st) .none kV doc pm an cdv ct) ⟨us,[]⟩=pure (ps.zip us)):Binds K fd ps []:=by
 obtain ⟨oc,od,kV,doc,pm,an,cdv,ct,osl,rfl,lk,hcd⟩:=F.ex
 exact .all (h kV doc pm an cdv ct)
theorem aa0 {x qual:Str} {st:Stmt} {f:Addr} {oc:Value} {od an:Option Addr} {osl:Array (Option Value)} {kV doc pm cdv ct:Value} (l:K.lookup f=some ⟨oc,od,.func (PySem.W.fnOf x qual (aaq st) (aap st) (aaf st) .none kV doc pm an cdv ct),osl⟩)
  (c:PySem.W.codeIn K cdv qual=true) (k:PySem.W.keepIn K (.ref f)=true):Fun K x qual st f (PySem.W.fnOf x qual (aaq st) (aap st) (aaf st) .none kV doc pm an cdv ct):=⟨⟨oc,od,kV,doc,pm,an,cdv,ct,osl,rfl,l,c⟩,k⟩
end
theorem ayu {A:Around} {k:Nat} (hr:Room k A):A.units+1 < cLine:=Nat.lt_of_le_of_lt (Nat.add_le_add_left (by decide:1<=64) _) hr.units
theorem aeq {n:Nat} (h:n<=1000):n < sizeLine:=Nat.lt_of_le_of_lt h (by decide)
section
variable {X:Cx}
theorem pv (i:Nat) {x:Str} {pos:Pos} (hN:X.N[i]?=some x:=by rfl) (hv:Vis X.env.scope x:=by first | exact Or.inl rfl | exact Or.inr (Or.inl rfl) | exact Or.inr (Or.inr rfl)) (hd:(x == ("__debug__" : Str))=false:=by decide)
  (hcd:(x == ("__classdict__" : Str))=false:=by decide):PE X (.Name x pos) (tVar i):=awh hN hv hd hcd
end
theorem iteF {A B:Prop} (h:B):if false=true then A else B:=by
 rw [if_neg Bool.false_ne_true]
 exact h
theorem iteT {A B:Prop} (h:A):if true=true then A else B:=by
 rw [if_pos rfl]
 exact h
def Same (H H':Hp):Prop:=∀ b o,H b=some o->H' b=some o
theorem Same.refl (H:Hp):Same H H:=fun _ _ h=>h
theorem Same.trans {H H1 H2:Hp} (a:Same H H1) (b:Same H1 H2):Same H H2:=fun c o h=>b c o (a c o h)
theorem Same.free {H H':Hp} (e:Same H H') {l:Addr} (h:H' l=Option.none):H l=Option.none:=by
 cases q:H l with
 | none=>rfl
 | some o =>
  rw [e l o q] at h
  cases h
theorem Same.seq {K:PySem.W.Frag} {H H':Hp} {a:Addr} {xs:List V} (e:Same H H') (h:SqL K H a xs):SqL K H' a xs:=by
 rcases h with (h | ⟨o,h⟩) | h
 ·exact .inl (.inl (e _ _ h))
 ·exact .inl (.inr ⟨o,e _ _ h⟩)
 ·exact .inr h
section
variable {X:Cx}
end
section
variable {κ:Type} [DecidableEq κ]
end
end L2
namespace L2
open PySem PySem.Spec PyProof.Rows
noncomputable def clos (env:Env):List (Str × NameKind)->List (Str × Addr)->List (Str × Addr)
 | [],cs=>cs
 | (n,k) :: r,cs=>if k == NameKind.free then (match env.cells.lookup n with | some a=>clos env r ((n,a) :: cs) | none=>clos env r cs) else clos env r cs
theorem af8 {env:Env} {sc:Scope} (h:∀ n,(n,NameKind.free)∈sc.names->∃ a,env.cells.lookup n=some a):closureFor sc env=pure (clos env sc.names []):=by
 have all:∀ (l:List (Str × NameKind)) (cs:List (Str × Addr)),(∀ n,(n,NameKind.free)∈l->∃ a,env.cells.lookup n=some a) ->
   (forIn l cs fun (x:Str × NameKind) (cs:List (Str × Addr))=>match x with | (name,kind)=>if kind == NameKind.free then (do let a ← cellOf env name;pure (ForInStep.yield ((name,a) :: cs))) else pure (ForInStep.yield cs))=(pure (clos env l cs):Sem _):=by
  intro l
  induction l with
  | nil=>intro cs _;rfl
  | cons p r ih =>
   intro cs hl
   obtain ⟨n,k⟩:=p
   rw [List.forIn_cons]
   unfold clos
   dsimp only
   cases hk:(k == NameKind.free) with
   | false =>
    simp only [Bool.false_eq_true,if_false,pure_bind]
    exact ih cs fun m hm=>hl m (List.mem_cons_of_mem _ hm)
   | true =>
    have ek:k=NameKind.free:=by simpa using hk
    subst ek
    obtain ⟨a,ha⟩:=hl n List.mem_cons_self
    have ec:cellOf env n=pure a:=by unfold cellOf;rw [ha]
    simp only [if_true,ec,pure_bind,ha]
    exact ih _ fun m hm=>hl m (List.mem_cons_of_mem _ hm)
 have e:=all sc.names [] h
 unfold closureFor
 refine Eq.trans (b:=(pure (clos env sc.names []):Sem _) >>= fun cs=>pure cs) ?_ (pure_bind _ _)
 exact congrArg (fun z:Sem (List (Str × Addr))=>z >>= fun cs=>pure cs) e
theorem adp {env:Env} {x:Str} {c:Addr}:∀ {l:List (Str × NameKind)} {cs:List (Str × Addr)},(clos env l cs).lookup x=some c->env.cells.lookup x=some c\/cs.lookup x=some c
 | [],cs,h => .inr h
 | (n,k) :: r,cs,h=>by
  unfold clos at h
  by_cases hk:(k == NameKind.free)=true
  ·rw [if_pos hk] at h
   cases ha:env.cells.lookup n with
   | none=>rw [ha] at h;exact adp h
   | some a =>
    rw [ha] at h
    rcases adp h with e | e
    ·exact .inl e
    ·rw [List.lookup_cons] at e
     cases hx:(x == n) with
     | true =>
      rw [hx] at e
      have:x=n:=by simpa using hx
      subst this
      cases e
      exact .inl ha
     | false=>rw [hx] at e;exact .inr e
  ·rw [if_neg hk] at h
   exact adp h
theorem adq {env:Env} {x:Str}:∀ {l:List (Str × NameKind)} {cs:List (Str × Addr)},(∃ c,cs.lookup x=some c)->∃ c,(clos env l cs).lookup x=some c
 | [],cs,h=>h
 | (n,k) :: r,cs,h=>by
  unfold clos
  by_cases hk:(k == NameKind.free)=true
  ·rw [if_pos hk]
   cases ha:env.cells.lookup n with
   | none=>exact adq h
   | some a =>
    refine adq ?_
    rw [List.lookup_cons]
    cases hx:(x == n) with
    | true=>exact ⟨_,rfl⟩
    | false=>exact h
  ·rw [if_neg hk]
   exact adq h
theorem adl {env:Env} {x:Str} (h:∃ a,env.cells.lookup x=some a):∀ {l:List (Str × NameKind)} {cs:List (Str × Addr)},(x,NameKind.free)∈l->∃ c,(clos env l cs).lookup x=some c
 | [],_,hm=>absurd hm (by simp)
 | (n,k) :: r,cs,hm=>by
  rcases List.mem_cons.mp hm with e | hm
  ·cases e
   obtain ⟨a,ha⟩:=h
   unfold clos
   rw [if_pos (by rfl),ha]
   refine adq ⟨a,?_⟩
   rw [List.lookup_cons]
   simp
  ·unfold clos
   by_cases hk:(k == NameKind.free)=true
   ·rw [if_pos hk]
    cases ha:env.cells.lookup n with
    | none=>exact adl h hm
    | some a=>exact adl h hm
   ·rw [if_neg hk]
    exact adl h hm
theorem aer {env:Env} {x:Str}:∀ {names:List (Str × NameKind)},(∀ y∈names,y.2 ≠ .cell) ->
  ((names.map fun (n,k)=>if (k == NameKind.free && env.scope.kind == .function && env.kindOf n == some .cell) then (n,NameKind.cell) else (n,k)).lookup x=some .cell ∨
   (names.map fun (n,k)=>if (k == NameKind.free && env.scope.kind == .function && env.kindOf n == some .cell) then (n,NameKind.cell) else (n,k)).lookup x=some .free)->names.lookup x=some .free
 | [],_,h=>by rcases h with h | h <;> simp at h
 | (n,k) :: r,hc,h=>by
  have ih:=@aer env x r fun y hy=>hc y (List.mem_cons_of_mem _ hy)
  rw [List.lookup_cons]
  simp only [List.map_cons] at h
  by_cases hq:(k == NameKind.free && env.scope.kind == .function && env.kindOf n == some .cell)=true
  ·rw [if_pos hq] at h
   have ek:k=NameKind.free:=by
    have:=hq;simp only [Bool.and_eq_true] at this;simpa using this.1.1
   subst ek
   cases hx:(x == n) with
   | true=>rfl
   | false=>simp only [List.lookup_cons,hx] at h;exact ih h
  ·rw [if_neg hq] at h
   cases hx:(x == n) with
   | true =>
    simp only [List.lookup_cons,hx] at h
    rcases h with h | h
    ·cases h;exact absurd rfl (hc (n,NameKind.cell) List.mem_cons_self)
    ·exact h
   | false=>simp only [List.lookup_cons,hx] at h;exact ih h
theorem adr {env:Env} {x:Str}:∀ {names:List (Str × NameKind)},names.lookup x=some .free ->
  ((names.map fun (n,k)=>if (k == NameKind.free && env.scope.kind == .function && env.kindOf n == some .cell) then (n,NameKind.cell) else (n,k)).lookup x=some .cell ∨
   (names.map fun (n,k)=>if (k == NameKind.free && env.scope.kind == .function && env.kindOf n == some .cell) then (n,NameKind.cell) else (n,k)).lookup x=some .free)
 | [],h=>by simp at h
 | (n,k) :: r,h=>by
  have ih:=@adr env x r
  rw [List.lookup_cons] at h
  simp only [List.map_cons]
  by_cases hq:(k == NameKind.free && env.scope.kind == .function && env.kindOf n == some .cell)=true
  ·rw [if_pos hq]
   cases hx:(x == n) with
   | true=>left;simp [List.lookup_cons,hx]
   | false=>rw [hx] at h;simp only [List.lookup_cons,hx];exact ih h
  ·rw [if_neg hq]
   cases hx:(x == n) with
   | true=>rw [hx] at h;right;simp only [List.lookup_cons,hx];exact h
   | false=>rw [hx] at h;simp only [List.lookup_cons,hx];exact ih h
noncomputable def Cx.comp (X:Cx) (N:List Str) (sc:Scope) (C:Addr) (s0:Shared) (H0:Hp) (ex:List Addr):Cx where
 prog:=X.prog
 w:=X.w
 K:=X.K
 mg:=X.mg
 base:=X.base
 A:=X.A
 N:=N
 s₀:=s0
 H₀:=H0
 env:=compEnvC sc (clos X.env sc.names []) C X.env
 outer:=X.stack
 stack:=X.stack
 ex:=ex
 fn:=fun _=>false
 calm:=X.calm
 pn:=[]
 xe:=fun _ _=>False
noncomputable def pick (src:List (Option Nat)) (σ:St):St:=src.map fun o=>match o with | some j=>(σ[j]?).getD none | none=>none
structure LcOk (X:Cx) (N:List Str) (sc:Scope) (src:List (Option Nat)):Prop where
 kind:sc.kind=.function
 nocell:∀ y∈sc.names,y.2 ≠ .cell
 own:∀ y∈sc.names,y.2=.local->sc.names.lookup y.1=some .local
 outs:∀ y∈sc.names,y.2=.free->X.env.kindOf y.1=some .cell\/X.env.kindOf y.1=some .free
 len:src.length=N.length
 from':∀ (i j:Nat),src[i]?=some (some j)->∃ x,N[i]?=some x/\X.N[j]?=some x/\sc.names.lookup x=some .free
theorem LcOk.clo {X:Cx} {N:List Str} {sc:Scope} {src:List (Option Nat)} (L:LcOk X N sc src) (ok:X.Ok):closureFor sc X.env=pure (clos X.env sc.names []) :=
 af8 fun n hn=>ok.has n (L.outs (n,.free) hn rfl)
theorem ajp {X:Cx} {pins:List (Addr × Obj)} {σ:St} {H:Hp} {s:Shared} {N:List Str} {sc:Scope} {src:List (Option Nat)} {fp:List Addr} {h1:Heap} {t':Nat}
  (L:LcOk X N sc src) (I:Inv X pins σ H s) (hf:∀ b∈fp,FpOk X pins H b) (ho:∀ b∈fp,b < s.heap.objs.size)
  (hn:h1.Ns s.heap.objs.size fun _=>none) (hk:∀ b o,s.heap.get? b=some o->h1.get? b=some o) :
  Inv (X.comp N sc s.heap.objs.size s H fp) [] (pick src σ) H { s with heap:=h1,toks:=t' }:=by
 have look:∀ {x c},(clos X.env sc.names []).lookup x=some c->X.env.cells.lookup x=some c:=fun {x c} e=>by
  rcases adp e with z | z
  ·exact z
  ·simp at z
 refine ⟨⟨I.ok.mod,L.kind,I.ok.glob,I.ok.blt,Nat.le_refl _,fun x y c e1 e2=>?_,fun x hx=>?_,fun x c z _=>?_,I.ok.hd,I.ok.frames,.inl rfl,fun b hb=>⟨?_,fun x c e=>?_⟩,I.bs,Nat.le_trans I.ok.bsz I.sz,fun b o e hb=>?_,fun b hb z=>?_,I.stack,I.stkFree⟩,
  rfl,I.bare,Un.kept hk,⟨_,hn,fun i x v e1 e2 e3=>?_⟩,fun x c e=>?_,I.hok.fresh (Nat.le_refl _),fun x c e=>I.freeC x c (look e),fun p hp=>?_,I.hok.kept hk,?_⟩
 ·exact I.ok.inj x y c (look e1) (look e2)
 ·have q:=aer (env:=X.env) (x:=x) L.nocell hx
  exact adl (I.ok.has x (L.outs (x,.free) (PySem.mem_of_lookup q) rfl)) (PySem.mem_of_lookup q)
 ·exact Bool.noConfusion z
 ·exact Nat.ne_of_lt (ho b hb)
 ·exact (hf b hb).2.2.2.2.1 x c (look e)
 ·rcases (hf b hb).2.2.2.1 with z | z
  ·exact I.ok.noex b o e z
  ·exact absurd (Nat.lt_of_lt_of_le (Heap.lt_size e) (Nat.le_trans I.ok.bsz z)) (Nat.lt_irrefl _)
 ·rcases List.mem_cons.mp (I.stkSub b z) with q | q
  ·exact (hf b hb).2.1 q
  ·exact (hf b hb).2.2.1 q
 ·unfold pick at e2
  rw [List.getElem?_map] at e2
  cases q:src[i]? with
  | none=>rw [q] at e2;cases e2
  | some o =>
   rw [q] at e2
   cases o with
   | none=>cases e2
   | some j =>
    obtain ⟨y,n1,n2,n3⟩:=L.from' i j q
    have e1':N[i]?=some x:=e1
    rw [e1'] at n1
    cases n1
    have ej : σ[j]?=some (some v):=by
     cases q2 : σ[j]? with
     | none=>simp [q2] at e2
     | some z=>simp [q2] at e2;rw [e2]
    have ho:=L.outs (x,.free) (PySem.mem_of_lookup n3) rfl
    have vis:Vis X.env.scope x:=by
     rcases ho with z | z
     ·exact .inr (.inl z)
     ·exact .inr (.inr z)
    obtain ⟨m,_,hl⟩:=I.loc
    obtain ⟨u,r,l⟩:=hl j x v n2 ej vis
    refine ⟨u,r,.inr ⟨?_,?_⟩⟩
    ·exact adr (env:=X.env) n3
    ·rcases l with ⟨z,_⟩ | ⟨_,c,hc,oc,hoc,hd⟩
     ·rcases ho with z' | z' <;> (rw [z'] at z;cases z)
     ·obtain ⟨c',e'⟩:=adl (env:=X.env) ⟨c,hc⟩ (PySem.mem_of_lookup n3) (cs:=[])
      have:=look e'
      rw [hc] at this;cases this
      exact ⟨c,e',oc,hk c oc hoc,hd⟩
 ·obtain ⟨v,oc,hoc,hd⟩:=I.cell x c (look e)
  exact ⟨v,oc,hk c oc hoc,hd⟩
 ·exact absurd (show p∈([]:List (Addr × Obj)) from hp) (by simp)
 ·show (pick src σ).length=N.length
  unfold pick
  rw [List.length_map]
  exact L.len
end L2
namespace L2
open PySem PySem.Spec PyProof.Rows
def PIf (X:Cx) (ifs:List Expr) (t:TT):Prop :=
 ∀ (pins:List (Addr × Obj)) (s:Shared) (σ:St) (H:Hp) (Q:Bool->Hp->Prop),Inv X pins σ H s->t σ H Q ->
  wpAny (model X.prog X.w) X.A (forIn ifs true fun c r=>if r=true then do let ok ← isTrue c X.env (eval c X.env);pure (ForInStep.yield ok) else pure (ForInStep.yield r)) (TP X pins σ Q) X.xe s
def tYes:TT:=fun _ H Q=>Q true H
theorem aco {X:Cx}:PIf X [] tYes:=fun _ _ _ H _ I h=>wpAny_tests_nil ⟨H,I,h⟩
theorem ae9 {X:Cx} {c:Expr} {t:TT} (h:PT X c t):PIf X [c] t:=fun pins s σ H Q I q=>wpAny_tests_one (h pins s σ H Q I q)
noncomputable abbrev LW:=Nat->Nat->List V->St->Hp->Prop
def ajq (J:It) (g:TG) (tif:TT) (te:TE) (acc:Addr) (Qd:List V->Hp->Prop) (W:LW):Prop:=∀ (i m:Nat) (ys:List V) (σ:St) (H:Hp),W i m ys σ H->H acc=some (.lst ys)/\((J.stop i H/\Qd ys H)\/(J.go i H /\
 ∃ Nx:List V->St->Hp->Prop,(∀ ys' σ' H',Nx ys' σ' H'->∃ m',m' < m/\W (i+1) m' ys' σ' H')/\∀ x H2,J.yld i H x H2 ->
 g x σ H2 fun σ3 H3=>tif σ3 H3 fun b H4=>if b=true then te σ3 H4 fun y H5=>H5 acc=some (.lst ys)/\ys.length < sizeLine/\Nx (ys ++ [y]) σ3 (upd H5 acc (.lst (ys ++ [y]))) else Nx ys σ3 H4))
theorem apb {X:Cx} {tg iter elt:Expr} {ifs:List Expr} {sc:Scope} {pos:Pos} {J:It} {fp:List Addr} {it:Addr} {tn:Nat->Heap->Prop} {g:TG} {tif:TT} {te:TE} {acc:Addr} {Qd:List V->Hp->Prop} {W:LW} {R:Result->Shared->Prop}
  (T:Turn X.prog X.w X.K tg J fp it tn) (hc:X.calm=true) (hxe:∀ e s,¬ X.xe e s) (hg:PG X tg g) (hif:PIf X ifs tif) (he:PE X elt te)
  (turn:ajq J g tif te acc Qd W) (hR:∀ ys σ H s,Inv X [] σ H s->Qd ys H->R (.ok .next) s)
  {i m:Nat} {ys:List V} {σ:St} {H:Hp} {s:Shared} (I:Inv X [] σ H s) (st:tn i s.heap) (hf:∀ b∈fp,FpOk X [] H b) (w:W i m ys σ H) :
  codeAny (model X.prog X.w) X.A (.compLoop (.ListComp elt [⟨tg,iter,ifs,0⟩] sc pos) 0 (.ref it) (.ref acc) X.env) R s:=by
 have stat:∀ {H':Hp},(∀ b∈fp,H' b=none)->∀ b∈fp,FpOk X [] H' b:=fun hn b hb=>⟨hn b hb,(hf b hb).2⟩
 refine codeAny_loop rfl (fun n s'=>∃ i ys σ' H',Inv X [] σ' H' s'/\tn i s'.heap/\(∀ b∈fp,H' b=none)/\W i n ys σ' H') ?_ m ⟨i,ys,σ,H,I,st,fun b hb=>(hf b hb).1,w⟩
 rintro n s1 ⟨i,ys,σ1,H1,I1,st1,fr1,w1⟩
 show wpAny _ X.A ((compTurn (.ListComp elt [⟨tg,iter,ifs,0⟩] sc pos) 0 (.ref it) (.ref acc) X.env).onRaise (fun x=>do noteFrame x X.env;theTreesLotGoes x)) _ _ s1
 refine wpAny_noted ?_
 rw [compTurn_list]
 refine wpAny_bind (wpAny_standAt (wpAny_bind ?_))
 obtain ⟨hacc,⟨stop,qd⟩ | ⟨go,Nx,hNx,step⟩⟩:=turn i n ys σ1 H1 w1
 ·refine thn (T.done X rfl rfl rfl hc i [] s1 σ1 H1 _ I1 (stat fr1) st1 stop) fun r s2 ⟨hr,I2⟩=>?_
  subst hr
  exact wpAny_pure (hR ys σ1 H1 s2 I2 qd)
 ·refine thn (T.item X rfl rfl rfl hc i [] s1 σ1 H1 _ I1 (stat fr1) st1 go) fun r s2 ⟨u,hr,h2⟩=>?_
  subst hr
  refine wpAny_bind (thn h2 fun _ s3 ⟨x,H3,I3,r3,y3,st3,fr3⟩=>?_)
  have I3':=I3.pinned (stat fr3) (T.obj _ _ st3)
  refine wpAny_bind (wpAny_mono (hg _ s3 σ1 H3 x u _ I3' r3 (step x H3 y3)) (fun _ s4 ⟨σ4,H4,I4,q4⟩=>?_) fun e s' z=>(hxe e s' z).elim)
  have back:∀ {σ7:St} {H7:Hp} {s7:Shared} {zs:List V},Inv X ([] ++ adj fp s3.heap) σ7 H7 s7->(∃ m',m' < n/\W (i+1) m' zs σ7 H7)->∃ m,m < n/\∃ i ys σ' H',Inv X [] σ' H' s7/\tn i s7.heap/\(∀ b∈fp,H' b=none)/\W i m ys σ' H':=fun {σ7 H7 s7 zs} I7 w7=>by
   obtain ⟨m',hm,w7⟩:=w7
   refine ⟨m',hm,i+1,zs,σ7,H7,I7.unpinned,T.keep _ _ _ st3 fun b hb o e=>(I7.pin (b,o) (List.mem_append_right _ (List.mem_append_right _ (abl hb e)))).1,fun b hb=>?_,w7⟩
   obtain ⟨o,e,d⟩:=T.obj _ _ st3 b hb
   exact (I7.pin (b,o) (List.mem_append_right _ (List.mem_append_right _ (abl hb e)))).2.1
  refine wpAny_bind (wpAny_mono (hif _ s4 σ4 H4 _ I4 q4) (fun b s5 ⟨H5,I5,q5⟩=>?_) fun e s' z=>(hxe e s' z).elim)
  cases b with
  | false =>
   rw [if_neg Bool.false_ne_true] at q5
   exact wpAny_pure ⟨rfl,back I5 (hNx _ _ _ q5)⟩
  | true =>
   rw [if_pos rfl] at q5
   refine wpAny_bind (wpAny_bind (wpAny_mono (he _ s5 σ4 H5 _ I5 q5) (fun yv s6 ⟨y,H6,I6,r6,a6,l6,w6⟩=>?_) fun e s' z=>(hxe e s' z).elim))
   have ap:=abe (X:=X) _ s6 σ4 H6 (.ref acc) [y] (.ref acc) [yv] (fun _ H'=>H'=upd H6 acc (.lst (ys ++ [y]))) I6 rfl (.cons r6 .nil) ⟨acc,ys,y,rfl,rfl,a6,l6,rfl⟩
   refine wpAny_bind (wpAny_mono ap (fun _ s7 ⟨v7,H7,I7,_,e7⟩=>?_) fun e s' z=>(hxe e s' z).elim)
   subst e7
   exact wpAny_pure (wpAny_pure ⟨rfl,back I7 (hNx _ _ _ w6)⟩)
def tLC (src:List (Option Nat)) (wi:TI) (g:TG) (tif:TT) (te:TE):TE:=fun σ H Q=>wi σ H fun J H1=>∀ acc,H1 acc=none->∃ W:LW,(∃ m,W 0 m [] (pick src σ) (upd H1 acc (.lst [])))/\ajq J g tif te acc (fun _ H'=>Q (.ref acc) H') W
section
variable {X:Cx} {N:List Str} {tg iter elt:Expr} {ifs:List Expr} {sc:Scope} {src:List (Option Nat)} {wi:TI} {g:TG} {tif:TT} {te:TE} {pos:Pos}
theorem at5 (hc:X.calm=true) (L:LcOk X N sc src) (hg:∀ C s0 H0 ex,PG (X.comp N sc C s0 H0 ex) tg g) (hif:∀ C s0 H0 ex,PIf (X.comp N sc C s0 H0 ex) ifs tif) (he:∀ C s0 H0 ex,PE (X.comp N sc C s0 H0 ex) elt te)
  {pins:List (Addr × Obj)} {s3:Shared} {σ:St} {H3:Hp} {Q:VK} (I3:Inv X pins σ H3 s3) {it acc:Addr} {fp:List Addr} {J:It} {tn:Nat->Heap->Prop} (T:Turn X.prog X.w X.K tg J fp it tn) (st3:tn 0 s3.heap) (f3:∀ b∈fp,FpOk X pins H3 b)
  {W:LW} {m0:Nat} (w0:W 0 m0 [] (pick src σ) H3) (turn:ajq J g tif te acc (fun _ H'=>Q (.ref acc) H') W) (use:Option (Value->Sem Unit)) (P:Value->Shared->Prop)
  (hP:∀ C H' s' m,Inv X pins σ H' s'->Q (.ref acc) H'->s'.heap.Ns C m->H' C=none->C ≠ X.env.locals->(C∈X.ex\/X.s₀.heap.objs.size<=C)->(∀ x c,X.env.cells.lookup x=some c->c ≠ C)->(∀ p∈X.pn ++ pins,p.1 ≠ C) ->
   compPost (model X.prog X.w) X.A X.xe use P (.ref acc) C (.ok .next) s') :
  wpAny (model X.prog X.w) X.A (newFunctionEnv sc X.env.globals (clos X.env sc.names []) [] X.env.qual none .none (some X.env)) (fun cenv s₄ =>
    codeAny (model X.prog X.w) X.A (.compStart (.ListComp elt [⟨tg,iter,ifs,0⟩] sc pos) 0 (.ref it) (.ref acc) { cenv with scope:=relabel sc X.env }) (compPost (model X.prog X.w) X.A X.xe use P (.ref acc) cenv.locals) s₄) X.xe s3:=by
 refine wpAny_newFunctionEnv L.nocell (by intro y hy;simp at hy) (fun h4 hns4 hsb4=>?_) L.kind
 have szf:∀ b∈fp,b < s3.heap.objs.size:=fun b hb=>by
  obtain ⟨o,ho,_⟩:=T.obj _ _ st3 b hb
  exact Heap.lt_size ho
 have k34:∀ b o,s3.heap.get? b=some o->h4.get? b=some o:=fun b o e=>hsb4.extBut b o (Nat.ne_of_lt (Heap.lt_size e)) (Heap.get?_push_of_some _ e)
 have I4:=ajp (t':=s3.toks+([]:List (Str × Value)).length) L I3 f3 szf (by simpa using hns4) k34
 have st4:tn 0 h4:=T.keep _ _ _ st3 fun b _ o e=>k34 b o e
 have f4:∀ b∈fp,FpOk (X.comp N sc s3.heap.objs.size s3 H3 fp) [] H3 b:=fun b hb =>
  ⟨(f3 b hb).1,(I4.ok.exf b hb).1,I4.ok.exfs b hb,.inl hb,(I4.ok.exf b hb).2,fun p hp=>absurd (show p∈([]:List (Addr × Obj)) from hp) (by simp)⟩
 have fin:∀ (ys:List V) σ' H' s',Inv (X.comp N sc s3.heap.objs.size s3 H3 fp) [] σ' H' s'->Q (.ref acc) H'->compPost (model X.prog X.w) X.A X.xe use P (.ref acc) s3.heap.objs.size (.ok .next) s':=fun ys σ' H' s' J' q'=>by
  have Jo:Inv X pins σ H' s':=I3.call' (ch:=fp) J'.os J'.base J'.hok J'.bare fun b hb=>⟨(f3 b hb).2.2.2.1,(f3 b hb).2.1,(f3 b hb).2.2.2.2.1,(f3 b hb).2.2.2.2.2⟩
  obtain ⟨m,hn,_⟩:=J'.loc
  refine hP _ H' s' m Jo q' hn J'.free (Nat.ne_of_gt I3.lt) (.inr I3.sz) (fun x c e z=>?_) fun p hp z=>?_
  ·obtain ⟨v,o,ho,_⟩:=I3.cell x c e
   exact absurd (Heap.lt_size ho) (by rw [z];exact Nat.lt_irrefl _)
  ·exact absurd (Heap.lt_size (I3.pin p hp).1) (by rw [z];exact Nat.lt_irrefl _)
 have loop:codeAny (model X.prog X.w) X.A (.compLoop (.ListComp elt [⟨tg,iter,ifs,0⟩] sc pos) 0 (.ref it) (.ref acc) (X.comp N sc s3.heap.objs.size s3 H3 fp).env)
   (compPost (model X.prog X.w) X.A X.xe use P (.ref acc) s3.heap.objs.size) { s3 with heap:=h4,toks:=s3.toks+([]:List (Str × Value)).length } :=
  apb (X:=X.comp N sc s3.heap.objs.size s3 H3 fp) T hc (fun _ _ z=>z) (hg _ _ _ _) (hif _ _ _ _) (he _ _ _ _) turn fin I4 st4 f4 w0
 exact codeAny_compStart_list loop (T.self _ 0 _ _ _ st4 loop)
theorem ajr (hc:X.calm=true) (L:LcOk X N sc src) (hi:PI X tg iter wi) (hg:∀ C s0 H0 ex,PG (X.comp N sc C s0 H0 ex) tg g) (hif:∀ C s0 H0 ex,PIf (X.comp N sc C s0 H0 ex) ifs tif) (he:∀ C s0 H0 ex,PE (X.comp N sc C s0 H0 ex) elt te)
  {pins:List (Addr × Obj)} {s:Shared} {σ:St} {H:Hp} {Q:VK} (I:Inv X pins σ H s) (h:tLC src wi g tif te σ H Q) (use:Option (Value->Sem Unit)) (P:Value->Shared->Prop)
  (hP:∀ acc C H' s' m,Inv X pins σ H' s'->Q (.ref acc) H'->s'.heap.Ns C m->H' C=none->C ≠ X.env.locals->(C∈X.ex\/X.s₀.heap.objs.size<=C)->(∀ x c,X.env.cells.lookup x=some c->c ≠ C)->(∀ p∈X.pn ++ pins,p.1 ≠ C) ->
   compPost (model X.prog X.w) X.A X.xe use P (.ref acc) C (.ok .next) s')
  (hs:∀ x,foldedSetIterable iter X.env x=pure x) :
  wpAny (model X.prog X.w) X.A (comprehension (.ListComp elt [⟨tg,iter,ifs,0⟩] sc pos) sc X.env (firstIterPos [⟨tg,iter,ifs,0⟩] pos) (newList []) false (eval iter X.env) use) P X.xe s:=by
 refine wpAny_comprehension_free rfl hs (L.clo I.ok) L.kind L.own (thn (hi pins s σ H _ I h) fun v s1 h1=>thn h1 fun itv s2 h2=>?_)
 obtain ⟨it,fp,tn,J,H2,e,I2,T,st2,f2,q2⟩:=h2
 subst e
 have hacc:H2 s2.heap.objs.size=none:=I2.hok.fresh (Nat.le_refl _)
 obtain ⟨W,⟨m0,w0⟩,turn⟩:=q2 s2.heap.objs.size hacc
 have szf:∀ b∈fp,b < s2.heap.objs.size:=fun b hb=>by
  obtain ⟨o,ho,_⟩:=T.obj _ _ st2 b hb
  exact Heap.lt_size ho
 refine wpAny_newObj_type ?_
 refine at5 hc L hg hif he (H3:=upd H2 s2.heap.objs.size (.lst [])) ?_ T ?_ ?_ w0 turn use P (hP _)
 ·exact I2.laid (t':=s2.toks) (fun b u e=>Heap.get?_push_of_some _ e) (Nat.le_refl _) ⟨Nat.zero_le _,[],0,.nil,Heap.get?_push_size _ rfl⟩
 ·exact T.keep _ _ _ st2 fun b _ o e=>Heap.get?_push_of_some _ e
 ·exact fun b hb=>⟨by rw [aac (Nat.ne_of_lt (szf b hb))];exact (f2 b hb).1,(f2 b hb).2⟩
theorem aea (hc:X.calm=true) (L:LcOk X N sc src) (hi:PI X tg iter wi) (hg:∀ C s0 H0 ex,PG (X.comp N sc C s0 H0 ex) tg g) (hif:∀ C s0 H0 ex,PIf (X.comp N sc C s0 H0 ex) ifs tif) (he:∀ C s0 H0 ex,PE (X.comp N sc C s0 H0 ex) elt te)
  (hs:∀ x,foldedSetIterable iter X.env x=pure x:=by intro _;rfl):PE X (.ListComp elt [⟨tg,iter,ifs,0⟩] sc pos) (tLC src wi g tif te):=by
 intro pins s σ H Q I h
 rw [eval_ListComp]
 refine ajr hc L hi hg hif he I h none _ (fun acc C H' s' m J q hn hC hL hx hcl hp=>?_) hs
 refine ⟨m,hn,fun h' sb=>⟨.ref acc,H',?_,rfl,q⟩⟩
 exact J.turned (t':=s'.toks) (fun b o hb e=>sb.extBut b o hb e) hC hL hx hcl hp
end
end L2
namespace L2
open PySem PySem.Spec PyProof.Rows
section
variable {X:Cx} {N:List Str} {tg iter elt:Expr} {ifs:List Expr} {sc:Scope} {src:List (Option Nat)} {wi:TI} {g:TG} {tif:TT} {te:TE} {pos spos px:Pos}
theorem ajs {i:Nat} {x:Str} (hN:X.N.Nodup) (hi':X.N[i]?=some x) (hx:Loc X.env.scope x) (hc:X.calm=true) (L:LcOk X N sc src) (hi:PI X tg iter wi) (hg:∀ C s0 H0 ex,PG (X.comp N sc C s0 H0 ex) tg g)
  (hif:∀ C s0 H0 ex,PIf (X.comp N sc C s0 H0 ex) ifs tif) (he:∀ C s0 H0 ex,PE (X.comp N sc C s0 H0 ex) elt te)
  (hsw:swapsWith (.ListComp elt [⟨tg,iter,ifs,0⟩] sc pos) (some (.Name x px)) spos.line X.env=pure true:=by rfl)
  (hf:X.fn x=true\/X.env.scope.names.lookup x=some .local:=by first | exact .inl rfl | exact .inr rfl | assumption)
  (hs:∀ x,foldedSetIterable iter X.env x=pure x:=by intro _;rfl):PS X (.Assign [.Name x px] (.ListComp elt [⟨tg,iter,ifs,0⟩] sc pos) spos) (tAsg (tLC src wi g tif te) (aa5 i)):=by
 intro pins s σ H D I h
 rw [exec_Assign_Name_used _ _ _ _ hsw]
 refine wpAny_bind (wpAny_standAt (wpAny_bind ?_))
 show wpAny _ X.A (do let _ ← comprehension (.ListComp elt [⟨tg,iter,ifs,0⟩] sc pos) sc X.env _ (newList []) false (eval iter X.env) (some (assign (.Name x px) X.env))) _ _ s
 refine wpAny_bind (wpAny_mono (ajr hc L hi hg hif he I h (some (assign (.Name x px) X.env)) (fun _ s'=>SP X pins D .next s') (fun acc C H' s' m J q hn hC hL hx' hcl hp=>?_) hs) (fun _ s' hq=>wpAny_pure (wpAny_pure hq)) fun _ _ e=>e)
 show wpAny _ X.A (assign (.Name x px) X.env (.ref acc)) _ _ _
 refine wpAny_assign_Name (ahq J hN hi' hx (v:=.ref acc) rfl (fun s2 J2 ⟨a,sb,ha⟩=>?_) hf)
 have hne:C ≠ a:=by
  rcases ha with z | z
  ·rw [z];exact hL
  ·exact (hcl x a z).symm
 refine ⟨m,hn.sameBut sb hne,fun h' sb'=>⟨_,H',?_,q⟩⟩
 exact J2.turned (t':=s2.toks) (fun b o hb e=>sb'.extBut b o hb e) hC hL hx' hcl hp
end
section
variable {g:TG} {tif:TT} {te:TE} {acc:Addr} {Qd:List V->Hp->Prop} {σ0:St} {H0:Hp}
end
end L2
namespace L2
open PySem PySem.Spec PyProof.Rows
def alz (J:It) (g:TG) (tif:TT) (te:TE) (acc:Addr) (Qd:List V->St->Hp->Prop) (W:LW):Prop:=∀ (i m:Nat) (ys:List V) (σ:St) (H:Hp),W i m ys σ H->H acc=some (.lst ys)/\((J.stop i H/\Qd ys σ H)\/(J.go i H /\
 ∃ Nx:List V->St->Hp->Prop,(∀ ys' σ' H',Nx ys' σ' H'->∃ m',m' < m/\W (i+1) m' ys' σ' H')/\∀ x H2,J.yld i H x H2 ->
 g x σ H2 fun σ3 H3=>tif σ3 H3 fun b H4=>if b=true then te σ3 H4 fun y H5=>H5 acc=some (.lst ys)/\ys.length < sizeLine/\Nx (ys ++ [y]) σ3 (upd H5 acc (.lst (ys ++ [y]))) else Nx ys σ3 H4))
def ag1 (J:It) (g:TG) (tif:TT) (wi2:TI) (g2:TG) (tif2:TT) (te:TE) (acc:Addr) (Qd:List V->Hp->Prop) (W:LW):Prop:=∀ (i m:Nat) (ys:List V) (σ:St) (H:Hp),W i m ys σ H->((J.stop i H/\Qd ys H)\/(J.go i H /\
 ∃ Nx:List V->St->Hp->Prop,(∀ ys' σ' H',Nx ys' σ' H'->∃ m',m' < m/\W (i+1) m' ys' σ' H')/\∀ x H2,J.yld i H x H2 ->
 g x σ H2 fun σ3 H3=>tif σ3 H3 fun b H4=>if b=true then wi2 σ3 H4 fun J2 H5=>∃ W2:LW,(∃ m2,W2 0 m2 ys σ3 H5)/\alz J2 g2 tif2 te acc Nx W2 else Nx ys σ3 H4))
theorem ain (elt t1 i1 t2 i2:Expr) (f1 f2:List Expr) (sc:Scope) (pos:Pos) (it acc:Value) (env:Env) :
  compTurn (.ListComp elt [⟨t1,i1,f1,0⟩,⟨t2,i2,f2,0⟩] sc pos) 0 it acc env=(do
   standAt i1.pos
   match ← pyNext it with
   | none=>pure (.done .next)
   | some v =>
    letOwnedTupleGo t1 it v
    assign t1 env v
    let mut ok:=true
    for c in f1 do
     if ok then ok ← isTrue c env (eval c env)
    if ok then
     let x ← eval i2 env
     standAt i2.pos
     let x ← foldedSetIterable i2 env x
     let _ ← runOwn (.compStart (.ListComp elt [⟨t1,i1,f1,0⟩,⟨t2,i2,f2,0⟩] sc pos) 1 (← holding [x] (pyIter x)) acc env) env
    again (.compLoop (.ListComp elt [⟨t1,i1,f1,0⟩,⟨t2,i2,f2,0⟩] sc pos) 0 it acc env)):=by rfl
theorem aio (elt t1 i1 t2 i2:Expr) (f1 f2:List Expr) (sc:Scope) (pos:Pos) (it acc:Value) (env:Env) :
  compTurn (.ListComp elt [⟨t1,i1,f1,0⟩,⟨t2,i2,f2,0⟩] sc pos) 1 it acc env=(do
   standAt i2.pos
   match ← pyNext it with
   | none=>pure (.done .next)
   | some v =>
    letOwnedTupleGo t2 it v
    assign t2 env v
    let mut ok:=true
    for c in f2 do
     if ok then ok ← isTrue c env (eval c env)
    if ok then
     (do let _ ← call (.builtin "list.append") [acc,← eval elt env])
    again (.compLoop (.ListComp elt [⟨t1,i1,f1,0⟩,⟨t2,i2,f2,0⟩] sc pos) 1 it acc env)):=by rfl
theorem apc {prog:Program} {w:World} {A:Around} {R:Result->Shared->Prop} {s:Shared} {elt t1 i1 t2 i2:Expr} {f1 f2:List Expr} {sc:Scope} {pos:Pos} {it acc:Value} {env:Env}
  (h0:codeAny (model prog w) A (.compLoop (.ListComp elt [⟨t1,i1,f1,0⟩,⟨t2,i2,f2,0⟩] sc pos) 1 it acc env) R s)
  (h:wpAny (model prog w) A (pyIter it) (fun it' s'=>codeAny (model prog w) A (.compLoop (.ListComp elt [⟨t1,i1,f1,0⟩,⟨t2,i2,f2,0⟩] sc pos) 1 it' acc env) R s') (notedBy (model prog w) A env fun x s'=>R (.error x) s') s) :
  codeAny (model prog w) A (.compStart (.ListComp elt [⟨t1,i1,f1,0⟩,⟨t2,i2,f2,0⟩] sc pos) 1 it acc env) R s:=by
 refine codeAny_of_tree ?_
 show wpAny _ _ ((compStart (.ListComp elt [⟨t1,i1,f1,0⟩,⟨t2,i2,f2,0⟩] sc pos) 1 it acc env).onRaise (fun x=>do noteFrame x env;standAt theWindowsPlace)) _ _ s
 refine wpAny_notedAt ?_
 unfold compStart
 show wpAny _ _ (ask >>= _) _ _ s
 apply wpAny_bind;apply wpAny_askSetting;apply wpAny_ite;split
 ·first | exact wpAny_bind (wpAny_pure (wpAny_pure ⟨rfl,h0⟩)) | exact wpAny_pure ⟨rfl,h0⟩
 ·have q:wpAny (model prog w) A (pyIter it >>= fun it'=>again (.compLoop (.ListComp elt [⟨t1,i1,f1,0⟩,⟨t2,i2,f2,0⟩] sc pos) 1 it' acc env)) (fun fin s'=>match fin with | .done f=>R (.ok f) s' | .again c'=>c'.quiet=true/\codeAny (model prog w) A c' R s') (notedBy (model prog w) A env fun x s'=>R (.error x) s') s :=
   wpAny_bind (wpAny_mono h (fun it' s' h'=>wpAny_pure ⟨rfl,h'⟩) fun _ _ x=>x)
  first
   | exact wpAny_bind (wpAny_rule (wpAny_bind (wpAny_standAt (wpAny_bind (wpAny_mono h (fun it' s' h'=>wpAny_pure ⟨rfl,h'⟩) fun _ _ x=>x)))))
   | (apply wpAny_bind;apply wpAny_rule;show wpAny _ _ (standAt i2.pos >>= _) _ _ s;exact wpAny_bind (wpAny_standAt (wpAny_bind (wpAny_mono h (fun it' s' h'=>wpAny_pure ⟨rfl,h'⟩) fun _ _ x=>x))))
theorem ank {X:Cx} {elt t1 i1 tg iter:Expr} {f1 ifs:List Expr} {sc:Scope} {pos:Pos} {J:It} {fp:List Addr} {it:Addr} {tn:Nat->Heap->Prop} {g:TG} {tif:TT} {te:TE} {acc:Addr} {Qd:List V->St->Hp->Prop} {W:LW} {R:Result->Shared->Prop} {pins:List (Addr × Obj)}
  (T:Turn X.prog X.w X.K tg J fp it tn) (hc:X.calm=true) (hxe:∀ e s,¬ X.xe e s) (hg:PG X tg g) (hif:PIf X ifs tif) (he:PE X elt te)
  (turn:alz J g tif te acc Qd W) (hR:∀ ys σ H s,Inv X pins σ H s->Qd ys σ H->R (.ok .next) s)
  {i m:Nat} {ys:List V} {σ:St} {H:Hp} {s:Shared} (I:Inv X pins σ H s) (st:tn i s.heap) (hf:∀ b∈fp,FpOk X pins H b) (w:W i m ys σ H) :
  codeAny (model X.prog X.w) X.A (.compLoop (.ListComp elt [⟨t1,i1,f1,0⟩,⟨tg,iter,ifs,0⟩] sc pos) 1 (.ref it) (.ref acc) X.env) R s:=by
 have stat:∀ {H':Hp},(∀ b∈fp,H' b=none)->∀ b∈fp,FpOk X pins H' b:=fun hn b hb=>⟨hn b hb,(hf b hb).2⟩
 refine codeAny_loop rfl (fun n s'=>∃ i ys σ' H',Inv X pins σ' H' s'/\tn i s'.heap/\(∀ b∈fp,H' b=none)/\W i n ys σ' H') ?_ m ⟨i,ys,σ,H,I,st,fun b hb=>(hf b hb).1,w⟩
 rintro n s1 ⟨i,ys,σ1,H1,I1,st1,fr1,w1⟩
 show wpAny _ X.A ((compTurn (.ListComp elt [⟨t1,i1,f1,0⟩,⟨tg,iter,ifs,0⟩] sc pos) 1 (.ref it) (.ref acc) X.env).onRaise (fun x=>do noteFrame x X.env;theTreesLotGoes x)) _ _ s1
 refine wpAny_noted ?_
 rw [aio]
 refine wpAny_bind (wpAny_standAt (wpAny_bind ?_))
 obtain ⟨hacc,⟨stop,qd⟩ | ⟨go,Nx,hNx,step⟩⟩:=turn i n ys σ1 H1 w1
 ·refine thn (T.done X rfl rfl rfl hc i pins s1 σ1 H1 _ I1 (stat fr1) st1 stop) fun r s2 ⟨hr,I2⟩=>?_
  subst hr
  exact wpAny_pure (hR ys σ1 H1 s2 I2 qd)
 ·refine thn (T.item X rfl rfl rfl hc i pins s1 σ1 H1 _ I1 (stat fr1) st1 go) fun r s2 ⟨u,hr,h2⟩=>?_
  subst hr
  refine wpAny_bind (thn h2 fun _ s3 ⟨x,H3,I3,r3,y3,st3,fr3⟩=>?_)
  have I3':=I3.pinned (stat fr3) (T.obj _ _ st3)
  refine wpAny_bind (wpAny_mono (hg _ s3 σ1 H3 x u _ I3' r3 (step x H3 y3)) (fun _ s4 ⟨σ4,H4,I4,q4⟩=>?_) fun e s' z=>(hxe e s' z).elim)
  have back:∀ {σ7:St} {H7:Hp} {s7:Shared} {zs:List V},Inv X (pins ++ adj fp s3.heap) σ7 H7 s7->(∃ m',m' < n/\W (i+1) m' zs σ7 H7)->∃ m,m < n/\∃ i ys σ' H',Inv X pins σ' H' s7/\tn i s7.heap/\(∀ b∈fp,H' b=none)/\W i m ys σ' H':=fun {σ7 H7 s7 zs} I7 w7=>by
   obtain ⟨m',hm,w7⟩:=w7
   refine ⟨m',hm,i+1,zs,σ7,H7,I7.unpinned,T.keep _ _ _ st3 fun b hb o e=>(I7.pin (b,o) (List.mem_append_right _ (List.mem_append_right _ (abl hb e)))).1,fun b hb=>?_,w7⟩
   obtain ⟨o,e,d⟩:=T.obj _ _ st3 b hb
   exact (I7.pin (b,o) (List.mem_append_right _ (List.mem_append_right _ (abl hb e)))).2.1
  refine wpAny_bind (wpAny_mono (hif _ s4 σ4 H4 _ I4 q4) (fun b s5 ⟨H5,I5,q5⟩=>?_) fun e s' z=>(hxe e s' z).elim)
  cases b with
  | false =>
   rw [if_neg Bool.false_ne_true] at q5
   exact wpAny_pure ⟨rfl,back I5 (hNx _ _ _ q5)⟩
  | true =>
   rw [if_pos rfl] at q5
   refine wpAny_bind (wpAny_bind (wpAny_mono (he _ s5 σ4 H5 _ I5 q5) (fun yv s6 ⟨y,H6,I6,r6,a6,l6,w6⟩=>?_) fun e s' z=>(hxe e s' z).elim))
   have ap:=abe (X:=X) _ s6 σ4 H6 (.ref acc) [y] (.ref acc) [yv] (fun _ H'=>H'=upd H6 acc (.lst (ys ++ [y]))) I6 rfl (.cons r6 .nil) ⟨acc,ys,y,rfl,rfl,a6,l6,rfl⟩
   refine wpAny_bind (wpAny_mono ap (fun _ s7 ⟨v7,H7,I7,_,e7⟩=>?_) fun e s' z=>(hxe e s' z).elim)
   subst e7
   exact wpAny_pure (wpAny_pure ⟨rfl,back I7 (hNx _ _ _ w6)⟩)
theorem anl {X:Cx} {elt t1 i1 t2 i2:Expr} {f1 f2:List Expr} {sc:Scope} {pos:Pos} {J:It} {fp:List Addr} {it:Addr} {tn:Nat->Heap->Prop} {g:TG} {tif:TT} {wi2:TI} {g2:TG} {tif2:TT} {te:TE} {acc:Addr} {Qd:List V->Hp->Prop} {W:LW} {R:Result->Shared->Prop}
  (T:Turn X.prog X.w X.K t1 J fp it tn) (hc:X.calm=true) (hxe:∀ e s,¬ X.xe e s) (hg:PG X t1 g) (hif:PIf X f1 tif) (hi2:PI X t2 i2 wi2) (hg2:PG X t2 g2) (hif2:PIf X f2 tif2) (he:PE X elt te)
  (hs2:∀ x,foldedSetIterable i2 X.env x=pure x)
  (turn:ag1 J g tif wi2 g2 tif2 te acc Qd W) (hR:∀ ys σ H s,Inv X [] σ H s->Qd ys H->R (.ok .next) s)
  {i m:Nat} {ys:List V} {σ:St} {H:Hp} {s:Shared} (I:Inv X [] σ H s) (st:tn i s.heap) (hf:∀ b∈fp,FpOk X [] H b) (w:W i m ys σ H) :
  codeAny (model X.prog X.w) X.A (.compLoop (.ListComp elt [⟨t1,i1,f1,0⟩,⟨t2,i2,f2,0⟩] sc pos) 0 (.ref it) (.ref acc) X.env) R s:=by
 have stat:∀ {H':Hp},(∀ b∈fp,H' b=none)->∀ b∈fp,FpOk X [] H' b:=fun hn b hb=>⟨hn b hb,(hf b hb).2⟩
 refine codeAny_loop rfl (fun n s'=>∃ i ys σ' H',Inv X [] σ' H' s'/\tn i s'.heap/\(∀ b∈fp,H' b=none)/\W i n ys σ' H') ?_ m ⟨i,ys,σ,H,I,st,fun b hb=>(hf b hb).1,w⟩
 rintro n s1 ⟨i,ys,σ1,H1,I1,st1,fr1,w1⟩
 show wpAny _ X.A ((compTurn (.ListComp elt [⟨t1,i1,f1,0⟩,⟨t2,i2,f2,0⟩] sc pos) 0 (.ref it) (.ref acc) X.env).onRaise (fun x=>do noteFrame x X.env;theTreesLotGoes x)) _ _ s1
 refine wpAny_noted ?_
 rw [ain]
 refine wpAny_bind (wpAny_standAt (wpAny_bind ?_))
 obtain ⟨stop,qd⟩ | ⟨go,Nx,hNx,step⟩:=turn i n ys σ1 H1 w1
 ·refine thn (T.done X rfl rfl rfl hc i [] s1 σ1 H1 _ I1 (stat fr1) st1 stop) fun r s2 ⟨hr,I2⟩=>?_
  subst hr
  exact wpAny_pure (hR ys σ1 H1 s2 I2 qd)
 ·refine thn (T.item X rfl rfl rfl hc i [] s1 σ1 H1 _ I1 (stat fr1) st1 go) fun r s2 ⟨u,hr,h2⟩=>?_
  subst hr
  refine wpAny_bind (thn h2 fun _ s3 ⟨x,H3,I3,r3,y3,st3,fr3⟩=>?_)
  have I3':=I3.pinned (stat fr3) (T.obj _ _ st3)
  refine wpAny_bind (wpAny_mono (hg _ s3 σ1 H3 x u _ I3' r3 (step x H3 y3)) (fun _ s4 ⟨σ4,H4,I4,q4⟩=>?_) fun e s' z=>(hxe e s' z).elim)
  have back:∀ {σ7:St} {H7:Hp} {s7:Shared} {zs:List V},Inv X ([] ++ adj fp s3.heap) σ7 H7 s7->(∃ m',m' < n/\W (i+1) m' zs σ7 H7)->∃ m,m < n/\∃ i ys σ' H',Inv X [] σ' H' s7/\tn i s7.heap/\(∀ b∈fp,H' b=none)/\W i m ys σ' H':=fun {σ7 H7 s7 zs} I7 w7=>by
   obtain ⟨m',hm,w7⟩:=w7
   refine ⟨m',hm,i+1,zs,σ7,H7,I7.unpinned,T.keep _ _ _ st3 fun b hb o e=>(I7.pin (b,o) (List.mem_append_right _ (List.mem_append_right _ (abl hb e)))).1,fun b hb=>?_,w7⟩
   obtain ⟨o,e,d⟩:=T.obj _ _ st3 b hb
   exact (I7.pin (b,o) (List.mem_append_right _ (List.mem_append_right _ (abl hb e)))).2.1
  refine wpAny_bind (wpAny_mono (hif _ s4 σ4 H4 _ I4 q4) (fun b s5 ⟨H5,I5,q5⟩=>?_) fun e s' z=>(hxe e s' z).elim)
  cases b with
  | false =>
   rw [if_neg Bool.false_ne_true] at q5
   exact wpAny_pure ⟨rfl,back I5 (hNx _ _ _ q5)⟩
  | true =>
   rw [if_pos rfl] at q5
   refine wpAny_bind (wpAny_mono (hi2 _ s5 σ4 H5 _ I5 q5) (fun xv s6 h6=>?_) fun e s' z=>(hxe e s' z).elim)
   refine wpAny_bind (wpAny_standAt (wpAny_bind ?_))
   rw [hs2 xv]
   refine wpAny_pure (wpAny_bind (wpAny_holding (wpAny_mono h6 (fun itv s7 h7=>?_) fun e s' z=>(hxe e s' z).elim)))
   obtain ⟨it2,fp2,tn2,J2,H7,e,I7,T2,st2,f2',W2,⟨m2,w2⟩,turn2⟩:=h7
   subst e
   refine wpAny_bind (wpAny_runOwn ?_)
   have loop:=ank (R:=fun r s'=>match r with | .ok f=>(∃ m,m < n/\∃ i ys σ' H',Inv X [] σ' H' s'/\tn i s'.heap/\(∀ b∈fp,H' b=none)/\W i m ys σ' H') | .error e=>False) (t1:=t1) (i1:=i1) (f1:=f1) (iter:=i2) (sc:=sc) (pos:=pos) T2 hc hxe hg2 hif2 he turn2 (fun ys' σ8 H8 s8 I8 q8=>back I8 (hNx _ _ _ q8)) I7 st2 f2' w2
   have st:=apc loop (T2.self _ 0 _ _ _ st2 loop)
   refine codeAny_mono st fun r s' h=>?_
   cases r with
   | error e=>exact h.elim
   | ok f=>exact wpAny_pure ⟨rfl,h⟩
def tLC2 (src:List (Option Nat)) (wi:TI) (g:TG) (tif:TT) (wi2:TI) (g2:TG) (tif2:TT) (te:TE):TE:=fun σ H Q=>wi σ H fun J H1=>∀ acc,H1 acc=none->∃ W:LW,(∃ m,W 0 m [] (pick src σ) (upd H1 acc (.lst [])))/\ag1 J g tif wi2 g2 tif2 te acc (fun _ H'=>Q (.ref acc) H') W
section
variable {X:Cx} {N:List Str} {t1 i1 t2 i2 elt:Expr} {f1 f2:List Expr} {sc:Scope} {src:List (Option Nat)} {wi wi2:TI} {g g2:TG} {tif tif2:TT} {te:TE} {pos:Pos}
theorem aq5 (hc:X.calm=true) (L:LcOk X N sc src) (hg:∀ C s0 H0 ex,PG (X.comp N sc C s0 H0 ex) t1 g) (hif:∀ C s0 H0 ex,PIf (X.comp N sc C s0 H0 ex) f1 tif) (hi2:∀ C s0 H0 ex,PI (X.comp N sc C s0 H0 ex) t2 i2 wi2) (hg2:∀ C s0 H0 ex,PG (X.comp N sc C s0 H0 ex) t2 g2) (hif2:∀ C s0 H0 ex,PIf (X.comp N sc C s0 H0 ex) f2 tif2) (he:∀ C s0 H0 ex,PE (X.comp N sc C s0 H0 ex) elt te)
  (hs2:∀ C s0 H0 ex x,foldedSetIterable i2 (X.comp N sc C s0 H0 ex).env x=pure x)
  {pins:List (Addr × Obj)} {s3:Shared} {σ:St} {H3:Hp} {Q:VK} (I3:Inv X pins σ H3 s3) {it acc:Addr} {fp:List Addr} {J:It} {tn:Nat->Heap->Prop} (T:Turn X.prog X.w X.K t1 J fp it tn) (st3:tn 0 s3.heap) (f3:∀ b∈fp,FpOk X pins H3 b)
  {W:LW} {m0:Nat} (w0:W 0 m0 [] (pick src σ) H3) (turn:ag1 J g tif wi2 g2 tif2 te acc (fun _ H'=>Q (.ref acc) H') W) (use:Option (Value->Sem Unit)) (P:Value->Shared->Prop)
  (hP:∀ C H' s' m,Inv X pins σ H' s'->Q (.ref acc) H'->s'.heap.Ns C m->H' C=none->C ≠ X.env.locals->(C∈X.ex\/X.s₀.heap.objs.size<=C)->(∀ x c,X.env.cells.lookup x=some c->c ≠ C)->(∀ p∈X.pn ++ pins,p.1 ≠ C) ->
   compPost (model X.prog X.w) X.A X.xe use P (.ref acc) C (.ok .next) s') :
  wpAny (model X.prog X.w) X.A (newFunctionEnv sc X.env.globals (clos X.env sc.names []) [] X.env.qual none .none (some X.env)) (fun cenv s₄ =>
    codeAny (model X.prog X.w) X.A (.compStart (.ListComp elt [⟨t1,i1,f1,0⟩,⟨t2,i2,f2,0⟩] sc pos) 0 (.ref it) (.ref acc) { cenv with scope:=relabel sc X.env }) (compPost (model X.prog X.w) X.A X.xe use P (.ref acc) cenv.locals) s₄) X.xe s3:=by
 refine wpAny_newFunctionEnv L.nocell (by intro y hy;simp at hy) (fun h4 hns4 hsb4=>?_) L.kind
 have szf:∀ b∈fp,b < s3.heap.objs.size:=fun b hb=>by
  obtain ⟨o,ho,_⟩:=T.obj _ _ st3 b hb
  exact Heap.lt_size ho
 have k34:∀ b o,s3.heap.get? b=some o->h4.get? b=some o:=fun b o e=>hsb4.extBut b o (Nat.ne_of_lt (Heap.lt_size e)) (Heap.get?_push_of_some _ e)
 have I4:=ajp (t':=s3.toks+([]:List (Str × Value)).length) L I3 f3 szf (by simpa using hns4) k34
 have st4:tn 0 h4:=T.keep _ _ _ st3 fun b _ o e=>k34 b o e
 have f4:∀ b∈fp,FpOk (X.comp N sc s3.heap.objs.size s3 H3 fp) [] H3 b:=fun b hb =>
  ⟨(f3 b hb).1,(I4.ok.exf b hb).1,I4.ok.exfs b hb,.inl hb,(I4.ok.exf b hb).2,fun p hp=>absurd (show p∈([]:List (Addr × Obj)) from hp) (by simp)⟩
 have fin:∀ (ys:List V) σ' H' s',Inv (X.comp N sc s3.heap.objs.size s3 H3 fp) [] σ' H' s'->Q (.ref acc) H'->compPost (model X.prog X.w) X.A X.xe use P (.ref acc) s3.heap.objs.size (.ok .next) s':=fun ys σ' H' s' J' q'=>by
  have Jo:Inv X pins σ H' s':=I3.call' (ch:=fp) J'.os J'.base J'.hok J'.bare fun b hb=>⟨(f3 b hb).2.2.2.1,(f3 b hb).2.1,(f3 b hb).2.2.2.2.1,(f3 b hb).2.2.2.2.2⟩
  obtain ⟨m,hn,_⟩:=J'.loc
  refine hP _ H' s' m Jo q' hn J'.free (Nat.ne_of_gt I3.lt) (.inr I3.sz) (fun x c e z=>?_) fun p hp z=>?_
  ·obtain ⟨v,o,ho,_⟩:=I3.cell x c e
   exact absurd (Heap.lt_size ho) (by rw [z];exact Nat.lt_irrefl _)
  ·exact absurd (Heap.lt_size (I3.pin p hp).1) (by rw [z];exact Nat.lt_irrefl _)
 have loop:codeAny (model X.prog X.w) X.A (.compLoop (.ListComp elt [⟨t1,i1,f1,0⟩,⟨t2,i2,f2,0⟩] sc pos) 0 (.ref it) (.ref acc) (X.comp N sc s3.heap.objs.size s3 H3 fp).env)
   (compPost (model X.prog X.w) X.A X.xe use P (.ref acc) s3.heap.objs.size) { s3 with heap:=h4,toks:=s3.toks+([]:List (Str × Value)).length } :=
  anl (X:=X.comp N sc s3.heap.objs.size s3 H3 fp) T hc (fun _ _ z=>z) (hg _ _ _ _) (hif _ _ _ _) (hi2 _ _ _ _) (hg2 _ _ _ _) (hif2 _ _ _ _) (he _ _ _ _) (hs2 _ _ _ _) turn fin I4 st4 f4 w0
 exact codeAny_compStart_list loop (T.self _ 0 _ _ _ st4 loop)
theorem awu (hc:X.calm=true) (L:LcOk X N sc src) (hi:PI X t1 i1 wi) (hg:∀ C s0 H0 ex,PG (X.comp N sc C s0 H0 ex) t1 g) (hif:∀ C s0 H0 ex,PIf (X.comp N sc C s0 H0 ex) f1 tif) (hi2:∀ C s0 H0 ex,PI (X.comp N sc C s0 H0 ex) t2 i2 wi2) (hg2:∀ C s0 H0 ex,PG (X.comp N sc C s0 H0 ex) t2 g2) (hif2:∀ C s0 H0 ex,PIf (X.comp N sc C s0 H0 ex) f2 tif2) (he:∀ C s0 H0 ex,PE (X.comp N sc C s0 H0 ex) elt te)
  (hs:∀ x,foldedSetIterable i1 X.env x=pure x:=by intro _;rfl) (hs2:∀ C s0 H0 ex x,foldedSetIterable i2 (X.comp N sc C s0 H0 ex).env x=pure x:=by intros;rfl):PE X (.ListComp elt [⟨t1,i1,f1,0⟩,⟨t2,i2,f2,0⟩] sc pos) (tLC2 src wi g tif wi2 g2 tif2 te):=by
 intro pins s σ H Q I h
 rw [eval_ListComp]
 refine wpAny_comprehension_free rfl hs (L.clo I.ok) L.kind L.own (thn (hi pins s σ H _ I h) fun v s1 h1=>thn h1 fun itv s2 h2=>?_)
 obtain ⟨it,fp,tn,J,H2,e,I2,T,st2,f2',q2⟩:=h2
 subst e
 have hacc:H2 s2.heap.objs.size=none:=I2.hok.fresh (Nat.le_refl _)
 obtain ⟨W,⟨m0,w0⟩,turn⟩:=q2 s2.heap.objs.size hacc
 have szf:∀ b∈fp,b < s2.heap.objs.size:=fun b hb=>by
  obtain ⟨o,ho,_⟩:=T.obj _ _ st2 b hb
  exact Heap.lt_size ho
 refine wpAny_newObj_type ?_
 refine aq5 (pins:=pins) hc L hg hif hi2 hg2 hif2 he hs2 (H3:=upd H2 s2.heap.objs.size (.lst [])) ?_ T ?_ ?_ w0 turn none _ ?_
 ·exact I2.laid (t':=s2.toks) (fun b u e=>Heap.get?_push_of_some _ e) (Nat.le_refl _) ⟨Nat.zero_le _,[],0,.nil,Heap.get?_push_size _ rfl⟩
 ·exact T.keep _ _ _ st2 fun b _ o e=>Heap.get?_push_of_some _ e
 ·exact fun b hb=>⟨by rw [aac (Nat.ne_of_lt (szf b hb))];exact (f2' b hb).1,(f2' b hb).2⟩
 ·intro C H' s' m J q hn hC hL hx hcl hp
  refine ⟨m,hn,fun h' sb=>⟨.ref s2.heap.objs.size,H',?_,rfl,q⟩⟩
  exact J.turned (t':=s'.toks) (fun b o hb e=>sb.extBut b o hb e) hC hL hx hcl hp
end
end L2
namespace L2
open PySem PySem.Spec PyProof.Rows
def rLen (K:PySem.W.Frag):List V->Hp->VK->Prop:=fun xs H Q=>∃ p ys,xs=[.ref p]/\(SqL K H p ys\/SqT K H p ys)/\Q (.int ys.length) H
theorem abf {X:Cx}:abh X (.builtin "len") (rLen X.K):=ajn
def ai9:List V->Hp->VK->Prop:=fun xs H Q=>∃ i j,xs=[.int i,.int j]/\Q (.int (if j > i then j else i)) H
def aja:List V->Hp->VK->Prop:=fun xs H Q=>∃ i j,xs=[.int i,.int j]/\Q (.int (if j < i then j else i)) H
theorem af9 {X:Cx} (hc:X.calm=true):abh X (.builtin "max") ai9:=ao0 hc
theorem ade {X:Cx} (hc:X.calm=true):abh X (.builtin "min") aja:=ao1 hc
section
variable {σ:St} {H:Hp} {D:Ends} {K:PySem.W.Frag}
theorem al0 {i:Nat} {v:V} {Q:St->Hp->Prop} (h:Q (σ.set i (some v)) H):aa5 i v σ H Q:=h
theorem apd {Q:List V->Hp->Prop} (h:Q [] H):tNil σ H Q:=h
theorem awv {t:TA} {Q:VK} (h:t σ H fun xs H1=>xs.length<=sizeLine/\∀ p,H1 p=none->Q (.ref p) (upd H1 p (.lst xs))):tLst t σ H Q:=h
theorem ape {i j:Int} {Q:VK} (h:Q (.bl (decide (i=j))) H):rEq (.int i) (.int j) H Q:=by
 have e:decide (V.int i=V.int j)=decide (i=j):=by rw [ae8];exact Bool.beq_eq_decide_eq i j
 exact ⟨rfl,by rw [e];exact h⟩
theorem aww {i j:Int} {Q:VK} (h:Q (.bl (!decide (i=j))) H):rNe (.int i) (.int j) H Q:=by
 have e:decide (V.int i=V.int j)=decide (i=j):=by rw [ae8];exact Bool.beq_eq_decide_eq i j
 exact ⟨rfl,by rw [e];exact h⟩
theorem awx {i j:Bool} {Q:VK} (h:Q (.bl (decide (i=j))) H):rEq (.bl i) (.bl j) H Q:=by
 have e:decide (V.bl i=V.bl j)=decide (i=j):=by rw [ajj];cases i <;> cases j <;> rfl
 exact ⟨rfl,by rw [e];exact h⟩
theorem awy {a:Addr} {xs:List V} {i:Int} {v:V} {Q:VK} (ha:H a=some (.lst xs)) (hv:atI xs i=some v) (h:Q v H):rIxL K (.ref a) (.int i) H Q:=⟨a,xs,i,v,rfl,rfl,SqL.of ha,hv,h⟩
theorem awz {a:Addr} {xs:List V} {i:Int} {v:V} {Q:VK} (ha:H a=some (.tup xs)) (hv:atI xs i=some v) (h:Q v H):rIxT K (.ref a) (.int i) H Q:=⟨a,xs,i,v,rfl,rfl,SqT.of ha,hv,h⟩
theorem al1 {a:Addr} {xs:List V} {k:Int} {j:Nat} {v:V} {Q:Hp->Prop} (ha:H a=some (.lst xs)) (hj:ixN xs.length k=some j) (h:Q (upd H a (.lst (xs.set j v)))):anh (.ref a) (.int k) v H Q:=⟨a,xs,k,j,rfl,rfl,ha,hj,h⟩
theorem acz {a:Addr} {xs:List V} {y:V} {Q:VK} (ha:H a=some (.lst xs)) (hl:xs.length < sizeLine) (h:Q .non (upd H a (.lst (xs ++ [y])))):acn (.ref a) [y] H Q:=⟨a,xs,y,rfl,rfl,ha,hl,h⟩
theorem aw0 {a b:Addr} {xs zs:List V} {Q:VK} (ha:H a=some (.lst xs)) (hb:H b=some (.lst zs)) (hl:xs.length+zs.length<=sizeLine) (h:∀ p,H p=none->Q (.ref p) (upd H p (.lst (xs ++ zs)))):rCat (.ref a) (.ref b) H Q:=⟨a,b,xs,zs,rfl,rfl,ha,hb,hl,h⟩
theorem al2 {a:Addr} {xs:List V} {Q:VK} (ha:H a=some (.lst xs)) (h:Q (.int xs.length) H):rLen K [.ref a] H Q:=⟨a,xs,rfl,.inl (SqL.of ha),h⟩
theorem at6 {a:Addr} {xs:List V} {Q:VK} (ha:H a=some (.tup xs)) (h:Q (.int xs.length) H):rLen K [.ref a] H Q:=⟨a,xs,rfl,.inr (SqT.of ha),h⟩
theorem al3 {i j:Int} {Q:VK} (h:Q (.int (if j > i then j else i)) H):ai9 [.int i,.int j] H Q:=⟨i,j,rfl,h⟩
theorem al4 {i j:Int} {Q:VK} (h:Q (.int (if j < i then j else i)) H):aja [.int i,.int j] H Q:=⟨i,j,rfl,h⟩
theorem ag2 {c:Prop} [Decidable c] {A B:Prop} (hc:c) (h:A):if decide c=true then A else B:=by rw [decide_eq_true hc];exact iteT h
theorem ag3 {c:Prop} [Decidable c] {A B:Prop} (hc:¬ c) (h:B):if decide c=true then A else B:=by rw [decide_eq_false hc];exact iteF h
theorem ab8 {c:Prop} [Decidable c] {A B:Prop} (h1:c->A) (h2:¬ c->B):if decide c=true then A else B:=by
 by_cases hc:c
 ·exact ag2 hc (h1 hc)
 ·exact ag3 hc (h2 hc)
theorem ixN0 {n:Nat}:ixN (n+1) 0=some 0:=by unfold ixN;rw [if_pos (by decide),if_pos (by row_cond lo)];rfl
theorem ixN2 {n:Nat}:ixN (n+3) 2=some 2:=by unfold ixN;rw [if_pos (by decide),if_pos (by row_cond lo)];rfl
end
end L2
namespace L2
open PySem PySem.Spec PyProof.Rows
structure CallOk (P:Program) (w:World) (K:PySem.W.Frag) (mg:Str->Option Value) (base:Heap) (x:Str) (k:Nat) (ps:List Str) (sp:Sp) (f:Addr) (fd:FuncData):Prop where
 ok:FnOk P w K mg base CX0 k f fd ps sp
 mgx:mg x=some (.ref f)
 kp:PySem.W.keepIn K (.ref f)=true
 bd:Binds K fd ps []
def Can (P:Program) (w:World) (K:PySem.W.Frag) (mg:Str->Option Value) (base:Heap) (x:Str) (k:Nat) (ps:List Str) (sp:Sp):Prop:=∃ f fd,CallOk P w K mg base x k ps sp f fd
structure DefAt (K:PySem.W.Frag) (mg:Str->Option Value) (x:Str) (st:Stmt) (ps:List Str) (f:Addr) (fd:FuncData):Prop where
 fn:Fun K x x st f fd
 mgx:mg x=some (.ref f)
 bd:Binds K fd ps []
theorem DefAt.can {P:Program} {w:World} {K:PySem.W.Frag} {mg:Str->Option Value} {base:Heap} {x:Str} {st:Stmt} {k:Nat} {ps:List Str} {sp:Sp} {f:Addr} {fd:FuncData} (D:DefAt K mg x st ps f fd) (ok:FnOk P w K mg base CX0 k f fd ps sp):Can P w K mg base x k ps sp :=
 ⟨f,fd,ok,D.mgx,D.fn.kp,D.bd⟩
section
variable {X:Cx} {k j:Nat} {ps:List Str} {sp:Sp} {x:Str} {p pos:Pos} {e:Expr} {es:List Expr} {t:TA}
theorem aaj (F:Can X.prog X.w X.K X.mg X.base x k ps sp) (hr:Room j X.A) (ha:PA X (e :: es) t) (hj:k<=j:=by decide) (hg:Gl X x:=by rfl) (hdb:(x == ("__debug__" : Str))=false:=by decide)
  (he:starEach (e :: es) X.env=(false,eval e X.env) :: starEach es X.env:=by rfl) (hpl:(backTo pos (starEach es X.env)).any (·.1)=false:=by rfl) :
  PE X (.Call (.Name x p) (e :: es) [] pos) (ab1 sp [] E0 t):=by
 obtain ⟨f,fd,C⟩:=F
 exact aty C.ok (hr.mono hj) hg C.mgx C.kp C.bd .nil ayt ha hdb he hpl
end
theorem ab0 {X:Cx} {N:List Str} {sc:Scope} {src:List (Option Nat)} (h1:sc.kind=.function) (h2:sc.names.all (fun y=>y.2 != .cell)=true) (h3:sc.names.all (fun y=>y.2 != .local || sc.names.lookup y.1 == some .local)=true)
  (h4:sc.names.all (fun y=>y.2 != .free || X.env.kindOf y.1 == some .cell || X.env.kindOf y.1 == some .free)=true) (h5:src.length=N.length)
  (h6:(List.range src.length).all (fun i=>match src[i]? with | some (some j)=>(match N[i]?,X.N[j]? with | some x,some y=>x == y && sc.names.lookup x == some .free | _,_=>false) | _=>true)=true):LcOk X N sc src:=by
 refine ⟨h1,fun y hy e=>?_,fun y hy e=>?_,fun y hy e=>?_,h5,fun i j e=>?_⟩
 ·have:=List.all_eq_true.mp h2 y hy
  rw [e] at this
  exact absurd this (by decide)
 ·have:=List.all_eq_true.mp h3 y hy
  rw [e] at this
  simpa using this
 ·have:=List.all_eq_true.mp h4 y hy
  rw [e] at this
  simpa using this
 ·have hi:i < src.length:=(List.getElem?_eq_some_iff.mp e).1
  have:=List.all_eq_true.mp h6 i (List.mem_range.mpr hi)
  rw [e] at this
  dsimp only at this
  cases h7:N[i]? with
  | none=>rw [h7] at this;cases this
  | some x =>
   cases h8:X.N[j]? with
   | none=>rw [h7,h8] at this;cases this
   | some y =>
    rw [h7,h8] at this
    simp only [Bool.and_eq_true] at this
    have e1:x=y:=by simpa using this.1
    subst e1
    exact ⟨x,rfl,rfl,by simpa using this.2⟩
end L2
namespace L2
open PySem PySem.Spec PyProof.Rows
section
variable {σ:St} {H:Hp} {D:Ends} {K:PySem.W.Frag}
theorem aw1 {a:Addr} {xs:List V} {i:Int} {v:V} {Q:VK} (ha:SqL K H a xs) (hv:atI xs i=some v) (h:Q v H):rIxL K (.ref a) (.int i) H Q:=⟨a,xs,i,v,rfl,rfl,ha,hv,h⟩
theorem at7 {a:Addr} {xs:List V} {Q:VK} (ha:SqL K H a xs) (h:Q (.int xs.length) H):rLen K [.ref a] H Q:=⟨a,xs,rfl,.inl ha,h⟩
theorem apf {Q:Bool->Hp->Prop} (h:Q true H):tYes σ H Q:=h
theorem aq6 {a:Addr} {xs:List V} {i:Int} {k:Nat} {y:V} {Q:VK} (ha:H a=some (.lst xs)) (h1 : -(2 ^ 63)<=i) (h2:i < 2 ^ 63) (h3:seqIndex? i xs.length=some k) (h4:xs[k]?=some y) (h:Q y (upd H a (.lst (xs.eraseIdx k)))):af5 (.ref a) [.int i] H Q :=
 ⟨a,xs,i,k,y,rfl,rfl,ha,h1,h2,h3,h4,h⟩
end
end L2
namespace L2
open PySem
theorem ab9:bootBuiltins "len" = some (.builtin "len"):=by decide +kernel
theorem aga:bootBuiltins "max" = some (.builtin "max"):=by decide +kernel
theorem aes:bootBuiltins "min" = some (.builtin "min"):=by decide +kernel
theorem aet:bootBuiltins "sorted" = some (.builtin "sorted"):=by decide +kernel
theorem aax:bootBuiltins "isinstance" = some (.builtin "isinstance"):=by decide +kernel
theorem apg:bootBuiltins "int" = some (.type "int"):=by decide +kernel
theorem ad1:bootBuiltins "list" = some (.type "list"):=by decide +kernel
theorem aw2:bootBuiltins "set" = some (.type "set"):=by decide +kernel
theorem afq:bootBuiltins "tuple" = some (.type "tuple"):=by decide +kernel
theorem al5:bootBuiltins "bool" = some (.type "bool"):=by decide +kernel
theorem aph:bootBuiltins "str" = some (.type "str"):=by decide +kernel
theorem aw3:bootBuiltins "zip" = some (.type "zip"):=by decide +kernel
end L2
namespace TS
open PySem PyProof.Rows
noncomputable def at8:Nat->Nat->StateT SortSt Sem (Option Nat):=sortPriv% PySem.Builtin.countRun
noncomputable def aq7:Nat->Nat->Nat->StateT SortSt Sem Bool:=sortPriv% PySem.Builtin.binarySort
noncomputable def ayv:StateT SortSt Sem Unit:=sortPriv% PySem.Builtin.sortRuns
structure Cmp (M:Model) (A:Around) (E:Value->Shared->Prop) (s:Shared) (κ:SortKind) (S:Keyed->Prop) (R:Keyed->Keyed->Bool):Prop where
 ask:∀ x y,S x->S y->∀ (Q:Option Bool->SortSt->Prop) (st:SortSt),kindOf st = κ->Q (some (R x y)) st->wpS M A E s (lt' x y) Q st
 asy:∀ x y,S x->S y->R x y=true->R y x=false
 tr:∀ x y z,S x->S y->S z->R y x=false->R z y=false->R z x=false
section
variable {M:Model} {A:Around} {E:Value->Shared->Prop} {s:Shared} {κ:SortKind} {S:Keyed->Prop} {R:Keyed->Keyed->Bool}
theorem ajt {arr:Array Keyed} {i:Nat} {x:Keyed} {Q:Keyed->SortSt->Prop} {st:SortSt} (hx:arr[i]?=some x) (h:Q x st):wpS M A E s (elem' arr i) Q st:=by
 rw [elem'_eq,hx]
 exact wpS_pure h
theorem aju {x:String} {Q:Unit->SortSt->Prop} {st:SortSt} (h:Q () st):wpS M A E s (liftM (PySem.rule x):StateT SortSt Sem Unit) Q st :=
 wpS_lift (wpAny_rule ⟨rfl,h⟩)
end
end TS
namespace TS
open PySem PyProof.Rows
def Srt (R:Keyed->Keyed->Bool) (l:List Keyed):Prop:=l.Pairwise fun x y=>R y x=false
structure Mid (R:Keyed->Keyed->Bool) (L out a b:List Keyed):Prop where
 perm:(out ++ a ++ b).Perm L
 so:Srt R out
 le:∀ x∈out,∀ y∈a ++ b,R y x=false
 sa:Srt R a
 sb:Srt R b
section
variable {R:Keyed->Keyed->Bool} {L out a b p:List Keyed}
theorem Mid.done (m:Mid R L out a b) (h:a=[]\/b=[]):(out ++ a ++ b).Perm L/\Srt R (out ++ a ++ b):=by
 refine ⟨m.perm,?_⟩
 rw [List.append_assoc]
 refine List.pairwise_append.mpr ⟨m.so,?_,m.le⟩
 rcases h with h | h
 ·subst h;exact m.sb
 ·subst h;rw [List.append_nil];exact m.sa
end
structure Eqv (st st':SortSt):Prop where
 k:kindOf st'=kindOf st
 a:arrOf st'=arrOf st
 p:pendingOf st'=pendingOf st
 f:failedOf st'=failedOf st
theorem Eqv.refl (st:SortSt):Eqv st st:=⟨rfl,rfl,rfl,rfl⟩
theorem Eqv.trans {a b c:SortSt} (h:Eqv a b) (g:Eqv b c):Eqv a c:=⟨g.k.trans h.k,g.a.trans h.a,g.p.trans h.p,g.f.trans h.f⟩
section
variable {M:Model} {A:Around} {E:Value->Shared->Prop} {s:Shared} {κ:SortKind} {S:Keyed->Prop} {R:Keyed->Keyed->Bool}
theorem Cmp.irr {x:Keyed} (C:Cmp M A E s κ S R) (hx:S x):R x x=false:=by
 cases e:R x x with
 | false=>rfl
 | true=>have:=C.asy x x hx hx e;rw [e] at this;cases this
end
end TS
namespace TS
open PySem PyProof.Rows
section
variable {M:Model} {A:Around} {E:Value->Shared->Prop} {s:Shared} {κ:SortKind} {S:Keyed->Prop} {R:Keyed->Keyed->Bool}
structure Lo (S:Keyed->Prop) (R:Keyed->Keyed->Bool) (a b out:Array Keyed) (ia ib:Nat):Prop where
 mid:Mid R (a.toList ++ b.toList) out.toList (a.toList.drop ia) (b.toList.drop ib)
 ia:ia<=a.size
 ib:ib<=b.size
theorem Lo.len {a b out:Array Keyed} {ia ib:Nat} (l:Lo S R a b out ia ib):out.size+(a.size - ia)+(b.size - ib)=a.size+b.size:=by
 have:=l.mid.perm.length_eq
 simp at this
 row_cond lo
section
variable {ρ β γ δ ε ζ η:Type}
end
theorem ab4 {c:Prop} [Decidable c] {α:Type} {m1 m2:StateT SortSt Sem α} {Q : α->SortSt->Prop} {st:SortSt} (h1:c->wpS M A E s m1 Q st) (h2:¬ c->wpS M A E s m2 Q st):wpS M A E s (if c then m1 else m2) Q st:=by
 by_cases h:c
 ·rw [if_pos h];exact h1 h
 ·rw [if_neg h];exact h2 h
end
end TS
namespace TS
open PySem PyProof.Rows
structure MidH (R:Keyed->Keyed->Bool) (L a b tl:List Keyed):Prop where
 perm:(a ++ b ++ tl).Perm L
 so:Srt R tl
 le:∀ x∈a ++ b,∀ y∈tl,R y x=false
 sa:Srt R a
 sb:Srt R b
section
variable {R:Keyed->Keyed->Bool} {L tl a b p:List Keyed}
theorem MidH.done (m:MidH R L a b tl) (h:a=[]\/b=[]):(a ++ b ++ tl).Perm L/\Srt R (a ++ b ++ tl):=by
 refine ⟨m.perm,List.pairwise_append.mpr ⟨?_,m.so,m.le⟩⟩
 rcases h with h | h
 ·subst h;exact m.sb
 ·subst h;rw [List.append_nil];exact m.sa
end
section
variable {M:Model} {A:Around} {E:Value->Shared->Prop} {s:Shared} {κ:SortKind} {S:Keyed->Prop} {R:Keyed->Keyed->Bool}
structure Hi (S:Keyed->Prop) (R:Keyed->Keyed->Bool) (a b out:Array Keyed) (na nb:Nat):Prop where
 mid:MidH R (a.toList ++ b.toList) (a.toList.take na) (b.toList.take nb) out.toList.reverse
 na:na<=a.size
 nb:nb<=b.size
theorem Hi.len {a b out:Array Keyed} {na nb:Nat} (l:Hi S R a b out na nb):out.size+na+nb=a.size+b.size:=by
 have:=l.mid.perm.length_eq
 have h1:=l.na
 have h2:=l.nb
 simp at this
 row_cond lo
end
end TS
namespace TS
open PySem PyProof.Rows
section
variable {M:Model} {A:Around} {E:Value->Shared->Prop} {s:Shared} {κ:SortKind} {S:Keyed->Prop} {R:Keyed->Keyed->Bool}
end
end TS
namespace TS
open PySem PyProof.Rows
noncomputable def e (xs:Array Keyed) (k:Nat):Keyed:=(xs[k]?).getD (.none,.none)
theorem agb {xs:Array Keyed} {k:Nat} (h:k < xs.size):xs[k]?=some (e xs k):=by
 unfold e;rw [Array.getElem?_eq_getElem h];rfl
def Asc (R:Keyed->Keyed->Bool) (xs:Array Keyed) (l h:Nat):Prop:=∀ i j,l<=i->i<=j->j < h->R (e xs j) (e xs i)=false
def Des (R:Keyed->Keyed->Bool) (xs:Array Keyed) (l h:Nat):Prop:=∀ i j,l<=i->i<=j->j < h->R (e xs i) (e xs j)=false
structure Bs (κ:SortKind) (p0:Array (Nat × Nat × Nat)) (a0:Array Keyed) (lo:Nat) (st:SortSt):Prop where
 k:kindOf st = κ
 f:failedOf st=none
 p:pendingOf st=p0
 perm:(arrOf st).toList.Perm a0.toList
 pre:∀ k,k < lo->(arrOf st)[k]?=a0[k]?
theorem aq8 {xs:Array Keyed} {src d:Nat} (hs:src < xs.size) (hd:d<=src) (k:Nat):e (bubble xs src d) k=if k=src - d then e xs src else if src - d < k/\k<=src then e xs (k - 1) else e xs k:=by
 unfold e
 rw [getElem?_bubble hs d hd]
 repeat' split
 all_goals rfl
theorem aca {xs:Array Keyed} {i j:Nat} (hj:j<=xs.size) (k:Nat):e (mirror xs i j ((j - i) / 2)) k=if i<=k/\k < j then e xs (i+j - 1 - k) else e xs k:=by
 unfold e
 rw [getElem?_mirror_all hj]
 split <;> rfl
section
variable {M:Model} {A:Around} {E:Value->Shared->Prop} {s:Shared} {κ:SortKind} {S:Keyed->Prop} {R:Keyed->Keyed->Bool} {p0:Array (Nat × Nat × Nat)} {a0:Array Keyed} {lo:Nat}
theorem Bs.size {st:SortSt} (B:Bs κ p0 a0 lo st):(arrOf st).size=a0.size:=by
 have:=B.perm.length_eq
 simpa using this
theorem Bs.sat {st:SortSt} (B:Bs κ p0 a0 lo st) (hS:∀ x∈a0.toList,S x) {k:Nat} (hk:k < a0.size):S (e (arrOf st) k):=by
 have h:=agb (xs:=arrOf st) (k:=k) (by rw [B.size];exact hk)
 refine hS _ (B.perm.mem_iff.mp ?_)
 rw [← Array.getElem?_toList] at h
 exact List.mem_of_getElem? h
theorem aeu (C:Cmp M A E s κ S R) (hS:∀ x∈a0.toList,S x) {st:SortSt} (B:Bs κ p0 a0 lo st) {i j:Nat} (hi:i < a0.size) (hj:j < a0.size) {Q:Option Bool->SortSt->Prop} (h:Q (some (R (e (arrOf st) i) (e (arrOf st) j))) st) :
  wpS M A E s (ltAt' i j) Q st:=by
 rw [ltAt'_eq]
 refine wpS_bind (wpS_get ?_)
 refine wpS_bind (ajt (agb (by rw [B.size];exact hi)) ?_)
 refine wpS_bind (ajt (agb (by rw [B.size];exact hj)) ?_)
 exact C.ask _ _ (B.sat hS hi) (B.sat hS hj) _ _ B.k h
theorem aq9 (C:Cmp M A E s κ S R) {xs:Array Keyed} {l h:Nat} (hS:∀ k,k<=h->S (e xs k)) (hl:l < h) (a:Asc R xs l h) (n:R (e xs h) (e xs (h - 1))=false):Asc R xs l (h+1):=by
 intro i j h1 h2 h3
 by_cases hj:j=h
 ·subst hj
  by_cases hi:i=j
  ·subst hi;exact C.irr (hS _ (Nat.le_refl _))
  ·exact C.tr _ (e xs (j - 1)) _ (hS _ (by row_cond lo)) (hS _ (by row_cond lo)) (hS _ (by row_cond lo)) (a i (j - 1) h1 (by row_cond lo) (by row_cond lo)) n
 ·exact a i j h1 h2 (by row_cond lo)
theorem aeb (C:Cmp M A E s κ S R) {xs:Array Keyed} {l h:Nat} (hS:∀ k,k<=h->S (e xs k)) (hl:l < h) (a:Des R xs l h) (n:R (e xs (h - 1)) (e xs h)=false):Des R xs l (h+1):=by
 intro i j h1 h2 h3
 by_cases hj:j=h
 ·subst hj
  by_cases hi:i=j
  ·subst hi;exact C.irr (hS _ (Nat.le_refl _))
  ·exact C.tr _ (e xs (j - 1)) _ (hS _ (by row_cond lo)) (hS _ (by row_cond lo)) (hS _ (by row_cond lo)) n (a i (j - 1) h1 (by row_cond lo) (by row_cond lo))
 ·exact a i j h1 h2 (by row_cond lo)
theorem Bs.set {st:SortSt} (B:Bs κ p0 a0 lo st) {xs:Array Keyed} (hp:xs.Perm (arrOf st)) (hl:∀ k,k < lo->xs[k]?=(arrOf st)[k]?):Bs κ p0 a0 lo (setArr st xs) :=
 ⟨B.k,B.f,B.p,hp.toList.trans B.perm,fun k hk=>(hl k hk).trans (B.pre k hk)⟩
theorem anm (C:Cmp M A E s κ S R) (hS:∀ x∈a0.toList,S x) {st:SortSt} (B:Bs κ p0 a0 lo st) {n ok:Nat} (hn:lo+n<=a0.size) (hok:ok<=n) (h1:1<=n) (hs:Asc R (arrOf st) lo (lo+ok)) {Q:Bool->SortSt->Prop}
  (h:∀ st',Bs κ p0 a0 lo st'->Asc R (arrOf st') lo (lo+n)->Q true st'):wpS M A E s (aq7 lo n ok) Q st:=by
 refine wpS_bind (wpS_mono (Q:=fun (z:Option Bool × Unit) st'=>z.1=none/\Bs κ p0 a0 lo st'/\Asc R (arrOf st') lo (lo+n)) ?_ ?_)
 ·refine wpS_forRange (fun k (z:Option Bool × Unit) st'=>z.1=none/\Bs κ p0 a0 lo st'/\Asc R (arrOf st') lo (lo+k)) ?_ ?_ ⟨rfl,B,fun i j q1 q2 q3=>?_⟩
  ·rintro k ⟨o,_⟩ st1 hk1 hk2 ⟨rfl,B1,as⟩
   have SE:∀ j,j < lo+n->S (e (arrOf st1) j):=fun j hj=>B1.sat hS (by row_cond lo)
   refine wpS_bind (wpS_mono (Q:=fun (z:Option Bool × Nat × Nat) st'=>st'=st1/\z.1=none/\z.2.1<=k/\(∀ i,i < z.2.1->R (e (arrOf st1) (lo+k)) (e (arrOf st1) (lo+i))=false)/\(∀ i,z.2.1<=i->i < k->R (e (arrOf st1) (lo+k)) (e (arrOf st1) (lo+i))=true)) ?_ ?_)
   ·refine wpS_forRange (fun t (z:Option Bool × Nat × Nat) st'=>st'=st1/\z.1=none/\z.2.1<=z.2.2/\z.2.2<=k/\z.2.2 - z.2.1+t<=k/\(∀ i,i < z.2.1->R (e (arrOf st1) (lo+k)) (e (arrOf st1) (lo+i))=false)/\(∀ i,z.2.2<=i->i < k->R (e (arrOf st1) (lo+k)) (e (arrOf st1) (lo+i))=true)) ?_ ?_
     ⟨rfl,rfl,Nat.zero_le _,Nat.le_refl _,by dsimp only;row_cond lo,fun i hi=>absurd hi (Nat.not_lt_zero _),fun i q1 q2=>by dsimp only at q1;row_cond lo⟩
    ·rintro t ⟨o,l,r⟩ st2 _ ht ⟨rfl,eo,q1,q2,q3,q4,q5⟩
     dsimp only at eo q1 q2 q3 q4 q5 ⊢
     subst eo
     refine ab4 (fun hlr=>?_) (fun hlr=>?_)
     ·have:l=r:=by row_cond lo
      subst this
      exact wpS_pure ⟨rfl,rfl,q2,q4,q5⟩
     ·have hm:(l+r) / 2 < r:=by row_cond lo
      have hm2:l<=(l+r) / 2:=by row_cond lo
      refine wpS_bind (aeu C hS B1 (by row_cond lo) (by row_cond lo) ?_)
      dsimp only
      cases er:R (e (arrOf st2) (lo+k)) (e (arrOf st2) (lo+(l+r) / 2)) with
      | true =>
       rw [if_pos rfl]
       refine wpS_pure ⟨rfl,rfl,hm2,by dsimp only;row_cond lo,by dsimp only;row_cond lo,q4,fun i i1 i2=>?_⟩
       dsimp only at i1
       cases e2:R (e (arrOf st2) (lo+k)) (e (arrOf st2) (lo+i)) with
       | true=>rfl
       | false =>
        have:=C.tr _ _ _ (SE _ (by row_cond lo)) (SE _ (by row_cond lo)) (SE _ (by row_cond lo)) (as (lo+(l+r) / 2) (lo+i) (by row_cond lo) (by row_cond lo) (by row_cond lo)) e2
        rw [this] at er;cases er
      | false =>
       rw [if_neg (by decide)]
       refine wpS_pure ⟨rfl,rfl,by dsimp only;row_cond lo,q2,by dsimp only;row_cond lo,fun i i1=>?_,q5⟩
       dsimp only at i1
       exact C.tr _ _ _ (SE _ (by row_cond lo)) (SE _ (by row_cond lo)) (SE _ (by row_cond lo)) (as (lo+i) (lo+(l+r) / 2) (by row_cond lo) (by row_cond lo) (by row_cond lo)) er
    ·rintro ⟨o,l,r⟩ st2 ⟨rfl,eo,q1,q2,q3,q4,q5⟩
     dsimp only at eo q1 q2 q3 q4 q5 ⊢
     have : l = r := by have:k ≤ max 0 k := by row_cond lo
                        row_cond lo
     subst this
     exact ⟨rfl,eo,q2,q4,q5⟩
   ·rintro ⟨o,l,r⟩ st2 ⟨rfl,eo,q1,q4,q5⟩
    dsimp only at eo q1 q4 q5 ⊢
    subst eo
    dsimp only
    have hsz:lo+k < (arrOf st2).size:=by rw [B1.size];row_cond lo
    have hd:(lo+k) - (lo+l)=k - l:=by row_cond lo
    refine wpS_bind (wpS_modify ?_)
    have eb:∀ j,e (bubble (arrOf st2) (lo+k) (lo+k - (lo+l))) j=if j=lo+l then e (arrOf st2) (lo+k) else if lo+l < j/\j<=lo+k then e (arrOf st2) (j - 1) else e (arrOf st2) j:=fun j=>by
     rw [aq8 hsz (by row_cond lo),show lo+k - (lo+k - (lo+l))=lo+l by row_cond lo]
    refine wpS_pure ⟨rfl,B1.set (bubble_perm _ _ _) (fun j hj=>?_),fun i j i1 i2 i3=>?_⟩
    ·show (bubble (arrOf st2) (lo+k) (lo+k - (lo+l)))[j]?=_
     rw [getElem?_bubble hsz _ (by row_cond lo),if_neg (by row_cond lo),if_neg (by row_cond lo)]
    ·show R (e (bubble (arrOf st2) (lo+k) (lo+k - (lo+l))) j) (e (bubble (arrOf st2) (lo+k) (lo+k - (lo+l))) i)=false
     rw [eb,eb]
     have SE':∀ j,j < lo+n->S (e (arrOf st2) j):=SE
     by_cases j1:j=lo+l
     ·rw [if_pos j1]
      by_cases i4:i=lo+l
      ·rw [if_pos i4];exact C.irr (SE _ (by row_cond lo))
      ·rw [if_neg i4,if_neg (by row_cond lo)]
       have:=q4 (i - lo) (by row_cond lo)
       rw [show lo+(i - lo)=i by row_cond lo] at this
       exact this
     ·rw [if_neg j1]
      by_cases j2:lo+l < j/\j<=lo+k
      ·rw [if_pos j2]
       have gt:=q5 (j - 1 - lo) (by row_cond lo) (by row_cond lo)
       rw [show lo+(j - 1 - lo)=j - 1 by row_cond lo] at gt
       by_cases i4:i=lo+l
       ·rw [if_pos i4];exact C.asy _ _ (SE _ (by row_cond lo)) (SE _ (by row_cond lo)) gt
       ·rw [if_neg i4]
        by_cases i5:lo+l < i/\i<=lo+k
        ·rw [if_pos i5];exact as (i - 1) (j - 1) (by row_cond lo) (by row_cond lo) (by row_cond lo)
        ·rw [if_neg i5];exact as i (j - 1) (by row_cond lo) (by row_cond lo) (by row_cond lo)
      ·rw [if_neg j2,if_neg (by row_cond lo),if_neg (by row_cond lo)]
       exact as i j (by row_cond lo) (by row_cond lo) (by row_cond lo)
  ·rintro ⟨o,_⟩ st1 ⟨eo,B1,as⟩
   exact ⟨eo,B1,fun i j i1 i2 i3=>as i j i1 i2 (by row_cond lo)⟩
  ·by_cases hj:j < lo+ok
   ·exact hs i j q1 q2 hj
   ·have:i=j:=by row_cond lo
    subst this
    exact C.irr (B.sat hS (by row_cond lo))
 ·rintro ⟨o,_⟩ st1 ⟨eo,B1,as⟩
  dsimp only at eo ⊢
  subst eo
  exact wpS_pure (h st1 B1 as)
end
end TS
namespace TS
open PySem PyProof.Rows
def Eqb (R:Keyed->Keyed->Bool) (xs:Array Keyed) (l h:Nat):Prop:=∀ i j,l<=i->i < h->l<=j->j < h->R (e xs i) (e xs j)=false
section
variable {M:Model} {A:Around} {E:Value->Shared->Prop} {s:Shared} {κ:SortKind} {S:Keyed->Prop} {R:Keyed->Keyed->Bool} {p0:Array (Nat × Nat × Nat)} {a0:Array Keyed} {lo:Nat}
theorem al6 {α:Type} {prog:StateT SortSt Sem α} {P:SortSt->Prop} {Q : α->SortSt->Prop} {G:Prop} (use:(∀ st,P st->wpS M A E s prog Q st)->G) (pf:∀ st,P st->wpS M A E s prog Q st):G:=use pf
theorem ajv (C:Cmp M A E s κ S R) (hS:∀ x∈a0.toList,S x) {st:SortSt} (B:Bs κ p0 a0 lo st) {a nrem:Nat} (h1:1<=a) (h2:a<=nrem) (hn:lo+nrem<=a0.size) (as:Asc R (arrOf st) lo (lo+a)) {Q:Option (Option Nat) × Nat->SortSt->Prop}
  (h:∀ n,a<=n->n<=nrem->Asc R (arrOf st) lo (lo+n)->(n < nrem->R (e (arrOf st) (lo+n)) (e (arrOf st) (lo+n - 1))=true)->Q (none,n) st) :
  wpS M A E s (forIn [a:nrem] ((none,a):Option (Option Nat) × Nat) (fun (_:Nat) z=>ltAt' (lo+z.2) (lo+z.2 - 1) >>= fun x=>match x with
   | some smaller=>if smaller=true then pure (ForInStep.done (none,z.2)) else pure (ForInStep.yield (none,z.2+1))
   | _=>pure (ForInStep.done (some none,z.2)))) Q st:=by
 refine wpS_forRange (fun t (z:Option (Option Nat) × Nat) st'=>st'=st/\z=(none,t)/\Asc R (arrOf st) lo (lo+t)) ?_ ?_ ⟨rfl,rfl,as⟩
 ·rintro t ⟨o,n⟩ st1 t1 t2 ⟨rfl,ez,as1⟩
  cases ez
  dsimp only
  refine wpS_bind (aeu C hS B (by row_cond lo) (by row_cond lo) ?_)
  dsimp only
  cases er:R (e (arrOf st1) (lo+t)) (e (arrOf st1) (lo+t - 1)) with
  | true =>
   rw [if_pos rfl]
   exact wpS_pure (h t t1 (by row_cond lo) as1 fun _=>er)
  | false =>
   rw [if_neg (by decide)]
   exact wpS_pure ⟨rfl,rfl,aq9 C (h:=lo+t) (fun k hk=>B.sat hS (by row_cond lo)) (by row_cond lo) as1 er⟩
 ·rintro ⟨o,n⟩ st1 ⟨rfl,ez,as1⟩
  cases ez
  rw [show max a nrem=nrem by row_cond lo] at as1 ⊢
  exact h nrem h2 (Nat.le_refl _) as1 fun z=>absurd z (Nat.lt_irrefl _)
theorem ara (C:Cmp M A E s κ S R) {st:SortSt} (B:Bs κ p0 a0 lo st) {n:Nat} (hn:lo+n<=a0.size) (de:Des R (arrOf st) lo (lo+n)) :
  Bs κ p0 a0 lo (setArr st (mirror (arrOf st) lo (lo+n) ((lo+n - lo) / 2)))/\Asc R (mirror (arrOf st) lo (lo+n) ((lo+n - lo) / 2)) lo (lo+n):=by
 have hz:lo+n<=(arrOf st).size:=by rw [B.size];exact hn
 refine ⟨B.set (mirror_perm _ _ _ _) (fun k hk=>by rw [getElem?_mirror_all hz,if_neg (by row_cond lo)]),fun i j h1 h2 h3=>?_⟩
 rw [aca hz,aca hz,if_pos (by row_cond lo),if_pos (by row_cond lo)]
 exact de _ _ (by row_cond lo) (by row_cond lo) (by row_cond lo)
theorem ag4 (C:Cmp M A E s κ S R) (hS:∀ x∈a0.toList,S x) {st:SortSt} (B:Bs κ p0 a0 lo st) {l h m:Nat} (hl:lo<=l) (hh:h<=a0.size) (hm:h<=m) (hm2:m<=a0.size) (de:Des R (arrOf st) lo m) (eq:Eqb R (arrOf st) l h) :
  Bs κ p0 a0 lo (setArr st (mirror (arrOf st) l h ((h - l) / 2)))/\Des R (mirror (arrOf st) l h ((h - l) / 2)) lo m:=by
 have hz:h<=(arrOf st).size:=by rw [B.size];exact hh
 refine ⟨B.set (mirror_perm _ _ _ _) (fun k hk=>by rw [getElem?_mirror_all hz,if_neg (by row_cond lo)]),fun i j h1 h2 h3=>?_⟩
 rw [aca hz,aca hz]
 have SE:∀ k,k < m->S (e (arrOf st) k):=fun k hk=>B.sat hS (by row_cond lo)
 by_cases c1:l<=i/\i < h
 ·rw [if_pos c1]
  by_cases c2:l<=j/\j < h
  ·rw [if_pos c2]
   exact eq _ _ (by row_cond lo) (by row_cond lo) (by row_cond lo) (by row_cond lo)
  ·rw [if_neg c2]
   exact de _ _ (by row_cond lo) (by row_cond lo) (by row_cond lo)
 ·rw [if_neg c1]
  by_cases c2:l<=j/\j < h
  ·rw [if_pos c2]
   exact de _ _ (by row_cond lo) (by row_cond lo) (by row_cond lo)
  ·rw [if_neg c2]
   exact de _ _ (by row_cond lo) (by row_cond lo) (by row_cond lo)
theorem api (C:Cmp M A E s κ S R) (hS:∀ x∈a0.toList,S x) {st:SortSt} (B:Bs κ p0 a0 lo st) {nrem:Nat} (h1:1<=nrem) (hn:lo+nrem<=a0.size) {Q:Option Nat->SortSt->Prop}
  (h:∀ st' n,Bs κ p0 a0 lo st'->1<=n->n<=nrem->Asc R (arrOf st') lo (lo+n)->Q (some n) st'):wpS M A E s (at8 lo nrem) Q st:=by
 refine wpS_bind (ajv C hS B (Nat.le_refl 1) h1 hn (fun i j i1 i2 i3=>?_) fun n n1 n2 as br=>?_)
 ·have:i=j:=by row_cond lo
  subst this
  exact C.irr (B.sat hS (by row_cond lo))
 dsimp only
 refine ab4 (fun en=>wpS_pure (h st n B n1 n2 as)) (fun en=>?_)
 have en':n ≠ nrem:=by simpa using en
 have hlt:n < nrem:=by row_cond lo
 have br':=br hlt
 refine al6 (M:=M) (A:=A) (E:=E) (s:=s) (α:=Option Nat) (Q:=Q) (P:=fun st2=>Bs κ p0 a0 lo st2/\Des R (arrOf st2) lo (lo+n)/\R (e (arrOf st2) (lo+n)) (e (arrOf st2) (lo+n - 1))=true) (prog:=?prog) (fun JP=>?use) (fun st2 ⟨B2,de,br2⟩=>?pf)
 case use =>
  refine ab4 (fun g1=>?_) (fun g1=>?_)
  ·refine wpS_bind (aeu C hS B (by row_cond lo) (by row_cond lo) ?_)
   dsimp only
   cases er:R (e (arrOf st) lo) (e (arrOf st) (lo+n - 1)) with
   | true=>rw [if_pos rfl];exact wpS_pure (h st n B n1 n2 as)
   | false =>
    rw [if_neg (by decide)]
    -- all of them are equal
    have SE:∀ k,k < lo+n->S (e (arrOf st) k):=fun k hk=>B.sat hS (by row_cond lo)
    have all:Eqb R (arrOf st) lo (lo+n):=fun i j i1 i2 j1 j2=>by
     -- j<=last<=first<=i
     have a1:=as j (lo+n - 1) j1 (by row_cond lo) (by row_cond lo)
     have a2:=as lo i (Nat.le_refl _) i1 i2
     exact C.tr _ _ _ (SE j j2) (SE lo (by row_cond lo)) (SE i i2) (C.tr _ _ _ (SE j j2) (SE (lo+n - 1) (by row_cond lo)) (SE lo (by row_cond lo)) a1 er) a2
    have de:Des R (arrOf st) lo (lo+n):=fun i j i1 i2 i3=>all i j i1 (by row_cond lo) (by row_cond lo) i3
    have hz:lo+n<=(arrOf st).size:=by rw [B.size];row_cond lo
    obtain ⟨B3,de3⟩:=ag4 C hS B (Nat.le_refl lo) (show lo+n<=a0.size by row_cond lo) (Nat.le_refl _) (by row_cond lo) de all
    refine wpS_bind (wpS_modify ?_)
    refine JP _ ⟨B3,de3,?_⟩
    show R (e (mirror (arrOf st) lo (lo+n) ((lo+n - lo) / 2)) (lo+n)) (e (mirror (arrOf st) lo (lo+n) ((lo+n - lo) / 2)) (lo+n - 1))=true
    rw [aca hz,aca hz,if_neg (by row_cond lo),if_pos (by row_cond lo)]
    rw [show lo+(lo+n) - 1 - (lo+n - 1)=lo by row_cond lo]
    cases e2:R (e (arrOf st) (lo+n)) (e (arrOf st) lo) with
    | true=>rfl
    | false =>
     have:=C.tr _ _ _ (SE (lo+n - 1) (by row_cond lo)) (SE lo (by row_cond lo)) (B.sat hS (show lo+n < a0.size by row_cond lo)) er e2
     rw [this] at br';cases br'
  ·have:n=1:=by row_cond lo
   subst this
   refine JP st ⟨B,fun i j i1 i2 i3=>?_,br'⟩
   have:i=j:=by row_cond lo
   subst this
   exact C.irr (B.sat hS (by row_cond lo))
 case pf =>
  -- the falling part
  refine wpS_bind (aju ?_)
  refine wpS_bind (wpS_mono (Q:=fun (z:Option (Option Nat) × Nat × Nat) st'=>z.1=none/\Bs κ p0 a0 lo st'/\z.2.1<=nrem/\z.2.2+1<=z.2.1/\Des R (arrOf st') lo (lo+z.2.1)/\Eqb R (arrOf st') (lo+z.2.1 - (z.2.2+1)) (lo+z.2.1)) ?_ ?_)
  ·refine wpS_forRange (fun t (z:Option (Option Nat) × Nat × Nat) st'=>z.1=none/\z.2.1=t/\Bs κ p0 a0 lo st'/\z.2.2+1<=z.2.1/\Des R (arrOf st') lo (lo+z.2.1)/\Eqb R (arrOf st') (lo+z.2.1 - (z.2.2+1)) (lo+z.2.1)) ?_ ?_ ⟨rfl,rfl,B2,by dsimp only;row_cond lo,?_,fun i j i1 i2 j1 j2=>?_⟩
   ·rintro t ⟨o,m,neq⟩ st3 t1 t2 ⟨eo,em,B3,hq,de3,eq3⟩
    dsimp only at eo em hq de3 eq3 ⊢
    subst eo em
    have SE:∀ k,k < a0.size->S (e (arrOf st3) k):=fun k hk=>B3.sat hS hk
    refine wpS_bind (aeu C hS B3 (by row_cond lo) (by row_cond lo) ?_)
    dsimp only
    cases er:R (e (arrOf st3) (lo+m)) (e (arrOf st3) (lo+m - 1)) with
    | true =>
     rw [if_pos rfl]
     refine ab4 (fun g=>?_) (fun g=>?_)
     ·have hz:lo+m<=(arrOf st3).size:=by rw [B3.size];row_cond lo
      obtain ⟨B4,de4⟩:=ag4 C hS B3 (l:=lo+m - (neq+1)) (h:=lo+m) (by row_cond lo) (by row_cond lo) (Nat.le_refl _) (by row_cond lo) de3 eq3
      have em1:∀ k,e (mirror (arrOf st3) (lo+m - (neq+1)) (lo+m) ((lo+m - (lo+m - (neq+1))) / 2)) k=if lo+m - (neq+1)<=k/\k < lo+m then e (arrOf st3) (lo+m - (neq+1)+(lo+m) - 1 - k) else e (arrOf st3) k:=fun k=>aca hz k
      refine wpS_bind (wpS_modify ?_)
      refine wpS_pure ⟨rfl,rfl,B4,by dsimp only;row_cond lo,?_,fun i j i1 i2 j1 j2=>?_⟩
      ·show Des R (mirror (arrOf st3) (lo+m - (neq+1)) (lo+m) ((lo+m - (lo+m - (neq+1))) / 2)) lo (lo+(m+1))
       refine aeb C (h:=lo+m) (fun k hk=>B4.sat hS (by row_cond lo)) (by row_cond lo) de4 ?_
       rw [em1,em1,if_pos (by row_cond lo),if_neg (by row_cond lo)]
       rw [show lo+m - (neq+1)+(lo+m) - 1 - (lo+m - 1)=lo+m - (neq+1) by row_cond lo]
       exact C.tr _ _ _ (SE _ (by row_cond lo)) (SE (lo+m - 1) (by row_cond lo)) (SE _ (by row_cond lo)) (C.asy _ _ (SE _ (by row_cond lo)) (SE _ (by row_cond lo)) er) (de3 _ _ (by row_cond lo) (by row_cond lo) (by row_cond lo))
      ·dsimp only at i1 i2 j1 j2
       have:i=j:=by row_cond lo
       subst this
       exact C.irr (B4.sat hS (by row_cond lo))
     ·have:neq=0:=by row_cond lo
      subst this
      refine wpS_pure ⟨rfl,rfl,B3,by dsimp only;row_cond lo,aeb C (h:=lo+m) (fun k hk=>SE k (by row_cond lo)) (by row_cond lo) de3 (C.asy _ _ (SE _ (by row_cond lo)) (SE _ (by row_cond lo)) er),fun i j i1 i2 j1 j2=>?_⟩
      dsimp only at i1 i2 j1 j2
      have:i=j:=by row_cond lo
      subst this
      exact C.irr (SE _ (by row_cond lo))
    | false =>
     rw [if_neg (by decide)]
     refine wpS_bind (aeu C hS B3 (by row_cond lo) (by row_cond lo) ?_)
     dsimp only
     cases er2:R (e (arrOf st3) (lo+m - 1)) (e (arrOf st3) (lo+m)) with
     | true =>
      rw [if_pos rfl]
      exact wpS_pure ⟨rfl,B3,by dsimp only;row_cond lo,hq,de3,eq3⟩
     | false =>
      rw [if_neg (by decide)]
      refine wpS_pure ⟨rfl,rfl,B3,by dsimp only;row_cond lo,aeb C (h:=lo+m) (fun k hk=>SE k (by row_cond lo)) (by row_cond lo) de3 er2,fun i j i1 i2 j1 j2=>?_⟩
      dsimp only at i1 i2 j1 j2
      by_cases ci:i=lo+m
      ·by_cases cj:j=lo+m
       ·rw [ci,cj];exact C.irr (SE _ (by row_cond lo))
       ·rw [ci]
        exact C.tr _ _ _ (SE j (by row_cond lo)) (SE (lo+m - 1) (by row_cond lo)) (SE _ (by row_cond lo)) (eq3 (lo+m - 1) j (by row_cond lo) (by row_cond lo) (by row_cond lo) (by row_cond lo)) er
      ·by_cases cj:j=lo+m
       ·rw [cj]
        exact C.tr _ _ _ (SE _ (by row_cond lo)) (SE (lo+m - 1) (by row_cond lo)) (SE i (by row_cond lo)) er2 (eq3 i (lo+m - 1) (by row_cond lo) (by row_cond lo) (by row_cond lo) (by row_cond lo))
       ·exact eq3 i j (by row_cond lo) (by row_cond lo) (by row_cond lo) (by row_cond lo)
   ·rintro ⟨o,m,neq⟩ st3 ⟨eo,em,B3,hq,de3,eq3⟩
    dsimp only at eo em hq de3 eq3 ⊢
    exact ⟨eo,B3,by row_cond lo,hq,de3,eq3⟩
   ·exact aeb C (h:=lo+n) (fun k hk=>B2.sat hS (by row_cond lo)) (by row_cond lo) de (C.asy _ _ (B2.sat hS (by row_cond lo)) (B2.sat hS (by row_cond lo)) br2)
   ·dsimp only at i1 i2 j1 j2
    have:i=j:=by row_cond lo
    subst this
    exact C.irr (B2.sat hS (by row_cond lo))
  ·rintro ⟨o,m,neq⟩ st3 ⟨eo,B3,hm,hq,de3,eq3⟩
   dsimp only at eo hm hq de3 eq3 ⊢
   subst eo
   dsimp only
   refine al6 (M:=M) (A:=A) (E:=E) (s:=s) (α:=Option Nat) (Q:=Q) (P:=fun st4=>Bs κ p0 a0 lo st4/\Des R (arrOf st4) lo (lo+m)) (prog:=?prog2) (fun JP=>?use2) (fun st4 ⟨B4,de4⟩=>?pf2)
   case use2 =>
    refine ab4 (fun g=>?_) (fun g=>?_)
    ·obtain ⟨B4,de4⟩:=ag4 C hS B3 (l:=lo+m - (neq+1)) (h:=lo+m) (by row_cond lo) (by row_cond lo) (Nat.le_refl _) (by row_cond lo) de3 eq3
     refine wpS_bind (wpS_modify ?_)
     exact JP _ ⟨B4,de4⟩
    ·exact JP _ ⟨B3,de3⟩
   case pf2 =>
    obtain ⟨B5,as5⟩:=ara C B4 (n:=m) (by row_cond lo) de4
    refine wpS_bind (wpS_modify ?_)
    refine wpS_bind (ajv C hS B5 (by row_cond lo) hm hn as5 fun n' n1' n2' as' _=>?_)
    exact wpS_pure (h _ n' B5 (by row_cond lo) n2' as')
end
end TS
namespace TS
open PySem PyProof.Rows
noncomputable def flat (rs:List (List Keyed × Nat)):List Keyed:=(rs.map (·.1)).flatten
noncomputable def pend:Nat->List (List Keyed × Nat)->List (Nat × Nat × Nat)
 | _,[]=>[]
 | k,(r,pw) :: t=>(k,r.length,pw) :: pend (k+r.length) t
theorem arb:flat []=[]:=rfl
theorem apj (r:List Keyed × Nat) (t:List (List Keyed × Nat)):flat (r :: t)=r.1 ++ flat t:=rfl
theorem ald (p q:List (List Keyed × Nat)):flat (p ++ q)=flat p ++ flat q:=by simp [flat]
theorem afk:∀ (k:Nat) (p q:List (List Keyed × Nat)),pend k (p ++ q)=pend k p ++ pend (k+(flat p).length) q
 | k,[],q=>by simp [pend,arb]
 | k,(r,pw) :: t,q=>by
  simp only [List.cons_append,pend,apj,List.length_append,List.cons.injEq,true_and]
  rw [afk (k+r.length) t q,Nat.add_assoc]
section
variable {M:Model} {A:Around} {E:Value->Shared->Prop} {s:Shared} {κ:SortKind} {S:Keyed->Prop} {R:Keyed->Keyed->Bool} {a0:Array Keyed}
structure Rn (κ:SortKind) (R:Keyed->Keyed->Bool) (a0:Array Keyed) (rs:List (List Keyed × Nat)) (rest:List Keyed) (st:SortSt):Prop where
 k:kindOf st = κ
 f:failedOf st=none
 arr:(arrOf st).toList=flat rs ++ rest
 pn:(pendingOf st).toList=pend 0 rs
 ok:∀ r∈rs,r.1 ≠ []/\Srt R r.1
 perm:(arrOf st).toList.Perm a0.toList
theorem Rn.run {rs:List (List Keyed × Nat)} {rest:List Keyed} {st st':SortSt} {n:Nat} (N:Rn κ R a0 rs rest st) (B:Bs κ (pendingOf st) (arrOf st) (flat rs).length st') (h1:1<=n) (hn:(flat rs).length+n<=(arrOf st).size) (as:Asc R (arrOf st') (flat rs).length ((flat rs).length+n)) :
  ∃ r rest',r.length=n/\r ≠ []/\Srt R r/\Rn κ R a0 rs (r ++ rest') st':=by
 have hsz:=B.size
 have hfl:(arrOf st').toList.take (flat rs).length=flat rs:=by
  have e1:(arrOf st').toList.take (flat rs).length=(arrOf st).toList.take (flat rs).length:=by
   apply List.ext_getElem?
   intro k
   rw [List.getElem?_take,List.getElem?_take]
   split
   ·rename_i hk
    have:=B.pre k hk
    simpa using this
   ·rfl
  rw [e1,N.arr,List.take_left]
 refine ⟨((arrOf st').toList.drop (flat rs).length).take n,((arrOf st').toList.drop (flat rs).length).drop n,?_,?_,?_,B.k,B.f,?_,?_,N.ok,B.perm.trans N.perm⟩
 ·simp;row_cond lo
 ·intro z
  have:=congrArg List.length z
  simp at this
  row_cond lo
 ·unfold Srt
  rw [List.pairwise_iff_getElem]
  intro i j hi hj hij
  have hj':j < n:=by simp at hj;row_cond lo
  have get:∀ k,k < n->∀ (hk:k < (((arrOf st').toList.drop (flat rs).length).take n).length),(((arrOf st').toList.drop (flat rs).length).take n)[k]=e (arrOf st') ((flat rs).length+k):=by
   intro k hk hk2
   rw [List.getElem_take,List.getElem_drop]
   have h3:=agb (xs:=arrOf st') (k:=(flat rs).length+k) (by row_cond lo)
   have h4:(flat rs).length+k < (arrOf st').toList.length:=by simp;row_cond lo
   have h5:(arrOf st').toList[(flat rs).length+k]?=some (e (arrOf st') ((flat rs).length+k)):=by simpa using h3
   rw [List.getElem?_eq_getElem h4] at h5
   exact Option.some.inj h5
  rw [get i (by row_cond lo) hi,get j hj' hj]
  exact as _ _ (by row_cond lo) (by row_cond lo) (by row_cond lo)
 ·rw [List.take_append_drop]
  conv=>lhs;rw [← List.take_append_drop (flat rs).length (arrOf st').toList,hfl]
 ·rw [B.p];exact N.pn
theorem Rn.bs {rs:List (List Keyed × Nat)} {rest:List Keyed} {st:SortSt} (N:Rn κ R a0 rs rest st):Bs κ (pendingOf st) (arrOf st) (flat rs).length st:=⟨N.k,N.f,rfl,List.Perm.refl _,fun _ _=>rfl⟩
theorem Rn.size {rs:List (List Keyed × Nat)} {rest:List Keyed} {st:SortSt} (N:Rn κ R a0 rs rest st):(arrOf st).size=a0.size:=by
 have:=N.perm.length_eq;simpa using this
theorem Rn.len {rs:List (List Keyed × Nat)} {rest:List Keyed} {st:SortSt} (N:Rn κ R a0 rs rest st):(flat rs).length+rest.length=a0.size:=by
 have:=congrArg List.length N.arr
 have h2:=N.size
 simp at this
 row_cond lo
theorem Rn.push {rs:List (List Keyed × Nat)} {r rest:List Keyed} {st st':SortSt} (N:Rn κ R a0 rs (r ++ rest) st) (h0:r ≠ []) (hs:Srt R r) (k:kindOf st'=kindOf st) (f:failedOf st'=failedOf st) (a:arrOf st'=arrOf st)
  (p:pendingOf st'=(pendingOf st).push ((flat rs).length,r.length,0)):Rn κ R a0 (rs ++ [(r,0)]) rest st':=by
 refine ⟨k.trans N.k,f.trans N.f,?_,?_,fun q hq=>?_,by rw [a];exact N.perm⟩
 ·rw [a,N.arr,ald];simp [flat,List.append_assoc]
 ·rw [p,Array.toList_push,N.pn,afk];simp [pend]
 ·rcases List.mem_append.mp hq with hq | hq
  ·exact N.ok q hq
  ·have:q=(r,0):=by simpa using hq
   subst this;exact ⟨h0,hs⟩
end
end TS
namespace TS
open PySem PyProof.Rows
section
variable {M:Model} {A:Around} {E:Value->Shared->Prop} {s:Shared} {κ:SortKind} {S:Keyed->Prop} {R:Keyed->Keyed->Bool} {a0:Array Keyed}
structure Dn (R:Keyed->Keyed->Bool) (a0:Array Keyed) (st:SortSt):Prop where
 f:failedOf st=none
 perm:(arrOf st).toList.Perm a0.toList
 asc:Asc R (arrOf st) 0 a0.size
 one:(pendingOf st).size<=1
theorem Dn.srt {st:SortSt} (D:Dn R a0 st):Srt R (arrOf st).toList:=by
 have hz:(arrOf st).toList.length=a0.size:=by rw [D.perm.length_eq];simp
 refine List.pairwise_iff_getElem.mpr fun i j hi hj hij=>?_
 have:=D.asc i j (Nat.zero_le _) (by row_cond lo) (by row_cond lo)
 unfold e at this
 rw [← Array.getElem?_toList,← Array.getElem?_toList,List.getElem?_eq_getElem hi,List.getElem?_eq_getElem hj] at this
 exact this
theorem Dn.of {st:SortSt} {p1:Nat × Nat × Nat} (B:Bs κ #[] a0 0 st) (as:Asc R (arrOf st) 0 (0+a0.size)) {st':SortSt} (k:failedOf st'=failedOf st) (a:arrOf st'=arrOf st) (p:pendingOf st'=(pendingOf st).push p1):Dn R a0 st':=by
 refine ⟨by rw [k];exact B.f,by rw [a];exact B.perm,by rw [a];simpa using as,?_⟩
 rw [p,B.p]
 simp
theorem ann (C:Cmp M A E s κ S R) (hS:∀ x∈a0.toList,S x) {st:SortSt} (h0:arrOf st=a0) (hk:kindOf st = κ) (hf:failedOf st=none) (hp:pendingOf st = #[]) (h1:1<=a0.size) (h64:a0.size < 64) {Q:Unit->SortSt->Prop}
  (h:∀ st',failedOf st'=none->(arrOf st').toList.Perm a0.toList->Srt R (arrOf st').toList->Q () st'):wpS M A E s ayv Q st:=by
 have size0:(arrOf st).size=a0.size:=by rw [h0]
 have B0:Bs κ #[] a0 0 st:=⟨hk,hf,hp,by rw [h0],fun k hk=>by row_cond lo⟩
 have hmr:minRun' (arrOf st).size (arrOf st).size 0=a0.size:=by
  rw [size0]
  obtain ⟨f,hf⟩:∃ f,a0.size=f+1:=⟨a0.size - 1,by row_cond lo⟩
  have:minRun' (f+1) a0.size 0=a0.size:=by rw [minRun'_succ,if_pos h64];rfl
  rwa [← hf] at this
 refine wpS_bind (wpS_get ?_)
 dsimp only
 refine wpS_bind (wpS_mono (Q:=fun (c:Option Unit × Nat) st1=>c.1=none/\Dn R a0 st1) ?_ ?_)
 ·refine wpS_forRange (fun i (c:Option Unit × Nat) st1=>c.1=none/\((i=0/\c.2=0/\Bs κ #[] a0 0 st1)\/(c.2=a0.size/\Dn R a0 st1))) ?_ ?_ ⟨rfl,.inl ⟨rfl,rfl,B0⟩⟩
  ·rintro i ⟨c1,lo⟩ st1 _ hi ⟨e1,hc⟩
   dsimp only at e1 hc ⊢
   subst e1
   rcases hc with ⟨rfl,rfl,B1⟩ | ⟨rfl,D⟩
   ·refine ab4 (fun hge=>?_) (fun hlt=>?_)
    ·exfalso
     have:0 ≥ (arrOf st).size:=hge
     row_cond lo
    ·refine wpS_bind (api C hS B1 (nrem:=(arrOf st).size - 0) (by row_cond lo) (by row_cond lo) fun st2 n B2 n1 n2 as2=>?_)
     dsimp only
     refine ab4 (fun hmin=>?_) (fun hmin=>?_)
     ·refine wpS_bind (aju ?_)
      have hmin':n < minRun' (arrOf st).size (arrOf st).size 0:=hmin
      generalize hnn:min (_:Nat) _=nn
      have hnn':min ((arrOf st).size - 0) (minRun' (arrOf st).size (arrOf st).size 0)=nn:=hnn
      have en:nn=a0.size:=by row_cond lo
      clear hnn hnn'
      subst en
      refine wpS_bind (anm C hS B2 (n:=a0.size) (ok:=n) (by row_cond lo) (by row_cond lo) h1 as2 fun st3 B3 as3=>?_)
      rw [if_neg (by decide)]
      refine wpS_bind (wpS_get ?_)
      have hb:(pendingOf st3).back?=none:=by rw [B3.p];rfl
      rw [hb]
      dsimp only
      exact wpS_bind (wpS_modify (wpS_pure ⟨rfl,.inr ⟨by simp,.of B3 as3 rfl rfl rfl⟩⟩))
     ·have hmin':¬ n < minRun' (arrOf st).size (arrOf st).size 0:=hmin
      have en:n=a0.size:=by row_cond lo
      subst en
      refine wpS_bind (wpS_get ?_)
      have hb:(pendingOf st2).back?=none:=by rw [B2.p];rfl
      rw [hb]
      dsimp only
      exact wpS_bind (wpS_modify (wpS_pure ⟨rfl,.inr ⟨by simp,.of B2 as2 rfl rfl rfl⟩⟩))
   ·refine ab4 (fun hge=>wpS_pure ⟨rfl,D⟩) (fun hlt=>?_)
    exfalso
    have:¬ a0.size ≥ (arrOf st).size:=hlt
    row_cond lo
  ·rintro ⟨c1,lo⟩ st1 ⟨e1,hc⟩
   dsimp only at e1 hc ⊢
   refine ⟨e1,?_⟩
   rcases hc with ⟨e,_,_⟩ | ⟨_,D⟩
   ·exfalso
    have:(arrOf st).size<=max 0 (arrOf st).size:=Nat.le_max_right _ _
    have:max 0 (arrOf st).size=0:=e
    row_cond lo
   ·exact D
 ·rintro ⟨c1,lo⟩ st1 ⟨e1,D⟩
  dsimp only at e1 ⊢
  subst e1
  dsimp only
  refine wpS_bind (wpS_mono (Q:=fun (c:Option Unit × Unit) st4=>c.1=none/\Dn R a0 st4) ?_ ?_)
  ·refine wpS_forRange (fun j (c:Option Unit × Unit) st4=>c.1=none/\Dn R a0 st4) ?_ (fun c st4 h4=>h4) ⟨rfl,D⟩
   rintro j ⟨c4,u4⟩ st4 _ _ ⟨e4,D4⟩
   dsimp only at e4
   subst e4
   refine wpS_bind (wpS_get ?_)
   refine ab4 (fun h1=>wpS_pure ⟨rfl,D4⟩) (fun h1=>?_)
   exfalso
   have h1':¬ (pendingOf st4).size<=1:=h1
   have:=D4.one
   row_cond lo
  ·rintro ⟨c4,u4⟩ st4 ⟨e4,D4⟩
   dsimp only at e4 ⊢
   subst e4
   dsimp only
   exact wpS_pure (h st4 D4.f D4.perm D4.srt)
end
end TS
namespace L2
open PySem PySem.Spec PyProof.Rows
mutual
inductive Rep (H:Hp):V->PyData->Prop
 | non:Rep H .non .none
 | bl (b:Bool):Rep H (.bl b) (.bool b)
 | int (i:Int):Rep H (.int i) (.int i)
 | str (x:Str):Rep H (.str x) (.str x)
 | lst {a:Addr} {xs:List V} {ds:List PyData}:H a=some (.lst xs)->Reps H xs ds->Rep H (.ref a) (.list ds)
 | tup {a:Addr} {xs:List V} {ds:List PyData}:H a=some (.tup xs)->Reps H xs ds->Rep H (.ref a) (.tuple ds)
inductive Reps (H:Hp):List V->List PyData->Prop
 | nil:Reps H [] []
 | cons {v:V} {vs:List V} {d:PyData} {ds:List PyData}:Rep H v d->Reps H vs ds->Reps H (v :: vs) (d :: ds)
end
mutual
theorem Rep.same {H H':Hp} (s:Same H H'):∀ {v:V} {d:PyData},Rep H v d->Rep H' v d
 | _,_,.non => .non
 | _,_,.bl b => .bl b
 | _,_,.int i => .int i
 | _,_,.str x => .str x
 | _,_,.lst h r => .lst (s _ _ h) (Reps.same s r)
 | _,_,.tup h r => .tup (s _ _ h) (Reps.same s r)
theorem Reps.same {H H':Hp} (s:Same H H'):∀ {vs:List V} {ds:List PyData},Reps H vs ds->Reps H' vs ds
 | _,_,.nil => .nil
 | _,_,.cons r t => .cons (Rep.same s r) (Reps.same s t)
end
theorem Reps.length {H:Hp}:∀ {vs:List V} {ds:List PyData},Reps H vs ds->vs.length=ds.length
 | _,_,.nil=>rfl
 | _,_,.cons _ t=>by simp [Reps.length t]
theorem Reps.get {H:Hp}:∀ {vs:List V} {ds:List PyData} {i:Nat} {d:PyData},Reps H vs ds->ds[i]?=some d->∃ v,vs[i]?=some v/\Rep H v d
 | _,_,_,_,.nil,e=>by simp at e
 | _,_,0,_,.cons r _,e=>by simp at e;subst e;exact ⟨_,rfl,r⟩
 | _,_,i+1,d,.cons _ t,e=>by
  obtain ⟨u,h1,h2⟩:=Reps.get (i:=i) (d:=d) t (by simpa using e)
  exact ⟨u,by simpa using h1,h2⟩
theorem Reps.append {H:Hp}:∀ {vs ws:List V} {ds es:List PyData},Reps H vs ds->Reps H ws es->Reps H (vs ++ ws) (ds ++ es)
 | _,_,_,_,.nil,s=>s
 | _,_,_,_,.cons r t,s => .cons r (Reps.append t s)
section
variable {X:Cx} {pins:List (Addr × Obj)} {σ:St} {H:Hp} {s:Shared}
mutual
theorem Rep.reads (I:Inv X pins σ H s):∀ {v:V} {d:PyData} {u:Value},Rep H v d->RelV v u->∃ as,Reads s.heap u d as
 | _,_,_,.non,r=>by cases r;exact ⟨_,.none⟩
 | _,_,_,.bl b,r=>by cases r;exact ⟨_,.bool b⟩
 | _,_,_,.int i,r=>by obtain ⟨t,rfl⟩:=r;exact ⟨_,.int i t⟩
 | _,_,_,.str x,r=>by obtain ⟨t,rfl⟩:=r;exact ⟨_,.str x t⟩
 | _,_,_,.lst (a:=a) (xs:=xs) h q,r=>by
  cases r
  obtain ⟨_,its,n,rv,e⟩:=(show ObjOk X.prog X.w H s.heap a (.lst xs) from I.hok a _ h)
  obtain ⟨as,ra⟩:=Reps.reads I q rv
  exact ⟨_,.list e rfl rfl (by simpa using ra)⟩
 | _,_,_,.tup (a:=a) (xs:=xs) h q,r=>by
  cases r
  obtain ⟨_,its,rv,o,e,c,n,dd⟩:=(show ObjOk X.prog X.w H s.heap a (.tup xs) from I.hok a _ h)
  obtain ⟨as,ra⟩:=Reps.reads I q rv
  exact ⟨_,.tuple e c dd (by simpa using ra)⟩
theorem Reps.reads (I:Inv X pins σ H s):∀ {vs:List V} {ds:List PyData} {us:List Value},Reps H vs ds->Vals vs us->∃ as,ReadsAll s.heap us ds as
 | _,_,_,.nil,.nil=>⟨_,.nil⟩
 | _,_,_,.cons r t,.cons q qs=>by
  obtain ⟨as,ra⟩:=Rep.reads I r q
  obtain ⟨bs,rb⟩:=Reps.reads I t qs
  exact ⟨_,.cons ra rb⟩
end
end
mutual
noncomputable def aai:PyData->Bool
 | .none | .int _=>true
 | .list xs | .tuple xs=>plainDs xs
 | _=>false
noncomputable def plainDs:List PyData->Bool
 | []=>true
 | x :: xs=>aai x && plainDs xs
end
mutual
theorem abm:∀ (d:PyData),aai d=true->d.canLay0=true
 | .none,_=>by simp [PyData.canLay0]
 | .int _,_=>by simp [PyData.canLay0]
 | .list xs,h=>by simp only [PyData.canLay0];exact plain_lays xs (by simpa [aai] using h)
 | .tuple xs,h=>by simp only [PyData.canLay0];exact plain_lays xs (by simpa [aai] using h)
 | .bool _,h=>by simp [aai] at h
 | .str _,h=>by simp [aai] at h
 | .dict _,h=>by simp [aai] at h
theorem plain_lays:∀ (ds:List PyData),plainDs ds=true->PyData.canLayAll0 ds=true
 | [],_=>by simp [PyData.canLayAll0]
 | x :: xs,h=>by
  have h':aai x=true/\plainDs xs=true:=by simpa [plainDs] using h
  simp only [PyData.canLayAll0,abm x h'.1,plain_lays xs h'.2,Bool.and_self]
end
mutual
theorem aev:∀ (d e:PyData),aai d=true->aai e=true->(PyData.eqv d e=true ↔ d=e)
 | .none,e,_,h=>by cases e <;> simp_all [aai,PyData.eqv]
 | .int i,e,_,h=>by cases e <;> simp_all [aai,PyData.eqv]
 | .list xs,e,g,h=>by
  cases e with
  | list ys=>simp only [PyData.eqv,PyData.list.injEq];exact eqvAll_plain xs ys (by simpa [aai] using g) (by simpa [aai] using h)
  | _=>simp_all [aai,PyData.eqv]
 | .tuple xs,e,g,h=>by
  cases e with
  | tuple ys=>simp only [PyData.eqv,PyData.tuple.injEq];exact eqvAll_plain xs ys (by simpa [aai] using g) (by simpa [aai] using h)
  | _=>simp_all [aai,PyData.eqv]
 | .bool _,_,h,_=>by simp [aai] at h
 | .str _,_,h,_=>by simp [aai] at h
 | .dict _,_,h,_=>by simp [aai] at h
theorem eqvAll_plain:∀ (ds es:List PyData),plainDs ds=true->plainDs es=true->(PyData.eqvAll ds es=true ↔ ds=es)
 | [],[],_,_=>by simp [PyData.eqvAll]
 | [],_ :: _,_,_=>by simp [PyData.eqvAll]
 | _ :: _,[],_,_=>by simp [PyData.eqvAll]
 | x :: xs,y :: ys,g,h=>by
  have g':aai x=true/\plainDs xs=true:=by simpa [plainDs] using g
  have h':aai y=true/\plainDs ys=true:=by simpa [plainDs] using h
  simp only [PyData.eqvAll,Bool.and_eq_true,List.cons.injEq,aev x y g'.1 h'.1,eqvAll_plain xs ys g'.2 h'.2]
end
theorem acv (ds:List PyData):plainDs ds=true ↔ ∀ d∈ds,aai d=true:=by
 induction ds with
 | nil=>simp [plainDs]
 | cons d ds ih=>simp [plainDs,ih]
def rEqD:R2:=fun x y H Q=>∃ d e,Rep H x d/\Rep H y e/\aai d=true/\aai e=true/\d.depth<=60/\Q (.bl (PyData.eqv d e)) H
def rNeD:R2:=fun x y H Q=>∃ d e,Rep H x d/\Rep H y e/\aai d=true/\aai e=true/\d.depth<=60/\Q (.bl (!PyData.eqv d e)) H
section
variable {X:Cx}
theorem ajw (hu:X.A.units+64 < cLine):OpR X (compareOp .Eq) rEqD:=by
 intro pins s σ H x y v u Q I rx ry h
 obtain ⟨d,e,rd,re,hd,he,hz,q⟩:=h
 obtain ⟨as,ra⟩:=rd.reads I rx
 obtain ⟨bs,rb⟩:=re.reads I ry
 refine SeqAt.compareEq_reads ra rb (abm _ hd) (abm _ he) ?_ ⟨.bl _,H,I,rfl,q⟩
 have:=Nat.min_le_left d.depth e.depth
 row_cond lo
theorem ajx (hu:X.A.units+64 < cLine):OpR X (compareOp .NotEq) rNeD:=by
 intro pins s σ H x y v u Q I rx ry h
 obtain ⟨d,e,rd,re,hd,he,hz,q⟩:=h
 obtain ⟨as,ra⟩:=rd.reads I rx
 obtain ⟨bs,rb⟩:=re.reads I ry
 refine SeqAt.compareNe_reads ra rb (abm _ hd) (abm _ he) ?_ ⟨.bl _,H,I,rfl,q⟩
 have:=Nat.min_le_left d.depth e.depth
 row_cond lo
def rInD (neg:Bool):R2:=fun x y H Q=>∃ d es,Rep H x d/\(Rep H y (.list es)\/Rep H y (.tuple es))/\aai d=true/\plainDs es=true/\d.depth<=60/\Q (.bl (if neg then !es.any (fun z=>PyData.eqv z d) else es.any (fun z=>PyData.eqv z d))) H
theorem apk (hu:X.A.units+64 < cLine):OpR X (compareOp .NotIn) (rInD true):=by
 intro pins s σ H x y v u Q I rx ry h
 obtain ⟨d,es,rd,re,hd,he,hz,q⟩:=h
 obtain ⟨as,ra⟩:=rd.reads I rx
 have hm:=Nat.min_le_right (PyData.depthAll es) d.depth
 rcases re with re | re
 ·obtain ⟨bs,rb⟩:=re.reads I ry
  exact SeqAt.notIn_list_reads rb ra (plain_lays _ he) (abm _ hd) (by row_cond lo) ⟨.bl _,H,I,rfl,q⟩
 ·obtain ⟨bs,rb⟩:=re.reads I ry
  exact SeqAt.notIn_tuple_reads rb ra (plain_lays _ he) (abm _ hd) (by row_cond lo) ⟨.bl _,H,I,rfl,q⟩
def rIsi (K:PySem.W.Frag):List V->Hp->VK->Prop:=fun xs H Q=>∃ (x:V) (T:String) (t:Value) (b:Bool),xs=[x,.ty T]/\TyOf K H x t/\PySem.W.kitOne K t (.type T)=some b/\Q (.bl b) H
theorem abo:abh X (.builtin "isinstance") (rIsi X.K):=by
 intro pins s σ H xs us Q I r h
 obtain ⟨x,T,t,b,rfl,ty,e,q⟩:=h
 obtain ⟨u,c,rfl,ru,rc⟩:=af4 r
 cases rc
 exact ao3 I ru ty e fun tk=>⟨.bl b,H,I.tok _,rfl,q⟩
end
end L2
namespace HT
open PySem PyProof.Rows
section
open PySem.SeqAt
open PySem.AutoSeq1 (wpAny_loadPart')
open PySem.MeetsSeq PySem.MeetsSeq2 PySem.MeetsSeq3
end
section
variable {prog:Program} {w:World} {A:Around} {E:Value->Shared->Prop} {s:Shared}
end
end HT
namespace L2
open PySem PySem.Spec PyProof.Rows
section
variable {X:Cx}
end
end L2
namespace HT
open PySem PyProof.Rows
theorem ag5 (val:Nat->Int):∀ k,argBest (fun i j=>decide (val i > val j)) k<=k/\∀ i,i<=k->val i<=val (argBest (fun i j=>decide (val i > val j)) k)
 | 0 => ⟨Nat.le_refl _, fun i hi => by have : i = 0 := by row_cond lo
                                       subst this;exact Int.le_refl _⟩
 | k+1=>by
  obtain ⟨h1,h2⟩:=ag5 val k
  unfold argBest
  by_cases hc:val (k+1) > val (argBest (fun i j=>decide (val i > val j)) k)
  ·rw [if_pos (decide_eq_true hc)]
   refine ⟨Nat.le_refl _,fun i hi=>?_⟩
   by_cases e:i=k+1
   ·subst e;exact Int.le_refl _
   ·have:=h2 i (by row_cond lo)
    exact Int.le_trans this (Int.le_of_lt hc)
  ·rw [if_neg (by simpa using hc)]
   refine ⟨by row_cond lo,fun i hi=>?_⟩
   by_cases e:i=k+1
   ·subst e;row_cond lo
   ·exact h2 i (by row_cond lo)
noncomputable def val (ns:List Int) (i:Nat):Int:=(ns[i]?).getD 0
theorem agc {us:List Value} {ns:List Int} (hi:IntsAre us ns) (i:Nat) (v:Value) (h:us.toArray[i]?=some v):∃ t,v=.int (val ns i) t:=by
 induction hi generalizing i with
 | nil=>simp at h
 | cons n t r ih =>
  cases i with
  | zero=>simp at h;subst h;exact ⟨t,by simp [val]⟩
  | succ i =>
   obtain ⟨t',e⟩:=ih i (by simpa using h)
   exact ⟨t',by simpa [val] using e⟩
theorem al7 {ns:List Int} {i:Nat} (h:i < ns.length):val ns i∈ns:=by
 unfold val
 rw [List.getElem?_eq_getElem h]
 exact List.getElem_mem h
theorem apl {ns:List Int} {x:Int} (h:x∈ns):∃ i,i < ns.length/\val ns i=x:=by
 obtain ⟨i,hi,e⟩:=List.mem_iff_getElem.mp h
 exact ⟨i,hi,by unfold val;rw [List.getElem?_eq_getElem hi];exact e⟩
section
variable {prog:Program} {w:World} {A:Around} {E:Value->Shared->Prop} {s:Shared}
theorem max_list {l:Addr} {us:List Value} {ns:List Int} {Q:Value->Shared->Prop} (hh:A.handled=none) (hl:s.heap.IsList l us.toArray) (hi:IntsAre us ns) (hne:ns ≠ [])
  (h:∀ m t h' tk,m∈ns->(∀ x∈ns,x<=m)->(∀ b o,s.heap.get? b=some o->h'.get? b=some o)->Q (.int m t) { s with heap:=h',toks:=tk }) :
  wpAny (model prog w) A (call (.builtin "max") [.ref l]) Q E s:=by
 have hlt:l < s.heap.objs.size:=by obtain ⟨_,e,_⟩:=hl;exact Heap.lt_size e
 have hz:us.length=ns.length:=hi.length
 have hp:0 < ns.length:=List.length_pos_iff.mpr hne
 refine call_max_walk (wpAny_pyIter_list hl ?_)
 refine ⟨_,[s.heap.objs.size,l],_,_,_,_,_,rfl,Walks.list (A:=A.in1) hh _ l (Nat.ne_of_lt hlt) us.toArray,⟨⟨_,Heap.get?_push_size _ rfl,rfl,rfl⟩,hl.push _⟩,fun b hb=>?_,by simp;row_cond lo,CmpOf.ints_gt (val ns) (fun i v=>agc hi i v),fun v h' tk hP hk=>?_⟩
 ·show b < (s.heap.push _).objs.size
  rw [Heap.size_push]
  rcases List.mem_cons.mp hb with rfl | hb
  ·exact Nat.lt_succ_self _
  ·rcases List.mem_cons.mp hb with rfl | hb
   ·exact Nat.lt_succ_of_lt hlt
   ·cases hb
 ·obtain ⟨t,e⟩:=agc hi _ _ hP
  obtain ⟨b1,b2⟩:=ag5 (val ns) (us.toArray.size - 1)
  have hs:us.toArray.size=ns.length:=by simp [hz]
  rw [hs] at b1 b2
  subst e
  refine h _ t h' tk (al7 (by rw [hs];row_cond lo)) (fun x hx=>?_) fun b o e=>?_
  ·obtain ⟨i,hi',e⟩:=apl hx
   have:=b2 i (by row_cond lo)
   rw [e] at this
   rw [hs]
   exact this
  ·refine hk b o (fun hm=>?_) (Heap.get?_push_of_some _ e)
   rcases List.mem_cons.mp hm with e1 | hm
   ·exact absurd (e1 ▸ Heap.lt_size e) (Nat.lt_irrefl _)
   ·cases hm
theorem max_tup {l:Addr} {us:List Value} {ns:List Int} {Q:Value->Shared->Prop} (hh:A.handled=none) (hl:s.heap.IsTuple l us.toArray) (hi:IntsAre us ns) (hne:ns ≠ [])
  (h:∀ m t h' tk,m∈ns->(∀ x∈ns,x<=m)->(∀ b o,s.heap.get? b=some o->h'.get? b=some o)->Q (.int m t) { s with heap:=h',toks:=tk }) :
  wpAny (model prog w) A.in1 (pyIter (.ref l)) (fun it s₂=>∃ I fp wr n P St bt,it=.ref I/\Walks prog w A.in1 I fp wr n P St/\St 0 s₂.heap/\(∀ b∈fp,b < s₂.heap.objs.size)/\0 < n/\CmpOf prog w A.in1 .Gt P bt /\
   ∀ v h' tk,P (argBest bt (n - 1)) v->(∀ b o,b ∉ wr->s₂.heap.get? b=some o->h'.get? b=some o)->Q v { s₂ with heap:=h',toks:=tk }) E s:=by
 have hlt:l < s.heap.objs.size:=by obtain ⟨_,e,_⟩:=hl;exact Heap.lt_size e
 have hz:us.length=ns.length:=hi.length
 have hp:0 < ns.length:=List.length_pos_iff.mpr hne
 refine wpAny_pyIter_tuple hl ?_
 refine ⟨_,[s.heap.objs.size,l],[_],_,_,_,_,rfl,Walks.tuple (A:=A.in1) hh _ l (Nat.ne_of_lt hlt) us.toArray,⟨⟨_,Heap.get?_push_size _ rfl,rfl,rfl⟩,hl.push _⟩,fun b hb=>?_,by simp;row_cond lo,CmpOf.ints_gt (val ns) (fun i v=>agc hi i v),fun v h' tk hP hk=>?_⟩
 ·show b < (s.heap.push _).objs.size
  rw [Heap.size_push]
  rcases List.mem_cons.mp hb with rfl | hb
  ·exact Nat.lt_succ_self _
  ·rcases List.mem_cons.mp hb with rfl | hb
   ·exact Nat.lt_succ_of_lt hlt
   ·cases hb
 ·obtain ⟨t,e⟩:=agc hi _ _ hP
  obtain ⟨b1,b2⟩:=ag5 (val ns) (us.toArray.size - 1)
  have hs:us.toArray.size=ns.length:=by simp [hz]
  rw [hs] at b1 b2
  subst e
  refine h _ t h' tk (al7 (by rw [hs];row_cond lo)) (fun x hx=>?_) fun b o e=>?_
  ·obtain ⟨i,hi',e⟩:=apl hx
   have:=b2 i (by row_cond lo)
   rw [e] at this
   rw [hs]
   exact this
  ·refine hk b o (fun hm=>?_) (Heap.get?_push_of_some _ e)
   rcases List.mem_cons.mp hm with e1 | hm
   ·exact absurd (e1 ▸ Heap.lt_size e) (Nat.lt_irrefl _)
   ·cases hm
end
end HT
namespace L2
open PySem PySem.Spec PyProof.Rows
section
variable {X:Cx}
def agd (ns:List Int) (m:Int):Prop:=m∈ns/\∀ x∈ns,x<=m
def ano (K:PySem.W.Frag):List V->Hp->VK->Prop:=fun xs H Q=>∃ (a:Addr) (ns:List Int),xs=[.ref a]/\(SqL K H a (ns.map V.int)\/SqT K H a (ns.map V.int))/\ns ≠ []/\∀ m,agd ns m->Q (.int m) H
theorem ah0 (hc:X.calm=true):abh X (.builtin "max") (ano X.K):=by
 intro pins s σ H xs us Q I r h
 obtain ⟨a,ns,rfl,ha,hne,q⟩:=h
 obtain ⟨u,rfl,ru⟩:=acu r
 cases ru
 rcases ha with ha | ha
 ·obtain ⟨its,r1,p1,_⟩:=I.list ha
  have i1:IntsAre its.toArray.toList ns:=adb r1
  exact HT.max_list (I.ok.hd hc) p1.isList (by simpa using i1) hne fun m t h' tk m1 m2 kp=>⟨.int m,H,I.kept kp,⟨_,rfl⟩,q m ⟨m1,m2⟩⟩
 ·obtain ⟨its,r1,p1,_⟩:=I.tuple ha
  have i1:IntsAre its.toArray.toList ns:=adb r1
  refine call_max_walk (HT.max_tup (I.ok.hd hc) p1 (by simpa using i1) hne fun m t h' tk m1 m2 kp=>⟨.int m,H,I.kept kp,⟨_,rfl⟩,q m ⟨m1,m2⟩⟩)
end
end L2
namespace L2
open PySem PySem.Spec PyProof.Rows
def tTru (K:PySem.W.Frag) (ta:TE):TT:=fun σ H Q=>ta σ H fun x H'=>∃ k,TruV K x H' k/\Q k H'
def rIsN:R2:=fun x y H Q=>y=.non/\Q (.bl (decide (x=.non))) H
def atc:R2:=fun x y H Q=>y=.non/\Q (.bl (!decide (x=.non))) H
section
variable {X:Cx} {a:Expr} {ta:TE}
theorem aw4 (ha:PE X a ta) (he:∀ whole,isTrue a X.env whole=(do let v ← whole;standAt a.pos;holding [v] (truthy v)):=by intro _;rfl):PT X a (tTru X.K ta):=aqx ha he
def ab5 (K:PySem.W.Frag):R2:=fun x y H Q=>rIxL K x y H Q\/rIxT K x y H Q
theorem aat:IxR X (ab5 X.K):=ix_list.or awp
theorem at9 {i j n:Int} {x1 x2:Nat} {p1 p2 pos:Pos} (h:i ^ j.toNat=n) (hc:CPow i j):PE X (.BinOp (.Constant (.int i) x1 p1) .Pow (.Constant (.int j) x2 p2) pos) (tC (.int n)):=by
 intro pins s σ H Q I q
 subst h
 exact aau awk aae aae pins s σ H Q I ⟨i,j,rfl,rfl,hc,q⟩
theorem afa:OpR X (compareOp .Is) rIsN:=awl
theorem arc:OpR X (compareOp .IsNot) atc:=atx
end
section
variable {σ:St} {H:Hp} {D:Ends} {K:PySem.W.Frag}
theorem aec {a:Addr} {xs:List V} {i:Int} {v:V} {Q:VK} (ha:H a=some (.lst xs)) (hv:atI xs i=some v) (h:Q v H):ab5 K (.ref a) (.int i) H Q:=.inl (awy ha hv h)
theorem ard {a:Addr} {xs:List V} {i:Int} {v:V} {Q:VK} (ha:H a=some (.tup xs)) (hv:atI xs i=some v) (h:Q v H):ab5 K (.ref a) (.int i) H Q:=.inr (awz ha hv h)
theorem arf {a:Addr} {xs:List V} {i:Int} {v:V} {Q:VK} (ha:SqL K H a xs) (hv:atI xs i=some v) (h:Q v H):ab5 K (.ref a) (.int i) H Q:=.inl (aw1 ha hv h)
theorem abn {A B:Prop} (h:A):if true=true then A else B:=by rw [if_pos rfl];exact h
theorem aby {A B:Prop} (h:B):if false=true then A else B:=by rw [if_neg Bool.false_ne_true];exact h
theorem al8 {A B:Prop} (h:B):if (!true)=true then A else B:=by rw [if_neg (by decide)];exact h
theorem arh {c:Prop} [Decidable c] {A B:Prop} (hc:c) (h:B):if (!decide c)=true then A else B:=by rw [decide_eq_true hc];exact al8 h
theorem afr {K:PySem.W.Frag}:PySem.W.kitOne K (.type "NoneType") (.type "int")=some false:=by first | rfl | decide
theorem afh {K:PySem.W.Frag}:PySem.W.kitOne K (.type "NoneType") (.type "bool")=some false:=by first | rfl | decide
theorem aew {K:PySem.W.Frag}:PySem.W.kitOne K (.type "NoneType") (.type "tuple")=some false:=by first | rfl | decide
theorem afi {K:PySem.W.Frag}:PySem.W.kitOne K (.type "NoneType") (.type "list")=some false:=by first | rfl | decide
theorem afs {K:PySem.W.Frag}:PySem.W.kitOne K (.type "NoneType") (.type "str")=some false:=by first | rfl | decide
theorem afj {K:PySem.W.Frag}:PySem.W.kitOne K (.type "NoneType") (.type "dict")=some false:=by first | rfl | decide
theorem ajy {K:PySem.W.Frag}:PySem.W.kitOne K (.type "bool") (.type "int")=some true:=by first | rfl | decide
theorem aip {K:PySem.W.Frag}:PySem.W.kitOne K (.type "bool") (.type "bool")=some true:=by first | rfl | decide
theorem ag6 {K:PySem.W.Frag}:PySem.W.kitOne K (.type "bool") (.type "tuple")=some false:=by first | rfl | decide
theorem aiq {K:PySem.W.Frag}:PySem.W.kitOne K (.type "bool") (.type "list")=some false:=by first | rfl | decide
theorem ajz {K:PySem.W.Frag}:PySem.W.kitOne K (.type "bool") (.type "str")=some false:=by first | rfl | decide
theorem air {K:PySem.W.Frag}:PySem.W.kitOne K (.type "bool") (.type "dict")=some false:=by first | rfl | decide
theorem ale {K:PySem.W.Frag}:PySem.W.kitOne K (.type "int") (.type "int")=some true:=by first | rfl | decide
theorem aj0 {K:PySem.W.Frag}:PySem.W.kitOne K (.type "int") (.type "bool")=some false:=by first | rfl | decide
theorem ais {K:PySem.W.Frag}:PySem.W.kitOne K (.type "int") (.type "tuple")=some false:=by first | rfl | decide
theorem aj1 {K:PySem.W.Frag}:PySem.W.kitOne K (.type "int") (.type "list")=some false:=by first | rfl | decide
theorem alf {K:PySem.W.Frag}:PySem.W.kitOne K (.type "int") (.type "str")=some false:=by first | rfl | decide
theorem aj2 {K:PySem.W.Frag}:PySem.W.kitOne K (.type "int") (.type "dict")=some false:=by first | rfl | decide
theorem alg {K:PySem.W.Frag}:PySem.W.kitOne K (.type "str") (.type "int")=some false:=by first | rfl | decide
theorem aj3 {K:PySem.W.Frag}:PySem.W.kitOne K (.type "str") (.type "bool")=some false:=by first | rfl | decide
theorem ait {K:PySem.W.Frag}:PySem.W.kitOne K (.type "str") (.type "tuple")=some false:=by first | rfl | decide
theorem aj4 {K:PySem.W.Frag}:PySem.W.kitOne K (.type "str") (.type "list")=some false:=by first | rfl | decide
theorem alh {K:PySem.W.Frag}:PySem.W.kitOne K (.type "str") (.type "str")=some true:=by first | rfl | decide
theorem aj5 {K:PySem.W.Frag}:PySem.W.kitOne K (.type "str") (.type "dict")=some false:=by first | rfl | decide
theorem aj6 {K:PySem.W.Frag}:PySem.W.kitOne K (.type "list") (.type "int")=some false:=by first | rfl | decide
theorem aiu {K:PySem.W.Frag}:PySem.W.kitOne K (.type "list") (.type "bool")=some false:=by first | rfl | decide
theorem ag7 {K:PySem.W.Frag}:PySem.W.kitOne K (.type "list") (.type "tuple")=some false:=by first | rfl | decide
theorem aiv {K:PySem.W.Frag}:PySem.W.kitOne K (.type "list") (.type "list")=some true:=by first | rfl | decide
theorem aj7 {K:PySem.W.Frag}:PySem.W.kitOne K (.type "list") (.type "str")=some false:=by first | rfl | decide
theorem aiw {K:PySem.W.Frag}:PySem.W.kitOne K (.type "list") (.type "dict")=some false:=by first | rfl | decide
theorem aix {K:PySem.W.Frag}:PySem.W.kitOne K (.type "tuple") (.type "int")=some false:=by first | rfl | decide
theorem ag8 {K:PySem.W.Frag}:PySem.W.kitOne K (.type "tuple") (.type "bool")=some false:=by first | rfl | decide
theorem age {K:PySem.W.Frag}:PySem.W.kitOne K (.type "tuple") (.type "tuple")=some true:=by first | rfl | decide
theorem ag9 {K:PySem.W.Frag}:PySem.W.kitOne K (.type "tuple") (.type "list")=some false:=by first | rfl | decide
theorem aiy {K:PySem.W.Frag}:PySem.W.kitOne K (.type "tuple") (.type "str")=some false:=by first | rfl | decide
theorem aha {K:PySem.W.Frag}:PySem.W.kitOne K (.type "tuple") (.type "dict")=some false:=by first | rfl | decide
theorem aj8 {K:PySem.W.Frag}:PySem.W.kitOne K (.type "dict") (.type "int")=some false:=by first | rfl | decide
theorem aiz {K:PySem.W.Frag}:PySem.W.kitOne K (.type "dict") (.type "bool")=some false:=by first | rfl | decide
theorem ahb {K:PySem.W.Frag}:PySem.W.kitOne K (.type "dict") (.type "tuple")=some false:=by first | rfl | decide
theorem ai0 {K:PySem.W.Frag}:PySem.W.kitOne K (.type "dict") (.type "list")=some false:=by first | rfl | decide
theorem aj9 {K:PySem.W.Frag}:PySem.W.kitOne K (.type "dict") (.type "str")=some false:=by first | rfl | decide
theorem ai1 {K:PySem.W.Frag}:PySem.W.kitOne K (.type "dict") (.type "dict")=some true:=by first | rfl | decide
end
end L2
namespace L2
open PySem
section
variable {σ:St} {H:Hp} {K:PySem.W.Frag}
theorem abp {p:Addr} {o:HO} (hp:H p=none):Same H (upd H p o):=fun b u e=>by rw [aac (aak e hp)];exact e
theorem Same.new {H H':Hp} {q:Addr} {o:HO} (s:Same H H') (h:H' q=none):Same H (upd H' q o):=fun b u e=>by
 have:=s b u e
 rw [aac (aak this h)];exact this
theorem Same.set {H H':Hp} {q:Addr} {o:HO} (s:Same H H') (h:H q=none):Same H (upd H' q o):=fun b u e=>by
 have:=s b u e
 rw [aac (aak e h)];exact this
theorem Same.at {H H':Hp} {b:Addr} {o:HO} (s:Same H H') (h:H b=some o):H' b=some o:=s b o h
end
end L2
namespace L2
open PySem
section
variable {σ:St} {H:Hp} {K:PySem.W.Frag}
end
end L2
namespace Gr
inductive Walk (T:Int->Int->Prop) (u:Int):Nat->Int->Prop
 | refl:Walk T u 0 u
 | step {k:Nat} {v w:Int}:Walk T u k v->T v w->Walk T u (k+1) w
def Dist (T:Int->Int->Prop) (u v:Int) (d:Nat):Prop:=Walk T u d v/\∀ k,Walk T u k v->d<=k
theorem Dist.uniq {T:Int->Int->Prop} {u v:Int} {d e:Nat} (h:Dist T u v d) (g:Dist T u v e):d=e:=Nat.le_antisymm (h.2 _ g.1) (g.2 _ h.1)
theorem Dist.self (T:Int->Int->Prop) (u:Int):Dist T u u 0:=⟨.refl,fun _ _=>Nat.zero_le _⟩
theorem Dist.of_walk {T:Int->Int->Prop} {u v:Int} {k:Nat} (h:Walk T u k v):∃ d,d<=k/\Dist T u v d:=by
 induction k using Nat.strongRecOn with
 | ind k ih =>
  by_cases hx:∃ j,j < k/\Walk T u j v
  ·obtain ⟨j,hj,w⟩:=hx
   obtain ⟨d,hd,e⟩:=ih j hj w
   exact ⟨d,by row_cond lo,e⟩
  ·refine ⟨k,Nat.le_refl _,h,fun j w=>?_⟩
   by_cases hj:j < k
   ·exact absurd ⟨j,hj,w⟩ hx
   ·row_cond lo
theorem Dist.pred {T:Int->Int->Prop} {u w:Int} {d:Nat} (h:Dist T u w (d+1)):∃ v,T v w/\Dist T u v d:=by
 obtain ⟨hw,hm⟩:=h
 cases hw with
 | step hv ht =>
  rename_i v
  refine ⟨v,ht,hv,fun k hk=>?_⟩
  have:=hm (k+1) (.step hk ht)
  row_cond lo
theorem Dist.next {T:Int->Int->Prop} {u v w:Int} {d:Nat} (h:Dist T u v d) (t:T v w):∃ e,e<=d+1/\Dist T u w e:=Dist.of_walk (.step h.1 t)
structure Bfs (T:Int->Int->Prop) (a:Int) (line:List Int) (ds:List Nat) (at_:Nat):Prop where
 len:ds.length=line.length
 fst:line[0]?=some a
 nd:line.Nodup
 le:at_<=line.length
 dist:∀ (i:Nat) v d,line[i]?=some v->ds[i]?=some d->Dist T a v d
 mono:∀ (i j:Nat) d e,i<=j->ds[i]?=some d->ds[j]?=some e->d<=e
 near:∀ (i j:Nat) d e,at_<=i->ds[i]?=some d->ds[j]?=some e->e<=d+1
 done:∀ (i:Nat) v w,i < at_->line[i]?=some v->T v w->w∈line
theorem Bfs.start (T:Int->Int->Prop) (a:Int):Bfs T a [a] [0] 0:=by
 refine ⟨rfl,rfl,by simp,Nat.zero_le _,fun i v d h1 h2=>?_,fun i j d e h h1 h2=>?_,fun i j d e h h1 h2=>?_,fun i v w h=>absurd h (by row_cond lo)⟩
 ·match i,h1,h2 with
  | 0,h1,h2=>simp at h1 h2;subst h1 h2;exact Dist.self T a
  | i+1,h1,_=>simp at h1
 ·match j,h2 with
  | 0,h2 =>
   have:i=0:=by row_cond lo
   subst this
   rw [h1] at h2;cases h2;exact Nat.le_refl _
  | j+1,h2=>simp at h2
 ·match i,j,h1,h2 with
  | 0, 0, h1, h2 => rw [h1] at h2; cases h2; row_cond lo
  | i+1,_,h1,_=>simp at h1
  | 0,j+1,_,h2=>simp at h2
theorem Bfs.all {T:Int->Int->Prop} {a:Int} {line:List Int} {ds:List Nat} {at_:Nat} {d:Nat} (b:Bfs T a line ds at_) (hd:ds[at_]?=some d) :
  ∀ k w,k<=d->Dist T a w k->w∈line:=by
 intro k
 induction k with
 | zero =>
  intro w _ h
  have:w=a:=by
   cases h.1;rfl
  subst this
  exact List.mem_of_getElem? b.fst
 | succ k ih =>
  intro w hk h
  obtain ⟨v,tv,dv⟩:=h.pred
  have hv:=ih v (by row_cond lo) dv
  obtain ⟨i,hi,e⟩:=List.mem_iff_getElem.mp hv
  have e1:line[i]?=some v:=by rw [List.getElem?_eq_getElem hi,e]
  have hi2:i < ds.length:=by rw [b.len];exact hi
  have e2:ds[i]?=some ds[i]:=List.getElem?_eq_getElem hi2
  have e3:=(b.dist i v _ e1 e2).uniq dv
  by_cases hlt:i < at_
  ·exact b.done i v w hlt e1 tv
  ·have:=b.mono at_ i d _ (by row_cond lo) hd e2
   row_cond lo
theorem Bfs.add {T:Int->Int->Prop} {a:Int} {line:List Int} {ds:List Nat} {at_:Nat} {p w:Int} {d:Nat} (b:Bfs T a line ds at_) (hp:line[at_]?=some p) (hd:ds[at_]?=some d) (t:T p w) (hw:w ∉ line) :
  Bfs T a (line ++ [w]) (ds ++ [d+1]) at_:=by
 have hlt:at_ < line.length:=(List.getElem?_eq_some_iff.mp hp).1
 have dw:Dist T a w (d+1):=by
  obtain ⟨e,he,h⟩:=(b.dist _ _ _ hp hd).next t
  by_cases h2:e<=d
  ·exact absurd (b.all hd e w h2 h) hw
  ·have:e=d+1:=by row_cond lo
   rw [← this];exact h
 have hds:∀ (j:Nat) e,(ds ++ [d+1])[j]?=some e->(ds[j]?=some e)\/(j=ds.length/\e=d+1):=by
  intro j e h
  rw [List.getElem?_append] at h
  split at h
  ·exact .inl h
  ·rename_i hj
   right
   have:j - ds.length=0:=by
    match hz:j - ds.length,h with
    | 0,_=>rfl
    | k+1,h=>simp at h
   rw [this] at h
   simp at h
   exact ⟨by row_cond lo,h.symm⟩
 refine ⟨by simp [b.len],?_,?_,by simp;row_cond lo,fun i v e h1 h2=>?_,fun i j x y h h1 h2=>?_,fun i j x y h h1 h2=>?_,fun i v u h h1 tu=>?_⟩
 ·rw [List.getElem?_append_left (by row_cond lo)];exact b.fst
 ·rw [List.nodup_append]
  exact ⟨b.nd,by simp,fun x hx y hy=>by simp at hy;subst hy;intro e;subst e;exact hw hx⟩
 ·rcases hds _ _ h2 with h2 | ⟨ei,ed⟩
  ·have hi:i < ds.length:=(List.getElem?_eq_some_iff.mp h2).1
   rw [List.getElem?_append_left (by rw [← b.len];exact hi)] at h1
   exact b.dist i v e h1 h2
  ·subst ed
   rw [List.getElem?_append_right (by rw [← b.len];row_cond lo)] at h1
   have:i - line.length=0:=by rw [← b.len];row_cond lo
   rw [this] at h1
   simp at h1;subst h1
   exact dw
 ·rcases hds _ _ h1 with h1 | ⟨ei,ed⟩
  ·rcases hds _ _ h2 with h2 | ⟨ej,ed⟩
   ·exact b.mono i j x y h h1 h2
   ·subst ed
    by_cases hia:at_<=i
    ·exact b.near at_ i d x (Nat.le_refl _) hd h1
    ·have:=b.mono i at_ x d (by row_cond lo) h1 hd;row_cond lo
  ·rcases hds _ _ h2 with h2 | ⟨ej,ed2⟩
   ·have:=(List.getElem?_eq_some_iff.mp h2).1;row_cond lo
   ·row_cond lo
 ·rcases hds _ _ h1 with h1 | ⟨ei,ed⟩
  ·rcases hds _ _ h2 with h2 | ⟨ej,ed⟩
   ·exact b.near i j x y h h1 h2
   ·subst ed
    have:=b.mono at_ i d x h hd h1;row_cond lo
  ·subst ed
   rcases hds _ _ h2 with h2 | ⟨ej,ed⟩
   ·have:=b.near at_ j d y (Nat.le_refl _) hd h2;row_cond lo
   ·row_cond lo
 ·rw [List.getElem?_append_left (by row_cond lo)] at h1
  exact List.mem_append_left _ (b.done i v u h h1 tu)
theorem Bfs.next {T:Int->Int->Prop} {a:Int} {line:List Int} {ds:List Nat} {at_:Nat} {p:Int} (b:Bfs T a line ds at_) (hp:line[at_]?=some p) (h:∀ w,T p w->w∈line):Bfs T a line ds (at_+1):=by
 have hlt:at_ < line.length:=(List.getElem?_eq_some_iff.mp hp).1
 refine ⟨b.len,b.fst,b.nd,hlt,b.dist,b.mono,fun i j d e hi=>b.near i j d e (by row_cond lo),fun i v w hi h1 t=>?_⟩
 by_cases e:i=at_
 ·subst e
  rw [hp] at h1;cases h1
  exact h w t
 ·exact b.done i v w (by row_cond lo) h1 t
theorem Bfs.fin {T:Int->Int->Prop} {a:Int} {line:List Int} {ds:List Nat} (b:Bfs T a line ds line.length):∀ k w,Walk T a k w->w∈line:=by
 intro k w h
 induction h with
 | refl=>exact List.mem_of_getElem? b.fst
 | step _ t ih =>
  obtain ⟨i,hi,e⟩:=List.mem_iff_getElem.mp ih
  exact b.done i _ _ hi (by rw [List.getElem?_eq_getElem hi,e]) t
end Gr
namespace L2
open PySem PySem.Spec PyProof.Rows
section
variable {σ:St} {H:Hp} {D:Ends} {K:PySem.W.Frag}
end
theorem few_places:∀ (n:Nat) (l:List Int),l.Nodup->(∀ v∈l,0<=v/\v < (n:Int))->l.length<=n
 | 0,l,_,h=>by
  cases l with
  | nil=>simp
  | cons v r => have:=h v (by simp); row_cond lo
 | n+1,l,hn,h=>by
  have h1:=few_places n (l.erase (n:Int)) (hn.erase _) fun v hv=>by
   have hm:=List.mem_of_mem_erase hv
   have hb:=h v hm
   have hne:v ≠ (n:Int):=by
    rintro rfl
    exact absurd hv (List.Nodup.not_mem_erase hn)
   row_cond lo
  have h2:l.length<=(l.erase (n:Int)).length+1:=by
   rw [List.length_erase]
   split <;> row_cond lo
  row_cond lo
end L2
namespace L2
open PySem
end L2
namespace HT
open PySem PyProof.Rows
section
variable {prog:Program} {w:World} {A:Around} {E:Value->Shared->Prop} {s:Shared}
end
end HT
namespace L2
open PySem PySem.Spec PyProof.Rows
section
variable {X:Cx}
end
end L2
namespace L2
open PySem PySem.Spec PyProof.Rows
section
variable {X:Cx} {pins:List (Addr × Obj)} {σ:St} {H:Hp} {s:Shared} {A:Around} {E:Value->Shared->Prop} {Q:Value->Shared->Prop} {b:Bool}
theorem anp {x:V} {u t:Value} {tp:Addr} {dd:Option Addr} {its:List Value} {n:Nat} {sl:Array (Option Value)} (I:Inv X pins σ H s) (rx:RelV x u) (ty:TyOf X.K H x t)
  (htp:s.heap.get? tp=some ⟨.type "tuple",dd,.seq its.toArray n,sl⟩) (e:PySem.W.kitAny X.K t its=some b) (h:∀ tk,Q (.bool b) { s with toks:=tk }) :
  wpAny (model X.prog X.w) A (call (.builtin "isinstance") [u,.ref tp]) Q E s:=by
 cases ty with
 | non=>cases (show u=Value.none from rx);exact PySem.W.kia_tup PySem.W.kitx_none I.kIn True.intro htp e (fun z=>nomatch z) h
 | bl y=>cases (show u=Value.bool y from rx);exact PySem.W.kia_tup PySem.W.kitx_bool I.kIn True.intro htp e (fun z=>nomatch z) h
 | int i=>obtain ⟨t,q⟩:=(show ∃ t,u=Value.int i t from rx);cases q;exact PySem.W.kia_tup PySem.W.kitx_int I.kIn True.intro htp e (fun z=>nomatch z) h
 | str y=>obtain ⟨t,q⟩:=(show ∃ t,u=Value.str y t from rx);cases q;exact PySem.W.kia_tup PySem.W.kitx_str I.kIn True.intro htp e (fun z=>nomatch z) h
 | flt y=>obtain ⟨t,q⟩:=(show ∃ t,u=Value.float y t from rx);cases q;exact PySem.W.kia_tup PySem.W.kitx_float I.kIn True.intro htp e (fun z=>nomatch z) h
 | @lst a xs ea =>
  cases (show u=Value.ref a from rx)
  obtain ⟨_,_,n,_,h1⟩:=(show ObjOk X.prog X.w H s.heap a (.lst xs) from I.hok a _ ea)
  exact PySem.W.kia_tup PySem.W.kitx_list I.kIn ⟨_,h1,rfl⟩ htp e (fun z=>nomatch z) h
 | @frz a ob xs ea =>
  cases (show u=Value.ref a from rx)
  obtain ⟨_,_,_,n,_,h1⟩:=(show ObjOk X.prog X.w H s.heap a (.frz ob (.lst xs)) from I.hok a _ ea)
  exact PySem.W.kia_tup PySem.W.kitx_list I.kIn ⟨_,h1,rfl⟩ htp e (fun z=>nomatch z) h
 | @tup a xs ea =>
  cases (show u=Value.ref a from rx)
  obtain ⟨_,_,_,p⟩:=(show ObjOk X.prog X.w H s.heap a (.tup xs) from I.hok a _ ea)
  obtain ⟨o,h1,h2,_⟩:=p
  exact PySem.W.kia_tup PySem.W.kitx_tuple I.kIn ⟨o,h1,h2⟩ htp e (fun z=>nomatch z) h
 | @dK a kvs ea =>
  cases (show u=Value.ref a from rx)
  obtain ⟨_,_,vs,_,p⟩:=(show ObjOk X.prog X.w H s.heap a (.dK kvs) from I.hok a _ ea)
  obtain ⟨o,es,ep,h1,h2,_⟩:=p
  exact PySem.W.kia_tup PySem.W.kitx_dict I.kIn ⟨o,h1,h2.1⟩ htp e (fun z=>nomatch z) h
 | @dT a kvs ea =>
  cases (show u=Value.ref a from rx)
  obtain ⟨_,_,xs,_,o,es,ep,h1,h2,_⟩:=(show ObjOk X.prog X.w H s.heap a (.dT kvs) from I.hok a _ ea)
  exact PySem.W.kia_tup PySem.W.kitx_dict I.kIn ⟨o,h1,h2.1⟩ htp e (fun z=>nomatch z) h
 | @ins a C dx fs ea cl ha hn htk hm =>
  cases (show u=Value.ref a from rx)
  obtain ⟨mA,O,_⟩:=ins_get I.hok ea
  obtain ⟨od,J,_⟩:=O.look
  exact PySem.W.kia_tup (PySem.W.kitx_own (cl.get _) cl.hd ha hn htk hm) I.kIn J htp e (fun z=>nomatch z) h
end
section
variable {X:Cx}
theorem aka:∀ {Ts:List String} {us:List Value},Vals (Ts.map V.ty) us->us=Ts.map Value.type
 | [],_,.nil=>rfl
 | T :: Ts,_,.cons r t=>by
  rw [List.map_cons,← aka t,show _=Value.type T from r]
def atd (K:PySem.W.Frag):List V->Hp->VK->Prop:=fun xs H Q=>∃ (x:V) (tp:Addr) (Ts:List String) (t:Value) (b:Bool),xs=[x,.ref tp]/\H tp=some (.tup (Ts.map V.ty))/\TyOf K H x t/\PySem.W.kitAny K t (Ts.map Value.type)=some b/\Q (.bl b) H
theorem apm:abh X (.builtin "isinstance") (atd X.K):=by
 intro pins s σ H xs us Q I r h
 obtain ⟨x,tp,Ts,t,b,rfl,htp,ty,e,q⟩:=h
 obtain ⟨u,c,rfl,ru,rc⟩:=af4 r
 cases rc
 obtain ⟨_,its,rv,o,e1,e2,n,e3⟩:=(show ObjOk X.prog X.w H s.heap tp (.tup (Ts.map V.ty)) from I.hok tp _ htp)
 have:=aka rv
 subst this
 obtain ⟨oc,od,dt,sl⟩:=o
 simp only at e2 e3
 subst e2 e3
 exact anp I ru ty e1 e fun tk=>⟨.bl b,H,I.tok _,rfl,q⟩
end
mutual
noncomputable def ltv:PyData->PyData->Bool
 | .int a,.int b=>decide (a < b)
 | .tuple xs,.tuple ys=>ltvs xs ys
 | _,_=>false
noncomputable def ltvs:List PyData->List PyData->Bool
 | [],[]=>false
 | [],_ :: _=>true
 | _ :: _,[]=>false
 | x :: xs,y :: ys=>if PyData.eqv x y then ltvs xs ys else ltv x y
end
mutual
noncomputable def cmpD:PyData->PyData->Bool
 | .int _,.int _=>true
 | .tuple xs,.tuple ys=>cmpDs xs ys
 | _,_=>false
noncomputable def cmpDs:List PyData->List PyData->Bool
 | x :: xs,y :: ys=>cmpD x y && cmpDs xs ys
 | _,_=>true
end
end L2
namespace HT
open PySem PyProof.Rows L2
def LtAt (A:Around) (s:Shared) (y x:Value) (b:Bool):Prop :=
 ∀ (prog:Program) (w:World) (E:Value->Shared->Prop) (Q:Value->Shared->Prop),Q (.bool b) s->wpAny (model prog w) A (richCompare .Lt y x) Q E s
section
open PySem.SeqAt
open PySem.AutoSeq1 (wpAny_loadPart')
open PySem.MeetsSeq PySem.MeetsSeq2 PySem.MeetsSeq3
inductive Its (A:Around) (s:Shared):List Value->List Value->Bool->Prop
 | nn:Its A s [] [] false
 | nc {x:Value} {ys:List Value}:Its A s [] (x :: ys) true
 | cn {x:Value} {xs:List Value}:Its A s (x :: xs) [] false
 | eq {x y:Value} {xs ys:List Value} {b:Bool}:EqAt A s x y true->Its A s xs ys b->Its A s (x :: xs) (y :: ys) b
 | ne {x y:Value} {xs ys:List Value} {b:Bool}:EqAt A s x y false->LtAt A s x y b->Its A s (x :: xs) (y :: ys) b
theorem akb (l b:Addr) (items items2:Array Value) (n n2:Nat) (dd dd2:Option Addr) (sl sl2:Array (Option Value)) (r:Bool) :
  Meets (Builtin.«tuple.__lt__» ⟨[.ref l,.ref b],[]⟩)
   (fun A R s=>s.heap.get? l=some { cls:=.type "tuple",dict:=dd,data:=.seq items n,slots:=sl }/\s.heap.get? b=some { cls:=.type "tuple",dict:=dd2,data:=.seq items2 n2,slots:=sl2 } /\
    Its A.in1 s items.toList items2.toList r/\R (.ok (.ret (.bool r))) s) :=
 .of_wp fun prog w A R s h=>by
  obtain ⟨hp,g,d,tk,os⟩:=s;obtain ⟨hl,hb,hi,h⟩:=h
  have f2:=AutoSeq1.sub_tuple_tuple
  wp_walk using wpAny_loadPart' hl,wpAny_loadPart' hb,wpAny_forIn_list _ (fun rest b s'=>b.1=none/\s'=⟨hp,g,d,tk,os⟩/\∃ (vs ws:List Value),rest=vs.zip ws /\
   vs.length+items2.size=ws.length+items.size/\Its A.in1 ⟨hp,g,d,tk,os⟩ vs ws r) _
  case turn =>
   rintro ⟨y,x⟩ rest b s' ⟨hb',rfl,vs,ws,hz,hlen,hI⟩
   cases hI with
   | nn=>cases hz
   | nc=>cases hz
   | cn=>cases hz
   | eq he hI' =>
    rw [List.zip_cons_cons] at hz
    injection hz with hyx hrest
    injection hyx with hy hx
    subst hy hx
    simp only [List.length_cons] at hlen
    refine wpAny_bind (he prog w _ _ ?_)
    wp_walk
    exact ⟨rfl,rfl,_,_,hrest,by row_cond lo,hI'⟩
   | ne he hlt =>
    rw [List.zip_cons_cons] at hz
    injection hz with hyx hrest
    injection hyx with hy hx
    subst hy hx
    refine wpAny_bind (he prog w _ _ ?_)
    have hri:=hlt prog w
    wp_walk using hri
    exact ⟨_,rfl,by simpa using h⟩
  case fin =>
   rintro ⟨b1,b2⟩ s' ⟨hb',rfl,vs,ws,hz,hlen,hI⟩
   simp only at hb'
   subst hb'
   have hv:r=decide (items.size < items2.size):=by
    cases hI with
    | nn =>
     simp only [List.length_nil] at hlen
     exact (decide_eq_false (by row_cond lo)).symm
    | nc =>
     simp only [List.length_nil,List.length_cons] at hlen
     exact (decide_eq_true (by row_cond lo)).symm
    | cn =>
     simp only [List.length_nil,List.length_cons] at hlen
     exact (decide_eq_false (by row_cond lo)).symm
    | eq=>cases hz
    | ne=>cases hz
   rw [hv] at h
   wp_walk
   exact ⟨_,rfl,by simpa [Builtin.Tuple.tupleCompareSizes] using h⟩
  case h =>
   exact ⟨rfl,rfl,items.toList,items2.toList,rfl,by simp;row_cond lo,hi⟩
end
section
variable {A:Around} {s:Shared}
theorem LtAt.tup {l b:Addr} {o o2:Obj} {items items2:Array Value} {n n2:Nat} {r:Bool} (hl:s.heap.get? l=some o) (hc:o.cls=.type "tuple") (hd:o.data=.seq items n) (hb:s.heap.get? b=some o2) (hc2:o2.cls=.type "tuple") (hd2:o2.data=.seq items2 n2)
  (hu:A.units < cLine) (hi:Its A.in1 s items.toList items2.toList r):LtAt A s (.ref l) (.ref b) r:=by
 intro prog w E Q q
 obtain ⟨cls,dd,data,sl⟩:=o
 obtain ⟨cls2,dd2,data2,sl2⟩:=o2
 simp only at hc hd hc2 hd2
 subst hc hd hc2 hd2
 exact richCompare_meets_room (op:=.Lt) ⟨_,hl,rfl⟩ ⟨_,hb,rfl⟩ PySem.F.slot_tuple_lt PySem.F.entry_tuple_lt (PySem.F.args_tuple_lt_2 _ _) (akb l b items items2 n n2 dd dd2 sl sl2 r)
  ⟨hl,hb,hi,show Value.bool r ≠ Value.notImplemented/\Q (.bool r) s from ⟨(fun x=>nomatch x),q⟩⟩ hu
mutual
theorem agf:∀ (da db:PyData) (A:Around) (s:Shared) (a b:Value) (as bs:List Addr),Reads s.heap a da as->Reads s.heap b db bs->cmpD da db=true->aai da=true->aai db=true ->
  A.units+da.depth < cLine->LtAt A s a b (ltv da db)
 | .int i,.int j,A,s,_,_,_,_,.int _ t,.int _ u,_,_,_,_=>fun prog w E Q q=>aqy A s i t j u prog w E Q (by simpa [ltv] using q)
 | .tuple xs,.tuple ys,A,s,_,_,_,_,.tuple h1 h2 h3 h4,.tuple k1 k2 k3 k4,hc,pa,pb,hu=>by
  have hu':A.units+(PyData.depthAll xs+1) < cLine:=hu
  have e:ltv (.tuple xs) (.tuple ys)=ltvs xs ys:=by simp [ltv]
  rw [e]
  exact LtAt.tup h1 h2 h3 k1 k2 k3 (by row_cond lo) (its_reads xs ys A.in1 s _ _ _ _ h4 k4 (by simpa [cmpD] using hc) (by simpa [aai] using pa) (by simpa [aai] using pb) (by show A.units+1+_ < _;row_cond lo))
 | .int _,.none,_,_,_,_,_,_,_,_,hc,_,_,_=>by simp [cmpD] at hc
 | .int _,.bool _,_,_,_,_,_,_,_,_,hc,_,_,_=>by simp [cmpD] at hc
 | .int _,.str _,_,_,_,_,_,_,_,_,hc,_,_,_=>by simp [cmpD] at hc
 | .int _,.list _,_,_,_,_,_,_,_,_,hc,_,_,_=>by simp [cmpD] at hc
 | .int _,.tuple _,_,_,_,_,_,_,_,_,hc,_,_,_=>by simp [cmpD] at hc
 | .int _,.dict _,_,_,_,_,_,_,_,_,hc,_,_,_=>by simp [cmpD] at hc
 | .tuple _,.none,_,_,_,_,_,_,_,_,hc,_,_,_=>by simp [cmpD] at hc
 | .tuple _,.bool _,_,_,_,_,_,_,_,_,hc,_,_,_=>by simp [cmpD] at hc
 | .tuple _,.str _,_,_,_,_,_,_,_,_,hc,_,_,_=>by simp [cmpD] at hc
 | .tuple _,.list _,_,_,_,_,_,_,_,_,hc,_,_,_=>by simp [cmpD] at hc
 | .tuple _,.int _,_,_,_,_,_,_,_,_,hc,_,_,_=>by simp [cmpD] at hc
 | .tuple _,.dict _,_,_,_,_,_,_,_,_,hc,_,_,_=>by simp [cmpD] at hc
 | .none,_,_,_,_,_,_,_,_,_,hc,_,_,_=>by simp [cmpD] at hc
 | .bool _,_,_,_,_,_,_,_,_,_,hc,_,_,_=>by simp [cmpD] at hc
 | .str _,_,_,_,_,_,_,_,_,_,hc,_,_,_=>by simp [cmpD] at hc
 | .list _,_,_,_,_,_,_,_,_,_,hc,_,_,_=>by simp [cmpD] at hc
 | .dict _,_,_,_,_,_,_,_,_,_,hc,_,_,_=>by simp [cmpD] at hc
theorem its_reads:∀ (xs ys:List PyData) (A:Around) (s:Shared) (vs ws:List Value) (as bs:List Addr),ReadsAll s.heap vs xs as->ReadsAll s.heap ws ys bs->cmpDs xs ys=true->plainDs xs=true->plainDs ys=true ->
  A.units+PyData.depthAll xs < cLine->Its A s vs ws (ltvs xs ys)
 | [],[],_,_,_,_,_,_,.nil,.nil,_,_,_,_=>by simp only [ltvs];exact .nn
 | [],_ :: _,_,_,_,_,_,_,.nil,.cons _ _,_,_,_,_=>by simp only [ltvs];exact .nc
 | _ :: _,[],_,_,_,_,_,_,.cons _ _,.nil,_,_,_,_=>by simp only [ltvs];exact .cn
 | x :: xs,y :: ys,A,s,_,_,_,_,.cons r1 r2,.cons q1 q2,hc,pa,pb,hu=>by
  have hc':cmpD x y=true/\cmpDs xs ys=true:=by simpa [cmpDs] using hc
  have pa':aai x=true/\plainDs xs=true:=by simpa [plainDs] using pa
  have pb':aai y=true/\plainDs ys=true:=by simpa [plainDs] using pb
  have hd:PyData.depthAll (x :: xs)=max x.depth (PyData.depthAll xs):=by simp [PyData.depthAll]
  have m1:=Nat.min_le_left x.depth y.depth
  have he:=SeqAt.eqAt_reads x y A s _ _ _ _ r1 q1 (abm _ pa'.1) (abm _ pb'.1) (by row_cond lo)
  cases hq:PyData.eqv x y with
  | true =>
   rw [hq] at he
   have e:ltvs (x :: xs) (y :: ys)=ltvs xs ys:=by simp [ltvs,hq]
   rw [e]
   exact .eq he (its_reads xs ys A s _ _ _ _ r2 q2 hc'.2 pa'.2 pb'.2 (by row_cond lo))
  | false =>
   rw [hq] at he
   have e:ltvs (x :: xs) (y :: ys)=ltv x y:=by simp [ltvs,hq]
   rw [e]
   exact .ne he (agf x y A s _ _ _ _ r1 q1 hc'.1 pa'.1 pb'.1 (by row_cond lo))
end
end
end HT
namespace L2
open PySem PySem.Spec PyProof.Rows
section
variable {X:Cx}
end
end L2
namespace L2
open PySem
theorem ai2 {K:PySem.W.Frag}:PySem.W.kitAny K (.type "NoneType") ([Value.type "list",Value.type "tuple"])=some false:=by first | rfl | decide
theorem apn {K:PySem.W.Frag}:PySem.W.kitAny K (.type "bool") ([Value.type "list",Value.type "tuple"])=some false:=by first | rfl | decide
theorem ari {K:PySem.W.Frag}:PySem.W.kitAny K (.type "int") ([Value.type "list",Value.type "tuple"])=some false:=by first | rfl | decide
theorem arj {K:PySem.W.Frag}:PySem.W.kitAny K (.type "str") ([Value.type "list",Value.type "tuple"])=some false:=by first | rfl | decide
theorem apo {K:PySem.W.Frag}:PySem.W.kitAny K (.type "list") ([Value.type "list",Value.type "tuple"])=some true:=by first | rfl | decide
theorem anq {K:PySem.W.Frag}:PySem.W.kitAny K (.type "tuple") ([Value.type "list",Value.type "tuple"])=some true:=by first | rfl | decide
theorem apq {K:PySem.W.Frag}:PySem.W.kitAny K (.type "dict") ([Value.type "list",Value.type "tuple"])=some false:=by first | rfl | decide
end L2
namespace TS
open PySem PyProof.Rows HT
theorem al9:∀ x y:List Int,HT.lexLt x y=true->HT.lexLt y x=false
 | [],[],h=>by simp [HT.lexLt] at h
 | [],_ :: _,_=>rfl
 | _ :: _,[],h=>by simp [HT.lexLt] at h
 | a :: x,b :: y,h=>by
  rw [ad8] at h ⊢
  by_cases e:a=b
  ·subst e
   rw [if_pos rfl] at h ⊢
   exact al9 x y h
  ·rw [if_neg e] at h
   rw [if_neg (fun z=>e z.symm)]
   have:=of_decide_eq_true h
   exact decide_eq_false (by row_cond lo)
theorem apr:∀ x y z:List Int,HT.lexLt y x=false->HT.lexLt z y=false->HT.lexLt z x=false
 | _,[],[],h,_=>h
 | [],[],_ :: _,_,_=>rfl
 | _ :: _,[],_ :: _,h,_=>by simp [HT.lexLt] at h
 | _,_ :: _,[],_,h=>by simp [HT.lexLt] at h
 | [],_ :: _,_ :: _,_,_=>rfl
 | a :: x,b :: y,c :: z,h,g=>by
  rw [ad8] at h g ⊢
  by_cases e:b=a
  ·subst e
   rw [if_pos rfl] at h
   by_cases e2:c=b
   ·subst e2
    rw [if_pos rfl] at g ⊢
    exact apr x y z h g
   ·rw [if_neg e2] at g ⊢
    exact g
  ·rw [if_neg e] at h
   have h':=of_decide_eq_false h
   by_cases e2:c=b
   ·subst e2
    rw [if_neg e]
    exact h
   ·rw [if_neg e2] at g
    have g':=of_decide_eq_false g
    rw [if_neg (by row_cond lo)]
    exact decide_eq_false (by row_cond lo)
def TI (h:Heap) (a:Addr) (ns:List Int):Prop:=∃ o xs n,h.get? a=some o/\o.cls=.type "tuple"/\o.data=.seq xs n/\IntsAre xs.toList ns
noncomputable def kfV (kf:Addr->List Int):Value->List Int
 | .ref a=>kf a
 | _=>[]
section
variable {prog:Program} {w:World} {A:Around} {E:Value->Shared->Prop} {s:Shared}
theorem afl {fin:Bool} {Q:Bool->Shared->Prop}:∀ {xs ys:List Value} {ns ms:List Int} (i:Nat),IntsAre xs ns->IntsAre ys ms->(ns.length < ms.length->fin=true)->(ms.length<=ns.length->fin=false)->Q (HT.lexLt ns ms) s ->
  PySem.W.KatLex prog w A true fin Q (xs.zip ys) i s
 | _,_,_,_,i,.nil,.nil,_,h2,q=>by
  rw [h2 (Nat.le_refl _)];exact q
 | _,_,_,_,i,.nil,.cons b u r,h1,_,q=>by
  rw [h1 (by simp)];exact q
 | _,_,_,_,i,.cons a t r,.nil,_,h2,q=>by
  rw [List.zip_nil_right,h2 (by simp)];exact q
 | _,_,_,_,i,.cons a t r,.cons b u r2,h1,h2,q=>by
  rw [List.zip_cons_cons]
  refine PySem.W.kat_cons (SeqAt.EqAt.int_int a t b u prog w _ _ ?_)
  rw [ad8] at q
  by_cases e:a=b
  ·subst e
   rw [if_pos rfl] at q
   rw [show (a == a)=true by simp]
   exact PySem.W.kat_yes (afl (i+1) r r2 (fun z=>h1 (by simpa using z)) (fun z=>h2 (by simpa using z)) q)
  ·rw [if_neg e] at q
   rw [show (a == b)=false by simpa using e]
   refine PySem.W.kat_no ?_
   by_cases hi:i=0
   ·subst hi
    exact oneLt_int q
   ·rw [show (true && i == 0)=false by simpa using hi]
    exact PySem.W.kat_one _ _ (PyProof.Rows.lt_int q)
def tS (h:Heap) (kf:Addr->List Int) (x:Keyed):Prop:=x.1=x.2/\∃ a,x.1=.ref a/\TI h a (kf a)
noncomputable def tR (kf:Addr->List Int) (x y:Keyed):Bool:=HT.lexLt (kfV kf x.1) (kfV kf y.1)
theorem cmp_tups (kf:Addr->List Int):Cmp (model prog w) A E s (tuples' true) (tS s.heap kf) (tR kf):=by
 refine ⟨fun x y hx hy Q st hk q=>?_,fun x y _ _=>al9 _ _,fun x y z _ _ _=>apr _ _ _⟩
 obtain ⟨x1,x2⟩:=x
 obtain ⟨y1,y2⟩:=y
 obtain ⟨_,a,ea,o,xs,n,e1,e2,e3,e4⟩:=hx
 obtain ⟨_,b,eb,o',ys,n',g1,g2,g3,g4⟩:=hy
 dsimp only at ea eb
 subst ea eb
 rw [lt'_eq]
 refine wpS_bind (wpS_get ?_)
 rw [hk]
 refine wpS_bind (wpS_lift (wpAny_attempt (PySem.W.kat_lt e1 e3 g1 g3 (afl 0 e4 g4 (fun z=>?_) (fun z=>?_) ⟨rfl,?_⟩))))
 ·have h1:=e4.length;have h2:=g4.length
  simp at h1 h2
  exact decide_eq_true (by row_cond lo)
 ·have h1:=e4.length;have h2:=g4.length
  simp at h1 h2
  exact decide_eq_false (by row_cond lo)
 ·exact wpS_pure q
theorem anr {vs:List Value} {ps:List Keyed} (h:ps.Perm (vs.zip vs)):(∀ p∈ps,p.1=p.2/\p.1∈vs)/\(ps.map (·.2)).Perm vs:=by
 refine ⟨fun p hp=>mem_zip_self (h.mem_iff.mp hp),?_⟩
 have h1:=h.map (fun p=>p.2)
 have e:(vs.zip vs).map (fun p=>p.2)=vs:=List.map_snd_zip (Nat.le_refl _)
 rwa [e] at h1
theorem list_sort_small {a:Addr} {vs:List Value} {n:Nat} {P:PySem.Fin->Shared->Prop} (ho:s.heap.get? a=some (seqObj "list" vs.toArray n)) (hlen:vs.length<=sizeLine) (h64:vs.length < 64)
  (hκ:2<=vs.length->∀ h',(∀ b o,b ≠ a->s.heap.get? b=some o->h'.get? b=some o)->∃ κ S R,(∀ (Q:SortKind->Shared->Prop),Q κ { s with heap:=h' }->wpAny (model prog w) A (keyKind' vs.toArray) Q E { s with heap:=h' })/\Cmp (model prog w) A E { s with heap:=h' } κ S R/\(∀ v∈vs,S (v,v)) /\
   ∀ out:List Value,out.Perm vs->out.Pairwise (fun x y=>R (y,y) (x,x)=false)->P (.done (.ret .none)) { s with heap:=sortedHeap s.heap a vs out.toArray })
  (h1:vs.length < 2->P (.done (.ret .none)) { s with heap:=sortedHeap s.heap a vs vs.toArray }) :
  wpAny (model prog w) A (Builtin.«list.sort» ⟨[.ref a],[]⟩) P E s:=by
 rw [list_sort_plain]
 have ha:a < s.heap.objs.size:=Heap.lt_size ho
 refine wpAny_bind (listItems_at ho rfl ?_)
 refine wpAny_bind (listUpdate_at ho rfl ?_ (by rw [List.size_toArray];exact hlen) (Nat.zero_le _))
 obtain ⟨e1,ho1⟩:∃ e1,(s.heap.update a (Obj.mapSeq fun _ => #[])).get? a=some (seqObj "list" #[] e1):=⟨_,get?_update_seq ho (fun _ => #[])⟩
 refine wpAny_bind (seqEpoch_at ho1 rfl ?_)
 refine wpAny_bind (wpAny_newTuple ?_ (by show vs.length<=_;exact hlen))
 refine wpAny_bind (wpAny_newList ?_ (Nat.zero_le _))
 refine wpAny_holding ?_
 have ho6:(((s.heap.update a (Obj.mapSeq fun _ => #[])).push (seqObj "tuple" vs.toArray 0)).push (seqObj "list" #[] 0)).get? a=some (seqObj "list" #[] e1):=by
  rw [Heap.get?_push_ne _ _ _ (by rw [size_push',Heap.size_update];exact Nat.ne_of_lt (Nat.lt_succ_of_lt ha)),Heap.get?_push_ne _ _ _ (by rw [Heap.size_update];exact Nat.ne_of_lt ha)]
  exact ho1
 show wpAny (model prog w) A _ P E { s with heap:=((s.heap.update a (Obj.mapSeq fun _ => #[])).push (seqObj "tuple" vs.toArray 0)).push (seqObj "list" #[] 0) }
 dsimp only
 have hsz:vs.toArray.size=vs.length:=by simp
 have kp:∀ b o,b ≠ a->s.heap.get? b=some o->(((s.heap.update a (Obj.mapSeq fun _ => #[])).push (seqObj "tuple" vs.toArray 0)).push (seqObj "list" #[] 0)).get? b=some o:=fun b o hb e=>by
  refine Heap.get?_push_of_some _ (Heap.get?_push_of_some _ ?_)
  rw [Heap.get?_update_ne _ _ _ _ hb];exact e
 by_cases h2:vs.toArray.size < 2
 ·rw [if_pos h2,if_pos h2]
  refine wpAny_bind (wpAny_pure ?_)
  rw [StateT.run_pure]
  refine wpAny_bind (wpAny_pure ?_)
  dsimp only
  have eo:(arrOf (SortSt.mk' general' (vs.toArray.zip vs.toArray) #[] 7 none)).map (·.2)=vs.toArray:=by
   show (vs.toArray.zip vs.toArray).map (·.2)=vs.toArray
   apply Array.toList_inj.mp
   rw [Array.toList_map,Array.toList_zip]
   exact List.map_snd_zip (Nat.le_refl _)
  rw [eo]
  refine wpAny_bind (seqEpoch_at ho6 rfl ?_)
  refine wpAny_bind (listUpdate_at ho6 rfl ?_ (Nat.zero_le _) (by rw [List.size_toArray];exact Nat.le_succ_of_le hlen))
  simp only [bne_self_eq_false,Bool.false_eq_true,if_false]
  exact wpAny_pure (h1 (by row_cond lo))
 ·rw [if_neg h2,if_neg h2]
  obtain ⟨κ,S,R,hk,C,hS,hfin⟩:=hκ (by row_cond lo) _ kp
  refine wpAny_bind (hk _ ?_)
  refine wpAny_bind (wpAny_mono (ann C (a0:=vs.toArray.zip vs.toArray) (st:=SortSt.mk' κ (vs.toArray.zip vs.toArray) #[] 7 none) (Q:=fun _ st'=>failedOf st'=none/\(arrOf st').toList.Perm (vs.zip vs)/\Srt R (arrOf st').toList) (fun x hx=>?_) rfl rfl rfl rfl (by simp;row_cond lo) (by simp;row_cond lo) fun st' f' p' s'=>⟨f',by simpa using p',s'⟩) ?_ fun _ _ e=>e)
  ·have:x∈vs.zip vs:=by simpa using hx
   obtain ⟨q1,q2⟩:=mem_zip_self this
   obtain ⟨x1,x2⟩:=x
   dsimp only at q1 q2
   subst q1
   exact hS _ q2
  rintro ⟨⟨⟩,st'⟩ s' ⟨rfl,hf,hp,hs⟩
  dsimp only
  obtain ⟨q1,q2⟩:=anr hp
  have eo:(arrOf st').map (·.2)=(((arrOf st').toList.map (·.2)).toArray):=by
   apply Array.toList_inj.mp
   simp
  rw [eo]
  have hl2:((arrOf st').toList.map (·.2)).length=vs.length:=q2.length_eq
  refine wpAny_bind (seqEpoch_at ho6 rfl ?_)
  refine wpAny_bind (listUpdate_at ho6 rfl ?_ (Nat.zero_le _) (by rw [List.size_toArray,hl2];exact Nat.le_succ_of_le hlen))
  rw [hf]
  simp only [bne_self_eq_false,Bool.false_eq_true,if_false]
  refine wpAny_pure (hfin _ q2 ?_)
  rw [List.pairwise_map]
  refine List.Pairwise.imp_of_mem ?_ hs
  intro x y hx hy hr
  have ex:=(q1 x hx).1
  have ey:=(q1 y hy).1
  obtain ⟨x1,x2⟩:=x
  obtain ⟨y1,y2⟩:=y
  dsimp only at ex ey
  subst ex ey
  exact hr
theorem sorted_small {l:Addr} {vs:List Value} {Q:Value->Shared->Prop} (hl:s.heap.IsList l vs.toArray) (hlen:vs.length<=sizeLine) (h64:vs.length < 64)
  (hκ:2<=vs.length->∀ h',(∀ b o,s.heap.get? b=some o->h'.get? b=some o)->∃ κ S R,(∀ (Q:SortKind->Shared->Prop),Q κ { s with heap:=h' }->wpAny (model prog w) A.in1.in1 (keyKind' vs.toArray) Q E { s with heap:=h' })/\Cmp (model prog w) A.in1.in1 E { s with heap:=h' } κ S R/\(∀ v∈vs,S (v,v)) /\
   ∀ out:List Value,out.Perm vs->out.Pairwise (fun x y=>R (y,y) (x,x)=false)->Q (.ref (s.heap.objs.size+1)) { s with heap:=sortedAll s.heap vs out.toArray })
  (h1:vs.length < 2->Q (.ref (s.heap.objs.size+1)) { s with heap:=sortedAll s.heap vs vs.toArray }) :
  wpAny (model prog w) A (call (.builtin "sorted") [.ref l]) Q E s:=by
 refine Calls.call_function_entry kind_sorted plain_sorted entry_sorted (args_sorted1 _) ?_
 unfold Builtin.«sorted»
 refine wpAny_bind (m:=checkCount "sorted" 1 1 _) (wpAny_pure ?_)
 refine wpAny_bind (collect_list hl ?_ hlen)
 refine wpAny_bind (wpAny_newList ?_ hlen)
 have hsz:((s.heap.push (seqObj "list" #[] 0)).update s.heap.objs.size (Obj.mapSeq (· ++ vs.toArray))).objs.size=s.heap.objs.size+1:=by
  rw [Heap.size_update,size_push']
 have hoL:(((s.heap.push (seqObj "list" #[] 0)).update s.heap.objs.size (Obj.mapSeq (· ++ vs.toArray))).push (seqObj "list" vs.toArray 0)).get? (s.heap.objs.size+1)=some (seqObj "list" vs.toArray 0):=by
  rw [← hsz];exact Heap.get?_push_size _ rfl
 have keep:∀ b o,s.heap.get? b=some o->(((s.heap.push (seqObj "list" #[] 0)).update s.heap.objs.size (Obj.mapSeq (· ++ vs.toArray))).push (seqObj "list" vs.toArray 0)).get? b=some o:=fun b o q=>by
  have hlt:b < s.heap.objs.size:=Heap.lt_size q
  rw [Heap.get?_push_ne _ _ _ (by rw [hsz];exact Nat.ne_of_lt (Nat.lt_succ_of_lt hlt)),Heap.get?_update_ne _ _ _ _ (Nat.ne_of_lt hlt),Heap.get?_push_ne _ _ _ (Nat.ne_of_lt hlt)]
  exact q
 show wpAny _ _ _ _ _ { s with heap:=((s.heap.push (seqObj "list" #[] 0)).update s.heap.objs.size (Obj.mapSeq (· ++ vs.toArray))).push (seqObj "list" vs.toArray 0) }
 rw [hsz]
 refine wpAny_bind (wpAny_holding (wpAny_call_entry slot_list_sort ⟨_,hoL,rfl⟩ entry_list_sort ?body (args_list_sort _)))
 case body =>
  refine list_sort_small (s:={ s with heap:=((s.heap.push (seqObj "list" #[] 0)).update s.heap.objs.size (Obj.mapSeq (· ++ vs.toArray))).push (seqObj "list" vs.toArray 0) }) hoL hlen h64 (fun hge h' kp=>?_) fun hlt=>?_
  ·obtain ⟨κ,S,R,hk,C,hS,hfin⟩:=hκ hge h' fun b o e=>kp b o (Nat.ne_of_lt (Nat.lt_succ_of_lt (Heap.lt_size e))) (keep b o e)
   exact ⟨κ,S,R,hk,C,hS,fun out q1 q2=>⟨_,rfl,wpAny_pure ⟨_,rfl,hfin out q1 q2⟩⟩⟩
  ·exact ⟨_,rfl,wpAny_pure ⟨_,rfl,h1 hlt⟩⟩
end
end TS
namespace L2
open PySem PySem.Spec PyProof.Rows
noncomputable def toI:V->Int
 | .int i=>i
 | _=>0
noncomputable def kH (H:Hp):V->List Int
 | .ref t=>match H t with
  | some (.tup xs)=>xs.map toI
  | _=>[]
 | _=>[]
theorem aua (ns:List Int):(ns.map V.int).map toI=ns:=by
 rw [List.map_map]
 have:(toI ∘ V.int)=id:=by funext i;rfl
 rw [this,List.map_id]
theorem agg {H:Hp} {t:Addr} {ns:List Int} (h:H t=some (.tup (ns.map V.int))):kH H (.ref t)=ns:=by
 simp only [kH,h];exact aua ns
def TupI (H:Hp) (v:V):Prop:=∃ t ns,v=.ref t/\H t=some (.tup (ns.map V.int))/\ns ≠ []
noncomputable def ab6:Value->V
 | .ref a => .ref a
 | _ => .non
theorem aex:∀ {us:List Value},(∀ u∈us,∃ a,u=.ref a)->Vals (us.map ab6) us
 | [],_ => .nil
 | u :: us,h=>by
  obtain ⟨a,e⟩:=h u List.mem_cons_self
  subst e
  exact .cons rfl (aex fun v hv=>h v (List.mem_cons_of_mem _ hv))
theorem ah1 {H:Hp}:∀ {vs:List V} {us:List Value},Vals vs us->(∀ v∈vs,TupI H v)->(∀ u∈us,∃ a,u=.ref a)/\us.map ab6=vs
 | _,_,.nil,_=>⟨fun u hu=>(by cases hu),rfl⟩
 | v :: vs,u :: us,.cons r t,h=>by
  obtain ⟨a,ns,rfl,_,_⟩:=h v List.mem_cons_self
  cases r
  obtain ⟨h1,h2⟩:=ah1 t fun v hv=>h v (List.mem_cons_of_mem _ hv)
  refine ⟨fun x hx=>?_,by rw [List.map_cons,h2];rfl⟩
  rcases List.mem_cons.mp hx with rfl | hx
  ·exact ⟨_,rfl⟩
  ·exact h1 x hx
section
variable {X:Cx}
def aey (K:PySem.W.Frag):List V->Hp->VK->Prop:=fun xs H Q=>∃ (a:Addr) (vs:List V),xs=[.ref a]/\SqL K H a vs/\(∀ v∈vs,TupI H v)/\vs.length < 64 /\
 ∀ (vs':List V) (p:Addr),vs'.Perm vs->vs'.Pairwise (fun x y=>HT.lexLt (kH H y) (kH H x)=false)->H p=none->Q (.ref p) (upd H p (.lst vs'))
theorem aft {H:Hp} {pins:List (Addr × Obj)} {σ:St} {s:Shared} (I:Inv X pins σ H s) {h':Heap} (kp:∀ b o,s.heap.get? b=some o->h'.get? b=some o):∀ {vs:List V} {us:List Value},Vals vs us->(∀ v∈vs,TupI H v) ->
  (∃ fs,PySem.W.KatTups h' us fs/\fs.length=us.length/\∀ f∈fs,∃ i t,f=.int i t)/\∀ u∈us,∃ a,u=.ref a/\TS.TI h' a (kH H (.ref a))
 | _,_,.nil,_=>⟨⟨[],trivial,rfl,fun f hf=>by cases hf⟩,fun u hu=>by cases hu⟩
 | v :: vs,u :: us,.cons r t,h=>by
  obtain ⟨a,ns,rfl,e,hne⟩:=h v List.mem_cons_self
  cases r
  obtain ⟨⟨fs,k1,k2,k3⟩,k4⟩:=aft I kp t fun v hv=>h v (List.mem_cons_of_mem _ hv)
  obtain ⟨_,its,rv,o,e1,e2,n,e3⟩:=(show ObjOk X.prog X.w H s.heap a (.tup (ns.map V.int)) from I.hok a _ e)
  have hi:IntsAre its ns:=by simpa using (adb rv:IntsAre its.toArray.toList ns)
  have hT:TS.TI h' a (kH H (.ref a)):=⟨o,its.toArray,n,kp _ _ e1,e2,e3,by rw [agg e];simpa using hi⟩
  obtain ⟨f,hf,i,tk,ef⟩:∃ f,its.toArray[0]?=some f/\∃ i t,f=.int i t:=by
   cases hi with
   | nil=>exact absurd rfl hne
   | cons i tk _=>exact ⟨_,by simp,i,tk,rfl⟩
  refine ⟨⟨f :: fs,PySem.W.KatTups.cons (kp _ _ e1) e2 e3 hf k1,by simp [k2],fun g hg=>?_⟩,fun x hx=>?_⟩
  ·rcases List.mem_cons.mp hg with rfl | hg
   ·exact ⟨i,tk,ef⟩
   ·exact k3 g hg
  ·rcases List.mem_cons.mp hx with rfl | hx
   ·exact ⟨a,rfl,hT⟩
   ·exact k4 x hx
theorem akc {α:Type} {R : α->α->Prop}:∀ {l:List α},l.length < 2->l.Pairwise R
 | [],_=>List.Pairwise.nil
 | [_],_=>List.pairwise_singleton _ _
 | _ :: _ :: _,h=>absurd h (by simp)
theorem agh:abh X (.builtin "sorted") (aey X.K):=by
 intro pins s σ H xs us Q I r h
 obtain ⟨a,vs,rfl,ha,hT,h64,q⟩:=h
 obtain ⟨u,rfl,ru⟩:=acu r
 cases ru
 obtain ⟨its,r1,p1,hz⟩:=I.list ha
 obtain ⟨b1,b2⟩:=ah1 r1 hT
 have hlen:its.length<=sizeLine:=by rw [← r1.length];exact hz
 have hfree:H (s.heap.objs.size+1)=none:=I.hok.fresh (Nat.le_succ _)
 have fin:∀ out:List Value,out.Perm its->(out.map ab6).Pairwise (fun x y=>HT.lexLt (kH H y) (kH H x)=false)->EP X pins σ Q (.ref (s.heap.objs.size+1)) { s with heap:=sortedAll s.heap its out.toArray }:=by
  intro out hp hs
  obtain ⟨e,he⟩:=sortedAll_at s.heap its out.toArray
  have hv:Vals (out.map ab6) out:=aex fun u hu=>b1 u (hp.mem_iff.mp hu)
  refine ⟨.ref (s.heap.objs.size+1),_,I.laid (t':=s.toks) (o:=.lst (out.map ab6)) (fun b ob q=>sortedAll_old q) (Nat.le_succ _) ?_,rfl,q _ _ ?_ hs hfree⟩
  ·refine ⟨by rw [List.length_map,hp.length_eq];exact hlen,out,e,hv,by rw [he]⟩
  ·rw [← b2];exact hp.map ab6
 refine TS.sorted_small p1.isList hlen (by rw [← r1.length];exact h64) (fun hge h' kp=>?_) fun hlt=>?_
 ·obtain ⟨⟨fs,k1,k2,k3⟩,k4⟩:=aft I kp r1 hT
  have hne:(Value.type "int" != Value.type "tuple")=true:=by rfl
  refine ⟨tuples' true,TS.tS h' (fun a=>kH H (.ref a)),TS.tR (fun a=>kH H (.ref a)),fun Q' hq=>?_,TS.cmp_tups (s:={ s with heap:=h' }) (fun a=>kH H (.ref a)),fun v hv=>?_,fun out hp hs=>fin out hp ?_⟩
  ·refine PySem.W.kat_kind (T:=.type "int") (s:={ s with heap:=h' }) k1 (by row_cond lo) (fun v hv=>?_) (by rfl) ?_
   ·obtain ⟨i,t,rfl⟩:=k3 v hv
    exact .now
   ·rw [hne];exact hq
  ·obtain ⟨a,e,ht⟩:=k4 v hv
   exact ⟨rfl,a,e,ht⟩
  ·rw [List.pairwise_map]
   refine List.Pairwise.imp_of_mem ?_ hs
   intro x y hx hy hr
   obtain ⟨ax,rfl⟩:=b1 x (hp.mem_iff.mp hx)
   obtain ⟨ay,rfl⟩:=b1 y (hp.mem_iff.mp hy)
   exact hr
 ·refine fin its (List.Perm.refl _) ?_
  exact akc (by rw [List.length_map];exact hlt)
end
end L2
namespace HT
open PySem PySem.Spec PyProof.Rows L2
section
variable {prog:Program} {w:World} {A:Around} {kw:List (Str × Value)} {R:Result->Shared->Prop} {I S:Addr} {fp wr:List Addr} {n:Nat} {P:Nat->Value->Prop} {St:Nat->Heap->Prop} {Hd:Heap->Prop}
theorem aps (W:Walks prog w A.in1 I fp wr n P St) (bt:Nat->Nat->Bool)
  (hcmp:∀ i j vi vj (s:Shared) (Q:Value->Shared->Prop) (E:Value->Shared->Prop),Hd s.heap->P i vi->P j vj->Q (.bool (bt i j)) s->wpAny (model prog w) A.in1 (richCompare .Lt vi vj) Q E s)
  (hd:∀ h h':Heap,Hd h->(∀ b o,b ∉ wr->b ≠ S->h.get? b=some o->h'.get? b=some o)->Hd h') (hSf:S ∉ fp) :
  ∀ (k j:Nat) (s:Shared) (vb:Value) (c:Nat),n - (j+1)=k->j+1<=n->St (j+1) s.heap->Hd s.heap->P (argBest bt j) vb ->
  s.heap.get? S=some { cls:=.type "list",dict:=none,data:=.seq #[vb,vb] c,slots:=#[] } ->
  (∀ v h' tk,P (argBest bt (n - 1)) v->(∀ b o,b ∉ wr->b ≠ S->s.heap.get? b=some o->h'.get? b=some o)->R (.ok (.ret v)) { s with heap:=h',toks:=tk }) ->
  codeAny (model prog w) A (.builtin "min.loop" ⟨[.ref I,.none,.ref S],kw⟩) R s:=by
 have hSw:S ∉ wr:=fun h=>hSf (W.sub _ h)
 have hname:(toString "min" ++ toString ".loop" : String) = "min.loop":=by decide
 intro k
 induction k with
 | zero =>
  intro j s vb c hk hj hst hh hPb hS hR
  have hin:j+1=n:=by row_cond lo
  apply codeAny_builtin F.entry_min_loop
  rw [Around.under_plainId F.plain_min_loop (⟨[.ref I,.none,.ref S],kw⟩:Args)]
  show wpAny (model prog w) A.in1 (seqItems? (.ref S) >>= _) _ _ s
  apply wpAny_bind;apply wpAny_seqItems hS rfl
  show wpAny (model prog w) A.in1 (tryCatch (pyNext (.ref I)) _ >>= _) _ _ s
  apply wpAny_bind;apply wpAny_tryCatch
  refine W.done s _ _ (hin ▸ hst) (fun h' tk hk'=>?_)
  have hS':=hk' S _ hSw hS
  show wpAny (model prog w) A.in1 (updateSeq S (fun _ => #[]) >>= _) _ _ _
  apply wpAny_bind
  refine (wpAny_updateSeq hS' rfl (wpAny_bind (wpAny_letGo (wpAny_pure ?_))))
  exact hR vb _ tk (by rw [← hin];exact hPb) (fun b o hbw hbS e=>(Heap.get?_update_other _ _ (Ne.symm hbS)).trans (hk' b o hbw e))
 | succ k ih =>
  intro j s vb c hk hj hst hh hPb hS hR
  have hlt:j+1 < n:=by row_cond lo
  apply codeAny_builtin F.entry_min_loop
  rw [Around.under_plainId F.plain_min_loop (⟨[.ref I,.none,.ref S],kw⟩:Args)]
  show wpAny (model prog w) A.in1 (seqItems? (.ref S) >>= _) _ _ s
  apply wpAny_bind;apply wpAny_seqItems hS rfl
  show wpAny (model prog w) A.in1 (tryCatch (pyNext (.ref I)) _ >>= _) _ _ s
  apply wpAny_bind;apply wpAny_tryCatch
  refine W.item (j+1) s _ _ hlt hst (fun v h' tk hP hst' hk'=>?_)
  have hS':=hk' S _ hSw hS
  have hh':Hd h':=hd _ _ hh fun b o hbw _ e=>hk' b o hbw e
  show wpAny (model prog w) A.in1 (tryCatch (holding [v,v] (richCompare .Lt v vb >>= _)) _ >>= _) _ _ _
  apply wpAny_bind;apply wpAny_tryCatch;apply wpAny_holding;apply wpAny_bind
  refine hcmp (j+1) (argBest bt j) v vb _ _ _ hh' hP hPb ?_
  apply wpAny_bind;apply wpAny_holding;apply wpAny_truthy_bool
  apply wpAny_bind;apply wpAny_letGo;apply wpAny_pure
  cases hb:bt (j+1) (argBest bt j) with
  | true =>
   simp only [if_true]
   apply wpAny_bind
   refine (wpAny_updateSeq hS' rfl (wpAny_bind (wpAny_letGo ?_)))
   rw [hname]
   refine wpAny_pure ⟨plainId_quiet F.plain_min_loop _,?_⟩
   refine ih (j+1) _ v _ (by row_cond lo) hlt (W.frame _ _ _ hst' fun b hbf o e=>?_) (hd _ _ hh' fun b o hbw hbS e=>(Heap.get?_update_other _ _ (Ne.symm hbS)).trans e) (by simp only [argBest,hb,if_true];exact hP) (Heap.get?_update_self _ hS' rfl) (fun v' h'' tk'' hP' hk''=>?_)
   ·exact (Heap.get?_update_other _ _ (fun h:S=b=>hSf (h ▸ hbf))).trans e
   ·exact (hR v' h'' tk'' hP' fun b o hbw hbS e=>hk'' b o hbw hbS ((Heap.get?_update_other _ _ (Ne.symm hbS)).trans (hk' b o hbw e)))
  | false =>
   simp only [Bool.false_eq_true,if_false]
   apply wpAny_bind;apply wpAny_letGo
   rw [hname]
   refine wpAny_pure ⟨plainId_quiet F.plain_min_loop _,?_⟩
   refine ih (j+1) _ vb c (by row_cond lo) hlt hst' hh' (by simp only [argBest,hb,Bool.false_eq_true,if_false];exact hPb) hS' (fun v' h'' tk'' hP' hk''=>?_)
   exact (hR v' h'' tk'' hP' fun b o hbw hbS e=>hk'' b o hbw hbS (hk' b o hbw e))
theorem ans (W:Walks prog w A.in1 I fp wr n P St) (bt:Nat->Nat->Bool)
  (hcmp:∀ i j vi vj (s:Shared) (Q:Value->Shared->Prop) (E:Value->Shared->Prop),Hd s.heap->P i vi->P j vj->Q (.bool (bt i j)) s->wpAny (model prog w) A.in1 (richCompare .Lt vi vj) Q E s)
  (hd:∀ h h':Heap,Hd h->(∀ b o,b ∉ wr->b ≠ S->h.get? b=some o->h'.get? b=some o)->Hd h') (hSf:S ∉ fp) {s:Shared} {c:Nat} (hst:St 0 s.heap) (hh:Hd s.heap)
  (hS:s.heap.get? S=some { cls:=.type "list",dict:=none,data:=.seq #[] c,slots:=#[] })
  (h0:n=0->kw=([("default",.none)]:List (Str × Value))/\∀ h' tk,(∀ b o,b ∉ wr->b ≠ S->s.heap.get? b=some o->h'.get? b=some o)->R (.ok (.ret .none)) { s with heap:=h',toks:=tk })
  (hR:0 < n->∀ v h' tk,P (argBest bt (n - 1)) v->(∀ b o,b ∉ wr->b ≠ S->s.heap.get? b=some o->h'.get? b=some o)->R (.ok (.ret v)) { s with heap:=h',toks:=tk }) :
  codeAny (model prog w) A (.builtin "min.loop" ⟨[.ref I,.none,.ref S],kw⟩) R s:=by
 have hSw:S ∉ wr:=fun h=>hSf (W.sub _ h)
 have hname:(toString "min" ++ toString ".loop" : String) = "min.loop":=by decide
 apply codeAny_builtin F.entry_min_loop
 rw [Around.under_plainId F.plain_min_loop (⟨[.ref I,.none,.ref S],kw⟩:Args)]
 show wpAny (model prog w) A.in1 (seqItems? (.ref S) >>= _) _ _ s
 apply wpAny_bind;apply wpAny_seqItems hS rfl
 show wpAny (model prog w) A.in1 (tryCatch (pyNext (.ref I)) _ >>= _) _ _ s
 apply wpAny_bind;apply wpAny_tryCatch
 by_cases hn:0 < n
 ·refine W.item 0 s _ _ hn hst (fun v h' tk hP hst' hk'=>?_)
  have hS':=hk' S _ hSw hS
  have hh':Hd h':=hd _ _ hh fun b o hbw _ e=>hk' b o hbw e
  show wpAny (model prog w) A.in1 (updateSeq S (fun _ => #[v,v]) >>= _) _ _ _
  apply wpAny_bind
  refine (wpAny_updateSeq hS' rfl ?_)
  rw [hname]
  refine wpAny_pure ⟨plainId_quiet F.plain_min_loop _,?_⟩
  refine aps (Hd:=Hd) W bt hcmp hd hSf _ 0 _ v _ rfl hn (W.frame _ _ _ hst' fun b hbf o e=>?_) (hd _ _ hh' fun b o hbw hbS e=>(Heap.get?_update_other _ _ (Ne.symm hbS)).trans e) hP (Heap.get?_update_self _ hS' rfl) (fun v' h'' tk'' hP' hk''=>?_)
  ·exact (Heap.get?_update_other _ _ (fun h:S=b=>hSf (h ▸ hbf))).trans e
  ·exact (hR hn v' h'' tk'' hP' fun b o hbw hbS e=>hk'' b o hbw hbS ((Heap.get?_update_other _ _ (Ne.symm hbS)).trans (hk' b o hbw e)))
 ·have e0:n=0:=by row_cond lo
  obtain ⟨rfl,h0'⟩:=h0 e0
  refine W.done s _ _ (by rw [e0];exact hst) (fun h' tk hk'=>?_)
  show wpAny (model prog w) A.in1 (rule _ >>= _) _ _ _
  refine wpAny_bind (wpAny_rule (wpAny_pure ?_))
  exact h0' h' tk fun b o hbw _ e=>hk' b o hbw e
end
section
variable {prog:Program} {w:World} {A:Around} {E:Value->Shared->Prop} {s:Shared}
theorem aub {id:String} {b:Builtin} {args:List Value} {kw:List (Str × Value)} {Q:Value->Shared->Prop} (hk:builtinKind id=none) (hp:plainId id=true) (hb:entryFor table id=some b) (ha:argsOk id ⟨args,kw⟩)
  (hc:wpAny (model prog w) A.in1 (b ⟨args,kw⟩) (fun fin s'=>match fin with
   | .done f=>(match (Except.ok f:Result) with | .ok (.ret v)=>Q v s' | .ok _=>False | .error e=>E e s') | .again c'=>c'.quiet=true/\codeAny (model prog w) A c' (fun r s'=>match r with | .ok (.ret v)=>Q v s' | .ok _=>False | .error e=>E e s') s') E s) :
  wpAny (model prog w) A (call (.builtin id) args kw) Q E s:=by
 apply wpAny_call;apply codeAny_call_builtin hp hb
 simp only [checkBuiltinCall,hk]
 cases hsig:Manifest.signature? id with
 | none=>exact wpAny_pure hc
 | some sig =>
  have h2:Bind.checkArgs id sig ⟨args,kw⟩=pure ():=by simp only [argsOk,hsig] at ha;exact ha
  simp only [h2]
  exact wpAny_pure hc
theorem apt (a:Value):argsOk "min" ⟨[a],[("default",.none)]⟩:=by unfold argsOk;kernel_rfl
theorem apu (a:Value):argsOk "min" ⟨[a],[]⟩:=by unfold argsOk;kernel_rfl
noncomputable def btD (ds:List PyData) (i j:Nat):Bool:=ltv (ds.getD i .none) (ds.getD j .none)
theorem min_dft {kw:List (Str × Value)} (hkw:kw=[]\/kw=([("default",.none)]:List (Str × Value))) {l:Addr} {us:List Value} {ds:List PyData} {Q:Value->Shared->Prop} (hh:A.handled=none) (hl:s.heap.IsList l us.toArray) (hr:∀ (i:Nat) v,us[i]?=some v->∃ d as,ds[i]?=some d/\Reads s.heap v d as)
  (hc:∀ d∈ds,∀ e∈ds,cmpD d e=true) (hp:∀ d∈ds,aai d=true) (hu:∀ d∈ds,A.in1.units+d.depth < cLine)
  (h0:us=[]->kw=([("default",.none)]:List (Str × Value))/\∀ h' tk,(∀ b o,s.heap.get? b=some o->h'.get? b=some o)->Q .none { s with heap:=h',toks:=tk })
  (h1:∀ v h' tk,us[argBest (btD ds) (us.length - 1)]?=some v->(∀ b o,s.heap.get? b=some o->h'.get? b=some o)->Q v { s with heap:=h',toks:=tk }) :
  wpAny (model prog w) A (call (.builtin "min") [.ref l] kw) Q E s:=by
 have hlt:l < s.heap.objs.size:=by obtain ⟨_,e,_⟩:=hl;exact Heap.lt_size e
 have hname:(toString "min" ++ toString ".loop" : String) = "min.loop":=by decide
 refine aub F.kind_min F.plain_min F.entry_min (by rcases hkw with rfl | rfl;exact apu _;exact apt _) ?_
 have main:codeAny (model prog w) A (.builtin "min.loop" ⟨[.ref s.heap.objs.size,.none,.ref (s.heap.push { cls:=.type "list_iterator",data:=.fields #[.ref l,.int 0 0] }).objs.size],kw⟩) (fun r s'=>match r with | .ok (.ret v)=>Q v s' | .ok _=>False | .error e=>E e s') { s with heap:=(s.heap.push { cls:=.type "list_iterator",data:=.fields #[.ref l,.int 0 0] }).push { cls:=.type "list",dict:=none,data:=.seq #[] 0,slots:=#[] } }:=by
  have W:=Walks.list (prog:=prog) (w:=w) (A:=A.in1) hh s.heap.objs.size l (Nat.ne_of_lt hlt) us.toArray
  have lt1:s.heap.objs.size < (s.heap.push { cls:=.type "list_iterator",data:=.fields #[.ref l,.int 0 0] }).objs.size:=by rw [Heap.size_push];exact Nat.lt_succ_self _
  refine ans (Hd:=fun h=>∀ b o,s.heap.get? b=some o->h.get? b=some o) W (btD ds) (c:=0) ?_ ?_ ?_ ?_ ?_ ?_ ?_ ?_
  ·intro i j vi vj s' Q' E' hH hi hj hq
   obtain ⟨di,ai,ei,ri⟩:=hr i vi (by simpa using hi)
   obtain ⟨dj,aj,ej,rj⟩:=hr j vj (by simpa using hj)
   have mi:=List.mem_of_getElem? ei
   have mj:=List.mem_of_getElem? ej
   refine agf di dj A.in1 s' vi vj ai aj (PyProof.Rows.Reads.keeps hH ri) (PyProof.Rows.Reads.keeps hH rj) (hc _ mi _ mj) (hp _ mi) (hp _ mj) (hu _ mi) prog w E' Q' ?_
   have:btD ds i j=ltv di dj:=by simp [btD,List.getD,ei,ej]
   rw [← this];exact hq
  ·intro h h' hH hk b o e
   have hb:=Heap.lt_size e
   refine hk b o (fun hm=>?_) (fun hm=>?_) (hH b o e)
   ·have:b=s.heap.objs.size:=by simpa using hm
    rw [this] at hb;exact Nat.lt_irrefl _ hb
   ·rw [hm] at hb;exact Nat.lt_irrefl _ (Nat.lt_trans lt1 hb)
  ·intro hm
   rcases List.mem_cons.mp hm with e | hm
   ·exact Nat.lt_irrefl _ (e ▸ lt1)
   ·have e:=List.mem_singleton.mp hm
    exact Nat.lt_irrefl _ (Nat.lt_trans hlt (e ▸ lt1))
  ·exact ⟨⟨_,Heap.get?_push_of_some _ (Heap.get?_push_size _ rfl),rfl,rfl⟩,(hl.push _).push _⟩
  ·exact fun b o e=>Heap.get?_push_of_some _ (Heap.get?_push_of_some _ e)
  ·exact Heap.get?_push_size _ rfl
  ·intro hn
   have hu0:us=[]:=by
    have:us.length=0:=by simpa using hn
    exact List.length_eq_zero_iff.mp this
   refine ⟨(h0 hu0).1,fun h' tk hk=>(h0 hu0).2 h' tk fun b o e=>?_⟩
   have hb:=Heap.lt_size e
   refine hk b o (fun hm=>?_) (fun hm=>?_) (Heap.get?_push_of_some _ (Heap.get?_push_of_some _ e))
   ·have:b=s.heap.objs.size:=by simpa using hm
    rw [this] at hb;exact Nat.lt_irrefl _ hb
   ·rw [hm] at hb;exact Nat.lt_irrefl _ (Nat.lt_trans lt1 hb)
  ·intro hn v h' tk hv hk
   refine h1 v h' tk (by simpa using hv) fun b o e=>?_
   have hb:=Heap.lt_size e
   refine hk b o (fun hm=>?_) (fun hm=>?_) (Heap.get?_push_of_some _ (Heap.get?_push_of_some _ e))
   ·have:b=s.heap.objs.size:=by simpa using hm
    rw [this] at hb;exact Nat.lt_irrefl _ hb
   ·rw [hm] at hb;exact Nat.lt_irrefl _ (Nat.lt_trans lt1 hb)
 rcases hkw with rfl | rfl
 ·show wpAny _ A.in1 (Builtin.Builtins.bindParams "min" ["key","default"] 0 ⟨[],[]⟩ >>= _) _ _ s
  refine wpAny_bind (wpAny_of_eq (show Builtin.Builtins.bindParams "min" ["key","default"] 0 ⟨[],[]⟩=pure [none,none] from rfl) ?_)
  apply wpAny_bind;apply wpAny_pure
  apply wpAny_bind
  refine wpAny_pyIter_list hl ?_
  refine (wpAny_bind (wpAny_newObj_type ?_))
  rw [hname]
  exact wpAny_pure ⟨plainId_quiet F.plain_min_loop _,main⟩
 ·show wpAny _ A.in1 (Builtin.Builtins.bindParams "min" ["key","default"] 0 ⟨[],[("default",.none)]⟩ >>= _) _ _ s
  refine wpAny_bind (wpAny_of_eq (show Builtin.Builtins.bindParams "min" ["key","default"] 0 ⟨[],[("default",.none)]⟩=pure [none,some .none] from rfl) ?_)
  apply wpAny_bind;apply wpAny_pure
  apply wpAny_bind
  refine wpAny_pyIter_list hl ?_
  refine (wpAny_bind (wpAny_newObj_type ?_))
  rw [hname]
  exact wpAny_pure ⟨plainId_quiet F.plain_min_loop _,main⟩
end
end HT
namespace L2
open PySem PySem.Spec PyProof.Rows
def ant (K:PySem.W.Frag):List V->Hp->VK->Prop:=fun xs H Q=>∃ (a:Addr) (vs:List V) (ds:List PyData),xs=[.ref a]/\SqL K H a vs/\vs.length=ds.length/\(∀ (i:Nat) v d,vs[i]?=some v->ds[i]?=some d->Rep H v d)/\(∀ d∈ds,∀ e∈ds,cmpD d e=true)/\(∀ d∈ds,aai d=true/\d.depth<=60) /\
 (vs=[]->Q .non H)/\∀ v,vs[argBest (HT.btD ds) (vs.length - 1)]?=some v->Q v H
section
variable {X:Cx} {x:Str} {p pos kpos:Pos} {e en:Expr} {t:TA}
theorem auc (hu:X.A.units+64 < cLine) (hc:X.calm=true) (hg:Gl X "min") (hm:X.mg "min" = none) (ha:PA X [e] t) (hen:PE X en (tC .non))
  (hv:bootBuiltins "min" = some (.builtin "min"):=by decide +kernel)
  (he:backTo pos (starEach [e] X.env)=(false,eval e X.env) :: backTo pos (starEach [] X.env):=by rfl)
  (hpl:(backTo pos (starEach [e] X.env)).any (·.1)=false:=by rfl) :
  PE X (.Call (.Name "min" p) [e] [⟨some "default",en,kpos⟩] pos) (tCB (ant X.K) t):=by
 intro pins s σ H Q I h
 refine wpAny_Call_Name_kw (ace I hg hm hv ?_ (by decide) (by decide))
 refine PyProof.Rows.callWith_kw (thn (ha pos pins s σ H _ I h) fun us s1 ⟨vs,H1,I1,r1,q1⟩=>?_) he hpl
 refine thn (atz (nm:=some "default") (kpos:=kpos) hen awo pos pins s1 σ H1 (fun zs H2=>zs=[.non]/\H2=H1) I1 ⟨rfl,rfl⟩) fun ws s2 ⟨zs,H2,I2,rz,ez,eH⟩=>?_
 subst ez eH
 obtain ⟨a,xs,ds,rfl,hS,hlen,hrep,hcmp,hpl2,hq0,hq1⟩:=q1
 obtain ⟨u,rfl,ru⟩:=acu r1
 cases ru
 obtain ⟨u2,rfl,ru2⟩:=acu rz
 cases ru2
 show wpAny _ X.A (call (.builtin "min") [.ref a] [("default",.none)]) _ _ s2
 obtain ⟨its,rr,p1,_⟩:=I2.list hS
 have hil:its.length=xs.length:=rr.length.symm
 refine HT.min_dft (.inr rfl) (us:=its) (ds:=ds) (I2.ok.hd hc) (by simpa using p1.isList) (fun i v hv=>?_) hcmp (fun d hd=>(hpl2 d hd).1) (fun d hd=>?_) (fun e0=>⟨rfl,fun h' tk kp=>?_⟩) fun v h' tk hv kp=>?_
 ·have hi:i < xs.length:=by rw [← hil];exact (List.getElem?_eq_some_iff.mp hv).1
  have ex:xs[i]?=some xs[i]:=List.getElem?_eq_getElem hi
  have ed:ds[i]?=some (ds[i]'(by row_cond lo)):=List.getElem?_eq_getElem (by row_cond lo)
  obtain ⟨u,eu,rel⟩:=rr.get ex
  rw [hv] at eu
  cases eu
  obtain ⟨as,ra⟩:=(hrep i _ _ ex ed).reads I2 rel
  exact ⟨_,as,ed,ra⟩
 ·have:=(hpl2 d hd).2
  show X.A.units+1+d.depth < cLine
  row_cond lo
 ·exact ⟨.non,H2,I2.kept kp,rfl,hq0 (by have:=congrArg List.length e0;exact List.length_eq_zero_iff.mp (by rw [← hil];simpa using this))⟩
 ·rw [hil] at hv
  have hi:argBest (HT.btD ds) (xs.length - 1) < xs.length:=by have:=(List.getElem?_eq_some_iff.mp hv).1;row_cond lo
  have ex:xs[argBest (HT.btD ds) (xs.length - 1)]?=some xs[argBest (HT.btD ds) (xs.length - 1)]:=List.getElem?_eq_getElem hi
  obtain ⟨u,eu,rel⟩:=rr.get ex
  rw [hv] at eu
  cases eu
  exact ⟨_,H2,I2.kept kp,rel,hq1 _ ex⟩
def anu (K:PySem.W.Frag):List V->Hp->VK->Prop:=fun xs H Q=>∃ (a:Addr) (vs:List V) (ds:List PyData),xs=[.ref a]/\SqL K H a vs/\vs.length=ds.length/\(∀ (i:Nat) v d,vs[i]?=some v->ds[i]?=some d->Rep H v d)/\(∀ d∈ds,∀ e∈ds,cmpD d e=true)/\(∀ d∈ds,aai d=true/\d.depth<=60) /\
 vs ≠ []/\∀ v,vs[argBest (HT.btD ds) (vs.length - 1)]?=some v->Q v H
theorem apv (hu:X.A.units+64 < cLine) (hc:X.calm=true):abh X (.builtin "min") (anu X.K):=by
 intro pins s2 σ H2 xs0 us Q I2 r1 h
 obtain ⟨a,xs,ds,rfl,hS,hlen,hrep,hcmp,hpl2,hne,hq1⟩:=h
 obtain ⟨u,rfl,ru⟩:=acu r1
 cases ru
 obtain ⟨its,rr,p1,_⟩:=I2.list hS
 have hil:its.length=xs.length:=rr.length.symm
 refine HT.min_dft (.inl rfl) (us:=its) (ds:=ds) (I2.ok.hd hc) (by simpa using p1.isList) (fun i v hv=>?_) hcmp (fun d hd=>(hpl2 d hd).1) (fun d hd=>?_) (fun e0=>?_) fun v h' tk hv kp=>?_
 ·have hi:i < xs.length:=by rw [← hil];exact (List.getElem?_eq_some_iff.mp hv).1
  have ex:xs[i]?=some xs[i]:=List.getElem?_eq_getElem hi
  have ed:ds[i]?=some (ds[i]'(by row_cond lo)):=List.getElem?_eq_getElem (by row_cond lo)
  obtain ⟨u,eu,rel⟩:=rr.get ex
  rw [hv] at eu
  cases eu
  obtain ⟨as,ra⟩:=(hrep i _ _ ex ed).reads I2 rel
  exact ⟨_,as,ed,ra⟩
 ·have:=(hpl2 d hd).2
  show X.A.units+1+d.depth < cLine
  row_cond lo
 ·exact absurd (List.length_eq_zero_iff.mp (show xs.length=0 by rw [← hil,e0];rfl)) hne
 ·rw [hil] at hv
  have hi:argBest (HT.btD ds) (xs.length - 1) < xs.length:=by have:=(List.getElem?_eq_some_iff.mp hv).1;row_cond lo
  have ex:xs[argBest (HT.btD ds) (xs.length - 1)]?=some xs[argBest (HT.btD ds) (xs.length - 1)]:=List.getElem?_eq_getElem hi
  obtain ⟨u,eu,rel⟩:=rr.get ex
  rw [hv] at eu
  cases eu
  exact ⟨_,H2,I2.kept kp,rel,hq1 _ ex⟩
end
end L2
namespace HT
open PySem PySem.Spec PyProof.Rows
section
variable {prog:Program} {w:World} {A:Around} {E:Value->Shared->Prop} {s:Shared}
end
end HT
namespace L2
open PySem PySem.Spec PyProof.Rows
section
variable {X:Cx}
end
end L2
namespace VL
open PySem PySem.Spec L2
noncomputable def kD:Key->PyData
 | .inl i => .int i
 | .inr x => .str x
mutual
inductive Rp (G:Hp):V->PyData->Prop
 | non:Rp G .non .none
 | bl (b:Bool):Rp G (.bl b) (.bool b)
 | int (i:Int):Rp G (.int i) (.int i)
 | str (x:Str):Rp G (.str x) (.str x)
 | lst {a:Addr} {xs:List V} {ds:List PyData}:G a=some (.lst xs)->Rps G xs ds->Rp G (.ref a) (.list ds)
 | tup {a:Addr} {xs:List V} {ds:List PyData}:G a=some (.tup xs)->Rps G xs ds->Rp G (.ref a) (.tuple ds)
 | dk {a:Addr} {kvs:List (Key × V)} {es:List (Key × PyData)} {ds:List (PyData × PyData)}:G a=some (.dK kvs)->RpK G kvs es->ds=es.map (fun p=>(kD p.1,p.2))->Rp G (.ref a) (.dict ds)
 | dt {a:Addr} {kvs:List (List Key × V)} {es:List (List Key × PyData)} {ds:List (PyData × PyData)}:G a=some (.dT kvs)->RpT G kvs es->ds=es.map (fun p=>(.tuple (p.1.map kD),p.2))->Rp G (.ref a) (.dict ds)
inductive Rps (G:Hp):List V->List PyData->Prop
 | nil:Rps G [] []
 | cons {v:V} {vs:List V} {d:PyData} {ds:List PyData}:Rp G v d->Rps G vs ds->Rps G (v :: vs) (d :: ds)
inductive RpK (G:Hp):List (Key × V)->List (Key × PyData)->Prop
 | nil:RpK G [] []
 | cons {k:Key} {v:V} {d:PyData} {r:List (Key × V)} {s:List (Key × PyData)}:Rp G v d->RpK G r s->RpK G ((k,v) :: r) ((k,d) :: s)
inductive RpT (G:Hp):List (List Key × V)->List (List Key × PyData)->Prop
 | nil:RpT G [] []
 | cons {k:List Key} {v:V} {d:PyData} {r:List (List Key × V)} {s:List (List Key × PyData)}:Rp G v d->RpT G r s->RpT G ((k,v) :: r) ((k,d) :: s)
end
mutual
theorem Rp.same {G G':Hp} (s:Same G G'):∀ {v:V} {d:PyData},Rp G v d->Rp G' v d
 | _,_,.non => .non
 | _,_,.bl b => .bl b
 | _,_,.int i => .int i
 | _,_,.str x => .str x
 | _,_,.lst h r => .lst (s _ _ h) (Rps.same s r)
 | _,_,.tup h r => .tup (s _ _ h) (Rps.same s r)
 | _,_,.dk h r e => .dk (s _ _ h) (RpK.same s r) e
 | _,_,.dt h r e => .dt (s _ _ h) (RpT.same s r) e
theorem Rps.same {G G':Hp} (s:Same G G'):∀ {vs:List V} {ds:List PyData},Rps G vs ds->Rps G' vs ds
 | _,_,.nil => .nil
 | _,_,.cons r t => .cons (Rp.same s r) (Rps.same s t)
theorem RpK.same {G G':Hp} (s:Same G G'):∀ {vs:List (Key × V)} {ds:List (Key × PyData)},RpK G vs ds->RpK G' vs ds
 | _,_,.nil => .nil
 | _,_,.cons r t => .cons (Rp.same s r) (RpK.same s t)
theorem RpT.same {G G':Hp} (s:Same G G'):∀ {vs:List (List Key × V)} {ds:List (List Key × PyData)},RpT G vs ds->RpT G' vs ds
 | _,_,.nil => .nil
 | _,_,.cons r t => .cons (Rp.same s r) (RpT.same s t)
end
theorem Rps.length {G:Hp}:∀ {vs:List V} {ds:List PyData},Rps G vs ds->vs.length=ds.length
 | _,_,.nil=>rfl
 | _,_,.cons _ t=>by simp [Rps.length t]
theorem Rps.get {G:Hp}:∀ {vs:List V} {ds:List PyData} {i:Nat} {d:PyData},Rps G vs ds->ds[i]?=some d->∃ v,vs[i]?=some v/\Rp G v d
 | _,_,_,_,.nil,e=>by simp at e
 | _,_,0,_,.cons r _,e=>by simp at e;subst e;exact ⟨_,rfl,r⟩
 | _,_,i+1,d,.cons _ t,e=>by
  obtain ⟨u,h1,h2⟩:=Rps.get (i:=i) (d:=d) t (by simpa using e)
  exact ⟨u,by simpa using h1,h2⟩
theorem Rps.append {G:Hp}:∀ {vs ws:List V} {ds es:List PyData},Rps G vs ds->Rps G ws es->Rps G (vs ++ ws) (ds ++ es)
 | _,_,_,_,.nil,s=>s
 | _,_,_,_,.cons r t,s => .cons r (Rps.append t s)
theorem Rps.set {G:Hp} {v:V} {d:PyData} (h:Rp G v d):∀ {vs:List V} {ds:List PyData} (i:Nat),Rps G vs ds->Rps G (vs.set i v) (ds.set i d)
 | _,_,_,.nil => .nil
 | _,_,0,.cons _ t => .cons h t
 | _,_,i+1,.cons r t => .cons r (Rps.set h i t)
theorem Rps.erase {G:Hp}:∀ {vs:List V} {ds:List PyData} (i:Nat),Rps G vs ds->Rps G (vs.eraseIdx i) (ds.eraseIdx i)
 | _,_,_,.nil => .nil
 | _,_,0,.cons _ t=>t
 | _,_,i+1,.cons r t => .cons r (Rps.erase i t)
theorem Rps.take {G:Hp}:∀ {vs:List V} {ds:List PyData} (i:Nat),Rps G vs ds->Rps G (vs.take i) (ds.take i)
 | _,_,0,_ => .nil
 | _,_,_+1,.nil => .nil
 | _,_,i+1,.cons r t => .cons r (Rps.take i t)
theorem Rps.drop {G:Hp}:∀ {vs:List V} {ds:List PyData} (i:Nat),Rps G vs ds->Rps G (vs.drop i) (ds.drop i)
 | _,_,0,r=>r
 | _,_,_+1,.nil => .nil
 | _,_,i+1,.cons _ t=>Rps.drop i t
theorem Rps.rep {G:Hp} {vs:List V} {ds:List PyData} (h:Rps G vs ds):∀ (k:Nat),Rps G (List.replicate k vs).flatten (List.replicate k ds).flatten
 | 0 => .nil
 | k+1=>by
  rw [List.replicate_succ,List.replicate_succ,List.flatten_cons,List.flatten_cons]
  exact h.append (Rps.rep h k)
theorem Rps.ints {G:Hp}:∀ (ns:List Int),Rps G (ns.map V.int) (ns.map PyData.int)
 | [] => .nil
 | n :: ns => .cons (.int n) (Rps.ints ns)
theorem Rps.ints_inv {G:Hp}:∀ {ns:List Int} {vs:List V},Rps G vs (ns.map PyData.int)->vs=ns.map V.int
 | [],_,.nil=>rfl
 | n :: ns,_,.cons r t=>by
  cases r
  rw [Rps.ints_inv t];rfl
mutual
theorem Rp.rep {G:Hp}:∀ {v:V} {d:PyData},Rp G v d->aai d=true->Rep G v d
 | _,_,.non,_ => .non
 | _,_,.bl b,_ => .bl b
 | _,_,.int i,_ => .int i
 | _,_,.str x,_ => .str x
 | _,_,.lst h r,p => .lst h (Rps.reps r (by simpa [aai] using p))
 | _,_,.tup h r,p => .tup h (Rps.reps r (by simpa [aai] using p))
 | _,_,.dk h r e,p=>by simp [aai] at p
 | _,_,.dt h r e,p=>by simp [aai] at p
theorem Rps.reps {G:Hp}:∀ {vs:List V} {ds:List PyData},Rps G vs ds->plainDs ds=true->Reps G vs ds
 | _,_,.nil,_ => .nil
 | _,_,.cons r t,p=>by
  simp only [plainDs,Bool.and_eq_true] at p
  exact .cons (Rp.rep r p.1) (Rps.reps t p.2)
end
structure Own where
 P:Hp->Hp->V->(Addr->Prop)->Prop
 mono:∀ {G H G' H':Hp} {v:V} {F:Addr->Prop},P G H v F->Same G G'->(∀ a o,F a->H a=some o->H' a=some o)->P G' H' v F
 dom:∀ {G H:Hp} {v:V} {F:Addr->Prop},P G H v F->∀ a,F a->∃ o,H a=some o
inductive Sl where
 | st (d:PyData) | own (A:Own) | io (A:Own) | scr (ns:List Int)
noncomputable abbrev En:=List (Option Sl)
structure Bs where
 K:PySem.W.Frag
 G:Hp
 H:Hp
 R:Hp
 S:St
 F:Nat->Addr->Prop
noncomputable def SlOk (B:Bs) (G H:Hp) (i:Nat) (v:V) (F:Addr->Prop):Sl->Prop
 | .st d=>Rp G v d/\∀ a,¬ F a
 | .own A=>A.P G H v F/\∀ a,F a->B.H a=none
 | .io A=>A.P G H v F/\(∀ a,F a->B.F i a\/B.H a=none)/\B.S[i]?=some (some v)
 | .scr ns=>(∃ a,v=.ref a/\SqL B.K G a (ns.map V.int))/\∀ a,¬ F a
def FT (G H:Hp):Prop:=∀ (a:Addr) (ks:List Key),H a=some (.tup (ks.map kV))->G a=some (.tup (ks.map kV))
structure VI (B:Bs) (G H:Hp) (σ:St) (env:En) (F:Nat->Addr->Prop):Prop where
 gh:Same G H
 g0:Same B.G G
 gn:∀ a o,G a=some o->B.G a=some o\/B.H a=none
 rs:Same B.R H
 rb:Same B.R B.H
 bh:∀ a o,B.H a=some o->∃ o',H a=some o'
 fg:∀ i a,F i a->G a=none
 fr:∀ i a,F i a->B.R a=none
 fd:∀ i j a,F i a->F j a->i=j
 fo:∀ i a,F i a->∃ o,H a=some o
 sl:∀ i s,env[i]?=some (some s)->∃ v,σ[i]?=some (some v)/\SlOk B G H i v (F i) s
 ln : σ.length=env.length
 ft:FT G H
noncomputable def RsOk (G H:Hp) (v:V) (F:Addr->Prop):Sl->Prop
 | .st d=>Rp G v d/\∀ a,¬ F a
 | .own A=>A.P G H v F
 | _=>False
structure RsX (B:Bs) (G H:Hp) (v:V) (Fv:Addr->Prop) (s:Sl) (F:Nat->Addr->Prop):Prop where
 ok:RsOk G H v Fv s
 fb:∀ a,Fv a->B.H a=none
 fg:∀ a,Fv a->G a=none
 fo:∀ a,Fv a->∃ o,H a=some o
 fd:∀ j a,Fv a->¬ F j a
structure Out (G H:Hp) (v:V) (G' H':Hp) (s:Sl) (Fv:Addr->Prop):Prop where
 gg:Same G G'
 gh:Same G' H'
 hh:Same H H'
 gn:∀ a o,G' a=some o->G a=some o\/H a=none
 fn:∀ a,Fv a->H a=none
 fg:∀ a,Fv a->G' a=none
 fo:∀ a,Fv a->∃ o,H' a=some o
 ok:RsOk G' H' v Fv s
 ft:FT G H->FT G' H'
theorem anv {α:Type} {o:Option α} (h:o ≠ none):∃ x,o=some x:=by
 cases o with
 | none=>exact absurd rfl h
 | some x=>exact ⟨x,rfl⟩
theorem SlOk.mono {B:Bs} {G H G' H':Hp} {i:Nat} {v:V} {F:Addr->Prop} {s:Sl} (h:SlOk B G H i v F s) (g:Same G G') (hh:∀ a o,F a->H a=some o->H' a=some o):SlOk B G' H' i v F s:=by
 cases s with
 | st d=>exact ⟨h.1.same g,h.2⟩
 | own A=>exact ⟨A.mono h.1 g hh,h.2⟩
 | io A=>exact ⟨A.mono h.1 g hh,h.2⟩
 | scr ns =>
  obtain ⟨⟨a,e,q⟩,n⟩:=h
  exact ⟨⟨a,e,g.seq q⟩,n⟩
section
variable {B:Bs} {G H G' H':Hp} {σ:St} {env:En} {F:Nat->Addr->Prop} {v:V} {s:Sl} {Fv:Addr->Prop}
theorem VI.no_r (I:VI B G H σ env F) {a:Addr} (h:H a=none):B.R a=none:=by
 cases e:B.R a with
 | none=>rfl
 | some o=>rw [I.rs a o e] at h;cases h
theorem VI.no_b (I:VI B G H σ env F) {a:Addr} (h:H a=none):B.H a=none:=by
 cases e:B.H a with
 | none=>rfl
 | some o=>obtain ⟨o',e'⟩:=I.bh a o e;rw [e'] at h;cases h
theorem VI.no_g (I:VI B G H σ env F) {a:Addr} (h:H a=none):G a=none:=by
 cases e:G a with
 | none=>rfl
 | some o=>rw [I.gh a o e] at h;cases h
theorem VI.no_f (I:VI B G H σ env F) {a:Addr} (h:H a=none) (i:Nat):¬ F i a:=fun z=>by
 obtain ⟨o,e⟩:=I.fo i a z;rw [e] at h;cases h
theorem VI.grow (I:VI B G H σ env F) (gg:Same G G') (gh:Same G' H') (hh:Same H H') (gn:∀ a o,G' a=some o->G a=some o\/H a=none) (ft:FT G' H'):VI B G' H' σ env F where
 gh:=gh
 g0:=I.g0.trans gg
 gn:=fun a o e=>by
  rcases gn a o e with e | e
  ·exact I.gn a o e
  ·exact .inr (I.no_b e)
 rs:=I.rs.trans hh
 rb:=I.rb
 bh:=fun a o e=>by obtain ⟨o',e'⟩:=I.bh a o e;exact ⟨o',hh _ _ e'⟩
 fg:=fun i a z=>by
  cases e:G' a with
  | none=>rfl
  | some o =>
   rcases gn a o e with e | e
   ·rw [I.fg i a z] at e;cases e
   ·exact absurd z (I.no_f e i)
 fr:=I.fr
 fd:=I.fd
 fo:=fun i a z=>by obtain ⟨o,e⟩:=I.fo i a z;exact ⟨o,hh _ _ e⟩
 sl:=fun i s e=>by
  obtain ⟨v,e1,e2⟩:=I.sl i s e
  exact ⟨v,e1,e2.mono gg fun a o _ q=>hh _ _ q⟩
 ln:=I.ln
 ft:=ft
theorem VI.out (I:VI B G H σ env F) (o:Out G H v G' H' s Fv):VI B G' H' σ env F/\RsX B G' H' v Fv s F :=
 ⟨I.grow o.gg o.gh o.hh o.gn (o.ft I.ft),o.ok,fun a z=>I.no_b (o.fn a z),o.fg,o.fo,fun j a z y=>I.no_f (o.fn a z) j y⟩
theorem VI.b_r (I:VI B G H σ env F) {a:Addr} (h:B.H a=none):B.R a=none:=by
 cases e:B.R a with
 | none=>rfl
 | some o=>rw [I.rb a o e] at h;cases h
def putF (F:Nat->Addr->Prop) (i:Nat) (Fv:Addr->Prop):Nat->Addr->Prop:=fun j a=>if j=i then Fv a else F j a
theorem putF_same {i:Nat} {a:Addr}:putF F i Fv i a ↔ Fv a:=by unfold putF;rw [if_pos rfl]
theorem ad2 {i:Nat}:putF F i Fv i=Fv:=by funext a;unfold putF;rw [if_pos rfl]
theorem aa8 {i j:Nat} (h:j ≠ i):putF F i Fv j=F j:=by funext a;unfold putF;rw [if_neg h]
theorem VI.slot (I:VI B G H σ env F) (i:Nat) (o:Option V) (os:Option Sl) (fg:∀ a,Fv a->G a=none) (fr:∀ a,Fv a->B.R a=none) (fo:∀ a,Fv a->∃ o,H a=some o) (fd:∀ j a,j ≠ i->Fv a->¬ F j a)
  (ok:∀ s,os=some s->∃ v,o=some v/\SlOk B G H i v Fv s):VI B G H (σ.set i o) (env.set i os) (putF F i Fv) where
 gh:=I.gh
 g0:=I.g0
 gn:=I.gn
 rs:=I.rs
 rb:=I.rb
 bh:=I.bh
 fg:=fun j a z=>by
  by_cases h:j=i
  ·subst h;exact fg a (putF_same.mp z)
  ·rw [aa8 h] at z;exact I.fg j a z
 fr:=fun j a z=>by
  by_cases h:j=i
  ·subst h;exact fr a (putF_same.mp z)
  ·rw [aa8 h] at z;exact I.fr j a z
 fd:=fun j k a y z=>by
  by_cases h:j=i
  ·by_cases g:k=i
   ·rw [h,g]
   ·subst h;rw [aa8 g] at z;exact absurd z (fd k a g (putF_same.mp y))
  ·by_cases g:k=i
   ·subst g;rw [aa8 h] at y;exact absurd y (fd j a h (putF_same.mp z))
   ·rw [aa8 h] at y;rw [aa8 g] at z;exact I.fd j k a y z
 fo:=fun j a z=>by
  by_cases h:j=i
  ·subst h;exact fo a (putF_same.mp z)
  ·rw [aa8 h] at z;exact I.fo j a z
 sl:=fun j t e=>by
  by_cases h:j=i
  ·subst h
   rw [List.getElem?_set,if_pos rfl] at e
   by_cases hl:j < env.length
   ·rw [if_pos hl] at e
    obtain ⟨v,hv,q⟩:=ok t (Option.some.inj e)
    refine ⟨v,by rw [List.getElem?_set,if_pos rfl,if_pos (by rw [I.ln];exact hl),hv],?_⟩
    rw [ad2];exact q
   ·rw [if_neg hl] at e;cases e
  ·rw [List.getElem?_set,if_neg (fun z=>h z.symm)] at e
   obtain ⟨v,hv,q⟩:=I.sl j t e
   refine ⟨v,by rw [List.getElem?_set,if_neg (fun z=>h z.symm)];exact hv,?_⟩
   rw [aa8 h];exact q
 ln:=by simp [I.ln]
 ft:=I.ft
theorem VI.store (I:VI B G H σ env F) (r:RsX B G H v Fv s F) (i:Nat):VI B G H (σ.set i (some v)) (env.set i (some s)) (putF F i Fv):=by
 refine I.slot i (some v) (some s) r.fg (fun a z=>I.b_r (r.fb a z)) r.fo (fun j a _ z=>r.fd j a z) fun t e=>?_
 cases e
 refine ⟨v,rfl,?_⟩
 have:=r.ok
 cases s with
 | st d=>exact this
 | own A=>exact ⟨this,r.fb⟩
 | io A=>exact this.elim
 | scr ns=>exact this.elim
theorem VI.drop (I:VI B G H σ env F) (i:Nat):VI B G H σ (env.set i none) (putF F i fun _=>False):=by
 have:=I.slot (Fv:=fun _=>False) i ((σ[i]?).getD none) none (fun a z=>z.elim) (fun a z=>z.elim) (fun a z=>z.elim) (fun j a _ z=>z.elim) (fun s e=>by cases e)
 rwa [show σ.set i ((σ[i]?).getD none) = σ from ?_] at this
 apply List.ext_getElem?
 intro j
 rw [List.getElem?_set]
 by_cases h:i=j
 ·subst h
  rw [if_pos rfl]
  by_cases hl:i < σ.length
  ·rw [if_pos hl,List.getElem?_eq_getElem hl];rfl
  ·rw [if_neg hl,List.getElem?_eq_none_iff.mpr (by row_cond lo)]
 ·rw [if_neg h]
theorem VI.change {A:Own} (I:VI B G H σ env F) (i:Nat) {H2:Hp} {F2:Addr->Prop} {os os':Sl} (e:env[i]?=some (some os)) (hv : σ[i]?=some (some v))
  (keep:∀ a o,¬ F i a->H a=some o->H2 a=some o) (dm:∀ a o,H a=some o->∃ o',H2 a=some o') (f2:∀ a,F2 a->(F i a\/H a=none)/\∃ o,H2 a=some o) (hp:A.P G H2 v F2) (ht:FT G H2)
  (hs:(os'=.own A/\∃ A0,os=.own A0)\/(os'=.io A/\∃ A0,os=.io A0)):VI B G H2 σ (env.set i (some os')) (putF F i F2):=by
 obtain ⟨v',hv',q⟩:=I.sl i os e
 rw [hv] at hv';cases hv'
 have nf:∀ j a,j ≠ i->F j a->¬ F i a:=fun j a hj y z=>hj (I.fd j i a y z)
 have g2:∀ a,F2 a->G a=none:=fun a z=>by
  rcases (f2 a z).1 with y | y
  ·exact I.fg i a y
  ·exact I.no_g y
 have J:VI B G H2 σ (env.set i none) (putF F i fun _=>False):=by
  have D:=I.drop i
  refine ⟨fun a o x=>keep a o (fun z=>by rw [I.fg i a z] at x;cases x) (I.gh a o x),D.g0,D.gn,fun a o x=>keep a o (fun z=>by rw [I.fr i a z] at x;cases x) (I.rs a o x),D.rb,fun a o x=>?_,D.fg,D.fr,D.fd,fun j a z=>?_,fun j s x=>?_,D.ln,ht⟩
  ·obtain ⟨o',x'⟩:=I.bh a o x
   exact dm a o' x'
  ·obtain ⟨o,x⟩:=D.fo j a z
   exact dm a o x
  ·obtain ⟨u,h1,h2⟩:=D.sl j s x
   refine ⟨u,h1,h2.mono (Same.refl G) fun a o z y=>?_⟩
   by_cases hj:j=i
   ·subst hj;exact (putF_same.mp z).elim
   ·rw [aa8 hj] at z
    exact keep a o (nf j a hj z) y
 have J2:=J.slot (Fv:=F2) i (some v) (some os') g2 (fun a z=>by
   rcases (f2 a z).1 with y | y
   ·exact I.fr i a y
   ·exact I.no_r y) (fun a z=>(f2 a z).2) (fun j a hj z y=>by
   rw [aa8 hj] at y
   rcases (f2 a z).1 with x | x
   ·exact nf j a hj y x
   ·exact I.no_f x j y) fun t et=>by
   cases et
   refine ⟨v,rfl,?_⟩
   rcases hs with ⟨rfl,A0,rfl⟩ | ⟨rfl,A0,rfl⟩
   ·refine ⟨hp,fun a z=>?_⟩
    rcases (f2 a z).1 with y | y
    ·exact q.2 a y
    ·exact I.no_b y
   ·refine ⟨hp,fun a z=>?_,q.2.2⟩
    rcases (f2 a z).1 with y | y
    ·exact q.2.1 a y
    ·exact .inr (I.no_b y)
 have e1 : σ.set i (some v) = σ:=by
  apply List.ext_getElem?
  intro j
  rw [List.getElem?_set]
  by_cases h:i=j
  ·subst h
   rw [if_pos rfl,hv,if_pos (List.getElem?_eq_some_iff.mp hv).1]
  ·rw [if_neg h]
 have e2:(env.set i none).set i (some os')=env.set i (some os'):=by simp
 have e3:putF (putF F i fun _=>False) i F2=putF F i F2:=by
  funext j a
  by_cases h:j=i
  ·subst h;rw [ad2,ad2]
  ·rw [aa8 h,aa8 h,aa8 h]
 rw [e1,e2,e3] at J2
 exact J2
end
end VL
namespace VL
open PySem PySem.Spec L2
open Classical in
noncomputable def jn (G H:Hp) (F:Addr->Prop):Hp:=fun a=>if F a then H a else G a
theorem afb {G H:Hp} {F:Addr->Prop} {a:Addr} (h:F a):jn G H F a=H a:=if_pos h
theorem ajb {G H:Hp} {F:Addr->Prop} {a:Addr} (h:¬ F a):jn G H F a=G a:=if_neg h
theorem abu {G H:Hp} {F:Addr->Prop} (h:∀ a,F a->G a=none):Same G (jn G H F):=fun a o e=>by
 rw [ajb (fun z=>by rw [h a z] at e;cases e)];exact e
theorem ate {G H:Hp} {F:Addr->Prop} (h:Same G H):Same (jn G H F) H:=fun a o e=>by
 by_cases z:F a
 ·rw [afb z] at e;exact e
 ·rw [ajb z] at e;exact h a o e
def Frz (A:Own) (d:PyData):Prop:=∀ (G H:Hp) (v:V) (F:Addr->Prop),A.P G H v F->(∀ a,F a->G a=none)->Same G H->Rp (jn G H F) v d
noncomputable def FQ:Sl->(PyData->Prop)->Prop
 | .st d,R=>R d
 | .own A,R=>∃ d,Frz A d/\R d
 | _,_=>False
noncomputable def OL (ds:List PyData):Own where
 P:=fun G H v F=>∃ a vs,v=.ref a/\H a=some (.lst vs)/\Rps G vs ds/\∀ b,F b ↔ b=a
 mono:=fun ⟨a,vs,e,h,r,f⟩ g hh=>⟨a,vs,e,hh a _ ((f a).mpr rfl) h,r.same g,f⟩
 dom:=fun ⟨a,vs,e,h,r,f⟩ b z=>by rw [(f b).mp z];exact ⟨_,h⟩
noncomputable def OD (es:List (Key × PyData)):Own where
 P:=fun G H v F=>∃ a kvs,v=.ref a/\H a=some (.dK kvs)/\RpK G kvs es/\∀ b,F b ↔ b=a
 mono:=fun ⟨a,vs,e,h,r,f⟩ g hh=>⟨a,vs,e,hh a _ ((f a).mpr rfl) h,r.same g,f⟩
 dom:=fun ⟨a,vs,e,h,r,f⟩ b z=>by rw [(f b).mp z];exact ⟨_,h⟩
theorem adm {ds:List PyData}:Frz (OL ds) (.list ds):=fun G H v F ⟨a,vs,e,h,r,f⟩ n g=>by
 subst e
 exact .lst (by rw [afb ((f a).mpr rfl)];exact h) (r.same (abu n))
theorem atf {d:PyData} {R:PyData->Prop} (h:R d):FQ (.st d) R:=h
theorem adf {ds:List PyData} {R:PyData->Prop} (h:R (.list ds)):FQ (.own (OL ds)) R:=⟨_,adm,h⟩
section
variable {B:Bs} {G H G' H':Hp} {σ:St} {env:En} {F:Nat->Addr->Prop} {v:V} {s:Sl} {Fv:Addr->Prop}
theorem VI.freeze (I:VI B G H σ env F) (fb:∀ a,Fv a->B.H a=none) (fd:∀ j a,Fv a->¬ F j a) (fg:∀ a,Fv a->G a=none):VI B (jn G H Fv) H σ env F where
 gh:=ate I.gh
 g0:=I.g0.trans (abu fg)
 gn:=fun a o e=>by
  by_cases z:Fv a
  ·exact .inr (fb a z)
  ·rw [ajb z] at e;exact I.gn a o e
 rs:=I.rs
 rb:=I.rb
 bh:=I.bh
 fg:=fun i a z=>by
  rw [ajb (fun y=>fd i a y z)];exact I.fg i a z
 fr:=I.fr
 fd:=I.fd
 fo:=I.fo
 sl:=fun i s e=>by
  obtain ⟨v,e1,e2⟩:=I.sl i s e
  exact ⟨v,e1,e2.mono (abu fg) fun a o _ q=>q⟩
 ln:=I.ln
 ft:=fun a ks e=>abu fg _ _ (I.ft a ks e)
theorem VI.frz {A:Own} {d:PyData} {i:Nat} (I:VI B G H σ env F) (e:env[i]?=some (some (.own A))) (f:Frz A d) :
  ∃ v,σ[i]?=some (some v)/\Rp (jn G H (F i)) v d/\Same G (jn G H (F i))/\VI B (jn G H (F i)) H σ (env.set i (some (.st d))) (putF F i fun _=>False):=by
 obtain ⟨v,hv,q⟩:=I.sl i _ e
 have hr:=f G H v (F i) q.1 (I.fg i) I.gh
 refine ⟨v,hv,hr,abu (I.fg i),?_⟩
 have D:=(I.drop i).freeze (Fv:=F i) q.2 (fun j a z y=>by
  by_cases h:j=i
  ·subst h;exact (putF_same.mp y).elim
  ·rw [aa8 h] at y;exact h (I.fd j i a y z)) (I.fg i)
 have J:=D.slot (Fv:=fun _=>False) i (some v) (some (.st d)) (fun a z=>z.elim) (fun a z=>z.elim) (fun a z=>z.elim) (fun j a _ z=>z.elim) (fun t et=>by cases et;exact ⟨v,rfl,hr,fun a z=>z⟩)
 have e1 : σ.set i (some v) = σ:=by
  apply List.ext_getElem?
  intro j
  rw [List.getElem?_set]
  by_cases h:i=j
  ·subst h
   rw [if_pos rfl,hv,if_pos (List.getElem?_eq_some_iff.mp hv).1]
  ·rw [if_neg h]
 have e3:putF (putF F i fun _=>False) i (fun _=>False)=putF F i fun _=>False:=by
  funext j a
  by_cases h:j=i
  ·subst h;rw [ad2,ad2]
  ·rw [aa8 h,aa8 h]
 rw [e1,e3,List.set_set] at J
 exact J
theorem Out.refl {d:PyData} (g:Same G H) (r:Rp G v d):Out G H v G H (.st d) (fun _=>False):=⟨Same.refl _,g,Same.refl _,fun a o e => .inl e,fun a z=>z.elim,fun a z=>z.elim,fun a z=>z.elim,⟨r,fun a z=>z⟩,fun t=>t⟩
theorem aud {p:Addr} {o:HO} (g:Same G H) (h:H p=none):Same (upd G p o) (upd H p o):=fun a u e=>by
 by_cases z:a=p
 ·subst z;rw [aag] at e ⊢;exact e
 ·rw [aac z] at e ⊢;exact g a u e
theorem abx {p:Addr} (g:Same G H) (h:H p=none):G p=none:=by
 cases e:G p with
 | none=>rfl
 | some o=>rw [g p o e] at h;cases h
theorem Out.newT {p:Addr} {xs:List V} {ds:List PyData} (g:Same G H) (h:H p=none) (r:Rps G xs ds):Out G H (.ref p) (upd G p (.tup xs)) (upd H p (.tup xs)) (.st (.tuple ds)) (fun _=>False) where
 gg:=abp (abx g h)
 gh:=aud g h
 hh:=abp h
 gn:=fun a o e=>by
  by_cases z:a=p
  ·subst z;exact .inr h
  ·rw [aac z] at e;exact .inl e
 fn:=fun a z=>z.elim
 fg:=fun a z=>z.elim
 fo:=fun a z=>z.elim
 ok:=⟨.tup aag (r.same (abp (abx g h))),fun a z=>z⟩
 ft:=fun t a ks e=>by
  by_cases z:a=p
  ·subst z;rw [aag] at e ⊢;exact e
  ·rw [aac z] at e ⊢;exact t a ks e
theorem Out.newO {p:Addr} {o:HO} {A:Own} (g:Same G H) (h:H p=none) (nt:∀ xs,o ≠ .tup xs) (r:A.P G (upd H p o) (.ref p) (· = p)):Out G H (.ref p) G (upd H p o) (.own A) (· = p) where
 gg:=Same.refl _
 gh:=g.trans (abp h)
 hh:=abp h
 gn:=fun a o e => .inl e
 fn:=fun a z=>by rw [z];exact h
 fg:=fun a z=>by rw [z];exact abx g h
 fo:=fun a z=>by rw [z];exact ⟨_,aag⟩
 ok:=r
 ft:=fun t a ks e=>by
  by_cases z:a=p
  ·subst z;rw [aag] at e;exact absurd (Option.some.inj e) (nt _)
  ·rw [aac z] at e;exact t a ks e
theorem Out.newL {p:Addr} {xs:List V} {ds:List PyData} (g:Same G H) (h:H p=none) (r:Rps G xs ds):Out G H (.ref p) G (upd H p (.lst xs)) (.own (OL ds)) (· = p) :=
 .newO g h (fun _ z=>nomatch z) ⟨p,xs,rfl,aag,r,fun b=>Iff.rfl⟩
theorem Out.newD {p:Addr} {xs:List (Key × V)} {ds:List (Key × PyData)} (g:Same G H) (h:H p=none) (r:RpK G xs ds):Out G H (.ref p) G (upd H p (.dK xs)) (.own (OD ds)) (· = p) :=
 .newO g h (fun _ z=>nomatch z) ⟨p,xs,rfl,aag,r,fun b=>Iff.rfl⟩
end
def EvO (B:Bs) (te:TE) (env:En) (Q':Sl->En->Prop):Prop:=∀ (σ:St) (G H:Hp) (F:Nat->Addr->Prop) (Q:VK),VI B G H σ env F ->
 (∀ v G' H' F' Fv s env',VI B G' H' σ env' F'->Same G G'->RsX B G' H' v Fv s F'->Q' s env'->Q v H')->te σ H Q
def Ev (B:Bs) (te:TE) (env:En) (Q':PyData->En->Prop):Prop:=∀ (σ:St) (G H:Hp) (F:Nat->Addr->Prop) (Q:VK),VI B G H σ env F ->
 (∀ v G' H' F' d env',VI B G' H' σ env' F'->Same G G'->Rp G' v d->Q' d env'->Q v H')->te σ H Q
def EvT (B:Bs) (tt:TT) (env:En) (Q':Bool->En->Prop):Prop:=∀ (σ:St) (G H:Hp) (F:Nat->Addr->Prop) (Q:Bool->Hp->Prop),VI B G H σ env F ->
 (∀ b G' H' F' env',VI B G' H' σ env' F'->Same G G'->Q' b env'->Q b H')->tt σ H Q
def EvA (B:Bs) (ta:TA) (env:En) (Q':List PyData->En->Prop):Prop:=∀ (σ:St) (G H:Hp) (F:Nat->Addr->Prop) (Q:List V->Hp->Prop),VI B G H σ env F ->
 (∀ vs G' H' F' ds env',VI B G' H' σ env' F'->Same G G'->Rps G' vs ds->Q' ds env'->Q vs H')->ta σ H Q
structure ItOk (G:Hp) (J:It) (ds:List PyData):Prop where
 go:∀ i G' H',Same G G'->Same G' H'->i < ds.length->J.go i H'
 stop:∀ i G' H',Same G G'->Same G' H'->i=ds.length->J.stop i H'
 yld:∀ i G' H' x H'' d,Same G G'->Same G' H'->FT G' H'->ds[i]?=some d->J.yld i H' x H''->∃ G'',Out G' H' x G'' H'' (.st d) (fun _=>False)
def EvI (B:Bs) (ti:TI) (env:En) (Q':List PyData->En->Prop):Prop:=∀ (σ:St) (G H:Hp) (F:Nat->Addr->Prop) (R:It->Hp->Prop),VI B G H σ env F ->
 (∀ J G' H' F' ds env',VI B G' H' σ env' F'->Same G G'->ItOk G' J ds->Q' ds env'->R J H')->ti σ H R
def EvG (B:Bs) (g:TG) (s:Sl) (env:En) (Q':En->Prop):Prop:=∀ (σ:St) (G H:Hp) (F:Nat->Addr->Prop) (v:V) (Fv:Addr->Prop) (Q:St->Hp->Prop),VI B G H σ env F->RsX B G H v Fv s F ->
 (∀ σ' G' H' F' env',VI B G' H' σ' env' F'->Same G G'->Q' env'->Q σ' H')->g v σ H Q
def EvGs (B:Bs) (g:TGs) (ds:List PyData) (env:En) (Q':En->Prop):Prop:=∀ (σ:St) (G H:Hp) (F:Nat->Addr->Prop) (vs:List V) (Q:St->Hp->Prop),VI B G H σ env F->Rps G vs ds ->
 (∀ σ' G' H' F' env',VI B G' H' σ' env' F'->Same G G'->Q' env'->Q σ' H')->g vs σ H Q
structure VEnds where
 nx:En->Prop
 rt:Sl->En->Prop
 bk:En->Prop:=fun _=>False
 ct:En->Prop:=fun _=>False
structure RelE (B:Bs) (G:Hp) (D:Ends) (D':VEnds):Prop where
 nx:∀ σ G' H F env,VI B G' H σ env F->Same G G'->D'.nx env->D.nx σ H
 rt:∀ σ G' H F env v Fv s,VI B G' H σ env F->Same G G'->RsX B G' H v Fv s F->D'.rt s env->D.rt v H
 bk:∀ σ G' H F env,VI B G' H σ env F->Same G G'->D'.bk env->D.bk σ H
 ct:∀ σ G' H F env,VI B G' H σ env F->Same G G'->D'.ct env->D.ct σ H
def EvS (B:Bs) (ts:TS) (D':VEnds) (env:En):Prop:=∀ (σ:St) (G H:Hp) (F:Nat->Addr->Prop) (D:Ends),VI B G H σ env F->RelE B G D D'->ts D σ H
theorem RelE.later {B:Bs} {G G':Hp} {D:Ends} {D':VEnds} (r:RelE B G D D') (g:Same G G'):RelE B G' D D' :=
 ⟨fun σ G2 H F env I q=>r.nx σ G2 H F env I (g.trans q),fun σ G2 H F env v Fv s I q=>r.rt σ G2 H F env v Fv s I (g.trans q),fun σ G2 H F env I q=>r.bk σ G2 H F env I (g.trans q),fun σ G2 H F env I q=>r.ct σ G2 H F env I (g.trans q)⟩
section
variable {B:Bs} {env:En} {Q':PyData->En->Prop} {QO:Sl->En->Prop} {QT:Bool->En->Prop} {QA:List PyData->En->Prop} {te ta tb:TE}
theorem aci {G H:Hp} {v:V} {d:PyData} {F:Nat->Addr->Prop} (r:Rp G v d):RsX B G H v (fun _=>False) (.st d) F:=⟨⟨r,fun a z=>z⟩,fun a z=>z.elim,fun a z=>z.elim,fun a z=>z.elim,fun j a z=>z.elim⟩
theorem abv (h:Ev B te env fun d e=>QO (.st d) e):EvO B te env QO:=fun σ G H F Q I k =>
 h σ G H F Q I fun v G' H' F' d env' I' g r q=>k v G' H' F' _ (.st d) env' I' g (aci r) q
theorem abz (h:EvO B te env fun s e=>FQ s fun d=>Q' d e):Ev B te env Q':=fun σ G H F Q I k =>
 h σ G H F Q I fun v G' H' F' Fv s env' I' g r q=>by
  cases s with
  | st d=>exact k v G' H' F' d env' I' g r.ok.1 q
  | own A =>
   obtain ⟨d,f,q⟩:=q
   exact k v _ H' F' d env' (I'.freeze r.fb r.fd r.fg) (g.trans (abu r.fg)) (f G' H' v Fv r.ok r.fg I'.gh) q
  | io A=>exact q.elim
  | scr ns=>exact q.elim
theorem aw5 {i:Nat} {d:PyData} (e:env[i]?=some (some (.st d))) (q:Q' d env):Ev B (tVar i) env Q':=fun σ G H F Q I k=>by
 obtain ⟨v,hv,r⟩:=I.sl i _ e
 exact ⟨v,hv,k v G H F d env I (Same.refl _) r.1 q⟩
theorem aue {i:Nat} {A:Own} {d:PyData} (e:env[i]?=some (some (.own A))) (f:Frz A d) (q:Q' d (env.set i (some (.st d)))):Ev B (tVar i) env Q':=fun σ G H F Q I k=>by
 obtain ⟨v,hv,r,g,J⟩:=I.frz e f
 exact ⟨v,hv,k v _ H _ d _ J g r q⟩
theorem ark {i:Nat} {A:Own} (e:env[i]?=some (some (.own A))) (q:QO (.own A) (env.set i none)):EvO B (tVar i) env QO:=fun σ G H F Q I k=>by
 obtain ⟨v,hv,r⟩:=I.sl i _ e
 refine ⟨v,hv,k v G H _ (F i) (.own A) _ (I.drop i) (Same.refl _) ⟨r.1,r.2,I.fg i,I.fo i,fun j a z y=>?_⟩ q⟩
 by_cases h:j=i
 ·subst h;exact putF_same.mp y
 ·rw [aa8 h] at y;exact h (I.fd j i a y z)
theorem aw6 {i:Int} (q:Q' (.int i) env):Ev B (tC (.int i)) env Q':=fun σ G H F Q I k=>k _ G H F _ env I (Same.refl _) (.int i) q
theorem ayw {b:Bool} (q:Q' (.bool b) env):Ev B (tC (.bl b)) env Q':=fun σ G H F Q I k=>k _ G H F _ env I (Same.refl _) (.bl b) q
theorem aw7 (q:Q' .none env):Ev B (tC .non) env Q':=fun σ G H F Q I k=>k _ G H F _ env I (Same.refl _) .non q
def Op2 (r:R2) (x y:PyData) (R:Sl->Prop):Prop:=∀ (G H:Hp) (vx vy:V) (Q:VK),Same G H->Rp G vx x->Rp G vy y->(∀ v G' H' s Fv,Out G H v G' H' s Fv->R s->Q v H')->r vx vy H Q
def OpA (r:List V->Hp->VK->Prop) (ds:List PyData) (R:Sl->Prop):Prop:=∀ (G H:Hp) (vs:List V) (Q:VK),Same G H->Rps G vs ds->(∀ v G' H' s Fv,Out G H v G' H' s Fv->R s->Q v H')->r vs H Q
theorem akd {r:R2} (h:Ev B ta env fun x e1=>Ev B tb e1 fun y e2=>Op2 r x y fun s=>QO s e2):EvO B (tOp r ta tb) env QO:=fun σ G H F Q I k =>
 h σ G H F _ I fun v1 G1 H1 F1 x e1 I1 g1 r1 q1=>q1 σ G1 H1 F1 _ I1 fun v2 G2 H2 F2 y e2 I2 g2 r2 q2 =>
  q2 G2 H2 v1 v2 Q I2.gh (r1.same g2) r2 fun v G3 H3 s Fv o q3=>k v G3 H3 F2 Fv s e2 (I2.out o).1 (g1.trans (g2.trans o.gg)) (I2.out o).2 q3
theorem ayx {r:R2} (h:Ev B ta env fun x e1=>Ev B tb e1 fun y e2=>Op2 r x y fun s=>FQ s fun d=>Q' d e2):Ev B (tOp r ta tb) env Q':=abz (akd h)
theorem auf (q:QA [] env):EvA B tNil env QA:=fun σ G H F Q I k=>k [] G H F [] env I (Same.refl _) .nil q
theorem arl {tr:TA} (h:Ev B ta env fun x e1=>EvA B tr e1 fun xs e2=>QA (x :: xs) e2):EvA B (aa6 ta tr) env QA:=fun σ G H F Q I k =>
 h σ G H F _ I fun v1 G1 H1 F1 x e1 I1 g1 r1 q1=>q1 σ G1 H1 F1 _ I1 fun vs G2 H2 F2 ds e2 I2 g2 r2 q2=>k _ G2 H2 F2 _ e2 I2 (g1.trans g2) (.cons (r1.same g2) r2) q2
theorem agi {r:List V->Hp->VK->Prop} {t:TA} (h:EvA B t env fun ds e1=>OpA r ds fun s=>QO s e1):EvO B (tCB r t) env QO:=fun σ G H F Q I k =>
 h σ G H F _ I fun vs G1 H1 F1 ds e1 I1 g1 r1 q1=>q1 G1 H1 vs Q I1.gh r1 fun v G3 H3 s Fv o q3=>k v G3 H3 F1 Fv s e1 (I1.out o).1 (g1.trans o.gg) (I1.out o).2 q3
theorem ayy {r:List V->Hp->VK->Prop} {t:TA} (h:EvA B t env fun ds e1=>OpA r ds fun s=>FQ s fun d=>Q' d e1):Ev B (tCB r t) env Q':=abz (agi h)
theorem ama {t:TA} (h:EvA B t env fun ds e1=>ds.length<=1000/\QO (.st (.tuple ds)) e1):EvO B (tTup t) env QO:=fun σ G H F Q I k =>
 h σ G H F _ I fun vs G1 H1 F1 ds e1 I1 g1 r1 q1=>⟨by rw [r1.length];exact Nat.le_of_lt (aeq q1.1),fun p hp=>by
  have o:=Out.newT I1.gh hp r1
  exact k _ _ _ F1 _ _ e1 (I1.out o).1 (g1.trans o.gg) (I1.out o).2 q1.2⟩
theorem aw8 {t:TA} (h:EvA B t env fun ds e1=>ds.length<=1000/\Q' (.tuple ds) e1):Ev B (tTup t) env Q':=abz (ama h)
theorem amb {t:TA} (h:EvA B t env fun ds e1=>ds.length<=1000/\QO (.own (OL ds)) e1):EvO B (tLst t) env QO:=fun σ G H F Q I k =>
 h σ G H F _ I fun vs G1 H1 F1 ds e1 I1 g1 r1 q1=>⟨by rw [r1.length];exact Nat.le_of_lt (aeq q1.1),fun p hp=>by
  have o:=Out.newL I1.gh hp r1
  exact k _ _ _ F1 _ _ e1 (I1.out o).1 (g1.trans o.gg) (I1.out o).2 q1.2⟩
theorem aw9 {t:TA} (h:EvA B t env fun ds e1=>ds.length<=1000/\Q' (.list ds) e1):Ev B (tLst t) env Q':=abz (amb fun σ G H F Q I k=>h σ G H F Q I fun vs G' H' F' ds e1 I' g r q=>k vs G' H' F' ds e1 I' g r ⟨q.1,adf q.2⟩)
theorem ake (h:Ev B te env fun x e1=>∃ b,x=.bool b/\QT b e1):EvT B (as8 te) env QT:=fun σ G H F Q I k =>
 h σ G H F _ I fun v G1 H1 F1 x e1 I1 g1 r1 z_=>by
  obtain ⟨b,e,q⟩:=z_
  subst e
  cases r1
  exact ⟨b,rfl,k b G1 H1 F1 e1 I1 g1 q⟩
theorem ayz (h:Ev B te env fun x e1=>∃ b,x=.bool b/\QT b e1):EvT B (tB te) env QT:=ake h
theorem x_bl {b:Bool} {R:Bool->Prop} (h:R b):∃ c,PyData.bool b=.bool c/\R c:=⟨b,rfl,h⟩
theorem aug {t u:TT} (h:EvT B t env fun c e1=>if c=true then EvT B u e1 QT else QT false e1):EvT B (tAnd t u) env QT:=fun σ G H F Q I k =>
 h σ G H F _ I fun b G1 H1 F1 e1 I1 g1 q=>by
  cases b with
  | true=>rw [if_pos rfl] at q ⊢;exact q σ G1 H1 F1 Q I1 fun c G2 H2 F2 e2 I2 g2 q2=>k c G2 H2 F2 e2 I2 (g1.trans g2) q2
  | false=>rw [if_neg Bool.false_ne_true] at q ⊢;exact k false G1 H1 F1 e1 I1 g1 q
theorem axa {t u:TT} (h:EvT B t env fun c e1=>if c=true then QT true e1 else EvT B u e1 QT):EvT B (tOr t u) env QT:=fun σ G H F Q I k =>
 h σ G H F _ I fun b G1 H1 F1 e1 I1 g1 q=>by
  cases b with
  | false=>rw [if_neg Bool.false_ne_true] at q ⊢;exact q σ G1 H1 F1 Q I1 fun c G2 H2 F2 e2 I2 g2 q2=>k c G2 H2 F2 e2 I2 (g1.trans g2) q2
  | true=>rw [if_pos rfl] at q ⊢;exact k true G1 H1 F1 e1 I1 g1 q
theorem auh {t:TT} (h:EvT B t env fun c e1=>QT (!c) e1):EvT B (tNot t) env QT:=fun σ G H F Q I k =>
 h σ G H F _ I fun b G1 H1 F1 e1 I1 g1 q=>k (!b) G1 H1 F1 e1 I1 g1 q
theorem afc (q:QT true env):EvT B tYes env QT:=fun σ G H F Q I k=>k true G H F env I (Same.refl _) q
noncomputable def TruD:PyData->Bool->Prop
 | .bool b,k=>k=b
 | .list ds,k=>k = !ds.isEmpty
 | _,_=>False
theorem aui {K:PySem.W.Frag} (h:Ev B te env fun x e1=>∃ b,TruD x b/\QT b e1):EvT B (tTru K te) env QT:=fun σ G H F Q I k =>
 h σ G H F _ I fun v G1 H1 F1 x e1 I1 g1 r1 z_=>by
  obtain ⟨b,e,q⟩:=z_
  cases r1 with
  | bl c=>cases e;exact ⟨_,rfl,k _ G1 H1 F1 e1 I1 g1 q⟩
  | lst ha rs =>
   refine ⟨b,.inl ⟨_,SqL.of (I1.gh _ _ ha),?_⟩,k _ G1 H1 F1 e1 I1 g1 q⟩
   have e':b = !_:=e
   rw [e']
   cases rs <;> rfl
  | _=>exact e.elim
theorem auj (h:Ev B ta env fun x e1=>∃ b,x=.bool b/\if b=true then Ev B tb e1 Q' else Q' (.bool false) e1):Ev B (am8 ta tb) env Q':=fun σ G H F Q I k =>
 h σ G H F _ I fun v G1 H1 F1 x e1 I1 g1 r1 z_=>by
  obtain ⟨b,e,q⟩:=z_
  subst e
  cases r1
  refine ⟨b,rfl,?_⟩
  cases b with
  | true=>rw [if_pos rfl] at q ⊢;exact q σ G1 H1 F1 Q I1 fun v G2 H2 F2 d e2 I2 g2 r2 q2=>k v G2 H2 F2 d e2 I2 (g1.trans g2) r2 q2
  | false=>rw [if_neg Bool.false_ne_true] at q ⊢;exact k _ G1 H1 F1 _ e1 I1 g1 (.bl false) q
theorem auk (h:Ev B ta env fun x e1=>∃ b,x=.bool b/\Q' (.bool (!b)) e1):Ev B (am9 ta) env Q':=fun σ G H F Q I k =>
 h σ G H F _ I fun v G1 H1 F1 x e1 I1 g1 r1 z_=>by
  obtain ⟨b,e,q⟩:=z_
  subst e
  cases r1
  exact ⟨b,rfl,k _ G1 H1 F1 _ e1 I1 g1 (.bl _) q⟩
theorem arm {r r':R2} {tc:TE} (h:Ev B ta env fun x e1=>Ev B tb e1 fun y e2=>Op2 r x y fun s=>∃ b,s=.st (.bool b)/\if b=true then Ev B tc e2 fun z e3=>Op2 r' y z fun s'=>FQ s' fun d=>Q' d e3 else Q' (.bool false) e2):Ev B (ajk r r' ta tb tc) env Q':=fun σ G H F Q I k =>
 h σ G H F _ I fun v1 G1 H1 F1 x e1 I1 g1 r1 q1=>q1 σ G1 H1 F1 _ I1 fun v2 G2 H2 F2 y e2 I2 g2 r2 q2 =>
  q2 G2 H2 v1 v2 _ I2.gh (r1.same g2) r2 fun v G3 H3 s Fv o z_=>by
   obtain ⟨b,es,q3⟩:=z_
   have I3:=(I2.out o).1
   have rv:=o.ok
   subst es
   obtain ⟨rv,_⟩:=rv
   cases rv
   refine ⟨b,rfl,?_⟩
   cases b with
   | false=>rw [if_neg Bool.false_ne_true] at q3 ⊢;exact k _ G3 H3 F2 _ e2 I3 (g1.trans (g2.trans o.gg)) (.bl _) q3
   | true =>
    rw [if_pos rfl] at q3 ⊢
    refine q3 σ G3 H3 F2 _ I3 fun v3 G4 H4 F4 z e4 I4 g4 r4 q4=>q4 G4 H4 v2 v3 Q I4.gh (r2.same (o.gg.trans g4)) r4 fun v5 G5 H5 s5 Fv5 o5 q5=>?_
    have J:=I4.out o5
    have gg:=g1.trans (g2.trans (o.gg.trans (g4.trans o5.gg)))
    cases s5 with
    | st d=>exact k v5 G5 H5 F4 d e4 J.1 gg o5.ok.1 q5
    | own A =>
     obtain ⟨d,f,q⟩:=q5
     exact k v5 _ H5 F4 d e4 (J.1.freeze J.2.fb J.2.fd J.2.fg) (gg.trans (abu J.2.fg)) (f G5 H5 v5 Fv5 J.2.ok J.2.fg J.1.gh) q
    | io A=>exact q5.elim
    | scr ns=>exact q5.elim
end
end VL
namespace VL
open PySem PySem.Spec L2
section
variable {B:Bs} {env:En} {D':VEnds} {t u tb:TS} {te:TE} {g:TG} {c:TT} {QE:En->Prop}
theorem aul (h:EvS B t { D' with nx:=fun e=>EvS B u D' e } env):EvS B (tSeq t u) D' env:=fun σ G H F D I r =>
 h σ G H F { D with nx:=u D } I ⟨fun σ G' H F env I' g q=>q σ G' H F D I' (r.later g),r.rt,r.bk,r.ct⟩
theorem aed (h:D'.nx env):EvS B asw D' env:=fun σ G H F D I r=>r.nx σ G H F env I (Same.refl _) h
theorem aum (h:EvO B te env fun s e=>EvG B g s e D'.nx):EvS B (tAsg te g) D' env:=fun σ G H F D I r =>
 h σ G H F _ I fun v G1 H1 F1 Fv s e1 I1 g1 x1 q1=>q1 σ G1 H1 F1 v Fv D.nx I1 x1 fun σ2 G2 H2 F2 e2 I2 g2 q2=>r.nx σ2 G2 H2 F2 e2 I2 (g1.trans g2) q2
theorem aa3 {i:Nat} {s:Sl} (h:QE (env.set i (some s))):EvG B (aa5 i) s env QE:=fun σ G H F v Fv Q I x k=>k _ G H _ _ (I.store x i) (Same.refl _) h
theorem afu (h:QE env):EvGs B gNil [] env QE:=fun σ G H F vs Q I x k=>by cases x;exact ⟨rfl,k σ G H F env I (Same.refl _) h⟩
theorem ac0 {gs:TGs} {d:PyData} {ds:List PyData} (h:EvG B g (.st d) env fun e=>EvGs B gs ds e QE):EvGs B (act g gs) (d :: ds) env QE:=fun σ G H F vs Q I x k=>by
 cases x with
 | cons r rs =>
  refine ⟨_,_,rfl,h σ G H F _ _ _ I (aci r) fun σ1 G1 H1 F1 e1 I1 g1 q1=>q1 σ1 G1 H1 F1 _ Q I1 (rs.same g1) fun σ2 G2 H2 F2 e2 I2 g2 q2=>k σ2 G2 H2 F2 e2 I2 (g1.trans g2) q2⟩
theorem ahc {K:PySem.W.Frag} {n:Nat} {gs:TGs} {ds:List PyData} (hl:ds.length=n) (h:EvGs B gs ds env QE):EvG B (gTup K n gs) (.st (.tuple ds)) env QE:=fun σ G H F v Fv Q I x k=>by
 obtain ⟨r,_⟩:=x.ok
 cases r with
 | tup ha rs=>exact ⟨_,_,rfl,SqT.of (I.gh _ _ ha),by rw [rs.length,hl],h σ G H F _ Q I rs k⟩
theorem amc (h:EvO B te env fun s e=>D'.rt s e):EvS B (tRet te) D' env:=fun σ G H F D I r =>
 h σ G H F _ I fun v G1 H1 F1 Fv s e1 I1 g1 x1 q1=>r.rt σ G1 H1 F1 e1 v Fv s I1 g1 x1 q1
theorem arn (h:EvO B te env fun _ e=>D'.nx e):EvS B (asx te) D' env:=fun σ G H F D I r =>
 h σ G H F _ I fun v G1 H1 F1 Fv s e1 I1 g1 x1 q1=>r.nx σ G1 H1 F1 e1 I1 g1 q1
theorem axb (h:EvT B c env fun b e=>if b=true then EvS B t D' e else EvS B u D' e):EvS B (tIfS c t u) D' env:=fun σ G H F D I r =>
 h σ G H F _ I fun b G1 H1 F1 e1 I1 g1 q=>by
  cases b with
  | true=>rw [if_pos rfl] at q ⊢;exact q σ G1 H1 F1 D I1 (r.later g1)
  | false=>rw [if_neg Bool.false_ne_true] at q ⊢;exact q σ G1 H1 F1 D I1 (r.later g1)
def ForV (B:Bs) (g:TG) (tb:TS) (D':VEnds) (ds:List PyData) (e1:En):Prop:=∃ J:Nat->En->Prop,J 0 e1/\(∀ i d e,ds[i]?=some d->J i e->EvG B g (.st d) e fun e2=>EvS B tb { D' with nx:=J (i+1),ct:=J (i+1),bk:=D'.nx } e2)/\∀ e,J ds.length e->D'.nx e
theorem aun {wi:TI} (h:EvI B wi env fun ds e1=>ForV B g tb D' ds e1):EvS B (tFor wi g tb) D' env:=fun σ G H F D I r =>
 h σ G H F _ I fun J G1 H1 F1 ds e1 I1 g1 it z_=>by
  obtain ⟨Jv,j0,js,jd⟩:=z_
  refine ⟨fun i m σ H=>m=ds.length - i/\i<=ds.length/\∃ G2 F2 e2,VI B G2 H σ e2 F2/\Same G1 G2/\Jv i e2,⟨ds.length,by simp,Nat.zero_le _,G1,F1,e1,I1,Same.refl _,j0⟩,?_⟩
  rintro i m σ H ⟨rfl,hi,G2,F2,e2,I2,g2,j2⟩
  by_cases hlt:i < ds.length
  ·refine .inr ⟨it.go i G2 H g2 I2.gh hlt,fun σ H=>∃ G3 F3 e3,VI B G3 H σ e3 F3/\Same G1 G3/\Jv (i+1) e3,fun σ' H' h'=>⟨ds.length - (i+1),by row_cond lo,rfl,hlt,h'⟩,fun x H' y=>?_⟩
   obtain ⟨G3,o⟩:=it.yld i G2 H x H' _ g2 I2.gh I2.ft (List.getElem?_eq_getElem hlt) y
   have I3:=I2.out o
   refine js i _ e2 (List.getElem?_eq_getElem hlt) j2 σ G3 H' F2 x _ _ I3.1 I3.2 fun σ4 G4 H4 F4 e4 I4 g4 q4=>?_
   have gg:=g2.trans (o.gg.trans g4)
   refine q4 σ4 G4 H4 F4 _ I4 ⟨fun σ5 G5 H5 F5 e5 I5 g5 q5=>⟨G5,F5,e5,I5,gg.trans g5,q5⟩,fun σ5 G5 H5 F5 e5 v5 Fv5 s5 I5 g5=>r.rt σ5 G5 H5 F5 e5 v5 Fv5 s5 I5 (g1.trans (gg.trans g5)),fun σ5 G5 H5 F5 e5 I5 g5=>r.nx σ5 G5 H5 F5 e5 I5 (g1.trans (gg.trans g5)),fun σ5 G5 H5 F5 e5 I5 g5 q5=>⟨G5,F5,e5,I5,gg.trans g5,q5⟩⟩
  ·have e:i=ds.length:=by row_cond lo
   subst e
   exact .inl ⟨it.stop _ G2 H g2 I2.gh rfl,r.nx σ G2 H F2 e2 I2 (g1.trans g2) (jd e2 j2)⟩
theorem ah2 (J:Nat->En->Prop) (h0:∃ m,J m env) (h:∀ m e,J m e->EvT B c e fun b e1=>if b=true then EvS B tb { D' with nx:=fun e2=>∃ m',m' < m/\J m' e2,ct:=fun e2=>∃ m',m' < m/\J m' e2,bk:=D'.nx } e1 else D'.nx e1):EvS B (aow c tb) D' env:=fun σ G H F D I r=>by
 obtain ⟨m0,h0⟩:=h0
 refine ⟨fun m σ H=>∃ G2 F2 e2,VI B G2 H σ e2 F2/\Same G G2/\J m e2,⟨m0,G,F,env,I,Same.refl _,h0⟩,?_⟩
 rintro m σ H ⟨G2,F2,e2,I2,g2,j2⟩
 refine h m e2 j2 σ G2 H F2 _ I2 fun b G3 H3 F3 e3 I3 g3 q3=>?_
 have gg:=g2.trans g3
 cases b with
 | false=>rw [if_neg Bool.false_ne_true] at q3 ⊢;exact r.nx σ G3 H3 F3 e3 I3 gg q3
 | true =>
  rw [if_pos rfl] at q3 ⊢
  refine ⟨fun σ H=>∃ G4 F4 e4,VI B G4 H σ e4 F4/\Same G G4/\∃ m',m' < m/\J m' e4,fun σ' H' ⟨G4,F4,e4,I4,g4,m',hm,j4⟩=>⟨m',hm,G4,F4,e4,I4,g4,j4⟩,?_⟩
  exact q3 σ G3 H3 F3 _ I3 ⟨fun σ5 G5 H5 F5 e5 I5 g5 q5=>⟨G5,F5,e5,I5,gg.trans g5,q5⟩,fun σ5 G5 H5 F5 e5 v5 Fv5 s5 I5 g5=>r.rt σ5 G5 H5 F5 e5 v5 Fv5 s5 I5 (gg.trans g5),fun σ5 G5 H5 F5 e5 I5 g5=>r.nx σ5 G5 H5 F5 e5 I5 (gg.trans g5),fun σ5 G5 H5 F5 e5 I5 g5 q5=>⟨G5,F5,e5,I5,gg.trans g5,q5⟩⟩
variable {QI:List PyData->En->Prop}
theorem akf {K:PySem.W.Frag} (h:Ev B te env fun d e=>∃ ds,d=.list ds/\QI ds e):EvI B (anb K te) env QI:=fun σ G H F R I k =>
 h σ G H F _ I fun v G1 H1 F1 d e1 I1 g1 r1 z_=>by
  obtain ⟨ds,ed,q1⟩:=z_
  subst ed
  cases r1 with
  | @lst a vs ds ha rs =>
   refine ⟨a,rfl,⟨vs,SqL.of (I1.gh _ _ ha)⟩,k _ G1 H1 F1 ds e1 I1 g1 ⟨fun i G' H' g h hi=>?_,fun i G' H' g h hi=>?_,fun i G' H' x H'' d g h ft hd y=>?_⟩ q1⟩
   ·have:i < vs.length:=by rw [rs.length];exact hi
    exact ⟨vs,vs[i],SqL.of (h _ _ (g _ _ ha)),List.getElem?_eq_getElem this⟩
   ·exact ⟨vs,SqL.of (h _ _ (g _ _ ha)),by rw [rs.length];exact Nat.le_of_eq hi.symm⟩
   ·obtain ⟨e,y⟩:=y
    subst e
    obtain ⟨v,hv,rv⟩:=rs.get hd
    have:=y vs (SqL.of (h _ _ (g _ _ ha)))
    rw [hv] at this
    cases this
    exact ⟨G',Out.refl h (rv.same g)⟩
theorem axc {ds:List PyData} {R:List PyData->Prop} (h:R ds):∃ xs,PyData.list ds=.list xs/\R xs:=⟨ds,rfl,h⟩
noncomputable def rngD (lo:Int) (n:Nat):List PyData:=(List.range n).map fun (i:Nat) => .int (lo+(i:Int))
theorem abq {lo:Int} {n:Nat}:(rngD lo n).length=n:=by simp [rngD]
theorem adn {lo:Int} {n i:Nat} {d:PyData} (h:(rngD lo n)[i]?=some d):i < n/\d=.int (lo+(i:Int)):=by
 unfold rngD at h
 rw [List.getElem?_map] at h
 have hi:i < n:=by
  have:=(List.getElem?_eq_some_iff (l:=(List.range n).map fun (i:Nat)=>PyData.int (lo+(i:Int)))).mp (by rw [List.getElem?_map];exact h)
  obtain ⟨q,_⟩:=this
  simpa using q
 rw [List.getElem?_eq_getElem (by simpa using hi)] at h
 simp at h
 exact ⟨hi,h.symm⟩
theorem apw {G:Hp} {lo:Int} {n:Nat}:ItOk G (Itr lo n) (rngD lo n):=by
 refine ⟨fun i G' H' g h hi=>?_,fun i G' H' g h hi=>?_,fun i G' H' x H'' d g h ft hd y=>?_⟩
 ·rw [abq] at hi;exact hi
 ·rw [abq] at hi;exact Nat.le_of_eq hi.symm
 ·obtain ⟨e,y⟩:=y
  subst e y
  rw [(adn hd).2]
  exact ⟨G',Out.refl h (.int _)⟩
def ajc (ds:List PyData) (R:List PyData->Prop):Prop:=∃ j:Int,ds=[.int j]/\-(2 ^ 62)<=j/\j < 2 ^ 62/\R (rngD 0 j.toNat)
def ajd (ds:List PyData) (R:List PyData->Prop):Prop:=∃ i j:Int,ds=[.int i,.int j]/\(-(2 ^ 62)<=i/\i < 2 ^ 62/\-(2 ^ 62)<=j/\j < 2 ^ 62)/\R (rngD i (j - i).toNat)
theorem aro {ta:TA} (h:EvA B ta env fun ds e=>ajc ds fun xs=>QI xs e):EvI B (as0 ta) env QI:=fun σ G H F R I k =>
 h σ G H F _ I fun vs G1 H1 F1 ds e1 I1 g1 r1 z_=>by
  obtain ⟨j,ed,b1,b2,q1⟩:=z_
  subst ed
  obtain rfl:vs=[V.int j]:=Rps.ints_inv (ns:=[j]) r1
  exact ⟨j,rfl,b1,b2,k _ G1 H1 F1 _ e1 I1 g1 apw q1⟩
theorem arp {ta:TA} (h:EvA B ta env fun ds e=>ajd ds fun xs=>QI xs e):EvI B (as4 ta) env QI:=fun σ G H F R I k =>
 h σ G H F _ I fun vs G1 H1 F1 ds e1 I1 g1 r1 z_=>by
  obtain ⟨i,j,ed,b1,q1⟩:=z_
  subst ed
  obtain rfl:vs=[V.int i,V.int j]:=Rps.ints_inv (ns:=[i,j]) r1
  exact ⟨i,j,rfl,b1,k _ G1 H1 F1 _ e1 I1 g1 apw q1⟩
theorem axd {j:Int} {R:List PyData->Prop} (h1 : -4611686018427387904<=j) (h2:j < 4611686018427387904) (h:R (rngD 0 j.toNat)):ajc [.int j] R:=⟨j,rfl,by row_cond lo,by row_cond lo,h⟩
theorem axe {a b:Int} {R:List PyData->Prop} (h1 : -4611686018427387904<=a/\a < 4611686018427387904/\-4611686018427387904<=b/\b < 4611686018427387904) (h:R (rngD a (b - a).toNat)):ajd [.int a,.int b] R:=⟨a,b,rfl,by row_cond lo,h⟩
theorem afv {lo:Int} {n:Nat} (J:Nat->En->Prop) (h0:J 0 env) (hs:∀ i e,i < n->J i e->EvG B g (.st (.int (lo+(i:Int)))) e fun e2=>EvS B tb { D' with nx:=J (i+1),ct:=J (i+1),bk:=D'.nx } e2) (hd:∀ e,J n e->D'.nx e):ForV B g tb D' (rngD lo n) env :=
 ⟨J,h0,fun i d e h j=>by obtain ⟨hi,rfl⟩:=adn h;exact hs i e hi j,fun e j=>hd e (by rw [abq] at j;exact j)⟩
theorem acp {α:Type} {f : α->PyData} {xs:List α} (J:Nat->En->Prop) (h0:J 0 env) (hs:∀ i x e,xs[i]?=some x->J i e->EvG B g (.st (f x)) e fun e2=>EvS B tb { D' with nx:=J (i+1),ct:=J (i+1),bk:=D'.nx } e2) (hd:∀ e,J xs.length e->D'.nx e):ForV B g tb D' (xs.map f) env :=
 ⟨J,h0,fun i d e h j=>by
  rw [List.getElem?_map] at h
  cases hx:xs[i]? with
  | none=>rw [hx] at h;cases h
  | some x=>rw [hx] at h;cases h;exact hs i x e hx j,fun e j=>hd e (by rw [List.length_map] at j;exact j)⟩
end
end VL
namespace VL
open PySem PySem.Spec L2
theorem arq {B:Bs} {a b:TS} {D':VEnds} {env:En} (h:∀ c:TS,c=b->EvS B a { D' with nx:=fun e=>EvS B c D' e } env):EvS B (tSeq a b) D' env:=aul (h b rfl)
theorem auo {B:Bs} {c b:TS} {D':VEnds} {env:En} (e:c=b) (h:EvS B b D' env):EvS B c D' env:=by rw [e];exact h
@[elab_as_elim] theorem exS1 {α0:Type} {σ:Type} {f : α0->σ} {p : α0->Prop} {motive : σ->Prop} (s : σ) (h:∃ x0,s=f x0/\p x0) (k:∀ x0,p x0->motive (f x0)):motive s:=by
 obtain ⟨x0,e,h⟩:=h
 rw [e];exact k _ h
@[elab_as_elim] theorem exS2 {α0:Type} {α1:Type} {σ:Type} {f : α0->α1->σ} {p : α0->α1->Prop} {motive : σ->Prop} (s : σ) (h:∃ x0 x1,s=f x0 x1/\p x0 x1) (k:∀ x0 x1,p x0 x1->motive (f x0 x1)):motive s:=by
 obtain ⟨x0,x1,e,h⟩:=h
 rw [e];exact k _ _ h
@[elab_as_elim] theorem exE2 {α0:Type} {α1:Type} {σ:Type} {f : α0->α1->σ} {motive : σ->Prop} (s : σ) (h:∃ x0 x1,s=f x0 x1) (k:∀ x0 x1,motive (f x0 x1)):motive s:=by
 obtain ⟨x0,x1,e⟩:=h
 rw [e];exact k _ _
@[elab_as_elim] theorem exS3 {α0:Type} {α1:Type} {α2:Type} {σ:Type} {f : α0->α1->α2->σ} {p : α0->α1->α2->Prop} {motive : σ->Prop} (s : σ) (h:∃ x0 x1 x2,s=f x0 x1 x2/\p x0 x1 x2) (k:∀ x0 x1 x2,p x0 x1 x2->motive (f x0 x1 x2)):motive s:=by
 obtain ⟨x0,x1,x2,e,h⟩:=h
 rw [e];exact k _ _ _ h
@[elab_as_elim] theorem exS4 {α0:Type} {α1:Type} {α2:Type} {α3:Type} {σ:Type} {f : α0->α1->α2->α3->σ} {p : α0->α1->α2->α3->Prop} {motive : σ->Prop} (s : σ) (h:∃ x0 x1 x2 x3,s=f x0 x1 x2 x3/\p x0 x1 x2 x3) (k:∀ x0 x1 x2 x3,p x0 x1 x2 x3->motive (f x0 x1 x2 x3)):motive s:=by
 obtain ⟨x0,x1,x2,x3,e,h⟩:=h
 rw [e];exact k _ _ _ _ h
@[elab_as_elim] theorem exE5 {α0:Type} {α1:Type} {α2:Type} {α3:Type} {α4:Type} {σ:Type} {f : α0->α1->α2->α3->α4->σ} {motive : σ->Prop} (s : σ) (h:∃ x0 x1 x2 x3 x4,s=f x0 x1 x2 x3 x4) (k:∀ x0 x1 x2 x3 x4,motive (f x0 x1 x2 x3 x4)):motive s:=by
 obtain ⟨x0,x1,x2,x3,x4,e⟩:=h
 rw [e];exact k _ _ _ _ _
@[elab_as_elim] theorem exS6 {α0:Type} {α1:Type} {α2:Type} {α3:Type} {α4:Type} {α5:Type} {σ:Type} {f : α0->α1->α2->α3->α4->α5->σ} {p : α0->α1->α2->α3->α4->α5->Prop} {motive : σ->Prop} (s : σ) (h:∃ x0 x1 x2 x3 x4 x5,s=f x0 x1 x2 x3 x4 x5/\p x0 x1 x2 x3 x4 x5) (k:∀ x0 x1 x2 x3 x4 x5,p x0 x1 x2 x3 x4 x5->motive (f x0 x1 x2 x3 x4 x5)):motive s:=by
 obtain ⟨x0,x1,x2,x3,x4,x5,e,h⟩:=h
 rw [e];exact k _ _ _ _ _ _ h
end VL
namespace VL
open PySem PySem.Spec L2
theorem big {n:Nat} (h:n<=1000000):n < sizeLine:=Nat.lt_of_le_of_lt h (by decide)
section
variable {B B1:Bs} {G H G' H':Hp} {σ σI:St} {env envI:En} {F F':Nat->Addr->Prop} {v:V} {s:Sl} {Fv:Addr->Prop} {inv:Nat->Option Nat}
open Classical in
noncomputable def ab2 (H:Hp) (F:Nat->Addr->Prop) (inv:Nat->Option Nat):Hp:=fun a=>if ∃ i j,inv i=some j/\F i a then none else H a
theorem aee {i j:Nat} {a:Addr} (h:inv i=some j) (f:F i a):ab2 H F inv a=none:=if_pos ⟨i,j,h,f⟩
theorem afw {a:Addr} (h:∀ i j,inv i=some j->¬ F i a):ab2 H F inv a=H a:=if_neg fun ⟨i,j,x,y⟩=>h i j x y
theorem acj:Same (ab2 H F inv) H:=fun a o e=>by
 unfold ab2 at e
 split at e
 ·cases e
 ·exact e
theorem VI.enter (I:VI B G H σ env F) (inj:∀ i i' j,inv i=some j->inv i'=some j->i=i') (ln : σI.length=envI.length)
  (sl:∀ j s,envI[j]?=some (some s)->∃ v,σI[j]?=some (some v)/\((∃ d,s=.st d/\Rp G v d/\∀ i,inv i ≠ some j)\/(∃ ns a,s=.scr ns/\v=.ref a/\SqL B.K G a (ns.map V.int)/\∀ i,inv i ≠ some j) ∨
   ∃ i A,inv i=some j/\s=.io A/\σ[i]?=some (some v)/\(env[i]?=some (some (.own A))\/env[i]?=some (some (.io A))))) :
  VI ⟨B.K,G,H,ab2 H F inv,σI,fun j a=>∃ i,inv i=some j/\F i a⟩ G H σI envI (fun j a=>∃ i,inv i=some j/\F i a) where
 gh:=I.gh
 g0:=Same.refl _
 gn:=fun a o e => .inl e
 rs:=acj
 rb:=acj
 bh:=fun a o e=>⟨o,e⟩
 fg:=fun j a ⟨i,_,z⟩=>I.fg i a z
 fr:=fun j a ⟨i,h,z⟩=>aee h z
 fd:=fun j k a ⟨i,h,z⟩ ⟨i',h',z'⟩=>by
  have:=I.fd i i' a z z'
  subst this
  rw [h] at h';cases h';rfl
 fo:=fun j a ⟨i,h,z⟩=>I.fo i a z
 sl:=fun j s e=>by
  obtain ⟨v,hv,q⟩:=sl j s e
  refine ⟨v,hv,?_⟩
  rcases q with ⟨d,rfl,r,n⟩ | ⟨ns,a,rfl,rfl,q,n⟩ | ⟨i,A,hi,rfl,hs,he⟩
  ·exact ⟨r,fun a ⟨i,h,_⟩=>n i h⟩
  ·exact ⟨⟨a,rfl,q⟩,fun a ⟨i,h,_⟩=>n i h⟩
  ·refine ⟨?_,fun a z => .inl z,hv⟩
   have eF:(fun a=>∃ i',inv i'=some j/\F i' a)=F i:=by
    funext a
    exact propext ⟨fun ⟨i',h,z⟩=>by rw [inj i i' j hi h];exact z,fun z=>⟨i,hi,z⟩⟩
   show A.P G H v (fun a=>∃ i',inv i'=some j/\F i' a)
   rw [eF]
   rcases he with he | he
   ·obtain ⟨v',e1,e2⟩:=I.sl i _ he
    rw [hs] at e1;cases e1;exact e2.1
   ·obtain ⟨v',e1,e2⟩:=I.sl i _ he
    rw [hs] at e1;cases e1;exact e2.1
 ln:=ln
 ft:=I.ft
theorem VI.leave (I:VI B G H σ env F) (inj:∀ i i' j,inv i=some j->inv i'=some j->i=i') (bG:B1.G=G) (bH:B1.H=H) (bR:∀ a o,H a=some o->(∀ i j,inv i=some j->¬ F i a)->B1.R a=some o)
  (bF:∀ i j,inv i=some j->∀ a,B1.F j a->F i a) (bS:∀ i j,inv i=some j->B1.S[j]? = σ[i]?) (J:VI B1 G' H' σI envI F') (io:∀ i j,inv i=some j->∃ A',envI[j]?=some (some (.io A'))) {env2:En} (he:env2.length=env.length)
  (h2:∀ i s,env2[i]?=some (some s)->(inv i=none/\env[i]?=some (some s))\/∃ j A A',inv i=some j/\envI[j]?=some (some (.io A'))/\((env[i]?=some (some (.own A))/\s=.own A')\/(env[i]?=some (some (.io A))/\s=.io A'))) :
  VI B G' H' σ env2 (fun i a=>match inv i with | some j=>F' j a | none=>F i a):=by
 have gn1:∀ a o,G' a=some o->G a=some o\/H a=none:=fun a o e=>by
  have:=J.gn a o e
  rw [bG,bH] at this;exact this
 have fi:∀ i j a,inv i=some j->F' j a->F i a\/H a=none:=fun i j a hi z=>by
  obtain ⟨A',e⟩:=io i j hi
  obtain ⟨v,_,q⟩:=J.sl j _ e
  rcases q.2.1 a z with y | y
  ·exact .inl (bF i j hi a y)
  ·rw [bH] at y;exact .inr y
 have kp:∀ a o,H a=some o->(∀ i j,inv i=some j->¬ F i a)->H' a=some o:=fun a o e n=>J.rs a o (bR a o e n)
 refine ⟨J.gh,I.g0.trans (bG ▸ J.g0),fun a o e=>?_,fun a o e=>?_,I.rb,fun a o e=>?_,fun i a z=>?_,fun i a z=>?_,fun i k a y z=>?_,fun i a z=>?_,fun i t e=>?_,by rw [he];exact I.ln,J.ft⟩
 ·rcases gn1 a o e with e | e
  ·exact I.gn a o e
  ·exact .inr (I.no_b e)
 ·refine kp a o (I.rs a o e) fun i j _ z=>?_
  rw [I.fr i a z] at e;cases e
 ·obtain ⟨o1,e1⟩:=I.bh a o e
  exact J.bh a o1 (by rw [bH];exact e1)
 ·cases hi:inv i with
  | some j=>rw [hi] at z;exact J.fg j a z
  | none =>
   rw [hi] at z
   cases e:G' a with
   | none=>rfl
   | some o =>
    rcases gn1 a o e with e | e
    ·rw [I.fg i a z] at e;cases e
    ·exact absurd z (I.no_f e i)
 ·cases hi:inv i with
  | some j =>
   rw [hi] at z
   rcases fi i j a hi z with y | y
   ·exact I.fr i a y
   ·exact I.no_r y
  | none=>rw [hi] at z;exact I.fr i a z
 ·cases hi:inv i with
  | some j =>
   rw [hi] at y
   cases hk:inv k with
   | some l =>
    rw [hk] at z
    have:=J.fd j l a y z
    subst this
    exact inj i k j hi hk
   | none =>
    rw [hk] at z
    rcases fi i j a hi y with x | x
    ·exact I.fd i k a x z
    ·exact absurd z (I.no_f x k)
  | none =>
   rw [hi] at y
   cases hk:inv k with
   | some l =>
    rw [hk] at z
    rcases fi k l a hk z with x | x
    ·exact I.fd i k a y x
    ·exact absurd y (I.no_f x i)
   | none=>rw [hk] at z;exact I.fd i k a y z
 ·cases hi:inv i with
  | some j=>rw [hi] at z;exact J.fo j a z
  | none =>
   rw [hi] at z
   obtain ⟨o,e⟩:=I.fo i a z
   exact J.bh a o (by rw [bH];exact e)
 ·rcases h2 i t e with ⟨hi,e1⟩ | ⟨j,A,A',hi,e1,e2⟩
  ·obtain ⟨v,hv,q⟩:=I.sl i t e1
   refine ⟨v,hv,?_⟩
   simp only [hi]
   refine q.mono (bG ▸ J.g0) fun a o z y=>kp a o y fun i' j' hi' z'=>?_
   have:=I.fd i i' a z z'
   subst this
   rw [hi] at hi';cases hi'
  ·obtain ⟨v,hv,q⟩:=J.sl j _ e1
   have hS : σ[i]?=some (some v):=by rw [← bS i j hi];exact q.2.2
   refine ⟨v,hS,?_⟩
   simp only [hi]
   rcases e2 with ⟨e2,rfl⟩ | ⟨e2,rfl⟩
   ·obtain ⟨v',_,q'⟩:=I.sl i _ e2
    refine ⟨q.1,fun a z=>?_⟩
    rcases fi i j a hi z with y | y
    ·exact q'.2 a y
    ·exact I.no_b y
   ·obtain ⟨v',hv',q'⟩:=I.sl i _ e2
    rw [hS] at hv';cases hv'
    refine ⟨q.1,fun a z=>?_,q'.2.2⟩
    rcases fi i j a hi z with y | y
    ·exact q'.2.1 a y
    ·exact .inr (I.no_b y)
theorem RsX.leave (I:VI B G H σ env F) (bH:B1.H=H) (r:RsX B1 G' H' v Fv s F'):RsX B G' H' v Fv s (fun i a=>match inv i with | some j=>F' j a | none=>F i a):=by
 have hn:∀ a,Fv a->H a=none:=fun a z=>bH ▸ r.fb a z
 refine ⟨r.ok,fun a z=>I.no_b (hn a z),r.fg,r.fo,fun i a z y=>?_⟩
 cases hi:inv i with
 | some j=>rw [hi] at y;exact r.fd j a z y
 | none=>rw [hi] at y;exact I.no_f (hn a z) i y
end
noncomputable abbrev VP:=List Sl->(Sl->Prop)->Prop
noncomputable abbrev VIo:=Own->List Sl->(Own->Sl->Prop)->Prop
def noF:Nat->Addr->Prop:=fun _ _=>False
noncomputable def bsP (K:PySem.W.Frag) (G H:Hp) (vs:List V):Bs:=⟨K,G,H,H,vs.map some,noF⟩
noncomputable def atg (K:PySem.W.Frag) (G:Hp):V->Sl->Prop
 | v,.st d=>Rp G v d
 | v,.scr ns=>∃ a,v=.ref a/\SqL K G a (ns.map V.int)
 | _,_=>False
inductive ArgsOk (K:PySem.W.Frag) (G:Hp):List V->List Sl->Prop
 | nil:ArgsOk K G [] []
 | cons {v:V} {s:Sl} {vs:List V} {ss:List Sl}:atg K G v s->ArgsOk K G vs ss->ArgsOk K G (v :: vs) (s :: ss)
theorem ArgsOk.length {K:PySem.W.Frag} {G:Hp}:∀ {vs:List V} {ss:List Sl},ArgsOk K G vs ss->vs.length=ss.length
 | _,_,.nil=>rfl
 | _,_,.cons _ t=>by simp [ArgsOk.length t]
theorem ArgsOk.get {K:PySem.W.Frag} {G:Hp}:∀ {vs:List V} {ss:List Sl} {i:Nat} {s:Sl},ArgsOk K G vs ss->ss[i]?=some s->∃ v,vs[i]?=some v/\atg K G v s
 | _,_,_,_,.nil,e=>by simp at e
 | _,_,0,_,.cons r _,e=>by simp at e;subst e;exact ⟨_,rfl,r⟩
 | _,_,i+1,s,.cons _ t,e=>by
  obtain ⟨u,h1,h2⟩:=ArgsOk.get (i:=i) (s:=s) t (by simpa using e)
  exact ⟨u,by simpa using h1,h2⟩
theorem ArgsOk.of {K:PySem.W.Frag} {G:Hp}:∀ {vs:List V} {ds:List PyData},Rps G vs ds->ArgsOk K G vs (ds.map Sl.st)
 | _,_,.nil => .nil
 | _,_,.cons r t => .cons r (ArgsOk.of t)
theorem amd {α:Type} {xs:List α} {n i:Nat} {s : α} (e:(xs.map some ++ List.replicate n none)[i]?=some (some s)):xs[i]?=some s:=by
 by_cases h:i < xs.length
 ·rw [List.getElem?_append_left (by simpa using h),List.getElem?_map] at e
  rw [List.getElem?_eq_getElem h] at e ⊢
  simpa using e
 ·rw [List.getElem?_append_right (by simpa using h),List.getElem?_replicate] at e
  split at e <;> cases e
theorem ame {α:Type} {xs:List α} {n i:Nat} {s : α} (e:xs[i]?=some s):(xs.map some ++ List.replicate n none)[i]?=some (some s):=by
 have h:i < xs.length:=(List.getElem?_eq_some_iff.mp e).1
 rw [List.getElem?_append_left (by simpa using h),List.getElem?_map,e];rfl
def spP (K:PySem.W.Frag) (f:VP):Sp:=fun vs H Q _=>∃ G ss Q',Same G H/\FT G H/\ArgsOk K G vs ss/\f ss Q'/\∀ s,Q' s->∀ v G' H' Fv,Out G H v G' H' s Fv->Q v H'
structure OutI (G H R:Hp) (F0:Addr->Prop) (v0:V) (A':Own) (s:Sl) (v:V) (G' H':Hp) (F' Fv:Addr->Prop):Prop where
 gg:Same G G'
 gh:Same G' H'
 ft:FT G' H'
 gn:∀ a o,G' a=some o->G a=some o\/H a=none
 rs:Same R H'
 bh:∀ a o,H a=some o->∃ o',H' a=some o'
 ap:A'.P G' H' v0 F'
 fi:∀ a,F' a->F0 a\/H a=none
 fg:∀ a,F' a->G' a=none
 ok:RsOk G' H' v Fv s
 fv:∀ a,Fv a->H a=none/\G' a=none/\(∃ o,H' a=some o)/\¬ F' a
def spI (K:PySem.W.Frag) (f:VIo):Sp:=fun vs H Q _=>∃ v0 vr G R A ss F0 Q',vs=v0 :: vr/\Same G H/\FT G H/\Same R H/\A.P G H v0 F0/\(∀ a,F0 a->G a=none)/\(∀ a,F0 a->R a=none)/\ArgsOk K G vr ss /\
 f A ss Q'/\∀ A' s,Q' A' s->∀ v G' H' F' Fv,OutI G H R F0 v0 A' s v G' H' F' Fv->Q v H'
theorem abb {K:PySem.W.Frag} {f:VP} {ts:TS} {N:List Str} {vs:List V} {H:Hp} {Q:VK} {E:XK} (h:spP K f vs H Q E)
  (hb:∀ ss Q',f ss Q'->∀ B,B.K=K->EvS B ts { nx:=fun _=>Q' (.st .none),rt:=fun s _=>Q' s } (ss.map some ++ List.replicate (N.length - ss.length) none)):ts { nx:=fun _ H'=>Q .non H',rt:=Q } (L2.start N vs) H:=by
 obtain ⟨G,ss,Q',gh,ft,ao,hf,hQ⟩:=h
 have fin:∀ {σ G' H' F env v Fv s},VI (bsP K G H vs) G' H' σ env F->RsX (bsP K G H vs) G' H' v Fv s F->Out G H v G' H' s Fv:=fun I r =>
  ⟨I.g0,I.gh,I.rs,I.gn,r.fb,r.fg,r.fo,r.ok,fun _=>I.ft⟩
 refine hb ss _ hf (bsP K G H vs) rfl (L2.start N vs) G H noF _ ?_ ⟨fun σ G' H' F env I g q=>hQ _ q _ _ _ _ (fin I (aci .non)),fun σ G' H' F env v Fv s I g r q=>hQ _ q v G' H' Fv (fin I r),fun _ _ _ _ _ _ _ q=>q,fun _ _ _ _ _ _ _ q=>q⟩
 refine ⟨gh,Same.refl _,fun a o e => .inl e,Same.refl _,Same.refl _,fun a o e=>⟨o,e⟩,fun i a z=>z.elim,fun i a z=>z.elim,fun i j a z=>z.elim,fun i a z=>z.elim,fun i s e=>?_,?_,ft⟩
 ·obtain ⟨v,hv,q⟩:=ao.get (amd e)
  refine ⟨v,by unfold L2.start;exact ame hv,?_⟩
  cases s with
  | st d=>exact ⟨q,fun a z=>z⟩
  | scr ns=>exact ⟨q,fun a z=>z⟩
  | own A=>exact q.elim
  | io A=>exact q.elim
 ·unfold L2.start;simp [ao.length]
theorem aje {K:PySem.W.Frag} {f:VIo} {ts:TS} {N:List Str} {vs:List V} {H:Hp} {Q:VK} {E:XK} (h:spI K f vs H Q E)
  (hb:∀ A ss Q',f A ss Q'->∀ B,B.K=K->EvS B ts { nx:=fun e=>∃ A',e[0]?=some (some (.io A'))/\Q' A' (.st .none),rt:=fun s e=>∃ A',e[0]?=some (some (.io A'))/\Q' A' s } (some (.io A) :: (ss.map some ++ List.replicate (N.length - (ss.length+1)) none))):ts { nx:=fun _ H'=>Q .non H',rt:=Q } (L2.start N vs) H:=by
 obtain ⟨v0,vr,G,R,A,ss,F0,Q',rfl,gh,ft,rh,ap,fg,fr,ao,hf,hQ⟩:=h
 have el:(v0 :: vr).length=ss.length+1:=by simp [ao.length]
 refine hb A ss _ hf ⟨K,G,H,R,(v0 :: vr).map some,fun i a=>i=0/\F0 a⟩ rfl (L2.start N (v0 :: vr)) G H (fun i a=>i=0/\F0 a) _ ?_ ?_
 ·refine ⟨gh,Same.refl _,fun a o e => .inl e,rh,rh,fun a o e=>⟨o,e⟩,fun i a z=>fg a z.2,fun i a z=>fr a z.2,fun i j a z y=>by rw [z.1,y.1],fun i a z=>A.dom ap a z.2,fun i s e=>?_,?_,ft⟩
  ·cases i with
   | zero =>
    simp at e
    subst e
    refine ⟨v0,rfl,?_,fun a z => .inl z,rfl⟩
    have:(fun a=>0=0/\F0 a)=F0:=by funext a;simp
    rw [this];exact ap
   | succ i =>
    have e':(ss.map some ++ List.replicate (N.length - (ss.length+1)) none)[i]?=some (some s):=by simpa using e
    obtain ⟨v,hv,q⟩:=ao.get (amd e')
    refine ⟨v,?_,?_⟩
    ·unfold L2.start;exact ame (by simpa using hv)
    ·cases s with
     | st d=>exact ⟨q,fun a z=>by cases z.1⟩
     | scr ns=>exact ⟨q,fun a z=>by cases z.1⟩
     | own A=>exact q.elim
     | io A=>exact q.elim
  ·unfold L2.start;simp [ao.length]
 ·have fin:∀ σ G' H' F env v Fv s,VI ⟨K,G,H,R,(v0 :: vr).map some,fun i a=>i=0/\F0 a⟩ G' H' σ env F->RsX ⟨K,G,H,R,(v0 :: vr).map some,fun i a=>i=0/\F0 a⟩ G' H' v Fv s F->(∃ A',env[0]?=some (some (.io A'))/\Q' A' s)->Q v H':=by
   intro σ G' H' F env v Fv s I r ⟨A',e,q⟩
   obtain ⟨v',hv',q1,q2,q3⟩:=I.sl 0 _ e
   have:v'=v0:=by
    have q3':((v0 :: vr).map some)[0]?=some (some v'):=q3
    simpa using q3'.symm
   subst this
   exact hQ A' s q v G' H' (F 0) Fv ⟨I.g0,I.gh,I.ft,I.gn,I.rs,I.bh,q1,fun a z=>by
    rcases q2 a z with y | y
    ·exact .inl y.2
    ·exact .inr y,I.fg 0,r.ok,fun a z=>⟨r.fb a z,r.fg a z,r.fo a z,r.fd 0 a z⟩⟩
  refine ⟨fun σ G' H' F env I g q=>fin σ G' H' F env .non _ (.st .none) I (aci .non) q,fun σ G' H' F env v Fv s I g r q=>fin σ G' H' F env v Fv s I r q,fun _ _ _ _ _ _ _ q=>q,fun _ _ _ _ _ _ _ q=>q⟩
section
variable {B:Bs} {env:En} {Q':PyData->En->Prop} {QO:Sl->En->Prop} {K:PySem.W.Frag} {E:XK}
theorem ah3 {f:VP} {t:TA} (h:EvA B t env fun ds e1=>f (ds.map Sl.st) fun s=>QO s e1):EvO B (ab1 (spP K f) [] E t) env QO:=fun σ G H F Q I k=>by
 unfold ab1
 simp only [List.append_nil]
 exact h σ G H F _ I fun vs G1 H1 F1 ds e1 I1 g1 r1 q1=>⟨G1,_,_,I1.gh,I1.ft,ArgsOk.of r1,q1,fun s q v G' H' Fv o=>k v G' H' F1 Fv s e1 (I1.out o).1 (g1.trans o.gg) (I1.out o).2 q⟩
theorem ars {f:VP} {t:TA} (h:EvA B t env fun ds e1=>f (ds.map Sl.st) fun s=>FQ s fun d=>Q' d e1):Ev B (ab1 (spP K f) [] E t) env Q':=abz (ah3 h)
theorem ah4 {f:VP} {t:TA} {i:Nat} {ns:List Int} (e:env[i]?=some (some (.scr ns))) (hK:B.K=K) (h:EvA B t env fun ds e1=>f (.scr ns :: ds.map Sl.st) fun s=>QO s e1):EvO B (ab1 (spP K f) [] E (aa6 (tVar i) t)) env QO:=fun σ G H F Q I k=>by
 subst hK
 unfold ab1
 simp only [List.append_nil]
 obtain ⟨v0,hv,⟨a,ea,sq⟩,_⟩:=I.sl i _ e
 refine ⟨v0,hv,h σ G H F _ I fun vs G1 H1 F1 ds e1 I1 g1 r1 q1=>⟨G1,_,_,I1.gh,I1.ft,.cons (s:=.scr ns) ⟨a,ea,g1.seq sq⟩ (ArgsOk.of r1),q1,fun s q v G' H' Fv o=>k v G' H' F1 Fv s e1 (I1.out o).1 (g1.trans o.gg) (I1.out o).2 q⟩⟩
theorem art {f:VP} {t:TA} {i:Nat} {ns:List Int} (e:env[i]?=some (some (.scr ns))) (hK:B.K=K) (h:EvA B t env fun ds e1=>f (.scr ns :: ds.map Sl.st) fun s=>FQ s fun d=>Q' d e1):Ev B (ab1 (spP K f) [] E (aa6 (tVar i) t)) env Q':=abz (ah4 e hK h)
noncomputable def reS:Sl->Own->Sl
 | .io _,A => .io A
 | _,A => .own A
theorem ah5 {f:VIo} {t:TA} {i:Nat} (h0:∃ s,env[i]?=some (some s)) (h:EvA B t env fun ds e1=>∃ s0 A,e1[i]?=some (some s0)/\(s0=.own A\/s0=.io A)/\f A (ds.map Sl.st) fun A' s=>QO s (e1.set i (some (reS s0 A')))):EvO B (ab1 (spI K f) [] E (aa6 (tVar i) t)) env QO:=fun σ G H F Q I k=>by
 unfold ab1
 simp only [List.append_nil]
 obtain ⟨s,e⟩:=h0
 obtain ⟨v0,hv,_⟩:=I.sl i _ e
 refine ⟨v0,hv,h σ G H F _ I fun vs G1 H1 F1 ds e1 I1 g1 r1 ⟨s0,A,ei,hs,q1⟩=>?_⟩
 obtain ⟨v',hv',q⟩:=I1.sl i _ ei
 rw [hv] at hv';cases hv'
 have ap:A.P G1 H1 v0 (F1 i):=by
  rcases hs with rfl | rfl
  ·exact q.1
  ·exact q.1
 let inv:Nat->Option Nat:=fun j=>if j=i then some 0 else none
 have inv_i:inv i=some 0:=if_pos rfl
 have inv_ne:∀ j,j ≠ i->inv j=none:=fun j h=>if_neg h
 have inv_inv:∀ j l,inv j=some l->j=i/\l=0:=fun j l h=>by
  by_cases hj:j=i
  ·subst hj;rw [inv_i] at h;cases h;exact ⟨rfl,rfl⟩
  ·rw [inv_ne j hj] at h;cases h
 refine ⟨v0,vs,G1,ab2 H1 F1 inv,A,_,F1 i,_,rfl,I1.gh,I1.ft,acj,ap,I1.fg i,fun a z=>aee inv_i z,ArgsOk.of r1,q1,fun A' s q v G' H' F' Fv o=>?_⟩
 have hi:i < e1.length:=(List.getElem?_eq_some_iff.mp ei).1
 have J:VI ⟨K,G1,H1,ab2 H1 F1 inv,[some v0],fun j a=>j=0/\F1 i a⟩ G' H' [some v0] [some (.io A')] (fun j a=>j=0/\F' a):=by
  refine ⟨o.gh,o.gg,o.gn,o.rs,acj,o.bh,fun j a z=>o.fg a z.2,fun j a z=>?_,fun j l a y z=>by rw [y.1,z.1],fun j a z=>A'.dom o.ap a z.2,fun j s e=>?_,rfl,o.ft⟩
  ·rcases o.fi a z.2 with y | y
   ·exact aee inv_i y
   ·cases e:ab2 H1 F1 inv a with
    | none=>exact e
    | some u=>rw [acj a u e] at y;cases y
  ·cases j with
   | zero =>
    simp at e
    subst e
    refine ⟨v0,rfl,?_,fun a z=>?_,rfl⟩
    ·have:(fun a=>0=0/\F' a)=F':=by funext a;simp
     rw [this];exact o.ap
    ·rcases o.fi a z.2 with y | y
     ·exact .inl ⟨rfl,y⟩
     ·exact .inr y
   | succ j=>simp at e
 have L:=I1.leave (inv:=inv) (env2:=e1.set i (some (reS s0 A'))) (fun a b j ha hb=>by rw [(inv_inv a j ha).1,(inv_inv b j hb).1]) rfl rfl (fun a u e n=>by show ab2 H1 F1 inv a=_;rw [afw n];exact e)
  (fun a j ha x z=>by rw [(inv_inv a j ha).1];exact z.2) (fun a j ha=>by rw [(inv_inv a j ha).1,(inv_inv a j ha).2,hv];rfl) J (fun a j ha=>⟨A',by rw [(inv_inv a j ha).2];rfl⟩) (by simp) fun j s' e=>by
   by_cases hj:j=i
   ·subst hj
    rw [List.getElem?_set,if_pos rfl,if_pos hi] at e
    cases e
    refine .inr ⟨0,A,A',inv_i,rfl,?_⟩
    rcases hs with rfl | rfl
    ·exact .inl ⟨ei,rfl⟩
    ·exact .inr ⟨ei,rfl⟩
   ·rw [List.getElem?_set,if_neg (fun z=>hj z.symm)] at e
    exact .inl ⟨inv_ne j hj,e⟩
 have X:RsX ⟨K,G1,H1,ab2 H1 F1 inv,[some v0],fun j a=>j=0/\F1 i a⟩ G' H' v Fv s (fun j a=>j=0/\F' a):=⟨o.ok,fun a z=>(o.fv a z).1,fun a z=>(o.fv a z).2.1,fun a z=>(o.fv a z).2.2.1,fun j a z y=>(o.fv a z).2.2.2 y.2⟩
 exact k v G' H' _ Fv s _ L (g1.trans o.gg) (X.leave (inv:=inv) I1 rfl) q
end
end VL
namespace VL
open PySem PySem.Spec L2
noncomputable def agj:Option Sl->Option Sl
 | some (.own A)=>some (.io A)
 | s=>s
noncomputable def aao (src:List (Option Nat)) (env:En):En:=src.map fun o=>match o with | some j=>agj ((env[j]?).getD none) | none=>none
noncomputable def isIo:Option Sl->Bool
 | some (.io _)=>true
 | _=>false
noncomputable def idxE (i:Nat):List (Option Nat)->Nat->Option Nat
 | [],_=>none
 | o :: r,k=>if o=some i then some k else idxE i r (k+1)
noncomputable def afd (src:List (Option Nat)) (e:En) (i:Nat) (s:Option Sl):Option Sl :=
 match s with
 | some (.own A)=>(match idxE i src 0 with | some j=>(match e[j]? with | some (some (.io A'))=>some (.own A') | _=>none) | none=>some (.own A))
 | some (.io A)=>(match idxE i src 0 with | some j=>(match e[j]? with | some (some (.io A'))=>some (.io A') | _=>none) | none=>some (.io A))
 | s=>s
noncomputable def ad3 (src:List (Option Nat)) (e:En):Nat->En->En
 | _,[]=>[]
 | k,s :: r=>afd src e k s :: ad3 src e (k+1) r
noncomputable def agk (src:List (Option Nat)) (e1 e:En):En:=ad3 src e 0 e1
theorem aef (src:List (Option Nat)) (e:En):∀ (k:Nat) (l:En) (i:Nat),(ad3 src e k l)[i]?=(l[i]?).map (afd src e (k+i))
 | _,[],i=>by simp [ad3]
 | k,s :: r,0=>by simp [ad3]
 | k,s :: r,i+1=>by
  have:=aef src e (k+1) r i
  simp only [ad3,List.getElem?_cons_succ,this]
  rw [show k+1+i=k+(i+1) by row_cond lo]
theorem ads {i:Nat}:∀ {src:List (Option Nat)} {k j:Nat},idxE i src k=some j->k<=j/\src[j - k]?=some (some i)
 | [],_,_,h=>by cases h
 | o :: r,k,j,h=>by
  unfold idxE at h
  by_cases e:o=some i
  ·rw [if_pos e] at h;cases h
   exact ⟨Nat.le_refl _,by simp [e]⟩
  ·rw [if_neg e] at h
   obtain ⟨h1,h2⟩:=ads h
   refine ⟨by row_cond lo,?_⟩
   rw [show j - k=(j - (k+1))+1 by row_cond lo]
   simpa using h2
theorem ah6 {i:Nat}:∀ {src:List (Option Nat)} {k:Nat},idxE i src k=none->∀ j:Nat,src[j]? ≠ some (some i)
 | [],_,_,j=>by simp
 | o :: r,k,h,j=>by
  unfold idxE at h
  by_cases e:o=some i
  ·rw [if_pos e] at h;cases h
  ·rw [if_neg e] at h
   cases j with
   | zero=>simpa using e
   | succ j=>simpa using ah6 h j
theorem akg:∀ (src:List (Option Nat)),(src.filterMap id).Nodup->∀ j j' i:Nat,src[j]?=some (some i)->src[j']?=some (some i)->j=j'
 | [],_,j,_,_,h,_=>by simp at h
 | none :: r,h,j,j',i,h1,h2=>by
  cases j with
  | zero=>simp at h1
  | succ j =>
   cases j' with
   | zero=>simp at h2
   | succ j'=>rw [akg r (by simpa using h) j j' i (by simpa using h1) (by simpa using h2)]
 | some x :: r,h,j,j',i,h1,h2=>by
  have h':=List.nodup_cons.mp (show (x :: r.filterMap id).Nodup by simpa using h)
  have nm:∀ k,r[k]?=some (some x)->False:=fun k hk=>h'.1 (List.mem_filterMap.mpr ⟨some x,List.mem_of_getElem? hk,rfl⟩)
  cases j with
  | zero =>
   have hx:x=i:=by simpa using h1
   subst hx
   cases j' with
   | zero=>rfl
   | succ j'=>exact (nm j' (by simpa using h2)).elim
  | succ j =>
   cases j' with
   | zero =>
    have hx:x=i:=by simpa using h2
    subst hx
    exact (nm j (by simpa using h1)).elim
   | succ j'=>rw [akg r h'.2 j j' i (by simpa using h1) (by simpa using h2)]
noncomputable def afe:Option Sl->Bool
 | some (.own _)=>true
 | _=>false
noncomputable def ioLe:En->En->Prop
 | a :: r,b :: s=>(isIo a=isIo b/\afe b=false)/\ioLe r s
 | [],[]=>True
 | _,_=>False
theorem akh {x:Option Sl} (h:isIo x=true):∃ A,x=some (.io A):=by
 cases x with
 | none=>simp [isIo] at h
 | some y =>
  cases y with
  | io A=>exact ⟨A,rfl⟩
  | _=>simp [isIo] at h
theorem ioLe.get:∀ {a b:En} {j:Nat} {x:Option Sl},ioLe a b->a[j]?=some x->isIo x=true->∃ A,b[j]?=some (some (.io A))
 | [],_,_,_,_,e,_=>by simp at e
 | x :: r,[],_,_,h,_,_=>h.elim
 | x :: r,y :: s,0,z,h,e,p=>by
  simp at e;subst e
  have:=h.1.1
  rw [p] at this
  obtain ⟨A,q⟩:=akh this.symm
  exact ⟨A,by simp [q]⟩
 | x :: r,y :: s,j+1,z,h,e,p=>by
  obtain ⟨A,q⟩:=ioLe.get (j:=j) h.2 (by simpa using e) p
  exact ⟨A,by simpa using q⟩
theorem ioLe.got:∀ {a b:En} {j:Nat} {x:Option Sl},ioLe a b->b[j]?=some x->(isIo x=true->∃ A,a[j]?=some (some (.io A)))/\afe x=false
 | [],[],_,_,_,e=>by simp at e
 | [],_ :: _,_,_,h,e=>h.elim
 | x :: r,[],_,_,h,_=>h.elim
 | x :: r,y :: s,0,z,h,e=>by
  simp at e;subst e
  refine ⟨fun p=>?_,h.1.2⟩
  have:=h.1.1
  rw [p] at this
  obtain ⟨A,q⟩:=akh this
  exact ⟨A,by simp [q]⟩
 | x :: r,y :: s,j+1,z,h,e=>by
  obtain ⟨p,q⟩:=ioLe.got (j:=j) (x:=z) h.2 (by simpa using e)
  exact ⟨fun t=>by obtain ⟨A,u⟩:=p t;exact ⟨A,by simpa using u⟩,q⟩
section
variable {B:Bs} {G H:Hp} {σ:St} {env:En} {F:Nat->Addr->Prop}
theorem VI.aside (I:VI B G H σ env F) {p:Addr} {o:HO} (nt:∀ xs,o ≠ .tup xs) (hg:G p=none) (hf:∀ j,¬ F j p) (hb:B.H p=none):VI B G (upd H p o) σ env F where
 gh:=fun a u e=>by rw [aac (aak e hg)];exact I.gh a u e
 g0:=I.g0
 gn:=I.gn
 rs:=fun a u e=>by rw [aac (aak e (I.b_r hb))];exact I.rs a u e
 rb:=I.rb
 bh:=fun a u e=>by rw [aac (aak e hb)];exact I.bh a u e
 fg:=I.fg
 fr:=I.fr
 fd:=I.fd
 fo:=fun j a z=>by rw [aac (fun e:a=p=>hf j (e ▸ z))];exact I.fo j a z
 sl:=fun i s e=>by
  obtain ⟨v,hv,q⟩:=I.sl i s e
  exact ⟨v,hv,q.mono (Same.refl _) fun a u z y=>by rw [aac (fun e:a=p=>hf i (e ▸ z))];exact y⟩
 ln:=I.ln
 ft:=fun a ks e=>by
  by_cases z:a=p
  ·subst z;rw [aag] at e;exact absurd (Option.some.inj e) (nt _)
  ·rw [aac z] at e;exact I.ft a ks e
def LcV (K:PySem.W.Frag) (src:List (Option Nat)) (g:TG) (tif:TT) (te:TE) (ds:List PyData) (e1:En) (R:List PyData->En->Prop):Prop:=∃ J:Nat->List PyData->En->Prop,J 0 [] (aao src e1)/\(∀ i ys e,J i ys e->ioLe (aao src e1) e) /\
 (∀ i d ys e,ds[i]?=some d->J i ys e->∀ B':Bs,B'.K=K->EvG B' g (.st d) e fun e2=>EvT B' tif e2 fun b e3=>if b=true then Ev B' te e3 fun y e4=>ys.length<=999999/\J (i+1) (ys ++ [y]) e4 else J (i+1) ys e3)/\∀ ys e,J ds.length ys e->R ys (agk src e1 e)
theorem aez {src:List (Option Nat)} {j:Nat} {s:Sl} (h:(aao src env)[j]?=some (some s)):∃ i t,src[j]?=some (some i)/\env[i]?=some (some t)/\agj (some t)=some s:=by
 unfold aao at h
 rw [List.getElem?_map] at h
 cases e:src[j]? with
 | none=>rw [e] at h;cases h
 | some o =>
  rw [e] at h
  cases o with
  | none=>cases h
  | some i =>
   simp only [Option.map_some,Option.some.injEq] at h
   cases e2:env[i]? with
   | none=>rw [e2] at h;cases h
   | some o2 =>
    rw [e2] at h
    cases o2 with
    | none=>cases h
    | some t=>exact ⟨i,t,rfl,e2,h⟩
theorem aki {src:List (Option Nat)} {i j:Nat} {v:V} (h:src[j]?=some (some i)) (hv : σ[i]?=some (some v)):(pick src σ)[j]?=some (some v):=by
 unfold pick
 rw [List.getElem?_map,h]
 simp [hv]
theorem apx {src:List (Option Nat)} {wi:TI} {g:TG} {tif:TT} {te:TE} {QO:Sl->En->Prop} (nd:(src.filterMap id).Nodup) (h:EvI B wi env fun ds e1=>LcV B.K src g tif te ds e1 fun ys e2=>QO (.own (OL ys)) e2):EvO B (tLC src wi g tif te) env QO:=fun σ G H F Q I k=>by
 refine h σ G H F _ I fun J G1 H1 F1 ds e1 I1 g1 it ⟨Jv,j0,jio,js,jd⟩ acc hacc=>?_
 let mt:Nat->Bool:=fun i=>match e1[i]? with | some (some (.own _))=>true | some (some (.io _))=>true | _=>false
 let inv:Nat->Option Nat:=fun i=>if mt i=true then idxE i src 0 else none
 have inv1:∀ i j,inv i=some j->src[j]?=some (some i)/\mt i=true:=fun i j hi=>by
  by_cases hm:mt i=true
  ·have hi':idxE i src 0=some j:=by simpa [inv,hm] using hi
   have:=(ads hi').2
   exact ⟨by simpa using this,hm⟩
  ·simp [inv,hm] at hi
 have inv2:∀ i j,src[j]?=some (some i)->mt i=true->inv i=some j:=fun i j hs hm=>by
  have e0:inv i=idxE i src 0:=by simp [inv,hm]
  cases e:idxE i src 0 with
  | none=>exact absurd hs (ah6 e j)
  | some j' =>
   have:=(ads e).2
   rw [e0,e,akg src nd j j' i hs (by simpa using this)]
 have inj:∀ i i' j,inv i=some j->inv i'=some j->i=i':=fun i i' j h1 h2=>by
  have a:=(inv1 i j h1).1
  rw [(inv1 i' j h2).1] at a
  simpa using a.symm
 have mtS:∀ i,mt i=true->∃ A,e1[i]?=some (some (.own A))\/e1[i]?=some (some (.io A)):=fun i hm=>by
  cases e:e1[i]? with
  | none=>simp [mt,e] at hm
  | some o =>
   cases o with
   | none=>simp [mt,e] at hm
   | some s =>
    cases s with
    | own A=>exact ⟨A,.inl rfl⟩
    | io A=>exact ⟨A,.inr rfl⟩
    | st d=>simp [mt,e] at hm
    | scr ns=>simp [mt,e] at hm
 have ioAt:∀ i ys e,Jv i ys e->∀ i' j,inv i'=some j->∃ A,e[j]?=some (some (.io A)):=fun i ys e hj i' j hi=>by
  obtain ⟨hs,hm⟩:=inv1 i' j hi
  obtain ⟨A,hA⟩:=mtS i' hm
  refine (jio i ys e hj).get (x:=some (.io A)) ?_ rfl
  unfold aao
  rw [List.getElem?_map,hs]
  rcases hA with hA | hA <;> simp [hA,agj]
 -- between two turns
 let Wv:Nat->List V->St->Hp->Prop:=fun i ys σI H=>∃ G2 F2 e env2 yd,VI B G2 H σ env2 F2/\Same G1 G2/\H acc=some (.lst ys)/\Rps G2 ys yd/\G2 acc=none/\(∀ j,¬ F2 j acc)/\Jv i yd e/\σI.length=e.length/\env2.length=e1.length /\
  (∀ j s,e[j]?=some (some s)->∃ v,σI[j]?=some (some v)/\((∃ d,s=.st d/\Rp G2 v d/\∀ i,inv i ≠ some j)\/(∃ ns a,s=.scr ns/\v=.ref a/\SqL B.K G2 a (ns.map V.int)/\∀ i,inv i ≠ some j) ∨
   ∃ i A,inv i=some j/\s=.io A/\σ[i]?=some (some v)/\(env2[i]?=some (some (.own A))\/env2[i]?=some (some (.io A))))) /\
  (∀ i,inv i=none->env2[i]?=e1[i]?)/\(∀ i j,inv i=some j->∃ A0 A,e[j]?=some (some (.io A))/\((e1[i]?=some (some (.own A0))/\env2[i]?=some (some (.own A)))\/(e1[i]?=some (some (.io A0))/\env2[i]?=some (some (.io A)))))
 have hb:B.H acc=none:=I1.no_b hacc
 refine ⟨fun i m ys σI H=>m=ds.length - i/\i<=ds.length/\Wv i ys σI H,⟨ds.length,by simp,Nat.zero_le _,?_⟩,?_⟩
 ·refine ⟨G1,F1,aao src e1,e1,[],I1.aside (fun _ z=>nomatch z) (I1.no_g hacc) (I1.no_f hacc) hb,Same.refl _,aag,.nil,I1.no_g hacc,I1.no_f hacc,j0,by simp [pick,aao],rfl,fun j s e=>?_,fun _ _=>rfl,fun i j hi=>?_⟩
  ·obtain ⟨i,t,hs,ht,hp⟩:=aez e
   obtain ⟨v,hv,q⟩:=I1.sl i t ht
   refine ⟨v,aki hs hv,?_⟩
   cases t with
   | st d =>
    cases hp
    refine .inl ⟨d,rfl,q.1,fun i' hi'=>?_⟩
    have a:=(inv1 i' j hi').1
    rw [hs] at a
    have:i=i':=by simpa using a
    subst this
    have:=(inv1 i j hi').2
    simp [mt,ht] at this
   | scr ns =>
    cases hp
    obtain ⟨⟨a,ea,sq⟩,_⟩:=q
    refine .inr (.inl ⟨ns,a,rfl,ea,sq,fun i' hi'=>?_⟩)
    have a:=(inv1 i' j hi').1
    rw [hs] at a
    have:i=i':=by simpa using a
    subst this
    have:=(inv1 i j hi').2
    simp [mt,ht] at this
   | own A=>cases hp;exact .inr (.inr ⟨i,A,inv2 i j hs (by simp [mt,ht]),rfl,hv,.inl ht⟩)
   | io A=>cases hp;exact .inr (.inr ⟨i,A,inv2 i j hs (by simp [mt,ht]),rfl,hv,.inr ht⟩)
  ·obtain ⟨hs,hm⟩:=inv1 i j hi
   obtain ⟨A,hA⟩:=mtS i hm
   refine ⟨A,A,?_,?_⟩
   ·unfold aao
    rw [List.getElem?_map,hs]
    rcases hA with hA | hA <;> simp [hA,agj]
   ·rcases hA with hA | hA
    ·exact .inl ⟨hA,hA⟩
    ·exact .inr ⟨hA,hA⟩
 ·rintro i m ys σI H2 ⟨rfl,hi,G2,F2,e,env2,yd,I2,g2,hac,ry,ga,fa,jv,ln,ln2,sl,un,mv⟩
  refine ⟨hac,?_⟩
  by_cases hlt:i < ds.length
  ·refine .inr ⟨it.go i G2 H2 g2 I2.gh hlt,Wv (i+1),fun ys' σ' H' hw=>⟨ds.length - (i+1),by row_cond lo,rfl,hlt,hw⟩,fun x H3 y=>?_⟩
   obtain ⟨G3,o⟩:=it.yld i G2 H2 x H3 _ g2 I2.gh I2.ft (List.getElem?_eq_getElem hlt) y
   obtain ⟨I3,X3⟩:=I2.out o
   have ac3:=o.hh _ _ hac
   have fa3:=fa
   have ga3:G3 acc=none:=by
    cases e':G3 acc with
    | none=>rfl
    | some u =>
     rcases o.gn acc u e' with q | q
     ·rw [ga] at q;cases q
     ·rw [hac] at q;cases q
   have sl3:∀ j s,e[j]?=some (some s)->∃ v,σI[j]?=some (some v)/\((∃ d,s=.st d/\Rp G3 v d/\∀ i,inv i ≠ some j)\/(∃ ns a,s=.scr ns/\v=.ref a/\SqL B.K G3 a (ns.map V.int)/\∀ i,inv i ≠ some j) ∨
     ∃ i A,inv i=some j/\s=.io A/\σ[i]?=some (some v)/\(env2[i]?=some (some (.own A))\/env2[i]?=some (some (.io A)))):=fun j s es=>by
    obtain ⟨v,hv,q⟩:=sl j s es
    refine ⟨v,hv,?_⟩
    rcases q with ⟨d,e1',r,n⟩ | ⟨ns,a,e1',e2',r,n⟩ | q
    ·exact .inl ⟨d,e1',r.same o.gg,n⟩
    ·exact .inr (.inl ⟨ns,a,e1',e2',o.gg.seq r,n⟩)
    ·exact .inr (.inr q)
   have E3:=I3.enter (inv:=inv) (σI:=σI) (envI:=e) inj ln sl3
   -- back from the turn
   have fin:∀ (σ4:St) (G4 H4:Hp) (F4:Nat->Addr->Prop) (e4:En) (yd':List PyData) (ys':List V) (o4:HO),VI ⟨B.K,G3,H3,ab2 H3 F2 inv,σI,fun j a=>∃ i,inv i=some j/\F2 i a⟩ G4 H4 σ4 e4 F4->Jv (i+1) yd' e4->Rps G4 ys' yd' ->
     Wv (i+1) ys' σ4 (upd H4 acc (.lst ys'))/\H4 acc=some (.lst ys):=by
    intro σ4 G4 H4 F4 e4 yd' ys' o4 I4 j4 r4
    have ioA:=ioAt (i+1) yd' e4 j4
    have ac4:H4 acc=some (.lst ys):=I4.rs acc _ (by show ab2 H3 F2 inv acc=_;rw [afw (fun i' _ _=>fa3 i')];exact ac3)
    have ga4:G4 acc=none:=by
     cases e':G4 acc with
     | none=>rfl
     | some u =>
      rcases I4.gn acc u e' with q | q
      ·change G3 acc=_ at q;rw [ga3] at q;cases q
      ·change H3 acc=_ at q;rw [ac3] at q;cases q
    -- the slots of the outer frame
    let env3:En:=(List.range env2.length).map fun i'=>match inv i' with
     | some j=>(match env2[i']?,e4[j]? with | some (some (.own _)),some (some (.io A))=>some (.own A) | some (some (.io _)),some (some (.io A))=>some (.io A) | _,_=>none)
     | none=>(env2[i']?).getD none
    have e3get:∀ i',i' < env2.length->env3[i']?=some (match inv i' with
     | some j=>(match env2[i']?,e4[j]? with | some (some (.own _)),some (some (.io A))=>some (.own A) | some (some (.io _)),some (some (.io A))=>some (.io A) | _,_=>none)
     | none=>(env2[i']?).getD none):=fun i' hl=>by
     simp only [env3,List.getElem?_map]
     rw [List.getElem?_eq_getElem (by simpa using hl)]
     simp
    have L:=I3.leave (inv:=inv) (env2:=env3) inj rfl rfl (fun a u q n=>by show ab2 H3 F2 inv a=_;rw [afw n];exact q) (fun i' j hi' a z=>by obtain ⟨i'',h1,h2⟩:=z;rw [inj i' i'' j hi' h1];exact h2)
     (fun i' j hi'=>by
      obtain ⟨A0,A,h1,h2⟩:=mv i' j hi'
      obtain ⟨v,hv,q⟩:=sl j _ h1
      rcases q with ⟨d,q,_⟩ | ⟨ns,a,q,_⟩ | ⟨i'',A'',q1,q2,q3,_⟩
      ·cases q
      ·cases q
      ·rw [inj i' i'' j hi' q1]
       show σI[j]?=_
       rw [hv,q3]) I4 ioA (by simp [env3]) (fun i' s es=>by
      have hl:i' < env2.length:=by
       have:=(List.getElem?_eq_some_iff.mp es).1
       simpa [env3] using this
      rw [e3get i' hl] at es
      cases hi':inv i' with
      | none =>
       refine .inl ⟨rfl,?_⟩
       rw [hi'] at es
       simp only [Option.some.injEq] at es
       cases q:env2[i']? with
       | none=>rw [q] at es;cases es
       | some u=>rw [q] at es;simp at es;rw [es]
      | some j =>
       rw [hi'] at es
       obtain ⟨A',hA'⟩:=ioA i' j hi'
       obtain ⟨A0,A,h1,h2⟩:=mv i' j hi'
       simp only [hA'] at es
       rcases h2 with ⟨_,h2⟩ | ⟨_,h2⟩
       ·rw [h2] at es
        simp only [Option.some.injEq] at es
        exact .inr ⟨j,A,A',rfl,hA',.inl ⟨h2,es.symm⟩⟩
       ·rw [h2] at es
        simp only [Option.some.injEq] at es
        exact .inr ⟨j,A,A',rfl,hA',.inr ⟨h2,es.symm⟩⟩)
    have fa4:∀ j,¬ (match inv j with | some j=>F4 j acc | none=>F2 j acc):=fun j z=>by
     cases hj:inv j with
     | none=>rw [hj] at z;exact fa3 j z
     | some l =>
      rw [hj] at z
      obtain ⟨A',hA'⟩:=ioA j l hj
      obtain ⟨v,_,q⟩:=I4.sl l _ hA'
      rcases q.2.1 acc z with ⟨i'',_,q⟩ | q
      ·exact fa3 i'' q
      ·change H3 acc=_ at q;rw [ac3] at q;cases q
    refine ⟨⟨G4,_,e4,env3,yd',L.aside (fun _ z=>nomatch z) ga4 fa4 hb,g2.trans (o.gg.trans I4.g0),aag,r4,ga4,fa4,j4,I4.ln,by simp [env3,ln2],fun j s es=>?_,fun i' hi'=>?_,fun i' j hi'=>?_⟩,ac4⟩
    ·obtain ⟨v,hv,q⟩:=I4.sl j s es
     refine ⟨v,hv,?_⟩
     have noinv:(∀ A,s ≠ .io A)->∀ i',inv i' ≠ some j:=fun hn i' hi'=>by
      obtain ⟨A,hA⟩:=ioA i' j hi'
      rw [es] at hA
      exact hn A (by simpa using hA)
     cases s with
     | st d=>exact .inl ⟨d,rfl,q.1,noinv (by intro A z;cases z)⟩
     | scr ns =>
      obtain ⟨⟨a,ea,sq⟩,_⟩:=q
      exact .inr (.inl ⟨ns,a,rfl,ea,sq,noinv (by intro A z;cases z)⟩)
     | own A =>
      have:=((jio _ _ _ j4).got es).2
      simp [afe] at this
     | io A =>
      obtain ⟨A0,h0⟩:=((jio _ _ _ j4).got es).1 rfl
      obtain ⟨i',t,hs,ht,hp⟩:=aez h0
      have hm:mt i'=true:=by
       cases t with
       | own A=>simp [mt,ht]
       | io A=>simp [mt,ht]
       | st d=>cases hp
       | scr ns=>cases hp
      have hi':=inv2 i' j hs hm
      obtain ⟨B0,A1,h1,h2⟩:=mv i' j hi'
      have hl:i' < env2.length:=by
       rcases h2 with ⟨_,h2⟩ | ⟨_,h2⟩ <;> exact (List.getElem?_eq_some_iff.mp h2).1
      refine .inr (.inr ⟨i',A,hi',rfl,?_,?_⟩)
      ·have hS : σI[j]?=some (some v):=q.2.2
       obtain ⟨v',hv',q'⟩:=sl j _ h1
       rcases q' with ⟨d,q',_⟩ | ⟨ns,a,q',_⟩ | ⟨i'',A'',q1,q2,q3,_⟩
       ·cases q'
       ·cases q'
       ·rw [inj i' i'' j hi' q1,q3,← hv',hS]
      ·rw [e3get i' hl,hi']
       simp only [es]
       rcases h2 with ⟨_,h2⟩ | ⟨_,h2⟩
       ·rw [h2];exact .inl rfl
       ·rw [h2];exact .inr rfl
    ·by_cases hl:i' < env2.length
     ·rw [e3get i' hl,hi']
      simp only
      rw [← un i' hi']
      rw [List.getElem?_eq_getElem hl];rfl
     ·rw [List.getElem?_eq_none_iff.mpr (by simp [env3];row_cond lo),← un i' hi',List.getElem?_eq_none_iff.mpr (by row_cond lo)]
    ·obtain ⟨A',hA'⟩:=ioA i' j hi'
     obtain ⟨A0,A,h1,h2⟩:=mv i' j hi'
     have hl:i' < env2.length:=by
      rcases h2 with ⟨_,h2⟩ | ⟨_,h2⟩ <;> exact (List.getElem?_eq_some_iff.mp h2).1
     refine ⟨A0,A',hA',?_⟩
     rw [e3get i' hl,hi']
     simp only [hA']
     rcases h2 with ⟨h3,h2⟩ | ⟨h3,h2⟩
     ·rw [h2];exact .inl ⟨h3,rfl⟩
     ·rw [h2];exact .inr ⟨h3,rfl⟩
   have hd:ds[i]?=some ds[i]:=List.getElem?_eq_getElem hlt
   refine js i _ yd e hd jv ⟨B.K,G3,H3,ab2 H3 F2 inv,σI,fun j a=>∃ i,inv i=some j/\F2 i a⟩ rfl σI G3 H3 _ x _ _ E3 (aci o.ok.1) fun σ4 G4 H4 F4 e4 I4 g4 q4=>?_
   refine q4 σ4 G4 H4 F4 _ I4 fun b G5 H5 F5 e5 I5 g5 q5=>?_
   cases b with
   | false =>
    rw [if_neg Bool.false_ne_true] at q5 ⊢
    obtain ⟨w,ac⟩:=fin σ4 G5 H5 F5 e5 yd ys (.lst ys) I5 q5 (ry.same (o.gg.trans (g4.trans g5)))
    have:upd H5 acc (.lst ys)=H5:=by
     funext b
     unfold upd
     split
     ·rename_i hb';rw [hb'];exact ac.symm
     ·rfl
    rw [this] at w
    exact w
   | true =>
    rw [if_pos rfl] at q5 ⊢
    refine q5 σ4 G5 H5 F5 _ I5 fun y G6 H6 F6 d6 e6 I6 g6 r6 q6=>?_
    obtain ⟨w,ac⟩:=fin σ4 G6 H6 F6 e6 (yd ++ [d6]) (ys ++ [y]) (.lst ys) I6 q6.2 ((ry.same (o.gg.trans (g4.trans (g5.trans g6)))).append (.cons r6 .nil))
    exact ⟨ac,by rw [ry.length];exact big (by have:=q6.1;row_cond lo),w⟩
  ·have ei:i=ds.length:=by row_cond lo
   subst ei
   refine .inl ⟨it.stop _ G2 H2 g2 I2.gh rfl,?_⟩
   have q:=jd yd e jv
   have eb:agk src e1 e=env2:=by
    apply List.ext_getElem?
    intro i'
    unfold agk
    rw [aef,Nat.zero_add]
    have nomut:mt i'=false->env2[i']?=e1[i']?:=fun hm=>un i' (by simp [inv,hm])
    cases e2:e1[i']? with
    | none =>
     rw [nomut (by simp [mt,e2]),e2];rfl
    | some o =>
     cases o with
     | none=>rw [nomut (by simp [mt,e2]),e2];rfl
     | some t =>
      have main:∀ A,(t=.own A\/t=.io A)->mt i'=true:=fun A h=>by rcases h with rfl | rfl <;> simp [mt,e2]
      cases t with
      | st d=>rw [nomut (by simp [mt,e2]),e2];rfl
      | scr ns=>rw [nomut (by simp [mt,e2]),e2];rfl
      | own A =>
       have hm:=main A (.inl rfl)
       simp only [Option.map_some,afd]
       cases e3:idxE i' src 0 with
       | none =>
        have:inv i'=none:=by simp [inv,e3]
        rw [un i' this,e2]
       | some j =>
        have hi':inv i'=some j:=by simp [inv,hm,e3]
        obtain ⟨A0,A1,h1,h2⟩:=mv i' j hi'
        simp only [h1]
        rcases h2 with ⟨h3,h2⟩ | ⟨h3,h2⟩
        ·rw [h2]
        ·rw [e2] at h3;cases h3
      | io A =>
       have hm:=main A (.inr rfl)
       simp only [Option.map_some,afd]
       cases e3:idxE i' src 0 with
       | none =>
        have:inv i'=none:=by simp [inv,e3]
        rw [un i' this,e2]
       | some j =>
        have hi':inv i'=some j:=by simp [inv,hm,e3]
        obtain ⟨A0,A1,h1,h2⟩:=mv i' j hi'
        simp only [h1]
        rcases h2 with ⟨h3,h2⟩ | ⟨h3,h2⟩
        ·rw [e2] at h3;cases h3
        ·rw [h2]
   rw [eb] at q
   refine k (.ref acc) G2 H2 F2 (· = acc) (.own (OL yd)) env2 I2 (g1.trans g2) ⟨⟨acc,ys,rfl,hac,ry,fun b=>Iff.rfl⟩,fun a z=>by rw [z];exact hb,fun a z=>by rw [z];exact ga,fun a z=>by rw [z];exact ⟨_,hac⟩,fun j a z=>by rw [z];exact fa j⟩ q
end
end VL
namespace VL
open PySem PySem.Spec L2
noncomputable def noIo (e:En):Bool:=e.all fun s => !isIo s
theorem aru {e:En} {j:Nat} {x:Option Sl} (h:noIo e=true) (hx:e[j]?=some x):isIo x=false:=by
 have:=List.all_eq_true.mp h x (List.mem_of_getElem? hx)
 simpa using this
theorem amf {src:List (Option Nat)} {e1 e:En} (h:noIo (aao src e1)=true):agk src e1 e=e1:=by
 apply List.ext_getElem?
 intro i
 unfold agk
 rw [aef,Nat.zero_add]
 cases e2:e1[i]? with
 | none=>rfl
 | some o =>
  have main:∀ A,(o=some (.own A)\/o=some (.io A))->idxE i src 0=none:=fun A ho=>by
   cases e3:idxE i src 0 with
   | none=>rfl
   | some j =>
    have hs:=(ads e3).2
    have:(aao src e1)[j]?=some (some (.io A)):=by
     unfold aao
     rw [List.getElem?_map,show src[j]?=some (some i) by simpa using hs]
     rcases ho with rfl | rfl <;> simp [e2,agj]
    have:=aru h this
    simp [isIo] at this
  cases o with
  | none=>rfl
  | some t =>
   cases t with
   | st d=>rfl
   | scr ns=>rfl
   | own A=>simp only [Option.map_some,afd,main A (.inl rfl)]
   | io A=>simp only [Option.map_some,afd,main A (.inr rfl)]
noncomputable def stO:Option PyData->Option Sl:=Option.map Sl.st
theorem isIo_stO {o:Option PyData}:isIo (stO o)=false:=by cases o <;> rfl
theorem ae0 {o:Option PyData}:afe (stO o)=false:=by cases o <;> rfl
theorem afm {src:List (Option Nat)} {e1:En}:∀ x∈aao src e1,afe x=false:=by
 intro x hx
 unfold aao at hx
 obtain ⟨o,_,rfl⟩:=List.mem_map.mp hx
 cases o with
 | none=>rfl
 | some j =>
  dsimp only
  cases (e1[j]?).getD none with
  | none=>rfl
  | some t=>cases t <;> rfl
theorem ae1:∀ {e:En},(∀ x∈e,afe x=false)->ioLe e e
 | [],_=>True.intro
 | x :: r,h=>⟨⟨rfl,h x List.mem_cons_self⟩,ae1 fun y hy=>h y (List.mem_cons_of_mem _ hy)⟩
section
variable {B:Bs} {env:En} {g:TG} {tif:TT} {te:TE} {K:PySem.W.Frag} {src:List (Option Nat)} {ds:List PyData} {e1:En} {R:List PyData->En->Prop}
theorem aeg (f:PyData->PyData) (p:PyData->Bool) (hno:noIo (aao src e1)=true) (hl:ds.length<=999999)
  (h:∀ d∈ds,∀ B':Bs,B'.K=K->EvT B' tif (some (.st d) :: aao src e1) fun b e3=>b=p d/\e3=some (.st d) :: aao src e1/\(b=true->Ev B' te (some (.st d) :: aao src e1) fun y e4=>y=f d/\e4=some (.st d) :: aao src e1))
  (hR:R ((ds.filter p).map f) e1):LcV K (none :: src) (aa5 0) tif te ds e1 R:=by
 have hno':noIo (aao (none :: src) e1)=true:=by
  show ((none :: aao src e1).all fun s => !isIo s)=true
  rw [List.all_cons]
  exact (Bool.and_eq_true _ _).mpr ⟨rfl,hno⟩
 refine ⟨fun i ys e=>ys=((ds.take i).filter p).map f/\∃ o,e=stO o :: aao src e1,⟨by simp,none,rfl⟩,?_,?_,?_⟩
 ·rintro i ys e ⟨_,o,rfl⟩
  exact ⟨⟨isIo_stO.symm,ae0⟩,ae1 afm⟩
 ·rintro i d ys e hd ⟨rfl,o,rfl⟩ B' hB
  have hi:i < ds.length:=(List.getElem?_eq_some_iff.mp hd).1
  have et:ds.take (i+1)=ds.take i ++ [d]:=by rw [List.take_add_one,hd];rfl
  refine aa3 ?_
  show EvT B' tif (some (.st d) :: aao src e1) _
  intro σ G H F Q I k
  refine h d (List.mem_of_getElem? hd) B' hB σ G H F Q I fun b G' H' F' e3 I' g' ⟨hb,he,hq⟩=>k b G' H' F' e3 I' g' ?_
  subst he
  by_cases hp:b=true
  ·rw [if_pos hp]
   intro σ G H F Q I k
   refine hq hp σ G H F Q I fun v G' H' F' d' e4 I' g' r' ⟨hy,he4⟩=>k v G' H' F' d' e4 I' g' r' ?_
   subst hy he4
   refine ⟨?_,?_,some d,rfl⟩
   ·have:=List.length_filter_le p (ds.take i)
    simp only [List.length_map]
    have h2:(ds.take i).length<=i:=by simp;row_cond lo
    row_cond lo
   ·rw [et,List.filter_append,List.map_append]
    have:p d=true:=by rw [← hb];exact hp
    simp [this]
  ·rw [if_neg hp]
   refine ⟨?_,some d,rfl⟩
   rw [et,List.filter_append,List.map_append]
   have:p d=false:=by rw [← hb];simpa using hp
   simp [this]
 ·rintro ys e ⟨rfl,o,rfl⟩
  rw [amf hno',List.take_length]
  exact hR
end
section
variable {R:Sl->Prop}
theorem aup {g:Int->Int->Int} {i j:Int} (h:R (.st (.int (g i j)))):Op2 (rI0 fun i j => .int (g i j)) (.int i) (.int j) R:=fun G H vx vy Q gh rx ry k=>by
 cases rx;cases ry
 exact ⟨i,j,rfl,rfl,k _ _ _ _ _ (Out.refl gh (.int _)) h⟩
theorem auq {g:Int->Int->Bool} {i j:Int} (h:R (.st (.bool (g i j)))):Op2 (rI0 fun i j => .bl (g i j)) (.int i) (.int j) R:=fun G H vx vy Q gh rx ry k=>by
 cases rx;cases ry
 exact ⟨i,j,rfl,rfl,k _ _ _ _ _ (Out.refl gh (.bl _)) h⟩
theorem axf {C:Int->Int->Prop} {g:Int->Int->Int} {i j:Int} (hc:C i j) (h:R (.st (.int (g i j)))):Op2 (rI C fun i j => .int (g i j)) (.int i) (.int j) R:=fun G H vx vy Q gh rx ry k=>by
 cases rx;cases ry
 exact ⟨i,j,rfl,rfl,hc,k _ _ _ _ _ (Out.refl gh (.int _)) h⟩
theorem aur {i j:Int} (h:R (.st (.bool (decide (i=j))))):Op2 rEq (.int i) (.int j) R:=fun G H vx vy Q gh rx ry k=>by
 cases rx;cases ry
 exact ape (k _ _ _ _ _ (Out.refl gh (.bl _)) h)
theorem aus {i j:Int} (h:R (.st (.bool (!decide (i=j))))):Op2 rNe (.int i) (.int j) R:=fun G H vx vy Q gh rx ry k=>by
 cases rx;cases ry
 exact aww (k _ _ _ _ _ (Out.refl gh (.bl _)) h)
theorem aut {i j:Bool} (h:R (.st (.bool (decide (i=j))))):Op2 rEq (.bool i) (.bool j) R:=fun G H vx vy Q gh rx ry k=>by
 cases rx;cases ry
 exact awx (k _ _ _ _ _ (Out.refl gh (.bl _)) h)
theorem auu (i j:Bool):decide (V.bl i=V.bl j)=decide (i=j):=by cases i <;> cases j <;> rfl
theorem auv {i j:Bool} (h:R (.st (.bool (!decide (i=j))))):Op2 rNe (.bool i) (.bool j) R:=fun G H vx vy Q gh rx ry k=>by
 cases rx;cases ry
 refine ⟨rfl,?_⟩
 rw [auu]
 exact k _ _ _ _ _ (Out.refl gh (.bl _)) h
theorem ahd {x y:PyData} (px:aai x=true) (py:aai y=true) (hd:x.depth<=60) (h:R (.st (.bool (PyData.eqv x y)))):Op2 rEqD x y R:=fun G H vx vy Q gh rx ry k =>
 ⟨x,y,(rx.rep px).same gh,(ry.rep py).same gh,px,py,hd,k _ _ _ _ _ (Out.refl gh (.bl _)) h⟩
theorem ahe {x y:PyData} (px:aai x=true) (py:aai y=true) (hd:x.depth<=60) (h:R (.st (.bool (!PyData.eqv x y)))):Op2 rNeD x y R:=fun G H vx vy Q gh rx ry k =>
 ⟨x,y,(rx.rep px).same gh,(ry.rep py).same gh,px,py,hd,k _ _ _ _ _ (Out.refl gh (.bl _)) h⟩
theorem auw {neg:Bool} {x:PyData} {es:List PyData} (px:aai x=true) (py:plainDs es=true) (hd:x.depth<=60) (h:R (.st (.bool (if neg then !es.any (fun z=>PyData.eqv z x) else es.any (fun z=>PyData.eqv z x))))):Op2 (rInD neg) x (.list es) R:=fun G H vx vy Q gh rx ry k =>
 ⟨x,es,(rx.rep px).same gh,.inl ((ry.rep (by simpa [aai] using py)).same gh),px,py,hd,k _ _ _ _ _ (Out.refl gh (.bl _)) h⟩
theorem Rps.at {G:Hp} {vs:List V} {ds:List PyData} {i:Int} {d:PyData} (r:Rps G vs ds) (h:atI ds i=some d):∃ v,atI vs i=some v/\Rp G v d:=by
 unfold atI at h ⊢
 rw [r.length]
 cases e:ixN ds.length i with
 | none=>rw [e] at h;cases h
 | some j =>
  rw [e] at h
  exact r.get h
theorem aux {K:PySem.W.Frag} {ds:List PyData} {i:Int} {d:PyData} (hd:atI ds i=some d) (h:R (.st d)):Op2 (ab5 K) (.list ds) (.int i) R:=fun G H vx vy Q gh rx ry k=>by
 cases ry
 cases rx with
 | lst ha rs =>
  obtain ⟨v,hv,rv⟩:=rs.at hd
  exact aec (gh _ _ ha) hv (k _ _ _ _ _ (Out.refl gh rv) h)
theorem auy {K:PySem.W.Frag} {ds:List PyData} {i:Int} {d:PyData} (hd:atI ds i=some d) (h:R (.st d)):Op2 (ab5 K) (.tuple ds) (.int i) R:=fun G H vx vy Q gh rx ry k=>by
 cases ry
 cases rx with
 | tup ha rs =>
  obtain ⟨v,hv,rv⟩:=rs.at hd
  exact ard (gh _ _ ha) hv (k _ _ _ _ _ (Out.refl gh rv) h)
noncomputable def isNone:PyData->Bool
 | .none=>true
 | _=>false
theorem amg {G:Hp} {v:V} {x:PyData} (r:Rp G v x):decide (v=.non)=isNone x:=by cases r <;> rfl
theorem auz {x:PyData} (h:R (.st (.bool (isNone x)))):Op2 rIsN x .none R:=fun G H vx vy Q gh rx ry k=>by
 cases ry
 refine ⟨rfl,?_⟩
 rw [amg rx]
 exact k _ _ _ _ _ (Out.refl gh (.bl _)) h
theorem arv {x:PyData} (h:R (.st (.bool (!isNone x)))):Op2 atc x .none R:=fun G H vx vy Q gh rx ry k=>by
 cases ry
 refine ⟨rfl,?_⟩
 rw [amg rx]
 exact k _ _ _ _ _ (Out.refl gh (.bl _)) h
theorem au0 {xs ys:List PyData} (hl:xs.length+ys.length<=1000000) (h:R (.own (OL (xs ++ ys)))):Op2 rCat (.list xs) (.list ys) R:=fun G H vx vy Q gh rx ry k=>by
 cases rx with
 | lst ha ra =>
  cases ry with
  | lst hb rb =>
   refine aw0 (gh _ _ ha) (gh _ _ hb) ?_ fun p hp=>k _ _ _ _ _ (Out.newL gh hp (ra.append rb)) h
   rw [ra.length,rb.length];exact Nat.le_of_lt (big hl)
theorem amh {xs:List PyData} {n:Int} (h1 : -(2 ^ 63)<=n) (h2:n < 2 ^ 63) (hl:xs.length * n.toNat<=1000000) (h:R (.own (OL (List.replicate n.toNat xs).flatten))):Op2 rRep (.list xs) (.int n) R:=fun G H vx vy Q gh rx ry k=>by
 cases ry
 cases rx with
 | lst ha ra =>
  refine ⟨_,n,_,rfl,rfl,gh _ _ ha,h1,h2,?_,fun p hp=>k _ _ _ _ _ (Out.newL gh hp (ra.rep _)) h⟩
  rw [ra.length];exact Nat.le_of_lt (big hl)
theorem arw {K:PySem.W.Frag} {xs:List PyData} (h:R (.st (.int xs.length))):OpA (rLen K) [.list xs] R:=fun G H vs Q gh rs k=>by
 cases rs with
 | cons r t =>
  cases t
  cases r with
  | lst ha ra =>
   refine al2 (gh _ _ ha) ?_
   rw [ra.length]
   exact k _ _ _ _ _ (Out.refl gh (.int _)) h
theorem arx {K:PySem.W.Frag} {xs:List PyData} (h:R (.st (.int xs.length))):OpA (rLen K) [.tuple xs] R:=fun G H vs Q gh rs k=>by
 cases rs with
 | cons r t =>
  cases t
  cases r with
  | tup ha ra =>
   refine at6 (gh _ _ ha) ?_
   rw [ra.length]
   exact k _ _ _ _ _ (Out.refl gh (.int _)) h
theorem ary {i j:Int} (h:R (.st (.int (if j > i then j else i)))):OpA ai9 [.int i,.int j] R:=fun G H vs Q gh rs k=>by
 obtain rfl:vs=[V.int i,V.int j]:=Rps.ints_inv (ns:=[i,j]) rs
 exact al3 (k _ _ _ _ _ (Out.refl gh (.int _)) h)
theorem arz {i j:Int} (h:R (.st (.int (if j < i then j else i)))):OpA aja [.int i,.int j] R:=fun G H vs Q gh rs k=>by
 obtain rfl:vs=[V.int i,V.int j]:=Rps.ints_inv (ns:=[i,j]) rs
 exact al4 (k _ _ _ _ _ (Out.refl gh (.int _)) h)
theorem akj {K:PySem.W.Frag} {ns:List Int} (hne:ns ≠ []) (h:∀ m,agd ns m->R (.st (.int m))):OpA (ano K) [.list (ns.map .int)] R:=fun G H vs Q gh rs k=>by
 cases rs with
 | cons r t =>
  cases t
  cases r with
  | lst ha ra =>
   have:=Rps.ints_inv ra
   subst this
   exact ⟨_,ns,rfl,.inl (SqL.of (gh _ _ ha)),hne,fun m hm=>k _ _ _ _ _ (Out.refl gh (.int _)) (h m hm)⟩
end
section
variable {B:Bs} {env:En} {QO:Sl->En->Prop} {Q':PyData->En->Prop} {te tl th:TE} {K:PySem.W.Frag}
end
end VL
namespace VL
open PySem PySem.Spec L2
noncomputable def agl:PyData->Bool
 | .none | .bool _ | .int _ | .str _=>true
 | _=>false
theorem au1 {G G':Hp} {v:V} {d:PyData} (r:Rp G v d) (h:agl d=true):Rp G' v d:=by
 cases r with
 | non=>exact .non
 | bl b=>exact .bl b
 | int i=>exact .int i
 | str x=>exact .str x
 | _=>simp [agl] at h
def Has (env:En) (i:Nat) (A:Own):Prop:=env[i]?=some (some (.own A))\/env[i]?=some (some (.io A))
section
variable {B:Bs} {env:En} {QO:Sl->En->Prop} {Q':PyData->En->Prop} {QT:Bool->En->Prop} {QE:En->Prop} {te ta tb tk:TE} {K:PySem.W.Frag} {i:Nat}
theorem VI.has {G H:Hp} {σ:St} {F:Nat->Addr->Prop} {A:Own} (I:VI B G H σ env F) (h:Has env i A):∃ v,σ[i]?=some (some v)/\A.P G H v (F i):=by
 rcases h with h | h
 ·obtain ⟨v,hv,q⟩:=I.sl i _ h;exact ⟨v,hv,q.1⟩
 ·obtain ⟨v,hv,q⟩:=I.sl i _ h;exact ⟨v,hv,q.1⟩
theorem VI.moment {G G1 G3 H H3:Hp} {σ:St} {F:Nat->Addr->Prop} {v:V} {s:Sl} {Fv:Addr->Prop} (I:VI B G H σ env F) (g1:Same G G1) (o:Out G1 H v G3 H3 s Fv):∃ G2,Same G G2/\VI B G2 H3 σ env F:=by
 refine ⟨fun a=>if H a=none then G3 a else G a,fun a u e=>?_,I.grow (fun a u e=>?_) (fun a u e=>?_) o.hh (fun a u e=>?_) fun a ks e=>?_⟩
 ·show (if H a=none then G3 a else G a)=some u;rw [if_neg (by rw [I.gh a u e];simp)];exact e
 ·rw [if_neg (by rw [I.gh a u e];simp)];exact e
 ·by_cases h:H a=none
  ·rw [if_pos h] at e;exact o.gh a u e
  ·rw [if_neg h] at e;exact o.hh _ _ (I.gh a u e)
 ·by_cases h:H a=none
  ·exact .inr h
  ·rw [if_neg h] at e;exact .inl e
 ·have f1:FT G1 H:=fun a ks e=>g1 _ _ (I.ft a ks e)
  by_cases h:H a=none
  ·rw [if_pos h];exact o.ft f1 a ks e
  ·rw [if_neg h]
   obtain ⟨u,hu⟩:=anv h
   have:=o.hh _ _ hu
   rw [e] at this
   exact I.ft a ks (by rw [hu,← this])
theorem axg {r:List V->Hp->VK->Prop} {A:Own} {dx:PyData} (hA:Has env i A) (fz:Frz A dx) (h:OpA r [dx] fun s=>∃ d,s=.st d/\agl d=true/\Q' d env):Ev B (tCB r (aa6 (tVar i) tNil)) env Q':=fun σ G H F Q I k=>by
 obtain ⟨v,hv,ap⟩:=I.has hA
 refine ⟨v,hv,h (jn G H (F i)) H [v] Q (ate I.gh) (.cons (fz _ _ _ _ ap (I.fg i) I.gh) .nil) fun w G3 H3 s Fv o ⟨d,es,hs,q3⟩=>?_⟩
 subst es
 obtain ⟨G4,g4,I4⟩:=I.moment (abu (I.fg i)) o
 exact k w G4 H3 F d env I4 g4 (au1 o.ok.1 hs) q3
theorem x_sc {d:PyData} {R:PyData->Prop} (h1:agl d=true) (h:R d):∃ d',Sl.st d=.st d'/\agl d'=true/\R d':=⟨d,rfl,h1,h⟩
theorem axh {ds0:List PyData} (h0:Has env i (OL ds0)) (h:Ev B tb env fun y e2=>∃ ds k d,Has e2 i (OL ds)/\y=.int k/\atI ds k=some d/\Q' d e2):Ev B (tOp (ab5 K) (tVar i) tb) env Q':=fun σ G H F Q I k=>by
 obtain ⟨v,hv,_⟩:=I.has h0
 refine ⟨v,hv,h σ G H F _ I fun u G2 H2 F2 y e2 I2 g2 r2 ⟨ds,j,d,hA,ey,hat,q⟩=>?_⟩
 subst ey
 cases r2
 obtain ⟨v',hv',a,vs,ea,ha,rs,_⟩:=I2.has hA
 rw [hv] at hv';cases hv'
 subst ea
 obtain ⟨w,hw,rw'⟩:=rs.at hat
 exact aec ha hw (k w G2 H2 F2 d e2 I2 g2 rw' q)
theorem au2 {ns:List Int} (e:env[i]?=some (some (.scr ns))) (hK:B.K=K) (q:Q' (.int ns.length) env):Ev B (tCB (rLen K) (aa6 (tVar i) tNil)) env Q':=fun σ G H F Q I k=>by
 subst hK
 obtain ⟨v0,hv,⟨a,ea,sq⟩,_⟩:=I.sl i _ e
 subst ea
 refine ⟨_,hv,at7 (I.gh.seq sq) ?_⟩
 rw [List.length_map]
 exact k _ G H F _ env I (Same.refl _) (.int _) q
theorem axi {ns:List Int} (e:env[i]?=some (some (.scr ns))) (hK:B.K=K) (h:Ev B tb env fun y e2=>∃ j n,y=.int j/\atI ns j=some n/\Q' (.int n) e2):Ev B (tOp (ab5 K) (tVar i) tb) env Q':=fun σ G H F Q I k=>by
 subst hK
 obtain ⟨v0,hv,⟨a,ea,sq⟩,_⟩:=I.sl i _ e
 subst ea
 refine ⟨_,hv,h σ G H F _ I fun u G2 H2 F2 y e2 I2 g2 r2 ⟨j,n,ey,hat,q⟩=>?_⟩
 subst ey
 cases r2
 refine arf (I2.gh.seq (g2.seq sq)) (v:=.int n) ?_ (k _ G2 H2 F2 _ e2 I2 g2 (.int _) q)
 unfold atI at hat ⊢
 rw [List.length_map]
 cases e:ixN ns.length j with
 | none=>rw [e] at hat;cases hat
 | some l=>rw [e] at hat;simp at hat ⊢;exact hat
theorem VI.upd1 {G H:Hp} {σ:St} {F:Nat->Addr->Prop} {s:Sl} {A A':Own} {a:Addr} {o:HO} (I:VI B G H σ env F) (e:env[i]?=some (some s)) (hs:s=.own A\/s=.io A) (hv : σ[i]?=some (some (.ref a))) (hf:∀ b,F i b ↔ b=a) (hp:A'.P G (upd H a o) (.ref a) (· = a)) (nt:∀ xs,o ≠ .tup xs:=by intro _ z;cases z) :
  VI B G (upd H a o) σ (env.set i (some (reS s A'))) (putF F i (· = a)):=by
 refine I.change (A:=A') i e hv (fun b u hb eb=>by rw [aac (fun z=>hb ((hf b).mpr z))];exact eb) (fun b u eb=>?_) (fun b z=>⟨.inl ((hf b).mpr z),by rw [z];exact ⟨_,aag⟩⟩) hp (fun b ks e=>?_) ?_
 ·by_cases z:b=a
  ·rw [z];exact ⟨_,aag⟩
  ·rw [aac z];exact ⟨u,eb⟩
 ·by_cases z:b=a
  ·subst z;rw [aag] at e;exact absurd (Option.some.inj e) (nt _)
  ·rw [aac z] at e;exact I.ft b ks e
 ·rcases hs with rfl | rfl
  ·exact .inl ⟨rfl,A,rfl⟩
  ·exact .inr ⟨rfl,A,rfl⟩
theorem apy {ds0:List PyData} (h0:Has env i (OL ds0)) (h:Ev B te env fun y e2=>∃ s ds,e2[i]?=some (some s)/\(s=.own (OL ds)\/s=.io (OL ds))/\ds.length<=999999/\Q' .none (e2.set i (some (reS s (OL (ds ++ [y])))))):Ev B (tBM K "list" acn (tVar i) (aa6 te tNil)) env Q':=fun σ G H F Q I k=>by
 obtain ⟨v,hv,a,vs,ea,ha,rs,_⟩:=I.has h0
 subst ea
 refine ⟨_,hv,.inl ⟨rfl,_,SqL.of ha⟩,h σ G H F _ I fun u G2 H2 F2 y e2 I2 g2 r2 ⟨s,ds,es,hs,hl,q⟩=>?_⟩
 have hA:Has e2 i (OL ds):=by rcases hs with rfl | rfl;exact .inl es;exact .inr es
 obtain ⟨v',hv',a',vs',ea',ha',rs',hf⟩:=I2.has hA
 rw [hv] at hv';cases hv';cases ea'
 refine acz ha' (by rw [rs'.length];exact big (by row_cond lo)) ?_
 exact k _ G2 _ _ _ _ (I2.upd1 (A':=OL (ds ++ [y])) es hs hv hf ⟨a,_,rfl,aag,rs'.append (.cons r2 .nil),fun b=>Iff.rfl⟩) g2 .non q
theorem anw {ds0:List PyData} (h0:Has env i (OL ds0)) (h:Ev B te env fun y e2=>∃ ds,e2[i]?=some (some (.own (OL ds)))/\ds.length<=999999/\Q' .none (e2.set i (some (.own (OL (ds ++ [y])))))):Ev B (tBM K "list" acn (tVar i) (aa6 te tNil)) env Q' :=
 apy h0 fun σ G H F Q I k=>h σ G H F Q I fun v G' H' F' d e I' g r ⟨ds,h1,h2,q⟩=>k v G' H' F' d e I' g r ⟨_,ds,h1,.inl rfl,h2,q⟩
theorem ar0 {ds0:List PyData} (h0:Has env i (OL ds0)) (h:Ev B te env fun y e2=>∃ s ds j n d,y=.int j/\e2[i]?=some (some s)/\(s=.own (OL ds)\/s=.io (OL ds))/\-(2 ^ 63)<=j/\j < 2 ^ 63/\seqIndex? j ds.length=some n/\ds[n]?=some d/\Q' d (e2.set i (some (reS s (OL (ds.eraseIdx n)))))):Ev B (tBM K "list" af5 (tVar i) (aa6 te tNil)) env Q':=fun σ G H F Q I k=>by
 obtain ⟨v,hv,a,vs,ea,ha,rs,_⟩:=I.has h0
 subst ea
 refine ⟨_,hv,.inl ⟨rfl,_,SqL.of ha⟩,h σ G H F _ I fun u G2 H2 F2 y e2 I2 g2 r2 ⟨s,ds,j,n,d,ey,es,hs,b1,b2,hn,hd,q⟩=>?_⟩
 subst ey
 cases r2
 have hA:Has e2 i (OL ds):=by rcases hs with rfl | rfl;exact .inl es;exact .inr es
 obtain ⟨v',hv',a',vs',ea',ha',rs',hf⟩:=I2.has hA
 rw [hv] at hv';cases hv';cases ea'
 obtain ⟨w,hw,rw'⟩:=rs'.get hd
 refine aq6 ha' b1 b2 (by rw [rs'.length];exact hn) hw ?_
 exact k _ G2 _ _ _ _ (I2.upd1 (A':=OL (ds.eraseIdx n)) es hs hv hf ⟨a,_,rfl,aag,rs'.erase n,fun b=>Iff.rfl⟩) g2 rw' q
theorem ar1 {d:PyData} {ds0:List PyData} (h0:Has env i (OL ds0)) (h:Ev B tk env fun y e2=>∃ s ds k j,y=.int k/\e2[i]?=some (some s)/\(s=.own (OL ds)\/s=.io (OL ds))/\ixN ds.length k=some j/\QE (e2.set i (some (reS s (OL (ds.set j d)))))):EvG B (gSub (tVar i) tk anh) (.st d) env QE:=fun σ G H F v Fv Q I x k=>by
 obtain ⟨rv,_⟩:=x.ok
 obtain ⟨v1,hv,a,vs,ea,ha,rs,_⟩:=I.has h0
 subst ea
 refine ⟨_,hv,h σ G H F _ I fun u G2 H2 F2 y e2 I2 g2 r2 ⟨s,ds,n,j,ey,es,hs,hj,q⟩=>?_⟩
 subst ey
 cases r2
 have hA:Has e2 i (OL ds):=by rcases hs with rfl | rfl;exact .inl es;exact .inr es
 obtain ⟨v',hv',a',vs',ea',ha',rs',hf⟩:=I2.has hA
 rw [hv] at hv';cases hv';cases ea'
 refine al1 ha' (by rw [rs'.length];exact hj) ?_
 exact k _ G2 _ _ _ (I2.upd1 (A':=OL (ds.set j d)) es hs hv hf ⟨a,_,rfl,aag,rs'.set (rv.same g2) j,fun b=>Iff.rfl⟩) g2 q
theorem ami {t:TS} {D':VEnds} {A:Own} {d:PyData} (i:Nat) (e:env[i]?=some (some (.own A))) (f:Frz A d) (h:EvS B t D' (env.set i (some (.st d)))):EvS B t D' env:=fun σ G H F D I r=>by
 obtain ⟨v,hv,rv,g,J⟩:=I.frz e f
 exact h σ _ H _ D J (r.later g)
end
end VL
namespace VL
open PySem PySem.Spec L2
noncomputable def tyD:PyData->String
 | .none => "NoneType" | .bool _ => "bool" | .int _ => "int" | .str _ => "str" | .list _ => "list" | .tuple _ => "tuple" | .dict _ => "dict"
def acq (T:String):Prop:=T = "int"\/T = "bool"\/T = "tuple"\/T = "list"\/T = "str"\/T = "dict"
noncomputable def isiD (T:String) (d:PyData):Bool:=tyD d == T || (T == "int" && tyD d == "bool")
theorem ath {K:PySem.W.Frag} {H:Hp} {v:V} {d:PyData} (r:Rp H v d):TyOf K H v (.type (tyD d)):=by
 cases r with
 | non=>exact .non
 | bl b=>exact .bl b
 | int i=>exact .int i
 | str x=>exact .str x
 | lst h _=>exact .lst h
 | tup h _=>exact .tup h
 | dk h _ _=>exact .dK h
 | dt h _ _=>exact .dT h
theorem ay0 {K:PySem.W.Frag} {T:String} (h:acq T) (d:PyData):PySem.W.kitOne K (.type (tyD d)) (.type T)=some (isiD T d):=by
 rcases h with rfl | rfl | rfl | rfl | rfl | rfl
 ·cases d with
  | none=>exact afr
  | bool _=>exact ajy
  | int _=>exact ale
  | str _=>exact alg
  | list _=>exact aj6
  | tuple _=>exact aix
  | dict _=>exact aj8
 ·cases d with
  | none=>exact afh
  | bool _=>exact aip
  | int _=>exact aj0
  | str _=>exact aj3
  | list _=>exact aiu
  | tuple _=>exact ag8
  | dict _=>exact aiz
 ·cases d with
  | none=>exact aew
  | bool _=>exact ag6
  | int _=>exact ais
  | str _=>exact ait
  | list _=>exact ag7
  | tuple _=>exact age
  | dict _=>exact ahb
 ·cases d with
  | none=>exact afi
  | bool _=>exact aiq
  | int _=>exact aj1
  | str _=>exact aj4
  | list _=>exact aiv
  | tuple _=>exact ag9
  | dict _=>exact ai0
 ·cases d with
  | none=>exact afs
  | bool _=>exact ajz
  | int _=>exact alf
  | str _=>exact alh
  | list _=>exact aj7
  | tuple _=>exact aiy
  | dict _=>exact aj9
 ·cases d with
  | none=>exact afj
  | bool _=>exact air
  | int _=>exact aj2
  | str _=>exact aj5
  | list _=>exact aiw
  | tuple _=>exact aha
  | dict _=>exact ai1
section
variable {B:Bs} {env:En} {QO:Sl->En->Prop} {Q':PyData->En->Prop} {QT:Bool->En->Prop} {QE:En->Prop} {te ta tb tk:TE} {K:PySem.W.Frag} {i:Nat}
theorem axj {T:String} (hT:acq T) (h:Ev B te env fun d e=>Q' (.bool (isiD T d)) e):Ev B (tCB (rIsi K) (aa6 te (aa6 (tC (.ty T)) tNil))) env Q':=fun σ G H F Q I k =>
 h σ G H F _ I fun v G1 H1 F1 d e1 I1 g1 r1 q1=>⟨v,T,_,_,rfl,ath (r1.same I1.gh),ay0 hT d,k _ G1 H1 F1 _ e1 I1 g1 (.bl _) q1⟩
theorem axk:acq "int":=.inl rfl
theorem au3:acq "bool":=.inr (.inl rfl)
theorem ar2:acq "tuple":=.inr (.inr (.inl rfl))
theorem au4:acq "list":=.inr (.inr (.inr (.inl rfl)))
theorem axl:acq "str":=.inr (.inr (.inr (.inr (.inl rfl))))
theorem ar3 {A:Own} {D':VEnds} (e:env[i]?=some (some (.own A))) (q:D'.rt (.own A) (env.set i none)):EvS B (tRet (tVar i)) D' env:=amc (ark e q)
theorem ay1 {n m:Nat} {P:Prop} (h:n<=m) (q:P):n<=m/\P:=⟨h,q⟩
theorem axm {ds:List PyData} {e2:En} {R:List PyData->Prop} (e:e2[i]?=some (some (.own (OL ds)))) (hl:ds.length<=999999) (q:R ds):∃ ds,e2[i]?=some (some (.own (OL ds)))/\ds.length<=999999/\R ds:=⟨ds,e,hl,q⟩
theorem ay2 {ds:List PyData} {d:PyData} {k:Int} {e2:En} {R:PyData->Prop} (hA:Has e2 i (OL ds)) (h:atI ds k=some d) (q:R d):∃ ds k' d,Has e2 i (OL ds)/\PyData.int k=.int k'/\atI ds k'=some d/\R d:=⟨ds,k,d,hA,rfl,h,q⟩
theorem ay3 {ns:List Int} {n k:Int} {R:Int->Prop} (h:atI ns k=some n) (q:R n):∃ j n,PyData.int k=.int j/\atI ns j=some n/\R n:=⟨k,n,rfl,h,q⟩
theorem agm {ds:List PyData} {k:Int} {j:Nat} {e2:En} {R:Sl->List PyData->Nat->Prop} (e:e2[i]?=some (some (.own (OL ds)))) (hj:ixN ds.length k=some j) (q:R (.own (OL ds)) ds j):∃ s ds k' j,PyData.int k=.int k'/\e2[i]?=some (some s)/\(s=.own (OL ds)\/s=.io (OL ds))/\ixN ds.length k'=some j/\R s ds j:=⟨_,ds,k,j,rfl,e,.inl rfl,hj,q⟩
theorem axn {ds:List PyData} {k:Int} {j:Nat} {e2:En} {R:Sl->List PyData->Nat->Prop} (e:e2[i]?=some (some (.io (OL ds)))) (hj:ixN ds.length k=some j) (q:R (.io (OL ds)) ds j):∃ s ds k' j,PyData.int k=.int k'/\e2[i]?=some (some s)/\(s=.own (OL ds)\/s=.io (OL ds))/\ixN ds.length k'=some j/\R s ds j:=⟨_,ds,k,j,rfl,e,.inr rfl,hj,q⟩
theorem x_rt {A:Own} {e2:En} {R:Own->Prop} (e:e2[0]?=some (some (.io A))) (q:R A):∃ A',e2[0]?=some (some (.io A'))/\R A':=⟨A,e,q⟩
theorem x_st {b:Bool} {R:Bool->Prop} (h:R b):∃ c,Sl.st (.bool b)=.st (.bool c)/\R c:=⟨b,rfl,h⟩
theorem ar4 {ds:List PyData} {R:Bool->Prop} (h:R (!ds.isEmpty)):∃ k,TruD (.list ds) k/\R k:=⟨_,rfl,h⟩
theorem lenP {f:VP} {n:Nat} {vs:List V} {H:Hp} {Q:VK} {E:XK} (h:spP K f vs H Q E) (hf:∀ ss Q',f ss Q'->ss.length=n):vs.length=n:=by
 obtain ⟨G,ss,Q',_,_,ao,q,_⟩:=h
 rw [ao.length];exact hf ss Q' q
theorem lenI {f:VIo} {n:Nat} {vs:List V} {H:Hp} {Q:VK} {E:XK} (h:spI K f vs H Q E) (hf:∀ A ss Q',f A ss Q'->ss.length+1=n):vs.length=n:=by
 obtain ⟨v0,vr,G,R,A,ss,F0,Q',rfl,_,_,_,_,_,_,ao,q,_⟩:=h
 rw [List.length_cons,ao.length];exact hf A ss Q' q
theorem agn {f:VIo} {t:TA} {E:XK} {A:Own} (h0:env[i]?=some (some (.io A))) (h:EvA B t env fun ds e1=>e1[i]?=some (some (.io A))/\f A (ds.map Sl.st) fun A' s=>QO s (e1.set i (some (.io A')))):EvO B (ab1 (spI K f) [] E (aa6 (tVar i) t)) env QO :=
 ah5 ⟨_,h0⟩ fun σ G H F Q I k=>h σ G H F Q I fun vs G' H' F' ds e1 I' g r ⟨h1,q⟩=>k vs G' H' F' ds e1 I' g r ⟨_,A,h1,.inr rfl,q⟩
theorem ago {f:VIo} {t:TA} {E:XK} {A:Own} (h0:env[i]?=some (some (.own A))) (h:EvA B t env fun ds e1=>e1[i]?=some (some (.own A))/\f A (ds.map Sl.st) fun A' s=>QO s (e1.set i (some (.own A')))):EvO B (ab1 (spI K f) [] E (aa6 (tVar i) t)) env QO :=
 ah5 ⟨_,h0⟩ fun σ G H F Q I k=>h σ G H F Q I fun vs G' H' F' ds e1 I' g r ⟨h1,q⟩=>k vs G' H' F' ds e1 I' g r ⟨_,A,h1,.inl rfl,q⟩
theorem apz {f:VIo} {t:TA} {E:XK} {A:Own} (h0:env[i]?=some (some (.io A))) (h:EvA B t env fun ds e1=>e1[i]?=some (some (.io A))/\f A (ds.map Sl.st) fun A' s=>FQ s fun d=>Q' d (e1.set i (some (.io A')))):Ev B (ab1 (spI K f) [] E (aa6 (tVar i) t)) env Q':=abz (agn h0 h)
theorem ap0 {f:VIo} {t:TA} {E:XK} {A:Own} (h0:env[i]?=some (some (.own A))) (h:EvA B t env fun ds e1=>e1[i]?=some (some (.own A))/\f A (ds.map Sl.st) fun A' s=>FQ s fun d=>Q' d (e1.set i (some (.own A')))):Ev B (ab1 (spI K f) [] E (aa6 (tVar i) t)) env Q':=abz (ago h0 h)
theorem ay4 {P Q:Prop} (h:P) (q:Q):P/\Q:=⟨h,q⟩
theorem ay5 {src:List (Option Nat)} {wi:TI} {g:TG} {tif:TT} (nd:(src.filterMap id).Nodup) (h:EvI B wi env fun ds e1=>LcV B.K src g tif te ds e1 fun ys e2=>Q' (.list ys) e2):Ev B (tLC src wi g tif te) env Q':=abz (apx nd fun σ G H F R I k=>h σ G H F R I fun J G' H' F' ds e1 I' g' it ⟨Jv,a,b,c,d⟩=>k J G' H' F' ds e1 I' g' it ⟨Jv,a,b,c,fun ys e q=>adf (d ys e q)⟩)
end
end VL
namespace VL
open PySem L2
section
variable {B:Bs} {QE:En->Prop} {Q':PyData->En->Prop} {s:Sl} {r:En} {A:Own} {d:PyData} {x0 x1 x2 x3 x4 x5 x6 x7 x8 x9 x10 x11 x12 x13 x14 x15 x16 x17 x18 x19 x20 x21 x22 x23 x24 x25:Option Sl}
theorem axo (h:QE (x0 :: some s :: r)):EvG B (aa5 1) s (x0 :: x1 :: r) QE:=aa3 h
theorem axp (h:QE (x0 :: x1 :: some s :: r)):EvG B (aa5 2) s (x0 :: x1 :: x2 :: r) QE:=aa3 h
theorem axq (h:QE (x0 :: x1 :: x2 :: some s :: r)):EvG B (aa5 3) s (x0 :: x1 :: x2 :: x3 :: r) QE:=aa3 h
theorem axr (h:QE (x0 :: x1 :: x2 :: x3 :: some s :: r)):EvG B (aa5 4) s (x0 :: x1 :: x2 :: x3 :: x4 :: r) QE:=aa3 h
theorem axs (h:QE (x0 :: x1 :: x2 :: x3 :: x4 :: some s :: r)):EvG B (aa5 5) s (x0 :: x1 :: x2 :: x3 :: x4 :: x5 :: r) QE:=aa3 h
theorem axt (h:QE (x0 :: x1 :: x2 :: x3 :: x4 :: x5 :: some s :: r)):EvG B (aa5 6) s (x0 :: x1 :: x2 :: x3 :: x4 :: x5 :: x6 :: r) QE:=aa3 h
theorem axu (h:QE (x0 :: x1 :: x2 :: x3 :: x4 :: x5 :: x6 :: some s :: r)):EvG B (aa5 7) s (x0 :: x1 :: x2 :: x3 :: x4 :: x5 :: x6 :: x7 :: r) QE:=aa3 h
theorem axv (h:QE (x0 :: x1 :: x2 :: x3 :: x4 :: x5 :: x6 :: x7 :: some s :: r)):EvG B (aa5 8) s (x0 :: x1 :: x2 :: x3 :: x4 :: x5 :: x6 :: x7 :: x8 :: r) QE:=aa3 h
end
end VL
namespace Gr
structure Ring (T:Int->Int->Prop) (a:Int) (k:Nat) (far:Int->Option Nat) (edge:List Int):Prop where
 lab:∀ v d,far v=some d ↔ (Dist T a v d/\d<=k)
 edg:∀ v,v∈edge ↔ Dist T a v k
structure Mid (T:Int->Int->Prop) (k:Nat) (far0:Int->Option Nat) (edge:List Int) (done:Int->Prop) (far:Int->Option Nat) (beyond:List Int):Prop where
 old:∀ v d,far0 v=some d->far v=some d
 new:∀ v,v∈beyond ↔ (far0 v=none/\far v ≠ none)
 val:∀ v d,far0 v=none->far v=some d->d=k+1/\∃ u,u∈edge/\T u v
 dn:∀ u w,done u->T u w->far w ≠ none
noncomputable def label (far:Int->Option Nat) (w:Int) (d:Nat):Int->Option Nat:=fun v=>if v=w then some d else far v
theorem label_same {far:Int->Option Nat} {w:Int} {d:Nat}:label far w d w=some d:=if_pos rfl
theorem label_ne {far:Int->Option Nat} {w v:Int} {d:Nat} (h:v ≠ w):label far w d v=far v:=if_neg h
variable {T:Int->Int->Prop} {a:Int} {k:Nat} {far0 far:Int->Option Nat} {edge beyond:List Int} {done:Int->Prop}
theorem Ring.start:Ring T a 0 (label (fun _=>none) a 0) [a]:=by
 refine ⟨fun v d=>?_,fun v=>?_⟩
 ·by_cases h:v=a
  ·subst h
   rw [label_same]
   constructor
   ·intro e;cases e;exact ⟨Dist.self T v,Nat.le_refl _⟩
   ·rintro ⟨h,_⟩;rw [h.uniq (Dist.self T v)]
  ·rw [label_ne h]
   constructor
   ·intro e;cases e
   ·rintro ⟨h1,h2⟩
    have:d=0:=by row_cond lo
    subst this
    cases h1.1
    exact absurd rfl h
 ·simp only [List.mem_singleton]
  constructor
  ·rintro rfl;exact Dist.self T v
  ·intro h;cases h.1;rfl
theorem Mid.start:Mid T k far0 edge (fun _=>False) far0 [] :=
 ⟨fun v d h=>h,fun v=>⟨fun h=>by simp at h,fun h=>absurd h.1 h.2⟩,fun v d h g=>(by rw [h] at g;cases g),fun u w h=>h.elim⟩
theorem Mid.add (m:Mid T k far0 edge done far beyond) {u w:Int} (hu:u∈edge) (t:T u w) (hw:far w=none):Mid T k far0 edge done (label far w (k+1)) (beyond ++ [w]):=by
 have h0:far0 w=none:=by
  cases e:far0 w with
  | none=>rfl
  | some d=>rw [m.old w d e] at hw;cases hw
 refine ⟨fun v d h=>?_,fun v=>?_,fun v d h g=>?_,fun x y hx hy=>?_⟩
 ·rw [label_ne (by rintro rfl;rw [h0] at h;cases h)];exact m.old v d h
 ·by_cases hv:v=w
  ·subst hv
   simp [label_same,h0]
  ·rw [label_ne hv]
   simp only [List.mem_append,List.mem_singleton,hv,or_false]
   exact m.new v
 ·by_cases hv:v=w
  ·subst hv
   rw [label_same] at g
   cases g
   exact ⟨rfl,u,hu,t⟩
  ·rw [label_ne hv] at g
   exact m.val v d h g
 ·by_cases hv:y=w
  ·subst hv;rw [label_same];simp
  ·rw [label_ne hv];exact m.dn x y hx hy
theorem Mid.did (m:Mid T k far0 edge done far beyond) {u:Int} (h:∀ w,T u w->far w ≠ none):Mid T k far0 edge (fun x=>done x\/x=u) far beyond :=
 ⟨m.old,m.new,m.val,fun x w hx t=>by rcases hx with hx | rfl;exact m.dn x w hx t;exact h w t⟩
theorem Mid.imp {done':Int->Prop} (m:Mid T k far0 edge done far beyond) (h:∀ u,done' u->done u):Mid T k far0 edge done' far beyond :=
 ⟨m.old,m.new,m.val,fun x w hx t=>m.dn x w (h x hx) t⟩
theorem Ring.next (r:Ring T a k far0 edge) (m:Mid T k far0 edge done far beyond) (hd:∀ u∈edge,done u):Ring T a (k+1) far beyond:=by
 have key:∀ v,far0 v=none->far v ≠ none->Dist T a v (k+1):=fun v h0 h1=>by
  cases e:far v with
  | none=>exact absurd e h1
  | some d =>
   obtain ⟨rfl,u,hu,t⟩:=m.val v d h0 e
   obtain ⟨e',he,h⟩:=((r.edg u).mp hu).next t
   by_cases hk:e'<=k
   ·rw [(r.lab v e').mpr ⟨h,hk⟩] at h0;cases h0
   ·have:e'=k+1:=by row_cond lo
    rw [← this];exact h
 have back:∀ v,Dist T a v (k+1)->far0 v=none/\far v ≠ none:=fun v h=>by
  refine ⟨?_,?_⟩
  ·cases e:far0 v with
   | none=>rfl
   | some d =>
    obtain ⟨h1,h2⟩:=(r.lab v d).mp e
    have:=h1.uniq h
    row_cond lo
  ·obtain ⟨u,t,hu⟩:=h.pred
   exact m.dn u v (hd u ((r.edg u).mpr hu)) t
 refine ⟨fun v d=>?_,fun v=>⟨fun h=>?_,fun h=>(m.new v).mpr (back v h)⟩⟩
 ·constructor
  ·intro e
   cases e0:far0 v with
   | some d0 =>
    rw [m.old v d0 e0] at e
    cases e
    obtain ⟨h1,h2⟩:=(r.lab v d).mp e0
    exact ⟨h1,by row_cond lo⟩
   | none =>
    have hk:=(m.val v d e0 e).1
    subst hk
    exact ⟨key v e0 (by rw [e];simp),Nat.le_refl _⟩
  ·rintro ⟨h,hk⟩
   by_cases hd':d<=k
   ·exact m.old v d ((r.lab v d).mpr ⟨h,hd'⟩)
   ·have e1:d=k+1:=by row_cond lo
    subst e1
    obtain ⟨h0,h1⟩:=back v h
    cases e:far v with
    | none=>exact absurd e h1
    | some d=>rw [(m.val v d h0 e).1]
 ·obtain ⟨h0,h1⟩:=(m.new v).mp h
  exact key v h0 h1
theorem Dist.down {v:Int}:∀ {d:Nat},Dist T a v d->∀ j,j<=d->∃ u,Dist T a u j
 | 0, h, j, hj => ⟨v, by rw [show j = 0 by row_cond lo]; exact h⟩
 | d+1,h,j,hj=>by
  by_cases e:j=d+1
  ·rw [e];exact ⟨v,h⟩
  ·obtain ⟨u,_,hu⟩:=h.pred
   exact Dist.down hu j (by row_cond lo)
noncomputable def farO (T:Int->Int->Prop) (a v:Int):Option Nat:=open Classical in if h:∃ d,Dist T a v d then some (Classical.choose h) else none
theorem farO_some {v:Int} {d:Nat}:farO T a v=some d ↔ Dist T a v d:=by
 unfold farO
 constructor
 ·intro h
  split at h
  ·rename_i hx
   cases h
   exact Classical.choose_spec hx
  ·cases h
 ·intro h
  have hx:∃ d,Dist T a v d:=⟨d,h⟩
  rw [dif_pos hx,(Classical.choose_spec hx).uniq h]
theorem farO_none {v:Int}:farO T a v=none ↔ ∀ d,¬ Dist T a v d:=by
 constructor
 ·intro h d hd
  rw [farO_some.mpr hd] at h;cases h
 ·intro h
  cases e:farO T a v with
  | none=>rfl
  | some d=>exact absurd (farO_some.mp e) (h d)
theorem au5 {v:Int} {o:Option Nat} (h:∀ d,o=some d ↔ Dist T a v d):o=farO T a v:=by
 cases o with
 | some d=>exact (farO_some.mpr ((h d).mp rfl)).symm
 | none=>exact (farO_none.mpr fun d hd=>by cases (h d).mpr hd).symm
theorem Ring.fin (r:Ring T a k far0 []) (v:Int):far0 v=farO T a v:=by
 refine au5 fun d=>?_
 rw [r.lab]
 refine ⟨fun h=>h.1,fun h=>⟨h,?_⟩⟩
 apply Classical.byContradiction
 intro hk
 obtain ⟨u,hu⟩:=h.down k (by row_cond lo)
 have:=(r.edg u).mpr hu
 simp at this
theorem Walk.app {u v w:Int} {i j:Nat} (h:Walk T u i v) (g:Walk T v j w):Walk T u (i+j) w:=by
 induction g with
 | refl=>exact h
 | step _ t ih=>exact .step ih t
theorem Walk.rev (hs:∀ u v,T u v->T v u) {u v:Int} {i:Nat} (h:Walk T u i v):Walk T v i u:=by
 induction h with
 | refl=>exact .refl
 | @step j x y _ t ih =>
  have:=(Walk.step (T:=T) (u:=y) .refl (hs _ _ t)).app ih
  rw [Nat.add_comm] at this
  exact this
theorem farO_self:farO T a a=some 0:=farO_some.mpr (Dist.self T a)
theorem Dist.lt {n:Nat} (hT:∀ u v,T u v->0<=v/\v < (n:Int)) (ha:0<=a/\a < (n:Int)) {v:Int} {d:Nat} (h:Dist T a v d):d < n:=by
 -- the places of a shortest way are unlike
 have key:∀ d v,Dist T a v d->∃ l:List Int,l.length=d+1/\l.Nodup/\∀ x∈l,(0<=x/\x < (n:Int))/\∃ j,j<=d/\Dist T a x j:=by
  intro d
  induction d with
  | zero =>
   intro v h
   have:v=a:=by cases h.1;rfl
   subst this
   exact ⟨[v],rfl,by simp,fun x hx=>by simp at hx;subst hx;exact ⟨ha,0,Nat.le_refl _,h⟩⟩
  | succ d ih =>
   intro v h
   obtain ⟨u,t,hu⟩:=h.pred
   obtain ⟨l,h1,h2,h3⟩:=ih u hu
   refine ⟨v :: l,by simp [h1],List.nodup_cons.mpr ⟨fun hm=>?_,h2⟩,fun x hx=>?_⟩
   ·obtain ⟨_,j,hj,hd⟩:=h3 v hm
    have:=hd.uniq h
    row_cond lo
   ·rcases List.mem_cons.mp hx with rfl | hx
    ·exact ⟨hT _ _ t,d+1,Nat.le_refl _,h⟩
    ·obtain ⟨q,j,hj,hd⟩:=h3 x hx
     exact ⟨q,j,by row_cond lo,hd⟩
 obtain ⟨l,h1,h2,h3⟩:=key d v h
 have few:∀ (n:Nat) (l:List Int),l.Nodup->(∀ v∈l,0<=v/\v < (n:Int))->l.length<=n:=by
  intro n
  induction n with
  | zero =>
   intro l _ h
   cases l with
   | nil=>simp
   | cons v r => have:=h v (by simp); row_cond lo
  | succ n ih =>
   intro l hn h
   have h1:=ih (l.erase (n:Int)) (hn.erase _) fun v hv=>by
    have hm:=List.mem_of_mem_erase hv
    have hb:=h v hm
    have hne:v ≠ (n:Int):=by
     rintro rfl
     exact absurd hv (List.Nodup.not_mem_erase hn)
    row_cond lo
   have h2:l.length<=(l.erase (n:Int)).length+1:=by
    rw [List.length_erase]
    split <;> row_cond lo
   row_cond lo
 have:=few n l h2 fun x hx=>(h3 x hx).1
 row_cond lo
end Gr
namespace VL
open PySem PySem.Spec L2
theorem nodup_ix {α:Type} {xs:List α} (h:xs.Nodup) {i j:Nat} (hi:i < xs.length) (hj:j < xs.length) (e:xs[i]=xs[j]):i=j:=by
 have p:=List.pairwise_iff_getElem.mp h
 rcases Nat.lt_trichotomy i j with q | q | q
 ·exact absurd e (p i j hi hj q)
 ·exact q
 ·exact absurd e.symm (p j i hj hi q)
noncomputable def OLL (dss:List (List PyData)):Own where
 P:=fun G H v F=>∃ (a:Addr) (as:List Addr),v=.ref a/\H a=some (.lst (as.map V.ref))/\as.Nodup/\a ∉ as/\as.length=dss.length/\(∀ (i:Nat) b ds,as[i]?=some b->dss[i]?=some ds->∃ vs,H b=some (.lst vs)/\Rps G vs ds)/\∀ b,F b ↔ b=a\/b∈as
 mono:=fun ⟨a,as,e,h,n1,n2,l,r,f⟩ g hh=>⟨a,as,e,hh a _ ((f a).mpr (.inl rfl)) h,n1,n2,l,fun i b ds hb hd=>by
  obtain ⟨vs,h1,h2⟩:=r i b ds hb hd
  exact ⟨vs,hh b _ ((f b).mpr (.inr (List.mem_of_getElem? hb))) h1,h2.same g⟩,f⟩
 dom:=fun ⟨a,as,e,h,n1,n2,l,r,f⟩ b z=>by
  rcases (f b).mp z with rfl | z
  ·exact ⟨_,h⟩
  ·obtain ⟨i,hi,e⟩:=List.mem_iff_getElem.mp z
   have hb:as[i]?=some b:=by rw [List.getElem?_eq_getElem hi,e]
   obtain ⟨vs,h1,_⟩:=r i b _ hb (List.getElem?_eq_getElem (by rw [← l];exact hi))
   exact ⟨_,h1⟩
theorem akk {G:Hp}:∀ {vs:List V} {ds:List PyData},vs.length=ds.length->(∀ (i:Nat) v d,vs[i]?=some v->ds[i]?=some d->Rp G v d)->Rps G vs ds
 | [],[],_,_ => .nil
 | [],_ :: _,h,_=>by simp at h
 | _ :: _,[],h,_=>by simp at h
 | v :: vs,d :: ds,h,k => .cons (k 0 v d rfl rfl) (akk (by simpa using h) fun i v d h1 h2=>k (i+1) v d (by simpa using h1) (by simpa using h2))
theorem ahf {dss:List (List PyData)}:Frz (OLL dss) (.list (dss.map .list)):=fun G H v F ⟨a,as,e,h,n1,n2,l,r,f⟩ n g=>by
 subst e
 refine .lst (by rw [afb ((f a).mpr (.inl rfl))];exact h) (akk (by simp [l]) fun i u d hu hd=>?_)
 rw [List.getElem?_map] at hu hd
 cases hb:as[i]? with
 | none=>rw [hb] at hu;cases hu
 | some b =>
  cases hds:dss[i]? with
  | none=>rw [hds] at hd;cases hd
  | some ds =>
   rw [hb] at hu;rw [hds] at hd
   cases hu;cases hd
   obtain ⟨vs,h1,h2⟩:=r i b ds hb hds
   exact .lst (by rw [afb ((f b).mpr (.inr (List.mem_of_getElem? hb)))];exact h1) (h2.same (abu n))
section
variable {B:Bs} {env:En} {QO:Sl->En->Prop} {Q':PyData->En->Prop} {D':VEnds} {K:PySem.W.Frag} {i:Nat}
theorem axw {dss:List (List PyData)} {R:PyData->Prop} (h:R (.list (dss.map .list))):FQ (.own (OLL dss)) R:=⟨_,ahf,h⟩
theorem au6 {src:List (Option Nat)} {wi:TI} {j:Nat} (h:EvI B wi env fun ds e1=>ds.length<=1000000/\QO (.own (OLL (List.replicate ds.length []))) e1):EvO B (tLC src wi (aa5 j) tYes (tLst tNil)) env QO:=fun σ G H F Q I k=>by
 refine h σ G H F _ I fun J G1 H1 F1 ds e1 I1 g1 it ⟨hle,q⟩ acc hacc=>?_
 let W:Nat->List V->Hp->Prop:=fun n ys H=>∃ (as:List Addr) (G2:Hp),ys=as.map V.ref/\as.length=n/\as.Nodup/\acc ∉ as/\(∀ b∈as,H1 b=none/\G2 b=none/\H b=some (.lst []))/\H acc=some (.lst ys)/\G2 acc=none/\Same G1 G2/\Same G2 H/\Same H1 H/\(∀ a o,G2 a=some o->G1 a=some o\/H1 a=none)/\FT G2 H
 refine ⟨fun n m ys σI H=>m=ds.length - n/\n<=ds.length/\W n ys H,⟨ds.length,by simp,Nat.zero_le _,[],G1,rfl,rfl,List.nodup_nil,by simp,fun b hb=>by simp at hb,aag,I1.no_g hacc,Same.refl _,I1.gh.trans (abp hacc),abp hacc,fun a o e => .inl e,fun a ks e=>?_⟩,?_⟩
 ·by_cases z:a=acc
  ·subst z;rw [aag] at e;cases e
  ·rw [aac z] at e;exact I1.ft a ks e
 rintro n m ys σI H2 ⟨rfl,hn,as,G2,rfl,hl,nd,na,all,hac,ga,g2,gh2,hh2,gn2,ft2⟩
 refine ⟨hac,?_⟩
 by_cases hlt:n < ds.length
 ·refine .inr ⟨it.go n G2 H2 g2 gh2 hlt,fun ys' σ' H'=>W (n+1) ys' H',fun ys' σ' H' hw=>⟨ds.length - (n+1),by row_cond lo,rfl,hlt,hw⟩,fun x H3 y=>?_⟩
  obtain ⟨G3,o⟩:=it.yld n G2 H2 x H3 _ g2 gh2 ft2 (List.getElem?_eq_getElem hlt) y
  refine al0 (apf (abn (awv (apd ⟨by decide,fun p hp=>?_⟩))))
  have n2:H2 p=none:=abx o.hh hp
  have n1:H1 p=none:=abx hh2 n2
  have pa:p ≠ acc:=(aak (o.hh _ _ hac) hp).symm
  have pas:p ∉ as:=fun z=>by
   have:=o.hh _ _ (all p z).2.2
   rw [this] at hp;cases hp
  refine ⟨by rw [aac pa.symm];exact o.hh _ _ hac,by rw [List.length_map,hl];exact big (by row_cond lo),as ++ [p],G3,by simp,by simp [hl],?_,?_,fun b hb=>?_,aag,?_,g2.trans o.gg,fun a u e=>?_,fun a u e=>?_,fun a u e=>?_,fun a ks e=>?_⟩
  ·rw [List.nodup_append]
   exact ⟨nd,by simp,fun x hx y hy=>by simp at hy;subst hy;intro e;subst e;exact pas hx⟩
  ·intro z
   rcases List.mem_append.mp z with z | z
   ·exact na z
   ·exact pa (List.mem_singleton.mp z).symm
  ·have gb:∀ b,G2 b=none->(∃ u,H2 b=some u)->G3 b=none:=fun b h1 z_=>by
    obtain ⟨u,h2⟩:=z_
    cases e:G3 b with
    | none=>rfl
    | some w =>
     rcases o.gn b w e with e | e
     ·rw [h1] at e;cases e
     ·rw [h2] at e;cases e
   rcases List.mem_append.mp hb with hb | hb
   ·obtain ⟨h1,h2,h3⟩:=all b hb
    refine ⟨h1,gb b h2 ⟨_,h3⟩,?_⟩
    rw [aac (fun z:b=acc=>na (by rw [← z];exact hb)),aac (fun z:b=p=>pas (by rw [← z];exact hb))]
    exact o.hh _ _ h3
   ·have e:b=p:=by simpa using hb
    subst e
    exact ⟨n1,abx o.gh hp,by rw [aac pa,aag]⟩
  ·cases e:G3 acc with
   | none=>rfl
   | some w =>
    rcases o.gn acc w e with e | e
    ·rw [ga] at e;cases e
    ·rw [hac] at e;cases e
  ·have ap:a ≠ p:=aak (o.gh a u e) hp
   have aa:a ≠ acc:=by
    rintro rfl
    rcases o.gn _ u e with e | e
    ·rw [ga] at e;cases e
    ·rw [hac] at e;cases e
   rw [aac aa,aac ap];exact o.gh a u e
  ·have ap:a ≠ p:=aak e n1
   have aa:a ≠ acc:=aak e hacc
   rw [aac aa,aac ap];exact o.hh _ _ (hh2 a u e)
  ·rcases o.gn a u e with e | e
   ·exact gn2 a u e
   ·exact .inr (abx hh2 e)
  ·by_cases z:a=acc
   ·subst z;rw [aag] at e;cases e
   ·rw [aac z] at e
    by_cases y:a=p
    ·subst y;rw [aag] at e;cases e
    ·rw [aac y] at e;exact o.ft ft2 a ks e
 ·have e:n=ds.length:=by row_cond lo
  subst e
  refine .inl ⟨it.stop _ G2 H2 g2 gh2 rfl,?_⟩
  have I2:=I1.grow g2 gh2 hh2 gn2 ft2
  refine k (.ref acc) G2 H2 F1 (fun b=>b=acc\/b∈as) (.own (OLL (List.replicate ds.length []))) e1 I2 (g1.trans g2) ⟨⟨acc,as,rfl,hac,nd,na,by simp [hl],fun i b ds' hb hd=>?_,fun b=>Iff.rfl⟩,fun b z=>?_,fun b z=>?_,fun b z=>?_,fun j b z y=>?_⟩ q
  ·rw [List.getElem?_replicate] at hd
   split at hd
   ·cases hd;exact ⟨[],(all b (List.mem_of_getElem? hb)).2.2,.nil⟩
   ·cases hd
  ·rcases z with rfl | z
   ·exact I1.no_b hacc
   ·exact I1.no_b (all b z).1
  ·rcases z with rfl | z
   ·exact ga
   ·exact (all b z).2.1
  ·rcases z with rfl | z
   ·exact ⟨_,hac⟩
   ·exact ⟨_,(all b z).2.2⟩
  ·rcases z with rfl | z
   ·exact I1.no_f hacc j y
   ·exact I1.no_f (all b z).1 j y
theorem agp {dss:List (List PyData)} {l j n:Nat} {k:Int} {y:PyData} {ds:List PyData} (e:env[i]?=some (some (.own (OLL dss)))) (ek:env[l]?=some (some (.st (.int k)))) (ey:env[j]?=some (some (.st y)))
  (hk:ixN dss.length k=some n) (hd:dss[n]?=some ds) (hl:ds.length<=999999) (q:Q' .none (env.set i (some (.own (OLL (dss.set n (ds ++ [y]))))))):Ev B (tBM K "list" acn (tOp (ab5 K) (tVar i) (tVar l)) (aa6 (tVar j) tNil)) env Q':=fun σ G H F Q I kk=>by
 obtain ⟨v,hv,⟨a,as,rfl,h,n1,n2,ln,r,f⟩,_⟩:=I.sl i _ e
 obtain ⟨vk,hvk,rk,_⟩:=I.sl l _ ek
 obtain ⟨vy,hvy,ry,_⟩:=I.sl j _ ey
 cases rk
 have hn:n < dss.length:=(List.getElem?_eq_some_iff.mp hd).1
 have hb:as[n]?=some (as[n]'(by row_cond lo)):=List.getElem?_eq_getElem _
 generalize as[n]'(by row_cond lo)=b at hb
 have hbm:b∈as:=List.mem_of_getElem? hb
 obtain ⟨vs,h1,h2⟩:=r n b ds hb hd
 have hat:atI (as.map V.ref) k=some (.ref b):=by
  unfold atI
  rw [List.length_map,ln,hk]
  simp [hb]
 refine ⟨_,hv,_,hvk,aec h hat ⟨.inl ⟨rfl,_,SqL.of h1⟩,_,hvy,acz h1 (by rw [h2.length];exact big (by row_cond lo)) ?_⟩⟩
 have hne:a ≠ b:=fun z=>n2 (z ▸ hbm)
 have J:=I.change (A:=OLL (dss.set n (ds ++ [y]))) (H2:=upd H b (.lst (vs ++ [vy]))) (F2:=F i) (os':=.own (OLL (dss.set n (ds ++ [y])))) i e hv (fun c o hc ec=>by rw [aac (fun z:c=b=>hc ((f c).mpr (.inr (by rw [z];exact hbm))))];exact ec)
  (fun c o ec=>by
   by_cases z:c=b
   ·rw [z];exact ⟨_,aag⟩
   ·rw [aac z];exact ⟨o,ec⟩)
  (fun c z=>⟨.inl z,by
   by_cases y:c=b
   ·rw [y];exact ⟨_,aag⟩
   ·rw [aac y];exact I.fo i c z⟩) ?_ (fun c ks e=>by
   by_cases z:c=b
   ·subst z;rw [aag] at e;cases e
   ·rw [aac z] at e;exact I.ft c ks e) (.inl ⟨rfl,_,rfl⟩)
 ·exact kk _ G _ _ _ _ J (Same.refl _) .non q
 ·refine ⟨a,as,rfl,by rw [aac hne];exact h,n1,n2,by simp [ln],fun m c es hc hes=>?_,f⟩
  by_cases hm:m=n
  ·subst hm
   rw [hb] at hc;cases hc
   rw [List.getElem?_set,if_pos rfl,if_pos hn] at hes
   cases hes
   exact ⟨_,aag,h2.append (.cons ry .nil)⟩
  ·rw [List.getElem?_set,if_neg (fun z=>hm z.symm)] at hes
   obtain ⟨us,h3,h4⟩:=r m c es hc hes
   refine ⟨us,?_,h4⟩
   rw [aac]
   ·exact h3
   ·rintro rfl
    have i1:=(List.getElem?_eq_some_iff.mp hb)
    have i2:=(List.getElem?_eq_some_iff.mp hc)
    obtain ⟨l1,e1⟩:=i1
    obtain ⟨l2,e2⟩:=i2
    exact hm (nodup_ix n1 l2 l1 (e2.trans e1.symm))
noncomputable def exO {α:Type} (f : α->Own):Own where
 P:=fun G H v F=>∃ x,(f x).P G H v F
 mono:=fun ⟨x,h⟩ g hh=>⟨x,(f x).mono h g hh⟩
 dom:=fun ⟨x,h⟩=>(f x).dom h
theorem VI.weakO {G H:Hp} {σ:St} {F:Nat->Addr->Prop} {A A':Own} (I:VI B G H σ env F) (e:env[i]?=some (some (.own A))) (h:∀ G H v F,A.P G H v F->A'.P G H v F):VI B G H σ (env.set i (some (.own A'))) F:=by
 refine ⟨I.gh,I.g0,I.gn,I.rs,I.rb,I.bh,I.fg,I.fr,I.fd,I.fo,fun j s es=>?_,by simp [I.ln],I.ft⟩
 by_cases hj:j=i
 ·subst hj
  rw [List.getElem?_set,if_pos rfl,if_pos (List.getElem?_eq_some_iff.mp e).1] at es
  cases es
  obtain ⟨v,hv,q⟩:=I.sl j _ e
  exact ⟨v,hv,h _ _ _ _ q.1,q.2⟩
 ·rw [List.getElem?_set,if_neg (fun z=>hj z.symm)] at es
  exact I.sl j s es
end
@[reducible] noncomputable def prD (p:Int × Int):PyData:=.tuple [.int p.1,.int p.2]
@[reducible] noncomputable def webD (n:Int) (es:List (Int × Int)):PyData:=.tuple [.int n,.list (es.map prD)]
def Tied (es:List (Int × Int)) (u v:Int):Prop:=(u,v)∈es\/(v,u)∈es
theorem Tied.symm {es:List (Int × Int)} {u v:Int} (h:Tied es u v):Tied es v u:=h.elim .inr .inl
def InN (n:Int) (es:List (Int × Int)):Prop:=∀ p∈es,0<=p.1/\p.1 < n/\0<=p.2/\p.2 < n
theorem Tied.in {n:Int} {es:List (Int × Int)} {u v:Int} (hi:InN n es) (h:Tied es u v):(0<=u/\u < n)/\0<=v/\v < n:=by
 rcases h with h | h
 ·have:=hi _ h;exact ⟨⟨this.1,this.2.1⟩,this.2.2⟩
 ·have:=hi _ h;exact ⟨⟨this.2.2.1,this.2.2.2⟩,this.1,this.2.1⟩
theorem Tied.snoc {es:List (Int × Int)} {i:Nat} {a b:Int} (h:es[i]?=some (a,b)) (u v:Int):Tied (es.take (i+1)) u v ↔ (Tied (es.take i) u v\/(u=a/\v=b))\/(u=b/\v=a):=by
 have e:es.take (i+1)=es.take i ++ [(a,b)]:=by rw [List.take_add_one,h];rfl
 unfold Tied
 rw [e]
 simp only [List.mem_append,List.mem_singleton,Prod.mk.injEq]
 constructor
 ·rintro ((h | ⟨rfl,rfl⟩) | (h | ⟨rfl,rfl⟩))
  ·exact .inl (.inl (.inl h))
  ·exact .inl (.inr ⟨rfl,rfl⟩)
  ·exact .inl (.inl (.inr h))
  ·exact .inr ⟨rfl,rfl⟩
 ·rintro (((h | h) | ⟨rfl,rfl⟩) | ⟨rfl,rfl⟩)
  ·exact .inl (.inl h)
  ·exact .inr (.inl h)
  ·exact .inl (.inr ⟨rfl,rfl⟩)
  ·exact .inr (.inr ⟨rfl,rfl⟩)
def TiedL (n:Int) (T:Int->Int->Prop) (tl:List (List Int)):Prop:=(tl.length:Int)=n/\∀ (i:Nat) ws,tl[i]?=some ws->∀ w,w∈ws ↔ T i w
noncomputable def oD:Option Nat->PyData
 | none => .none
 | some d => .int d
noncomputable def lab (n:Nat) (far:Int->Option Nat):List PyData:=(List.range n).map fun (i:Nat)=>oD (far (i:Int))
theorem abd {n:Nat} {far:Int->Option Nat}:(lab n far).length=n:=by simp [lab]
theorem adh {n:Nat} {far:Int->Option Nat} {i:Nat} (h:i < n):(lab n far)[i]?=some (oD (far i)):=by
 unfold lab
 rw [List.getElem?_map,List.getElem?_eq_getElem (by simpa using h)]
 simp
theorem agq {n:Nat} {far:Int->Option Nat} {v:Int} (h0:0<=v) (h:v < n):atI (lab n far) v=some (oD (far v)):=by
 have:=adg (xs:=lab n far) (j:=v.toNat) (adh (by row_cond lo))
 rwa [show ((v.toNat:Nat):Int)=v by row_cond lo] at this
theorem ad4 {n:Nat} {v:Int} (h0:0<=v) (h:v < n):ixN n v=some v.toNat:=by
 unfold ixN;rw [if_pos h0,if_pos h]
theorem aff {n:Nat} {far:Int->Option Nat} {v:Int} {d:Nat} (h0:0<=v) (h:v < n):(lab n far).set v.toNat (.int d)=lab n (Gr.label far v d):=by
 apply List.ext_getElem?
 intro i
 rw [List.getElem?_set]
 by_cases e:v.toNat=i
 ·rw [if_pos e,if_pos (by rw [abd];row_cond lo),adh (by row_cond lo)]
  have:(i:Int)=v:=by row_cond lo
  rw [this,Gr.label_same];rfl
 ·rw [if_neg e]
  by_cases hi:i < n
  ·rw [adh hi,adh hi,Gr.label_ne (by row_cond lo)]
  ·rw [List.getElem?_eq_none_iff.mpr (by rw [abd];row_cond lo),List.getElem?_eq_none_iff.mpr (by rw [abd];row_cond lo)]
theorem ah7 {n:Nat} {f g:Int->Option Nat} (h:∀ v,0<=v->v < (n:Int)->f v=g v):lab n f=lab n g:=by
 unfold lab
 apply List.map_congr_left
 intro i hi
 rw [h i (by row_cond lo) (by have:=List.mem_range.mp hi;row_cond lo)]
theorem amj {o:Option Nat}:isNone (oD o)=o.isNone:=by cases o <;> rfl
theorem agr {α:Type} {f : α->PyData} {xs:List α} {i:Int} {x : α} (h:atI xs i=some x):atI (xs.map f) i=some (f x):=by
 unfold atI at h ⊢
 rw [List.length_map]
 cases e:ixN xs.length i with
 | none=>rw [e] at h;cases h
 | some j=>rw [e] at h;simp at h ⊢;exact ⟨_,h,rfl⟩
theorem ajf {α:Type} {xs:List α} {i:Int} {x : α} (h0:0<=i) (h:xs[i.toNat]?=some x):atI xs i=some x:=by
 have:=adg (xs:=xs) (j:=i.toNat) h
 rwa [show ((i.toNat:Nat):Int)=i by row_cond lo] at this
@[reducible] noncomputable def tlD (tl:List (List Int)):List (List PyData):=tl.map fun ws=>ws.map .int
theorem TiedL.get {n:Int} {T:Int->Int->Prop} {tl:List (List Int)} (h:TiedL n T tl) {v:Int} (h0:0<=v) (h1:v < n):∃ ws,tl[v.toNat]?=some ws/\∀ w,w∈ws ↔ T v w:=by
 have hl:v.toNat < tl.length:=by have:=h.1;row_cond lo
 refine ⟨tl[v.toNat],List.getElem?_eq_getElem hl,fun w=>?_⟩
 rw [h.2 _ _ (List.getElem?_eq_getElem hl) w,show ((v.toNat:Nat):Int)=v by row_cond lo]
theorem ahg {tl:List (List Int)} {i:Nat} {ws:List Int} (h:tl[i]?=some ws):(tlD tl)[i]?=some (ws.map .int):=by
 rw [List.getElem?_map,h];rfl
theorem TiedL.put {n:Int} {T:Int->Int->Prop} {tl:List (List Int)} (h:TiedL n T tl) {v q:Int} {ws:List Int} (h0:0<=v) (h1:v < n) (hw:tl[v.toNat]?=some ws):TiedL n (fun a b=>T a b\/(a=v/\b=q)) (tl.set v.toNat (ws ++ [q])):=by
 refine ⟨by rw [List.length_set];exact h.1,fun i us hi w=>?_⟩
 rw [List.getElem?_set] at hi
 by_cases e:v.toNat=i
 ·rw [if_pos e] at hi
  have hl:v.toNat < tl.length:=(List.getElem?_eq_some_iff.mp hw).1
  rw [if_pos (by row_cond lo)] at hi
  cases hi
  have hv:(i:Int)=v:=by row_cond lo
  rw [List.mem_append,List.mem_singleton,h.2 i ws (by rw [← e];exact hw) w,hv]
  simp
 ·rw [if_neg e] at hi
  rw [h.2 i us hi w]
  exact ⟨.inl,fun z=>z.elim id fun z=>by row_cond lo⟩
theorem amk {tl:List (List Int)} {i:Nat} {ws:List Int}:(tlD tl).set i (ws.map .int)=tlD (tl.set i ws):=by
 unfold tlD;rw [List.map_set]
theorem TiedL.iff {n:Int} {T T':Int->Int->Prop} {tl:List (List Int)} (h:TiedL n T tl) (e:∀ u v,T u v ↔ T' u v):TiedL n T' tl:=⟨h.1,fun i ws hi w=>(h.2 i ws hi w).trans (e _ _)⟩
end VL
namespace VL
open PySem L2
noncomputable def cnt (far:Int->Option Nat):Nat->Nat
 | 0=>0
 | n+1=>cnt far n+(if far (n:Int)=none then 1 else 0)
theorem aek {far:Int->Option Nat} {w:Int} {d:Nat}:∀ {n:Nat},(w:Int) ≥ n->cnt (Gr.label far w d) n=cnt far n
 | 0,_=>rfl
 | n+1,h=>by
  unfold cnt
  rw [aek (by row_cond lo),Gr.label_ne (by row_cond lo)]
theorem ah8 {far:Int->Option Nat} {w:Int} {d:Nat} (h0:0<=w) (hw:far w=none):∀ {n:Nat},w < (n:Int)->cnt (Gr.label far w d) n+1=cnt far n
 | 0, h => by row_cond lo
 | n+1,h=>by
  unfold cnt
  by_cases e:w=n
  ·subst e
   rw [aek (by row_cond lo),Gr.label_same,hw];simp
  ·rw [Gr.label_ne (by row_cond lo)]
   have:=ah8 h0 hw (n:=n) (d:=d) (by row_cond lo)
   row_cond lo
theorem aml (n:Nat):(List.replicate n [PyData.none]).flatten=lab n (fun _=>none):=by
 apply List.ext_getElem?
 intro i
 by_cases hi:i < n
 ·rw [adh hi]
  have:(List.replicate n [PyData.none]).flatten=List.replicate n PyData.none:=by
   clear hi
   induction n with
   | zero=>rfl
   | succ n ih=>rw [List.replicate_succ,List.flatten_cons,ih,List.replicate_succ];rfl
  rw [this,List.getElem?_replicate,if_pos hi];rfl
 ·rw [List.getElem?_eq_none_iff.mpr (by rw [aly];simp;row_cond lo),List.getElem?_eq_none_iff.mpr (by rw [abd];row_cond lo)]
theorem ali {α:Type} {f : α->PyData} {xs:List α}:(xs.map f).isEmpty=xs.isEmpty:=by cases xs <;> rfl
theorem ac9 {xs:List Int} {j:Nat} {u w:Int} (hu:xs[j]?=some u) (hm:w∈xs.take (j+1)):w∈xs.take j\/w=u:=by
 rw [List.take_add_one,hu] at hm
 rcases List.mem_append.mp hm with q | q
 ·exact .inl q
 ·exact .inr (by simpa using q)
theorem ap1 {n:Nat} {far:Int->Option Nat}:plainDs (lab n far)=true:=by
 rw [acv]
 intro d hd
 obtain ⟨i,_,rfl⟩:=List.mem_map.mp hd
 cases far (i:Int) <;> rfl
theorem au7 {n:Nat} {far:Int->Option Nat}:((lab n far).any fun z=>PyData.eqv z .none)=true ↔ ∃ v:Int,0<=v/\v < n/\far v=none:=by
 rw [List.any_eq_true]
 constructor
 ·rintro ⟨d,hd,e⟩
  obtain ⟨i,hi,rfl⟩:=List.mem_map.mp hd
  refine ⟨i,by row_cond lo,by have:=List.mem_range.mp hi;row_cond lo,?_⟩
  cases h:far (i:Int) with
  | none=>rfl
  | some d=>rw [h] at e;simp [oD,PyData.eqv] at e
 ·rintro ⟨v,h0,h1,h⟩
  refine ⟨oD (far v),?_,by rw [h];rfl⟩
  have:=adh (far:=far) (show v.toNat < n by row_cond lo)
  rw [show ((v.toNat:Nat):Int)=v by row_cond lo] at this
  exact List.mem_of_getElem? this
def Joined (n:Int) (es:List (Int × Int)):Prop:=∀ v,0<=v->v < n->∃ d,Gr.Dist (Tied es) 0 v d
end VL
namespace DI
open PySem PySem.W
def Raw (h:Heap) (d:Addr) (es:Array DictEntry) (ep:Nat):Prop:=∃ o,h.get? d=some o/\o.ExactDict/\o.data=.dict es ep
theorem Raw.keep {h h':Heap} {d:Addr} {es:Array DictEntry} {ep:Nat} (r:Raw h d es ep) (k:∀ o,h.get? d=some o->h'.get? d=some o):Raw h' d es ep:=let ⟨o,e,x⟩:=r;⟨o,k o e,x⟩
theorem Raw.ty {s:Shared} {d:Addr} {es:Array DictEntry} {ep:Nat} (r:Raw s.heap d es ep):s.TypeIs (.ref d) "dict":=let ⟨o,e,x,_⟩:=r;⟨o,e,x.1⟩
section
variable {prog:Program} {w:World} {A:Around} {E:Value->Shared->Prop} {s:Shared} {d it:Addr} {es:Array DictEntry} {ep i:Nat}
theorem ar5 {Q:Value->Shared->Prop} (hd:(d == sysModules)=false) (r:Raw s.heap d es ep)
  (hQ:Q (.ref s.heap.objs.size) { s with heap:=s.heap.push { cls:=.type "dict_keyiterator",data:=.fields #[.ref d,.int 0 0,.int es.size 0,.int ep 0] } }):wpAny (model prog w) A (pyIter (.ref d)) Q E s:=by
 obtain ⟨o,ho,hx,hdat⟩:=id r
 refine wpAny_pyIter_slot r.ty PySem.F.slot_dict_iter (wpAny_call_entry PySem.F.slot_dict_iter r.ty PySem.F.entry_dict_iter ?body (PySem.F.args_dict_iter_1 _))
 case body =>
  unfold Builtin.«dict.__iter__»
  refine wpAny_bind ?slot
  case slot =>
   unfold Builtin.Dict.dictSlotNone
   refine wpAny_bind (wpAny_notOrdered_dict r.ty ?pl)
   case pl =>
    show wpAny _ _ (pure (Value.ref d)) _ _ s
    refine wpAny_pure ?rest
    case rest =>
     show wpAny _ _ (Builtin.Dict.showsAll d >>= _) _ _ s
     unfold Builtin.Dict.showsAll
     rw [if_neg (by rw [hd];exact Bool.false_ne_true)]
     refine wpAny_bind (wpAny_pure (wpAny_bind (wpAny_dictEntries ho hdat (wpAny_bind (wpAny_dictEpoch ho hdat (wpAny_bind (wpAny_newObj_type (wpAny_pure ⟨_,rfl,"dict_keyiterator",_,⟨_,Heap.get?_push_size _ rfl,rfl⟩,PySem.F.slot_dict_keyiterator_next.lookup,?fin⟩))))))))
     case fin=>simpa [rawInt] using hQ
theorem ar6 {Q:Option Value->Shared->Prop} (hit:s.heap.IsKeyIter it d i es.size ep) (r:Raw s.heap d es ep) (hi:i < es.size)
  (hQ:∀ h',h'.IsKeyIter it d (i+1) es.size ep->Heap.SameBut it s.heap h'->Q (some es[i].key) { s with heap:=h' }):wpAny (model prog w) A (pyNext (.ref it)) Q E s:=by
 obtain ⟨o,ho,hc,hd⟩:=id hit
 obtain ⟨od,hod,hcd,hdd⟩:=r
 unfold pyNext
 refine wpAny_bind (wpAny_attempt (wpAny_callSpecial?_slot (name:=Str.ofString "__next__") hit.typeIs PySem.F.slot_dict_keyiterator_next (wpAny_call_entry PySem.F.slot_dict_keyiterator_next hit.typeIs PySem.F.entry_dict_keyiterator_next ?b (PySem.F.args_dict_keyiterator_next_1 _))))
 case b =>
  refine wpAny_bind (wpAny_pure (wpAny_bind (wpAny_bind ?c)))
  case c =>
   first | refine wpAny_bind (wpAny_typeNameOfWhole_keyiter hit.typeIs (wpAny_pure (wpAny_bind (wpAny_fieldsOf ho hd ?e)))) | refine wpAny_bind (wpAny_typeNameOf_keyiter hit.typeIs (wpAny_pure (wpAny_bind (wpAny_fieldsOf ho hd ?e))))
   case e =>
    simp only [show Builtin.Dict_items.ownsTuple "dict_keyiterator" = false by decide,Bool.false_eq_true,if_false]
    show wpAny _ _ (if (Value.ref d == Value.none)=true then _ else _) _ _ s;rw [if_neg (show ¬ ((Value.ref d == Value.none)=true) from Bool.false_ne_true)]
    refine wpAny_bind (wpAny_pure (wpAny_bind (wpAny_dictEntries hod hdd ?f)))
    case f =>
     rw [if_neg (by simp)];refine wpAny_bind (wpAny_pure (wpAny_bind (wpAny_dictEpoch hod hdd ?g)))
     case g =>
      rw [if_neg (by simp)];refine wpAny_pure ?h
      case h =>
       simp only [show ¬ ((i:Int) < 0) by row_cond lo,if_false,Int.toNat_natCast,Array.getElem?_eq_getElem hi];refine wpAny_bind ?j
       case j =>
        first | refine wpAny_bind (wpAny_typeNameOfWhole_keyiter hit.typeIs (wpAny_pure (wpAny_bind (wpAny_isOneOf_keyiter hit.typeIs ?k)))) | refine wpAny_bind (wpAny_typeNameOf_keyiter hit.typeIs (wpAny_pure (wpAny_bind (wpAny_isOneOf_keyiter hit.typeIs ?k))))
        case k =>
         show wpAny _ _ (setField (.ref it) 1 (rawInt ((i:Int)+1)) >>= _) _ _ s;refine wpAny_bind (wpAny_setField ho hd (by simp) ?l)
         case l =>
          have nx:(s.heap.update it (Obj.mapFields (·.setIfInBounds 1 (rawInt ((i:Int)+1))))).IsKeyIter it d (i+1) es.size ep:=⟨_,Heap.get?_update_self _ ho (Obj.isFreed_of_fields (Obj.data_mapFields hd _)),(Obj.cls_mapFields ..).trans hc,by rw [Obj.data_mapFields hd];simp [rawInt]⟩
          refine wpAny_bind (wpAny_holding (wpAny_bind (wpAny_isOneOf_keyiter (s:={ s with heap:=s.heap.update it (Obj.mapFields (·.setIfInBounds 1 (rawInt ((i:Int)+1)))) }) nx.typeIs ?m)))
          case m=>show wpAny _ _ (pure es[i].key) _ _ _;exact wpAny_pure (wpAny_pure ⟨_,rfl,wpAny_pure (hQ _ nx (Heap.SameBut.update ..))⟩)
theorem au8 {Q:Option Value->Shared->Prop} (hh:A.handled=none) (hit:s.heap.IsKeyIter it d es.size es.size ep) (r:Raw s.heap d es ep) (hQ:∀ h',Heap.ExtBut it s.heap h'->Q none { s with heap:=h' }):wpAny (model prog w) A (pyNext (.ref it)) Q E s:=by
 obtain ⟨o,ho,hc,hd⟩:=id hit
 obtain ⟨od,hod,hcd,hdd⟩:=r
 unfold pyNext
 refine wpAny_bind (wpAny_attempt (wpAny_callSpecial?_slot (name:=Str.ofString "__next__") hit.typeIs PySem.F.slot_dict_keyiterator_next (wpAny_call_entry PySem.F.slot_dict_keyiterator_next hit.typeIs PySem.F.entry_dict_keyiterator_next ?b (PySem.F.args_dict_keyiterator_next_1 _))))
 case b =>
  refine wpAny_bind (wpAny_pure (wpAny_bind (wpAny_bind ?c)))
  case c =>
   first | refine wpAny_bind (wpAny_typeNameOfWhole_keyiter hit.typeIs (wpAny_pure (wpAny_bind (wpAny_fieldsOf ho hd ?e)))) | refine wpAny_bind (wpAny_typeNameOf_keyiter hit.typeIs (wpAny_pure (wpAny_bind (wpAny_fieldsOf ho hd ?e))))
   case e =>
    simp only [show Builtin.Dict_items.ownsTuple "dict_keyiterator" = false by decide,Bool.false_eq_true,if_false]
    show wpAny _ _ (if (Value.ref d == Value.none)=true then _ else _) _ _ s;rw [if_neg (show ¬ ((Value.ref d == Value.none)=true) from Bool.false_ne_true)]
    refine wpAny_bind (wpAny_pure (wpAny_bind (wpAny_dictEntries hod hdd ?f)))
    case f =>
     rw [if_neg (by simp)];refine wpAny_bind (wpAny_pure (wpAny_bind (wpAny_dictEpoch hod hdd ?g)))
     case g =>
      rw [if_neg (by simp)];refine wpAny_pure ?h
      case h =>
       simp only [show ¬ ((es.size:Int) < 0) by row_cond lo,if_false,Int.toNat_natCast,Array.getElem?_eq_none (Nat.le_refl es.size)];refine wpAny_bind ?j
       case j =>
        first | refine wpAny_bind (wpAny_typeNameOfWhole_keyiter hit.typeIs (wpAny_pure ?k)) | refine wpAny_bind (wpAny_typeNameOf_keyiter hit.typeIs (wpAny_pure ?k))
        case k =>
         show wpAny _ _ (setField (.ref it) 0 .none >>= _) _ _ s;refine wpAny_bind (wpAny_setField ho hd (by simp) ?l)
         case l =>
          show wpAny _ _ (newExc (.type "StopIteration") [] >>= _) _ _ _;refine wpAny_bind ?m
          case m =>
           simp only [newExc,newTuple];refine wpAny_bind (wpAny_newObj_type ?zz2 (by size_fits))
           case zz2 =>
            refine wpAny_bind (m:=firstArgMember _ _) (wpAny_of_eq (a:=Value.none) (by first | rfl | (simp only [firstArgMember];rfl)) (wpAny_newObj_type ?zz1 (by size_fits)))
            case zz1 =>
             simp only [raiseNew];refine wpAny_bind (wpAny_handled ?q)
             case q =>
              rw [show A.in1.handled=none from hh];refine wpAny_bind (wpAny_pure (wpAny_throw ?u1))
              case u1=>refine wpAny_bind (wpAny_isInstance (T:="StopIteration") (b:=true) ⟨_,Heap.get?_push_size _ rfl,rfl⟩ isSubtype_stop ?u2);exact wpAny_pure (hQ _ (((Heap.SameBut.update ..).extBut.push _).push _))
end
theorem walks {prog:Program} {w:World} {A:Around} (hh:A.handled=none) (I d:Addr) (hne:d ≠ I) (es:Array DictEntry) (ep:Nat) :
  Walks prog w A I [I,d] [I] es.size (fun i v=>(es[i]?).map (·.key)=some v) (fun i h=>h.IsKeyIter I d i es.size ep/\Raw h d es ep) where
 sub:=fun b hb=>by simp at hb;simp [hb]
 frame:=fun _ _ _ st hk=>⟨st.1.at fun o e=>hk I (by simp) o e,st.2.keep fun o e=>hk d (by simp) o e⟩
 item:=fun i s Q E hi st hQ=>ar6 st.1 st.2 hi fun h' nx sb=>hQ _ h' s.toks (by rw [Array.getElem?_eq_getElem hi];rfl) ⟨nx,st.2.keep fun o e=>sb.extBut d o hne e⟩ fun b o hb e=>sb.extBut b o (fun z=>hb (by simp [z])) e
 done:=fun s Q E st hQ=>au8 hh st.1 st.2 fun h' eb=>hQ h' s.toks fun b o hb e=>eb b o (fun z=>hb (by simp [z])) e
 self:=fun _ _ _ _ st hQ=>wpAny_pyIter_keyiter st.1 hQ
end DI
namespace DI
open PySem PySem.W PyProof.Rows
section
variable {prog:Program} {w:World} {A:Around} {E:Value->Shared->Prop} {s:Shared}
theorem src (d:Addr) (es:Array DictEntry) (ep:Nat) (hd:(d == sysModules)=false):KdlSrc prog w "dict" d d es.size (fun i v=>(es[i]?).map (·.key)=some v) (fun h=>Raw h d es ep) where
 type:=fun s r=>r.ty
 there:=fun h r=>let ⟨o,e,_⟩:=r;⟨Heap.lt_size e,Heap.lt_size e⟩
 keep:=fun h h' r k=>r.keep fun o e=>k d (.inl rfl) o e
 notList:=by decide
 notTuple:=by decide
 hint:=fun A E s Q r q=>kdl_hint_dict r.ty q
 iter:=fun A s hh r=>⟨{ cls:=.type "dict_keyiterator",data:=.fields #[.ref d,.int 0 0,.int es.size 0,.int ep 0] },fun i h=>h.IsKeyIter s.heap.objs.size d i es.size ep/\Raw h d es ep,fun E Q q=>ar5 hd r q,
  walks hh s.heap.objs.size d (by obtain ⟨o,e,_⟩:=r;exact Nat.ne_of_lt (Heap.lt_size e)) es ep,⟨_,Heap.get?_push_size _ rfl,rfl,rfl⟩,r.keep fun o e=>Heap.get?_push_of_some _ e⟩
end
end DI
namespace TS
open PySem PySem.W PyProof.Rows
section
variable {prog:Program} {w:World} {A:Around} {E:Value->Shared->Prop} {s:Shared}
end
end TS
namespace L2
open PySem PySem.Spec PyProof.Rows
section
variable {X:Cx} {pins:List (Addr × Obj)} {σ:St} {H:Hp} {s:Shared} {h':Heap}
theorem Inv.turnNew {t':Nat} {ch:List Addr} {T:Addr} {o:HO} (I:Inv X pins σ H s) (f:∀ b∈ch,FpOk X pins H b) (k:∀ b u,b ∉ ch->s.heap.get? b=some u->h'.get? b=some u) (hT:s.heap.objs.size<=T) (new:ObjOk X.prog X.w (upd H T o) h' T o) :
  Inv X pins σ (upd H T o) { s with heap:=h',toks:=t' }:=by
 have hn:H T=none:=I.hok.fresh hT
 have nch:∀ b u,H b=some u->b ∉ ch:=fun b u e z=>by rw [(f b z).1] at e;cases e
 refine I.step (g':=s.gens) (d':=s.drawn) (ch:=ch) (fun b hb=>⟨(f b hb).2.2.2.1,(f b hb).2.1,(f b hb).2.2.2.2.1,(f b hb).2.2.2.2.2⟩) (fun b u _ _ hc e _=>k b u hc e) (fun b u _ _ hc e _=>⟨u.slots,k b u hc e⟩)
  (fun b u _ e n=>by rw [aac (Nat.ne_of_lt (Nat.lt_of_lt_of_le (Heap.lt_size e) hT))];exact n) (fun b u hc e=>⟨u,k b u hc e⟩) (fun b xs e=>by rw [aac (aak e hn)];exact e) (fun b u v e=>by rw [aac (aak e hn)];exact e)
  (fun b ps e=>⟨#[],by rw [aac (aak e hn),e];simp⟩) (fun m hm=>?_) (fun b u e=>?_) I.bare
 ·obtain ⟨u,es,ep,ho,r⟩:=hm
  exact ⟨u,es,ep,k _ u (fun z=>(f _ z).2.1 rfl) ho,r⟩
 ·by_cases hb:b=T
  ·subst hb;rw [aag] at e;cases e;exact new
  ·rw [aac hb] at e
   refine (I.hok b u e).stay (fun c v hc q=>k c v ?_ q) (fun c q=>by rw [aac (aak q hn)];exact q) fun c xs q=>by rw [aac (aak q hn)];exact q
   rcases hc with z | z
   ·rw [z];exact nch b u e
   ·exact nch c _ z
theorem Inv.turnedL {t':Nat} {ch:List Addr} (I:Inv X pins σ H s) (f:∀ b∈ch,FpOk X pins H b) (k:∀ b u,b ∉ ch->s.heap.get? b=some u->h'.get? b=some u):Inv X pins σ H { s with heap:=h',toks:=t' }:=by
 have nch:∀ b u,H b=some u->b ∉ ch:=fun b u e z=>by rw [(f b z).1] at e;cases e
 refine I.step (g':=s.gens) (d':=s.drawn) (ch:=ch) (fun b hb=>⟨(f b hb).2.2.2.1,(f b hb).2.1,(f b hb).2.2.2.2.1,(f b hb).2.2.2.2.2⟩) (fun b u _ _ hc e _=>k b u hc e) (fun b u _ _ hc e _=>⟨u.slots,k b u hc e⟩) (fun _ _ _ _ n=>n)
  (fun b u hc e=>⟨u,k b u hc e⟩) (fun _ _ e=>e) (fun _ _ _ e=>e) (fun b ps e=>⟨#[],by rw [e];simp⟩) (fun m hm=>?_) (fun b u e=>?_) I.bare
 ·obtain ⟨u,es,ep,ho,r⟩:=hm
  exact ⟨u,es,ep,k _ u (fun z=>(f _ z).2.1 rfl) ho,r⟩
 ·refine (I.hok b u e).stay (fun c v hc q=>k c v ?_ q) (fun _ q=>q) fun _ _ q=>q
  rcases hc with z | z
  ·rw [z];exact nch b u e
  ·exact nch c _ z
end
noncomputable def Itz (K:PySem.W.Frag) (a b:Addr):It :=
 ⟨fun i H=>∃ xs ys x y,SqL K H a xs/\SqL K H b ys/\xs[i]?=some x/\ys[i]?=some y,fun i H v H'=>∃ p x y,v=.ref p/\H p=none/\H'=upd H p (.tup [x,y])/\(∀ xs,SqL K H a xs->xs[i]?=some x)/\∀ ys,SqL K H b ys->ys[i]?=some y,
  fun i H=>∃ xs ys,SqL K H a xs/\SqL K H b ys/\min xs.length ys.length=i⟩
section
variable {X:Cx} {elts:List Expr} {k:Nat} {tpos:Pos}
end
theorem ar7 {P:Program} {w:World} {K:PySem.W.Frag} {elts:List Expr} {k:Nat} {pos:Pos} (z TI TO i1 i2 l1 l2:Addr) (D:ZipApart z TI TO i1 i2 l1 l2) :
  Turn P w K (.Tuple elts k pos) (Itz K l1 l2) [z,TI,TO,i1,i2] z (fun i h=>IsZip h z TI TO .none/\IsPair h TI (.ref i1) (.ref i2)/\(∃ a b,IsPair h TO a b)/\h.IsListIter i1 l1 i/\h.IsListIter i2 l2 i) where
 mem:=by simp
 obj:=fun i h st b hb=>by
  obtain ⟨hz,hTI,⟨a,b',hTO⟩,⟨o1,e1,c1,d1⟩,⟨o2,e2,c2,d2⟩⟩:=st
  simp only [List.mem_cons,List.not_mem_nil,or_false] at hb
  rcases hb with rfl | rfl | rfl | rfl | rfl
  ·exact ⟨_,hz,fun v y=>by simp at y⟩
  ·exact ⟨_,hTI,fun v y=>by simp at y⟩
  ·exact ⟨_,hTO,fun v y=>by simp at y⟩
  ·exact ⟨o1,e1,fun v y=>by rw [d1] at y;cases y⟩
  ·exact ⟨o2,e2,fun v y=>by rw [d2] at y;cases y⟩
 keep:=fun i h h' st q=>by
  obtain ⟨hz,hTI,⟨a,b',hTO⟩,h1,h2⟩:=st
  exact ⟨q z (by simp) _ hz,q TI (by simp) _ hTI,⟨a,b',q TO (by simp) _ hTO⟩,h1.at fun o x=>q i1 (by simp) o x,h2.at fun o x=>q i2 (by simp) o x⟩
 item:=by
  intro X hP hw hK hc i pins s σ H E I hf st hg
  subst hP hw hK
  obtain ⟨xs,ys,x,y,hq1,hq2,hx,hy⟩:=hg
  obtain ⟨us,rv1,p1,_⟩:=I.list hq1
  obtain ⟨vs,rv2,p2,_⟩:=I.list hq2
  obtain ⟨u,hu,ru⟩:=rv1.get hx
  obtain ⟨v,hv,rv⟩:=rv2.get hy
  have hi:i < min us.toArray.size vs.toArray.size:=by
   have a1:=(List.getElem?_eq_some_iff.mp hu).1
   have a2:=(List.getElem?_eq_some_iff.mp hv).1
   simp;row_cond lo
  obtain ⟨hz,hTI,hTO,h1,h2⟩:=st
  have W:=WalksT.zip2 (prog:=X.prog) (w:=X.w) (I.ok.hd hc) z TI TO i1 i2 l1 l2 D us.toArray vs.toArray
  refine W.item i s _ _ hi ⟨hz,hTI,hTO,h1,h2,p1.isList,p2.isList⟩ fun T vals h3 tk hP hT isT mid kk=>⟨_,rfl,?_⟩
  obtain ⟨x',y',hx',hy',rfl⟩:=hP
  have ex:x'=u:=by
   have:us[i]?=some x':=by simpa using hx'
   rw [hu] at this;cases this;rfl
  have ey:y'=v:=by
   have:vs[i]?=some y':=by simpa using hy'
   rw [hv] at this;cases this;rfl
  subst ex ey
  have aT:=W.apart i T _ mid
  have sub:∀ b,b ∉ [z,TI,TO,i1,i2]->b ∉ [z,TO,i1,i2]:=fun b hb y=>hb (by simp at y ⊢;rcases y with y | y | y | y <;> simp [y])
  have Tt:T ∉ [z,TI,TO,i1,i2]:=fun y=>by
   have:=(hf T y).1
   obtain ⟨o,e,_⟩:=isT
   simp only [List.mem_cons,List.not_mem_nil,or_false] at y
   rcases y with rfl | rfl | rfl | rfl | rfl
   ·exact aT (by simp)
   ·exact absurd (Heap.lt_size hTI) (Nat.not_lt.mpr hT)
   ·exact aT (by simp)
   ·exact aT (by simp)
   ·exact aT (by simp)
  refine W.go elts k pos i T { s with heap:=h3,toks:=tk } _ _ mid fun h4 st4 k4=>?_
  have isT4:IsTup h4 T #[x',y']:=by
   obtain ⟨o,e1,e2,n,e3⟩:=isT
   exact ⟨o,k4 T o aT e1,e2,n,e3⟩
  refine ⟨.ref T,upd H T (.tup [x,y]),I.turnNew hf (fun b o hb q=>k4 b o (sub b hb) (kk b o (sub b hb) q)) hT ?_,rfl,⟨T,x,y,rfl,I.hok.fresh hT,rfl,fun zs hz'=>by rw [I.list_inj hz' hq1];exact hx,fun zs hz'=>by rw [I.list_inj hz' hq2];exact hy⟩,⟨st4.1,st4.2.1,st4.2.2.1,st4.2.2.2.1,st4.2.2.2.2.1⟩,fun b hb=>?_⟩
  ·exact ⟨by show (2:Nat)<=sizeLine;decide,[x',y'],.cons ru (.cons rv .nil),isT4⟩
  ·rw [aac]
   ·exact (hf b hb).1
   ·rintro rfl;exact Tt hb
 done:=by
  intro X hP hw hK hc i pins s σ H E I hf st hg
  subst hP hw hK
  obtain ⟨xs,ys,hq1,hq2,hx⟩:=hg
  obtain ⟨us,rv1,p1,_⟩:=I.list hq1
  obtain ⟨vs,rv2,p2,_⟩:=I.list hq2
  obtain ⟨hz,hTI,hTO,h1,h2⟩:=st
  have W:=WalksT.zip2 (prog:=X.prog) (w:=X.w) (I.ok.hd hc) z TI TO i1 i2 l1 l2 D us.toArray vs.toArray
  have ei:min us.toArray.size vs.toArray.size=i:=by
   rw [← hx,rv1.length,rv2.length];simp
  have sub:∀ b,b ∉ [z,TI,TO,i1,i2]->b ∉ [z,TO,i1,i2]:=fun b hb y=>hb (by simp at y ⊢;rcases y with y | y | y | y <;> simp [y])
  rw [← ei] at h1 h2
  exact W.done s _ _ ⟨hz,hTI,hTO,h1,h2,p1.isList,p2.isList⟩ fun h3 tk kk=>⟨rfl,I.turnedL (t':=tk) hf fun b o hb q=>kk b o (sub b hb) q⟩
 self:=fun A i s Q E st h=>wpAny_pyIter_zip st.1 h
theorem axx {n a b:Nat} (h1:a < n) (h2:b < n):ZipApart (n+4) (n+2) (n+3) n (n+1) a b:=by constructor <;> (show (_:Nat) ≠ _;row_cond lo)
section
variable {X:Cx} {elts:List Expr} {k:Nat} {tpos:Pos}
def iZip (K:PySem.W.Frag) (ta:TA):TI:=fun σ H R=>ta σ H fun vs H1=>∃ a b xs ys,vs=[.ref a,.ref b]/\SqL K H1 a xs/\SqL K H1 b ys/\R (Itz K a b) H1
theorem ap2 {a b:Expr} {ta:TA} {p pos:Pos} (hg:Gl X "zip") (hm:X.mg "zip" = none) (ha:PA X [a,b] ta) (hs:starEach [a,b] X.env=[(false,eval a X.env),(false,eval b X.env)]:=by rfl) (hs2:starEach [b] X.env=[(false,eval b X.env)]:=by rfl):PI X (.Tuple elts k tpos) (.Call (.Name "zip" p) [a,b] [] pos) (iZip X.K ta):=by
 intro pins s σ H R I h
 refine Call_ (ace I hg hm aw3 (PyProof.Rows.callWith_type1 (thn (ha pos pins s σ H _ I h) fun us s1 ⟨vs,H1,I1,r1,a,b,xs,ys,ev,hq1,hq2,q⟩=>?_) (by rw [hs,hs2]) (by rw [hs2];rfl)))
 subst ev
 obtain ⟨u,c,rfl,ru,rc⟩:=af4 r1
 cases ru
 cases rc
 obtain ⟨_,_,p1,_⟩:=I1.list hq1
 obtain ⟨_,_,p2,_⟩:=I1.list hq2
 have l1:a < s1.heap.objs.size:=by obtain ⟨o,n,e,_⟩:=p1;exact Heap.lt_size e
 have l2:b < s1.heap.objs.size:=by obtain ⟨o,n,e,_⟩:=p2;exact Heap.lt_size e
 refine call_zip_2 p1.isList p2.isList fun h2 hz hTI hTO h1 h3 hsz kp=>?_
 refine wpAny_pyIter_zip hz ⟨s1.heap.objs.size+4,[s1.heap.objs.size+4,s1.heap.objs.size+2,s1.heap.objs.size+3,s1.heap.objs.size,s1.heap.objs.size+1],_,_,H1,rfl,I1.kept (t':=s1.toks) kp,ar7 _ _ _ _ _ a b (axx l1 l2),⟨hz,hTI,⟨_,_,hTO⟩,h1,h3⟩,fun c hc=>?_,q⟩
 have hc':s1.heap.objs.size<=c:=by
  simp only [List.mem_cons,List.not_mem_nil,or_false] at hc
  rcases hc with rfl | rfl | rfl | rfl | rfl
  ·exact Nat.le_add_right _ 4
  ·exact Nat.le_add_right _ 2
  ·exact Nat.le_add_right _ 3
  ·exact Nat.le_refl _
  ·exact Nat.le_add_right _ 1
 exact I1.fpOk hc' (I1.hok.fresh hc')
end
end L2
namespace L2
open PySem PySem.Spec PyProof.Rows
theorem amm:∀ {xs:List V} {us:List Value},xs.length=us.length->(∀ (i:Nat) v u,xs[i]?=some v->us[i]?=some u->RelV v u)->Vals xs us
 | [],[],_,_ => .nil
 | [],_ :: _,h,_=>by simp at h
 | _ :: _,[],h,_=>by simp at h
 | x :: xs,u :: us,h,k => .cons (k 0 x u rfl rfl) (amm (by simpa using h) fun i v w h1 h2=>k (i+1) v w (by simpa using h1) (by simpa using h2))
section
variable {X:Cx}
def akl (K:PySem.W.Frag):List V->Hp->VK->Prop:=fun xs H Q=>∃ p ys,xs=[.ref p]/\(SqL K H p ys\/SqT K H p ys)/\∀ l,H l=none->Q (.ref l) (upd H l (.lst ys))
theorem anx:abh X (.type "list") (akl X.K):=ajo
def ap3 (ta:TA):TE:=fun σ H Q=>ta σ H fun vs H1=>∃ j:Int,vs=[.int j]/\0<=j/\j<=1000000/\∀ l,H1 l=none->Q (.ref l) (upd H1 l (.lst ((List.range j.toNat).map fun (i:Nat)=>V.int (i:Int))))
theorem ar8 {a:Expr} {ta:TA} {p1 p2 pos pos2:Pos} (hg:Gl X "list") (hm:X.mg "list" = none) (hg2:Gl X "range") (hm2:X.mg "range" = none) (hc:X.calm=true) (ha:PA X [a] ta) (hs:starEach [a] X.env=[(false,eval a X.env)]:=by rfl)
  (hs2:starEach [.Call (.Name "range" p2) [a] [] pos2] X.env=[(false,eval (.Call (.Name "range" p2) [a] [] pos2) X.env)]:=by rfl):PE X (.Call (.Name "list" p1) [.Call (.Name "range" p2) [a] [] pos2] [] pos) (ap3 ta):=by
 intro pins s σ H Q I h
 refine Call_ (ace I hg hm ad1 (PyProof.Rows.callWith_type1 ?_ hs2 rfl))
 rw [hs2]
 refine Calls.spliced_cons (Call_ (ace I hg2 hm2 boot_range (PyProof.Rows.callWith_type1 (thn (ha pos2 pins s σ H _ I h) fun us s1 ⟨vs,H1,I1,r1,j,ev,j0,j1,q⟩=>?_) hs rfl)))
 subst ev
 obtain ⟨u,rfl,t,rfl⟩:=acu r1
 refine call_range_1 (Calls.spliced_nil ?_)
 have hr:IsRange (s1.heap.push { cls:=.type "range",data:=.fields #[.int 0 s1.toks,.int j t,.int 1 (s1.toks+1)] }) s1.heap.objs.size 0 j 1 s1.toks t (s1.toks+1):=Heap.get?_push_size _ rfl
 have hn:Builtin.Range.rangeSize 0 j 1=((j.toNat:Nat):Int):=by rw [rangeSize_one];split <;> row_cond lo
 refine call_list_range (s:={ s1 with heap:=s1.heap.push { cls:=.type "range",data:=.fields #[.int 0 s1.toks,.int j t,.int 1 (s1.toks+1)] },toks:=s1.toks+1+1 }) (I1.ok.hd hc) hr (small_one (by row_cond lo) (by row_cond lo) (by row_cond lo) (by row_cond lo)) hn (by row_cond lo) fun h2 tk acc c kp hS items=>?_
 have k2:∀ b o,s1.heap.get? b=some o->h2.get? b=some o:=fun b o e=>kp b o (Heap.get?_push_of_some _ e)
 have hfree:s1.heap.objs.size<=(s1.heap.push { cls:=.type "range",data:=.fields #[.int 0 s1.toks,.int j t,.int 1 (s1.toks+1)] }).objs.size:=by rw [Heap.size_push];exact Nat.le_succ _
 refine ⟨.ref _,_,I1.laid (t':=tk) (o:=.lst ((List.range j.toNat).map fun (i:Nat)=>V.int (i:Int))) k2 hfree ?_,rfl,q _ (I1.hok.fresh hfree)⟩
 refine ⟨by rw [List.length_map,List.length_range];exact Nat.le_of_lt (VL.big (by row_cond lo)),acc.toList,c,?_,by simpa using hS⟩
 obtain ⟨h1,h2'⟩:=items
 refine amm (by simp [h1]) fun i v u hv hu=>?_
 have hu':acc[i]?=some u:=by simpa using hu
 obtain ⟨t',e'⟩:=h2' i u hu'
 rw [List.getElem?_map] at hv
 have hi:i < j.toNat:=by
  have:=(Array.getElem?_eq_some_iff.mp hu').1
  row_cond lo
 rw [List.getElem?_eq_getElem (by simpa using hi)] at hv
 simp at hv
 subst hv
 exact ⟨t',by rw [e'];simp⟩
end
end L2
namespace L2
open PySem PySem.Spec PyProof.Rows
section
variable {X:Cx} {pins:List (Addr × Obj)} {σ:St} {H:Hp} {s:Shared}
end
theorem KT.get {H:Hp}:∀ {kvs:List (List Key × V)} {xs:List (List Key × Addr × Value)} {i:Nat} {p:List Key × V},KT H kvs xs->kvs[i]?=some p->∃ q,xs[i]?=some q/\p.1=q.1/\H q.2.1=some (.tup (p.1.map kV))
 | _,_,_,_,.nil,e=>by simp at e
 | _,_,0,_,.cons r _,e=>by simp at e;subst e;exact ⟨_,rfl,r.1,r.2.1⟩
 | _,_,i+1,p,.cons _ t,e=>by
  obtain ⟨q,h1,h2⟩:=KT.get (i:=i) (p:=p) t (by simpa using e)
  exact ⟨q,by simpa using h1,h2⟩
section
variable {X:Cx} {tg:Expr}
end
end L2
namespace VL
open PySem PySem.Spec L2
noncomputable def zipD (xs ys:List PyData):List PyData:=(xs.zip ys).map fun p => .tuple [p.1,p.2]
theorem ar9 {xs ys:List PyData} {i:Nat} {d:PyData} (h:(zipD xs ys)[i]?=some d):∃ x y,xs[i]?=some x/\ys[i]?=some y/\d=.tuple [x,y]:=by
 unfold zipD at h
 rw [List.getElem?_map] at h
 cases e:(xs.zip ys)[i]? with
 | none=>rw [e] at h;cases h
 | some p =>
  rw [e] at h
  cases h
  obtain ⟨h1,h2⟩:=List.getElem?_zip_eq_some.mp e
  exact ⟨p.1,p.2,h1,h2,rfl⟩
theorem Out.tup2 {G H:Hp} {p:Addr} {x y:V} {d e:PyData} (g:Same G H) (h:H p=none) (r1:Rp G x d) (r2:Rp G y e):Out G H (.ref p) (upd G p (.tup [x,y])) (upd H p (.tup [x,y])) (.st (.tuple [d,e])) (fun _=>False):=Out.newT g h (.cons r1 (.cons r2 .nil))
section
variable {B:Bs} {env:En} {QI:List PyData->En->Prop} {QO:Sl->En->Prop} {Q':PyData->En->Prop} {K:PySem.W.Frag} {i:Nat} {ta:TA}
theorem au9 (h:EvA B ta env fun vs e=>∃ xs ys,vs=[.list xs,.list ys]/\QI (zipD xs ys) e):EvI B (iZip K ta) env QI:=fun σ G H F R I k =>
 h σ G H F _ I fun vs G1 H1 F1 ds e1 I1 g1 r1 z_=>by
  obtain ⟨xs,ys,ed,q1⟩:=z_
  subst ed
  cases r1 with
  | cons r t =>
   cases t with
   | cons r2 t =>
    cases t
    cases r with
    | @lst a us _ ha rs =>
     cases r2 with
     | @lst b ws _ hb rs2 =>
      have hl:(zipD xs ys).length=min us.length ws.length:=by simp [zipD,rs.length,rs2.length]
      refine ⟨a,b,us,ws,rfl,SqL.of (I1.gh _ _ ha),SqL.of (I1.gh _ _ hb),k _ G1 H1 F1 _ e1 I1 g1 ⟨fun i G' H' g h hi=>?_,fun i G' H' g h hi=>?_,fun i G' H' x H'' d g h ft hd y=>?_⟩ q1⟩
      ·have h1:i < us.length:=by row_cond lo
       have h2:i < ws.length:=by row_cond lo
       exact ⟨us,ws,us[i],ws[i],SqL.of (h _ _ (g _ _ ha)),SqL.of (h _ _ (g _ _ hb)),List.getElem?_eq_getElem h1,List.getElem?_eq_getElem h2⟩
      ·exact ⟨us,ws,SqL.of (h _ _ (g _ _ ha)),SqL.of (h _ _ (g _ _ hb)),by rw [← hl];exact hi.symm⟩
      ·obtain ⟨p,v,w,rfl,hp,rfl,hv,hw⟩:=y
       obtain ⟨dx,dy,hx,hy,rfl⟩:=ar9 hd
       obtain ⟨u,hu,ru⟩:=rs.get hx
       obtain ⟨u2,hu2,ru2⟩:=rs2.get hy
       have e1:=hv us (SqL.of (h _ _ (g _ _ ha)))
       have e2:=hw ws (SqL.of (h _ _ (g _ _ hb)))
       rw [hu] at e1;cases e1
       rw [hu2] at e2;cases e2
       exact ⟨_,Out.tup2 h hp (ru.same g) (ru2.same g)⟩
theorem RpT.len {G:Hp}:∀ {kvs:List (List Key × V)} {es:List (List Key × PyData)},RpT G kvs es->kvs.length=es.length/\kvs.map (·.1)=es.map (·.1)
 | _,_,.nil=>⟨rfl,rfl⟩
 | _,_,.cons _ t=>by
  obtain ⟨h1,h2⟩:=RpT.len t
  exact ⟨by simp [h1],by simp [h2]⟩
@[reducible] noncomputable def tiD (ns:List Int):PyData:=.tuple (ns.map .int)
def lexS (pss:List (List Int)):Prop:=pss.Pairwise fun x y=>HT.lexLt y x=false
theorem aeh {G H:Hp} (ft:FT G H):∀ {vs:List V},(∀ v∈vs,TupI H v)->Rps G vs ((vs.map (kH H)).map tiD)
 | [],_ => .nil
 | v :: vs,h=>by
  obtain ⟨t,ns,rfl,e,_⟩:=h v List.mem_cons_self
  rw [List.map_cons,List.map_cons,agg e]
  have:(ns.map V.int)=(ns.map (fun i=>(Sum.inl i:Key))).map kV:=by rw [List.map_map];rfl
  refine .cons (.tup ?_ (Rps.ints ns)) (aeh ft fun u hu=>h u (List.mem_cons_of_mem _ hu))
  rw [this];exact ft t _ (by rw [← this];exact e)
theorem acw {G H:Hp} (gh:Same G H):∀ {vs:List V} {pss:List (List Int)},Rps G vs (pss.map tiD)->(∀ ns∈pss,ns ≠ [])->(∀ v∈vs,TupI H v)/\vs.map (kH H)=pss
 | _,[],.nil,_=>⟨fun v hv=>by simp at hv,rfl⟩
 | v :: vs,ns :: pss,.cons r t,hn=>by
  obtain ⟨i1,i2⟩:=acw gh t fun ms hm=>hn ms (List.mem_cons_of_mem _ hm)
  cases r with
  | tup h rs =>
   have:=Rps.ints_inv rs
   subst this
   have e:=gh _ _ h
   refine ⟨fun u hu=>?_,by rw [List.map_cons,agg e,i2]⟩
   rcases List.mem_cons.mp hu with rfl | hu
   ·exact ⟨_,ns,rfl,e,hn ns List.mem_cons_self⟩
   ·exact i1 u hu
theorem ap4 {pss:List (List Int)} (hn:∀ ns∈pss,ns ≠ []) (h64:pss.length < 64) (h:EvA B ta env fun ds e=>ds=[.list (pss.map tiD)]/\∀ qss:List (List Int),qss.Perm pss->lexS qss->QO (.own (OL (qss.map tiD))) e):EvO B (tCB (aey K) ta) env QO:=fun σ G H F Q I k =>
 h σ G H F _ I fun vs G1 H1 F1 ds e1 I1 g1 r1 z_=>by
  obtain ⟨ed,q1⟩:=z_
  subst ed
  cases r1 with
  | cons r t =>
   cases t
   cases r with
   | @lst a us _ ha rs =>
    obtain ⟨t1,t2⟩:=acw I1.gh rs hn
    refine ⟨a,us,rfl,SqL.of (I1.gh _ _ ha),t1,by have:=rs.length;rw [List.length_map] at this;row_cond lo,fun ws p hp hs hf=>?_⟩
    have tw:∀ v∈ws,TupI H1 v:=fun v hv=>t1 v (hp.mem_iff.mp hv)
    have o:=Out.newL I1.gh hf (aeh I1.ft tw)
    refine k _ _ _ F1 _ _ e1 (I1.out o).1 (g1.trans o.gg) (I1.out o).2 (q1 _ ?_ ?_)
    ·have:=hp.map (kH H1);rw [t2] at this;exact this
    ·unfold lexS;rw [List.pairwise_map];exact hs
end
section
variable {B:Bs} {env:En} {QO:Sl->En->Prop} {Q':PyData->En->Prop} {K:PySem.W.Frag} {i:Nat} {ta:TA} {R:Sl->Prop}
theorem asa {ds:List PyData} (h:R (.own (OL ds))):OpA (akl K) [.list ds] R:=fun G H vs Q gh rs k=>by
 cases rs with
 | cons r t =>
  cases t
  cases r with
  | lst ha ra=>exact ⟨_,_,rfl,.inl (SqL.of (gh _ _ ha)),fun p hp=>k _ _ _ _ _ (Out.newL gh hp ra) h⟩
theorem ap5 {G:Hp} (n:Nat):Rps G ((List.range n).map fun (i:Nat)=>V.int (i:Int)) (rngD 0 n):=by
 unfold rngD
 refine akk (by simp) fun i v d hv hd=>?_
 rw [List.getElem?_map] at hv hd
 cases e:(List.range n)[i]? with
 | none=>rw [e] at hv;cases hv
 | some m=>rw [e] at hv hd;cases hv;cases hd;show Rp G (.int (m:Int)) (.int (0+(m:Int)));rw [Int.zero_add];exact .int _
theorem ap6 (h:EvA B ta env fun ds e=>∃ j:Int,ds=[.int j]/\0<=j/\j<=1000000/\QO (.own (OL (rngD 0 j.toNat))) e):EvO B (ap3 ta) env QO:=fun σ G H F Q I k =>
 h σ G H F _ I fun vs G1 H1 F1 ds e1 I1 g1 r1 z_=>by
  obtain ⟨j,ed,j0,j1,q1⟩:=z_
  subst ed
  obtain rfl:vs=[V.int j]:=Rps.ints_inv (ns:=[j]) r1
  refine ⟨j,rfl,j0,j1,fun p hp=>?_⟩
  have o:=Out.newL I1.gh hp (ap5 j.toNat)
  exact k _ _ _ F1 _ _ e1 (I1.out o).1 (g1.trans o.gg) (I1.out o).2 q1
end
section
variable {κ:Type} [DecidableEq κ] {α:Type}
noncomputable def valD (es:List (κ × α)) (k : κ):Option α:=(es.find? fun e=>decide (e.1=k)).map (·.2)
noncomputable def putD (es:List (κ × α)) (k : κ) (d : α):List (κ × α):=if (es.any fun e=>decide (e.1=k))=true then es.map (fun e=>if e.1=k then (e.1,d) else e) else es ++ [(k,d)]
end
theorem RpK.val {G:Hp} {k:Key}:∀ {kvs:List (Key × V)} {es:List (Key × PyData)},RpK G kvs es->(valD es k=none->valV kvs k=none)/\∀ d,valD es k=some d->∃ v,valV kvs k=some v/\Rp G v d
 | _,_,.nil=>⟨fun _=>rfl,fun d h=>by cases h⟩
 | _,_,.cons (k:=k') r t=>by
  obtain ⟨i1,i2⟩:=RpK.val (k:=k) t
  by_cases e:k'=k
  ·refine ⟨fun h=>by simp [valD,e] at h,fun d h=>?_⟩
   simp [valD,e] at h
   subst h
   exact ⟨_,by simp [valV,e],r⟩
  ·refine ⟨fun h=>?_,fun d h=>?_⟩
   ·simp [valV,e];simp [valD,e] at h
    have:=i1 (by simp [valD];exact h)
    simpa [valV] using this
   ·obtain ⟨v,h1,h2⟩:=i2 d (by simpa [valD,e] using h)
    exact ⟨v,by simpa [valV,e] using h1,h2⟩
theorem RpK.any {G:Hp} {k:Key}:∀ {kvs:List (Key × V)} {es:List (Key × PyData)},RpK G kvs es->(kvs.any fun e=>decide (e.1=k))=es.any fun e=>decide (e.1=k)
 | _,_,.nil=>rfl
 | _,_,.cons r t=>by simp [RpK.any t]
theorem RpK.map {G:Hp} {k:Key} {v:V} {d:PyData} (h:Rp G v d):∀ {kvs:List (Key × V)} {es:List (Key × PyData)},RpK G kvs es->RpK G (kvs.map fun e=>if e.1=k then (e.1,v) else e) (es.map fun e=>if e.1=k then (e.1,d) else e)
 | _,_,.nil => .nil
 | _,_,.cons (k:=k') r t=>by
  by_cases e:k'=k
  ·simp only [List.map_cons,e,if_true];exact .cons h (RpK.map h t)
  ·simp only [List.map_cons,e,if_false];exact .cons r (RpK.map h t)
theorem RpK.append {G:Hp}:∀ {a b:List (Key × V)} {c d:List (Key × PyData)},RpK G a c->RpK G b d->RpK G (a ++ b) (c ++ d)
 | _,_,_,_,.nil,s=>s
 | _,_,_,_,.cons r t,s => .cons r (RpK.append t s)
theorem RpT.any {G:Hp} {k:List Key}:∀ {kvs:List (List Key × V)} {es:List (List Key × PyData)},RpT G kvs es->(kvs.any fun e=>decide (e.1=k))=es.any fun e=>decide (e.1=k)
 | _,_,.nil=>rfl
 | _,_,.cons r t=>by simp [RpT.any t]
theorem RpT.map {G:Hp} {k:List Key} {v:V} {d:PyData} (h:Rp G v d):∀ {kvs:List (List Key × V)} {es:List (List Key × PyData)},RpT G kvs es->RpT G (kvs.map fun e=>if e.1=k then (e.1,v) else e) (es.map fun e=>if e.1=k then (e.1,d) else e)
 | _,_,.nil => .nil
 | _,_,.cons (k:=k') r t=>by
  by_cases e:k'=k
  ·simp only [List.map_cons,e,if_true];exact .cons h (RpT.map h t)
  ·simp only [List.map_cons,e,if_false];exact .cons r (RpT.map h t)
theorem RpT.append {G:Hp}:∀ {a b:List (List Key × V)} {c d:List (List Key × PyData)},RpT G a c->RpT G b d->RpT G (a ++ b) (c ++ d)
 | _,_,_,_,.nil,s=>s
 | _,_,_,_,.cons r t,s => .cons r (RpT.append t s)
theorem RpK.length {G:Hp}:∀ {kvs:List (Key × V)} {es:List (Key × PyData)},RpK G kvs es->kvs.length=es.length
 | _,_,.nil=>rfl
 | _,_,.cons _ t=>by simp [RpK.length t]
section
variable {B:Bs} {env:En} {QO:Sl->En->Prop} {Q':PyData->En->Prop} {D':VEnds} {i:Nat} {te ty tv td:TE}
theorem ap7 (q:QO (.own (OD [])) env):EvO B ao7 env QO:=fun σ G H F Q I k p hp=>by
 have o:=Out.newD (ds:=[]) I.gh hp .nil
 exact k _ _ _ F _ _ env (I.out o).1 o.gg (I.out o).2 q
end
end VL
namespace VL
open PySem PySem.Spec L2
section
variable {B:Bs} {env:En} {QO:Sl->En->Prop} {Q':PyData->En->Prop} {QE:En->Prop} {D':VEnds} {K:PySem.W.Frag} {i:Nat} {ta:TA}
theorem ay6 {xs ys:List PyData} {R:List PyData->List PyData->Prop} (h:R xs ys):∃ us vs,[PyData.list xs,.list ys]=[.list us,.list vs]/\R us vs:=⟨xs,ys,rfl,h⟩
theorem ava {j:Int} {R:Int->Prop} (h0:0<=j) (h1:j<=1000000) (h:R j):∃ i:Int,[PyData.int j]=[.int i]/\0<=i/\i<=1000000/\R i:=⟨j,rfl,h0,h1,h⟩
end
def ltP (p q:Int × Int):Prop:=p.1 < q.1\/(p.1=q.1/\p.2 < q.2)
@[reducible] noncomputable def p2 (p:Int × Int):List Int:=[p.1,p.2]
theorem lex2 (p q:Int × Int):HT.lexLt (p2 p) (p2 q)=true ↔ ltP p q:=by
 obtain ⟨a,b⟩:=p
 obtain ⟨c,d⟩:=q
 simp [p2,HT.lexLt,ltP]
 split <;> row_cond lo
theorem ags {qss:List (List Int)} {ps:List (Int × Int)} (h:qss.Perm (ps.map p2)):∃ qs:List (Int × Int),qss=qs.map p2/\qs.Perm ps:=by
 refine ⟨qss.map fun l=>(l.getD 0 0,l.getD 1 0),?_,?_⟩
 ·rw [List.map_map]
  symm
  conv=>rhs;rw [← List.map_id qss]
  apply List.map_congr_left
  intro l hl
  obtain ⟨p,_,rfl⟩:=List.mem_map.mp (h.mem_iff.mp hl)
  rfl
 ·have:=h.map fun l=>(l.getD 0 0,l.getD 1 0)
  rw [List.map_map] at this
  have e:((fun l:List Int=>(l.getD 0 0,l.getD 1 0)) ∘ p2)=id:=by funext p;rfl
  rw [e,List.map_id] at this
  exact this
def Rise (es:List (Int × Int)):Prop:=es.Pairwise ltP
theorem amn (p:Int × Int):¬ ltP p p:=by unfold ltP;row_cond lo
theorem amo (p q:Int × Int):ltP p q\/p=q\/ltP q p:=by
 obtain ⟨a,b⟩:=p
 obtain ⟨c,d⟩:=q
 unfold ltP
 simp only [Prod.mk.injEq]
 row_cond lo
theorem axy {p q r:Int × Int} (h:ltP p q) (g:ltP q r):ltP p r:=by unfold ltP at *;row_cond lo
theorem avb {qs ps:List (Int × Int)} (hp:qs.Perm ps) (hn:ps.Nodup) (hs:lexS (qs.map p2)):Rise qs:=by
 have hn':qs.Nodup:=hp.nodup_iff.mpr hn
 unfold lexS at hs
 rw [List.pairwise_map] at hs
 unfold Rise
 refine (List.Pairwise.and hs hn').imp fun {p q} h=>?_
 have h1:¬ ltP q p:=fun z=>by rw [(lex2 q p).mpr z] at h;exact absurd h.1 (by simp)
 rcases amo p q with z | z | z
 ·exact z
 ·exact absurd z h.2
 ·exact absurd z h1
theorem Rise.nodup {es:List (Int × Int)} (h:Rise es):es.Nodup:=h.imp fun {p q} z (e:p=q)=>amn q (by rw [e] at z;exact z)
structure WebOk (n:Int) (es:List (Int × Int)):Prop where
 lo:1<=n
 hi:n<=60
 inn:∀ p∈es,0<=p.1/\p.1 < p.2/\p.2 < n
 rise:Rise es
theorem ae2 {n:Nat} {es:List (Int × Int)} (hn:es.Nodup) (hi:∀ p∈es,0<=p.1/\p.1 < (n:Int)/\0<=p.2/\p.2 < (n:Int)):es.length<=n * n:=by
 have h1:(es.map fun (p:Int × Int)=>p.1 * (n:Int)+p.2).Nodup:=by
  unfold List.Nodup
  rw [List.pairwise_map]
  refine List.Pairwise.imp_of_mem ?_ hn
  intro p q hp hq hne e
  have a:=hi p hp
  have b:=hi q hq
  apply hne
  have e1:p.1=q.1:=by
   rcases Int.lt_trichotomy p.1 q.1 with z | z | z
   ·have:(p.1+1) * n<=q.1 * n:=Int.mul_le_mul_of_nonneg_right (by row_cond lo) (by row_cond lo)
    rw [Int.add_mul] at this;row_cond lo
   ·exact z
   ·have:(q.1+1) * n<=p.1 * n:=Int.mul_le_mul_of_nonneg_right (by row_cond lo) (by row_cond lo)
    rw [Int.add_mul] at this;row_cond lo
  rw [e1] at e
  exact Prod.ext e1 (by row_cond lo)
 have:=L2.few_places (n * n) _ h1 fun v hv=>by
  obtain ⟨p,hp,rfl⟩:=List.mem_map.mp hv
  have a:=hi p hp
  have h2:0<=p.1 * (n:Int):=Int.mul_nonneg a.1 (by row_cond lo)
  have h3:(p.1+1) * (n:Int)<=n * n:=Int.mul_le_mul_of_nonneg_right (by row_cond lo) (by row_cond lo)
  rw [Int.add_mul] at h3
  push_cast
  row_cond lo
 simpa using this
theorem WebOk.len {n:Int} {es:List (Int × Int)} (h:WebOk n es):es.length<=3600:=by
 have:=ae2 (n:=n.toNat) h.rise.nodup fun p hp=>by have:=h.inn p hp;have:=h.lo;row_cond lo
 have h2:n.toNat<=60:=by have:=h.hi;row_cond lo
 exact Nat.le_trans this (Nat.mul_le_mul h2 h2)
noncomputable def kE (ps:List (Int × Int)):List (List Key × PyData):=ps.map fun p=>([Sum.inl p.1,Sum.inl p.2],.bool true)
noncomputable def addP (ps:List (Int × Int)) (p:Int × Int):List (Int × Int):=if p∈ps then ps else ps ++ [p]
theorem addP_mem {ps:List (Int × Int)} {p q:Int × Int}:q∈addP ps p ↔ q∈ps\/q=p:=by
 unfold addP
 split
 ·rename_i h
  exact ⟨.inl,fun z=>z.elim id fun e=>e ▸ h⟩
 ·simp
theorem anz {ps:List (Int × Int)} {p:Int × Int} (h:ps.Nodup):(addP ps p).Nodup:=by
 unfold addP
 split
 ·exact h
 ·rename_i hn
  rw [List.nodup_append]
  exact ⟨h,by simp,fun x hx y hy=>by simp at hy;subst hy;rintro rfl;exact hn hx⟩
theorem ad5 (ps:List (Int × Int)):(ps.map p2).map tiD=ps.map prD:=by rw [List.map_map];rfl
theorem aoa {ps:List (Int × Int)}:∀ ns∈ps.map p2,ns ≠ []:=fun ns h=>by
 obtain ⟨p,_,rfl⟩:=List.mem_map.mp h
 simp
section
variable {B:Bs} {env:En} {QO:Sl->En->Prop} {K:PySem.W.Frag} {i:Nat} {ta:TA}
theorem ah9 {ps:List (Int × Int)} (h64:ps.length < 64) (h:EvA B ta env fun ds e=>ds=[.list (ps.map prD)]/\∀ qs:List (Int × Int),qs.Perm ps->lexS (qs.map p2)->QO (.own (OL (qs.map prD))) e):EvO B (tCB (aey K) ta) env QO :=
 ap4 (pss:=ps.map p2) aoa (by rw [List.length_map];exact h64) fun σ G H F Q I k=>h σ G H F Q I fun vs G' H' F' ds e I' g r ⟨h1,q⟩=>k vs G' H' F' ds e I' g r ⟨by rw [ad5];exact h1,fun qss hp hs=>by
  obtain ⟨qs,rfl,hq⟩:=ags hp
  rw [ad5];exact q qs hq hs⟩
end
end VL
namespace VL
open PySem PySem.Spec L2
section
variable {B:Bs} {env:En} {QO:Sl->En->Prop} {Q':PyData->En->Prop} {K:PySem.W.Frag} {i j:Nat} {ta te:TE}
theorem x_ow {ds:List PyData} {e1:En} {R:List PyData->Prop} (e:e1[j]?=some (some (.own (OL ds)))) (q:R ds):∃ ds,e1[j]?=some (some (.own (OL ds)))/\R ds:=⟨ds,e,q⟩
end
section
variable {B:Bs} {env:En} {Q':PyData->En->Prop} {D':VEnds} {i:Nat} {ty tv:TE}
end
section
variable {R:Sl->Prop} {K:PySem.W.Frag}
end
theorem aia (p:Int × Int):aai (prD p)=true:=rfl
theorem aob (ps:List (Int × Int)):plainDs (ps.map prD)=true:=by
 rw [acv]
 intro d hd
 obtain ⟨p,_,rfl⟩:=List.mem_map.mp hd
 rfl
theorem avc (p q:Int × Int):PyData.eqv (prD p) (prD q)=decide (p=q):=by
 rw [Bool.eq_iff_iff,aev _ _ rfl rfl,decide_eq_true_iff]
 constructor
 ·intro h
  simp [prD] at h
  exact Prod.ext h.1 h.2
 ·rintro rfl;rfl
theorem alj {ds:List PyData} {m:Nat} (h:∀ d∈ds,d.depth<=m):PyData.depthAll ds<=m:=by
 induction ds with
 | nil=>simp [PyData.depthAll]
 | cons d ds ih =>
  simp only [PyData.depthAll]
  exact Nat.max_le.mpr ⟨h d List.mem_cons_self,ih fun e he=>h e (List.mem_cons_of_mem _ he)⟩
theorem aib (p:Int × Int):(prD p).depth<=1:=by simp [prD,PyData.depth,PyData.depthAll]
theorem akm {d:PyData} (h:aai d=true):PyData.eqv d d=true:=(aev d d h h).mpr rfl
end VL
namespace VL
end VL
namespace VL
open PySem PySem.Spec L2
section
variable {B:Bs} {env:En} {Q':PyData->En->Prop} {K:PySem.W.Frag} {E:XK} {i:Nat}
end
end VL
namespace VL
open PySem L2
theorem ay7 {B:Bs} {t:TS} {D':VEnds} {e:En} (h:EvS B t D' e):EvS B t D' e:=h
theorem ay8 {B:Bs} {g:TG} {s:Sl} {e:En} {Q:En->Prop} (h:EvG B g s e Q):EvG B g s e Q:=h
theorem axz {B:Bs} {g:TGs} {s:List PyData} {e:En} {Q:En->Prop} (h:EvGs B g s e Q):EvGs B g s e Q:=h
theorem g_Ev {B:Bs} {t:TE} {e:En} {Q:PyData->En->Prop} (h:Ev B t e Q):Ev B t e Q:=h
theorem ay9 {B:Bs} {t:TE} {e:En} {Q:Sl->En->Prop} (h:EvO B t e Q):EvO B t e Q:=h
theorem aza {B:Bs} {t:TT} {e:En} {Q:Bool->En->Prop} (h:EvT B t e Q):EvT B t e Q:=h
theorem azb {B:Bs} {t:TA} {e:En} {Q:List PyData->En->Prop} (h:EvA B t e Q):EvA B t e Q:=h
theorem azc {B:Bs} {t:TI} {e:En} {Q:List PyData->En->Prop} (h:EvI B t e Q):EvI B t e Q:=h
theorem azd {r:R2} {x y:PyData} {R:Sl->Prop} (h:Op2 r x y R):Op2 r x y R:=h
theorem aze {r:List V->Hp->VK->Prop} {x:List PyData} {R:Sl->Prop} (h:OpA r x R):OpA r x R:=h
theorem g_FQ {s:Sl} {R:PyData->Prop} (h:FQ s R):FQ s R:=h
theorem avd {ds:List PyData} {R:List PyData->Prop} (h:ajc ds R):ajc ds R:=h
theorem ave {ds:List PyData} {R:List PyData->Prop} (h:ajd ds R):ajd ds R:=h
end VL
namespace VL
open PySem L2
structure PsOk (n:Int) (ps:List (Int × Int)):Prop where
 nd:ps.Nodup
 inn:∀ p∈ps,0<=p.1/\p.1 < p.2/\p.2 < n
theorem PsOk.nil (n:Int):PsOk n []:=⟨List.nodup_nil,fun p hp=>by simp at hp⟩
theorem PsOk.add {n a b:Int} {ps:List (Int × Int)} (h:PsOk n ps) (h0:0<=a) (h1:a < b) (h2:b < n):PsOk n (addP ps (a,b)) :=
 ⟨anz h.nd,fun p hp=>by
  rcases addP_mem.mp hp with q | q
  ·exact h.inn p q
  ·subst q;exact ⟨h0,h1,h2⟩⟩
theorem PsOk.len {n:Int} {ps:List (Int × Int)} (h:PsOk n ps) (hn:n<=100):ps.length<=10000:=by
 by_cases h0:0<=n
 ·have:=ae2 (n:=n.toNat) h.nd fun p hp=>by have:=h.inn p hp;row_cond lo
  have h2:n.toNat<=100:=by row_cond lo
  exact Nat.le_trans this (Nat.mul_le_mul h2 h2)
 ·cases ps with
  | nil=>simp
  | cons p r => have:=h.inn p List.mem_cons_self; row_cond lo
def Tr (n:Int) (ps:List (Int × Int)):Prop:=∀ k,1<=k->k < n->∃ h,0<=h/\h < k/\(h,k)∈ps
theorem Tr.add {n:Int} {ps:List (Int × Int)} {p:Int × Int} (h:Tr n ps):Tr n (addP ps p):=fun k k1 k2=>by
 obtain ⟨x,a,b,c⟩:=h k k1 k2
 exact ⟨x,a,b,addP_mem.mpr (.inl c)⟩
def Conn (n:Int) (T:Int->Int->Prop):Prop:=∀ u v,0<=u->u < n->0<=v->v < n->∃ k,Gr.Walk T u k v
theorem Tr.conn {n:Int} {ps:List (Int × Int)} (h:Tr n ps):Conn n (Tied ps):=by
 have key:∀ (m:Nat) (v:Int),v=m->v < n->∃ k,Gr.Walk (Tied ps) 0 k v:=by
  intro m
  induction m using Nat.strongRecOn with
  | ind m ih =>
   intro v hv hn
   by_cases h0:m=0
   ·subst h0;have:v=0:=by row_cond lo
    subst this;exact ⟨0,.refl⟩
   ·obtain ⟨x,a,b,c⟩:=h v (by row_cond lo) hn
    obtain ⟨k,w⟩:=ih x.toNat (by row_cond lo) x (by row_cond lo) (by row_cond lo)
    exact ⟨k+1,.step w (.inl c)⟩
 intro u v u0 u1 v0 v1
 obtain ⟨k,w⟩:=key u.toNat u (by row_cond lo) u1
 obtain ⟨j,x⟩:=key v.toNat v (by row_cond lo) v1
 exact ⟨k+j,(w.rev fun _ _ t=>t.symm).app x⟩
theorem Conn.joined {n:Int} {es:List (Int × Int)} (h:Conn n (Tied es)) (h0:0 < n):Joined n es:=fun v v0 v1=>by
 obtain ⟨k,w⟩:=h 0 v (by row_cond lo) (by row_cond lo) v0 v1
 obtain ⟨d,_,hd⟩:=Gr.Dist.of_walk w
 exact ⟨d,hd⟩
theorem Joined.conn {n:Int} {es:List (Int × Int)} (h:Joined n es):Conn n (Tied es):=fun u v u0 u1 v0 v1=>by
 obtain ⟨d,hd⟩:=h u u0 u1
 obtain ⟨e,he⟩:=h v v0 v1
 exact ⟨d+e,(hd.1.rev fun _ _ t=>t.symm).app he.1⟩
theorem Conn.mono {n:Int} {T T':Int->Int->Prop} (h:Conn n T) (g:∀ u v,T u v->T' u v):Conn n T':=fun u v u0 u1 v0 v1=>by
 obtain ⟨k,w⟩:=h u v u0 u1 v0 v1
 exact ⟨k,w.rec .refl fun _ t ih => .step ih (g _ _ t)⟩
def Order (n:Int) (row:List Int):Prop:=row.Perm ((List.range n.toNat).map fun (i:Nat)=>(i:Int))
theorem Order.len {n:Int} {row:List Int} (h:Order n row):row.length=n.toNat:=by have:=h.length_eq;simpa using this
theorem Order.nodup {n:Int} {row:List Int} (h:Order n row):row.Nodup:=by
 refine h.nodup_iff.mpr ?_
 unfold List.Nodup
 rw [List.pairwise_map]
 exact List.nodup_range.imp fun {a b} hab e=>hab (by row_cond lo)
theorem Order.mem {n:Int} {row:List Int} (h:Order n row) {v:Int}:v∈row ↔ 0<=v/\v < n:=by
 rw [h.mem_iff,List.mem_map]
 constructor
 ·rintro ⟨i,hi,rfl⟩
  have:=List.mem_range.mp hi
  row_cond lo
 ·rintro ⟨h0,h1⟩
  exact ⟨v.toNat,List.mem_range.mpr (by row_cond lo),by row_cond lo⟩
theorem Order.get {n:Int} {row:List Int} (h:Order n row) {a:Int} (h0:0<=a) (h1:a < n):∃ x,row[a.toNat]?=some x/\atI row a=some x/\0<=x/\x < n:=by
 have hl:a.toNat < row.length:=by rw [h.len];row_cond lo
 have e:row[a.toNat]?=some row[a.toNat]:=List.getElem?_eq_getElem hl
 have:=h.mem.mp (List.mem_of_getElem? e)
 exact ⟨_,e,ajf h0 e,this.1,this.2⟩
theorem Order.inj {n:Int} {row:List Int} (h:Order n row) {a b x:Int} (a0:0<=a) (b0:0<=b) (ha:row[a.toNat]?=some x) (hb:row[b.toNat]?=some x):a=b:=by
 obtain ⟨l1,e1⟩:=List.getElem?_eq_some_iff.mp ha
 obtain ⟨l2,e2⟩:=List.getElem?_eq_some_iff.mp hb
 have:=nodup_ix h.nodup l1 l2 (e1.trans e2.symm)
 row_cond lo
theorem Order.id (n:Int):Order n ((List.range n.toNat).map fun (i:Nat)=>(i:Int)):=List.Perm.refl _
noncomputable def aaz (row:List Int) (a:Int):Int:=row.getD a.toNat 0
noncomputable def reP (row:List Int) (p:Int × Int):Int × Int:=if aaz row p.1 < aaz row p.2 then (aaz row p.1,aaz row p.2) else (aaz row p.2,aaz row p.1)
theorem Order.at {n:Int} {row:List Int} (h:Order n row) {a:Int} (h0:0<=a) (h1:a < n):row[a.toNat]?=some (aaz row a)/\0<=aaz row a/\aaz row a < n:=by
 obtain ⟨x,e,_,x0,x1⟩:=h.get h0 h1
 have:aaz row a=x:=by unfold aaz;rw [List.getD_eq_getElem?_getD,e];rfl
 rw [this];exact ⟨e,x0,x1⟩
theorem Order.atI {n:Int} {row:List Int} (h:Order n row) {a:Int} (h0:0<=a) (h1:a < n):L2.atI row a=some (aaz row a):=ajf h0 (h.at h0 h1).1
theorem Order.ne {n:Int} {row:List Int} (h:Order n row) {a b:Int} (a0:0<=a) (a1:a < n) (b0:0<=b) (b1:b < n) (hab:a ≠ b):aaz row a ≠ aaz row b:=fun e=>by
 have h1:=(h.at a0 a1).1
 have h2:=(h.at b0 b1).1
 rw [e] at h1
 exact hab (h.inj a0 b0 h1 h2)
theorem PsOk.re {n:Int} {ps:List (Int × Int)} {row:List Int} (h:PsOk n ps) (o:Order n row):PsOk n (ps.map (reP row)):=by
 have inn:∀ p∈ps,0<=(reP row p).1/\(reP row p).1 < (reP row p).2/\(reP row p).2 < n:=fun p hp=>by
  obtain ⟨p0,p1,p2⟩:=h.inn p hp
  have a:=o.at p0 (by row_cond lo)
  have b:=o.at (a:=p.2) (by row_cond lo) p2
  have ne:=o.ne p0 (by row_cond lo) (by row_cond lo) p2 (by row_cond lo)
  unfold reP
  split <;> dsimp only <;> row_cond lo
 refine ⟨?_,fun q hq=>by obtain ⟨p,hp,rfl⟩:=List.mem_map.mp hq;exact inn p hp⟩
 unfold List.Nodup
 rw [List.pairwise_map]
 refine List.Pairwise.imp_of_mem ?_ h.nd
 intro p q hp hq hne e
 apply hne
 obtain ⟨p0,p1,p2⟩:=h.inn p hp
 obtain ⟨q0,q1,q2⟩:=h.inn q hq
 have inj:∀ a b,0<=a->a < n->0<=b->b < n->aaz row a=aaz row b->a=b:=fun a b a0 a1 b0 b1 e=>by
  apply Classical.byContradiction
  intro hab
  exact o.ne a0 a1 b0 b1 hab e
 have d1:=inj p.1 q.1 p0 (by row_cond lo) q0 (by row_cond lo)
 have d2:=inj p.2 q.2 (by row_cond lo) p2 (by row_cond lo) q2
 have d3:=inj p.1 q.2 p0 (by row_cond lo) (by row_cond lo) q2
 have d4:=inj p.2 q.1 (by row_cond lo) p2 q0 (by row_cond lo)
 unfold reP at e
 split at e <;> split at e <;> simp only [Prod.mk.injEq] at e
 ·exact Prod.ext (d1 e.1) (d2 e.2)
 ·have:=d3 e.1;have:=d4 e.2;row_cond lo
 ·have:=d4 e.1;have:=d3 e.2;row_cond lo
 ·exact Prod.ext (d1 e.2) (d2 e.1)
theorem Tied.re {ps:List (Int × Int)} {row:List Int} {u v:Int} (h:Tied ps u v):Tied (ps.map (reP row)) (aaz row u) (aaz row v):=by
 have key:∀ a b,(a,b)∈ps->Tied (ps.map (reP row)) (aaz row a) (aaz row b):=fun a b hm=>by
  have:=List.mem_map_of_mem (f:=reP row) hm
  unfold reP at this
  dsimp only at this
  split at this
  ·exact .inl this
  ·exact .inr this
 rcases h with h | h
 ·exact key u v h
 ·exact (key v u h).symm
theorem Conn.re {n:Int} {ps:List (Int × Int)} {row:List Int} (h:Conn n (Tied ps)) (o:Order n row):Conn n (Tied (ps.map (reP row))):=fun u v u0 u1 v0 v1=>by
 have back:∀ x,0<=x->x < n->∃ a,0<=a/\a < n/\aaz row a=x:=fun x x0 x1=>by
  obtain ⟨i,hi,e⟩:=List.mem_iff_getElem.mp (o.mem.mpr ⟨x0,x1⟩)
  refine ⟨i,by row_cond lo,by rw [o.len] at hi;row_cond lo,?_⟩
  unfold aaz
  simp [hi,e]
 obtain ⟨a,a0,a1,rfl⟩:=back u u0 u1
 obtain ⟨b,b0,b1,rfl⟩:=back v v0 v1
 obtain ⟨k,w⟩:=h a b a0 a1 b0 b1
 exact ⟨k,w.rec .refl fun _ t ih => .step ih t.re⟩
theorem Tied.perm {qs ps:List (Int × Int)} (h:qs.Perm ps) {u v:Int}:Tied qs u v ↔ Tied ps u v:=by unfold Tied;rw [h.mem_iff,h.mem_iff]
theorem asb {n:Int} {ps qs:List (Int × Int)} (h0:1<=n) (h1:n<=60) (h:PsOk n ps) (hp:qs.Perm ps) (hs:lexS (qs.map p2)):WebOk n qs:=⟨h0,h1,fun p hm=>h.inn p (hp.mem_iff.mp hm),avb hp h.nd hs⟩
theorem WebOk.ps {n:Int} {es:List (Int × Int)} (h:WebOk n es):PsOk n es:=⟨h.rise.nodup,h.inn⟩
theorem agt {α:Type}:∀ {l:List α} {k:Nat} {x : α},l[k]?=some x->(x :: l.eraseIdx k).Perm l
 | [],_,_,h=>by simp at h
 | a :: l,0,x,h=>by simp at h;subst h;exact List.Perm.refl _
 | a :: l,k+1,x,h=>by
  have ih:=agt (l:=l) (k:=k) (x:=x) (by simpa using h)
  exact (List.Perm.swap a x _).trans (ih.cons a)
theorem aoc {n:Int} {row left:List Int} {k:Nat} {x:Int} (h:Order n (row ++ left)) (hx:left[k]?=some x):Order n ((row ++ [x]) ++ left.eraseIdx k):=by
 refine List.Perm.trans ?_ h
 rw [List.append_assoc]
 refine List.Perm.append_left row ?_
 exact agt hx
section
variable {B:Bs} {env:En} {g:TG} {tif:TT} {te:TE} {K:PySem.W.Frag} {src:List (Option Nat)} {ds:List PyData} {e1:En} {R:List PyData->En->Prop}
end
theorem avf (n:Nat):rngD 0 n=((List.range n).map fun (i:Nat)=>(i:Int)).map PyData.int:=by simp [rngD]
theorem ad6 {B:Bs} {g:TG} {A:Own} {d:PyData} {env:En} {QE:En->Prop} (f:Frz A d) (h:EvG B g (.st d) env QE):EvG B g (.own A) env QE:=fun σ G H F v Fv Q I x k =>
 h σ _ H F v _ Q (I.freeze x.fb x.fd x.fg) (aci (f G H v Fv x.ok x.fg I.gh)) fun σ' G' H' F' e' I' g' q=>k σ' G' H' F' e' I' ((abu x.fg).trans g') q
theorem cutR {R X:Prop} (h:R->X) (r:R):X:=h r
end VL
namespace VL
open PySem PySem.Spec L2
def ado (e:En):Prop:=∀ (j:Nat) (s:Sl),e[j]?=some (some s)->(∃ d,s=.st d)\/∃ ns:List Int,s=.scr ns
def Sls (K:PySem.W.Frag) (G:Hp) (σ:St) (e:En):Prop:=∀ (j:Nat) (s:Sl),e[j]?=some (some s)->∃ v,σ[j]?=some (some v)/\((∃ d,s=.st d/\Rp G v d)\/∃ (ns:List Int) (a:Addr),s=.scr ns/\v=.ref a/\SqL K G a (ns.map V.int))
theorem Sls.same {K:PySem.W.Frag} {G G':Hp} {σ:St} {e:En} (h:Sls K G σ e) (g:Same G G'):Sls K G' σ e:=fun j s es=>by
 obtain ⟨v,hv,q⟩:=h j s es
 refine ⟨v,hv,?_⟩
 rcases q with ⟨d,e1,r⟩ | ⟨ns,a,e1,e2,r⟩
 ·exact .inl ⟨d,e1,r.same g⟩
 ·exact .inr ⟨ns,a,e1,e2,g.seq r⟩
noncomputable def bsC (K:PySem.W.Frag) (G H:Hp) (σ:St):Bs:=⟨K,G,H,H,σ,noF⟩
theorem aic {K:PySem.W.Frag} {G H:Hp} {σ:St} {e:En} (gh:Same G H) (ft:FT G H) (ln : σ.length=e.length) (sl:Sls K G σ e):VI (bsC K G H σ) G H σ e noF:=by
 refine ⟨gh,Same.refl _,fun a o e => .inl e,Same.refl _,Same.refl _,fun a o e=>⟨o,e⟩,fun i a z=>z.elim,fun i a z=>z.elim,fun i j a z=>z.elim,fun i a z=>z.elim,fun i s es=>?_,ln,ft⟩
 obtain ⟨v,hv,q⟩:=sl i s es
 refine ⟨v,hv,?_⟩
 rcases q with ⟨d,e1,r⟩ | ⟨ns,a,e1,e2,r⟩
 ·subst e1;exact ⟨r,fun a z=>z⟩
 ·subst e1;exact ⟨⟨a,e2,r⟩,fun a z=>z⟩
theorem agu {B:Bs} {K:PySem.W.Frag} {G H:Hp} {σ:St} {e:En} {F:Nat->Addr->Prop} (I:VI B G H σ e F) (c:ado e) (hK:B.K=K:=by rfl):Sls K G σ e:=fun j s es=>by
 subst hK
 obtain ⟨v,hv,q⟩:=I.sl j s es
 refine ⟨v,hv,?_⟩
 rcases c j s es with ⟨d,rfl⟩ | ⟨ns,rfl⟩
 ·exact .inl ⟨d,rfl,q.1⟩
 ·obtain ⟨⟨a,ea,sq⟩,_⟩:=q
  exact .inr ⟨ns,a,rfl,ea,sq⟩
def LcV2 (K:PySem.W.Frag) (src:List (Option Nat)) (g:TG) (tif:TT) (wi2:TI) (g2:TG) (tif2:TT) (te:TE) (ds:List PyData) (e1:En) (R:List PyData->Prop):Prop:=∃ J:Nat->List PyData->En->Prop,J 0 [] (aao src e1)/\(∀ i ys e,J i ys e->ado e) /\
 (∀ i d ys e,ds[i]?=some d->J i ys e->∀ B':Bs,B'.K=K->EvG B' g (.st d) e fun e2=>EvT B' tif e2 fun b e3=>if b=true then EvI B' wi2 e3 fun ds2 e4=>∃ J2:Nat->List PyData->En->Prop,J2 0 ys e4/\(∀ j ys e,J2 j ys e->ado e) /\
  (∀ j d2 ys2 e,ds2[j]?=some d2->J2 j ys2 e->∀ B2:Bs,B2.K=K->EvG B2 g2 (.st d2) e fun e5=>EvT B2 tif2 e5 fun b e6=>if b=true then Ev B2 te e6 fun y e7=>ys2.length<=999999/\J2 (j+1) (ys2 ++ [y]) e7 else J2 (j+1) ys2 e6)/\(∀ ys2 e,J2 ds2.length ys2 e->J (i+1) ys2 e) else J (i+1) ys e3)/\∀ ys e,J ds.length ys e->R ys
section
variable {B:Bs} {env:En}
theorem amp {src:List (Option Nat)} {wi:TI} {g:TG} {tif:TT} {wi2:TI} {g2:TG} {tif2:TT} {te:TE} {QO:Sl->En->Prop} (h:EvI B wi env fun ds e1=>LcV2 B.K src g tif wi2 g2 tif2 te ds e1 fun ys=>QO (.own (OL ys)) e1):EvO B (tLC2 src wi g tif wi2 g2 tif2 te) env QO:=fun σ G H F Q I k=>by
 refine h σ G H F _ I fun J G1 H1 F1 ds e1 I1 g1 it ⟨Jv,j0,jc,js,jd⟩ acc hacc=>?_
 have fa:∀ j,¬ F1 j acc:=I1.no_f hacc
 have hb:B.H acc=none:=I1.no_b hacc
 -- between two turns
 let Wv:(List PyData->En->Prop)->List V->St->Hp->Prop:=fun J ys σI H=>∃ G2 e yd,VI B G2 H σ e1 F1/\Same G1 G2/\H acc=some (.lst ys)/\Rps G2 ys yd/\G2 acc=none/\J yd e/\σI.length=e.length/\Sls B.K G2 σI e
 -- out of a frame within
 have leave:∀ {G3 H3:Hp} {σI:St} {ys:List V},VI B G3 H3 σ e1 F1->G3 acc=none->H3 acc=some (.lst ys)->∀ {G4 H4:Hp} {σ4:St} {F4:Nat->Addr->Prop} {e4:En},VI (bsC B.K G3 H3 σI) G4 H4 σ4 e4 F4->VI B G4 H4 σ e1 F1/\G4 acc=none/\H4 acc=some (.lst ys):=by
  intro G3 H3 σI ys I3 ga ac G4 H4 σ4 F4 e4 I4
  refine ⟨I3.grow I4.g0 I4.gh I4.rs I4.gn I4.ft,?_,I4.rs _ _ ac⟩
  cases e':G4 acc with
  | none=>rfl
  | some u =>
   rcases I4.gn acc u e' with q | q
   ·change G3 acc=_ at q;rw [ga] at q;cases q
   ·change H3 acc=_ at q;rw [ac] at q;cases q
 have step:∀ {G2 H2:Hp} {ys:List V} {x:V} {G3 H3:Hp} {d:PyData},VI B G2 H2 σ e1 F1->G2 acc=none->H2 acc=some (.lst ys)->Out G2 H2 x G3 H3 (.st d) (fun _=>False)->VI B G3 H3 σ e1 F1/\G3 acc=none/\H3 acc=some (.lst ys):=by
  intro G2 H2 ys x G3 H3 d I2 ga ac o
  refine ⟨(I2.out o).1,?_,o.hh _ _ ac⟩
  cases e':G3 acc with
  | none=>rfl
  | some u =>
   rcases o.gn acc u e' with q | q
   ·rw [ga] at q;cases q
   ·rw [ac] at q;cases q
 refine ⟨fun i m ys σI H=>m=ds.length - i/\i<=ds.length/\Wv (Jv i) ys σI H,⟨ds.length,by simp,Nat.zero_le _,?_⟩,?_⟩
 ·refine ⟨G1,aao src e1,[],I1.aside (fun _ z=>nomatch z) (I1.no_g hacc) fa hb,Same.refl _,aag,.nil,I1.no_g hacc,j0,by simp [pick,aao],fun j s e=>?_⟩
  obtain ⟨i,t,hs,ht,hp⟩:=aez e
  obtain ⟨v,hv,q⟩:=I1.sl i t ht
  refine ⟨v,aki hs hv,?_⟩
  cases t with
  | st d=>cases hp;exact .inl ⟨d,rfl,q.1⟩
  | scr ns =>
   cases hp
   obtain ⟨⟨a,ea,sq⟩,_⟩:=q
   exact .inr ⟨ns,a,rfl,ea,sq⟩
  | own A=>cases hp;rcases jc _ _ _ j0 j _ e with ⟨d,z⟩ | ⟨ns,z⟩ <;> cases z
  | io A=>cases hp;rcases jc _ _ _ j0 j _ e with ⟨d,z⟩ | ⟨ns,z⟩ <;> cases z
 ·rintro i m ys σI H2 ⟨rfl,hi,G2,e,yd,I2,g2',hac,ry,ga,jv,ln,sl⟩
  by_cases hlt:i < ds.length
  ·refine .inr ⟨it.go i G2 H2 g2' I2.gh hlt,Wv (Jv (i+1)),fun ys' σ' H' hw=>⟨ds.length - (i+1),by row_cond lo,rfl,hlt,hw⟩,fun x H3 y=>?_⟩
   obtain ⟨G3,o⟩:=it.yld i G2 H2 x H3 _ g2' I2.gh I2.ft (List.getElem?_eq_getElem hlt) y
   obtain ⟨I3,ga3,ac3⟩:=step I2 ga hac o
   have E3:=aic (K:=B.K) I3.gh I3.ft ln (sl.same o.gg)
   refine js i _ yd e (List.getElem?_eq_getElem hlt) jv (bsC B.K G3 H3 σI) rfl σI G3 H3 _ x _ _ E3 (aci o.ok.1) fun σ4 G4 H4 F4 e4 I4 g4 q4=>?_
   refine q4 σ4 G4 H4 F4 _ I4 fun b G5 H5 F5 e5 I5 g5 q5=>?_
   have ry5:=ry.same (o.gg.trans (g4.trans g5))
   have s5:=g2'.trans (o.gg.trans (g4.trans g5))
   cases b with
   | false =>
    rw [if_neg Bool.false_ne_true] at q5 ⊢
    obtain ⟨K5,ga5,ac5⟩:=leave I3 ga3 ac3 I5
    exact ⟨G5,e5,yd,K5,s5,ac5,ry5,ga5,q5,I5.ln,agu I5 (jc _ _ _ q5)⟩
   | true =>
    rw [if_pos rfl] at q5 ⊢
    refine q5 σ4 G5 H5 F5 _ I5 fun J2 G6 H6 F6 ds2 e6 I6 g6 it2 ⟨Jw,w0,wc,ws,wd⟩=>?_
    obtain ⟨K6,ga6,ac6⟩:=leave I3 ga3 ac3 I6
    have s6:=s5.trans g6
    let Wi:Nat->List V->St->Hp->Prop:=fun j ys σI H=>∃ G2 e yd,VI B G2 H σ e1 F1/\Same G6 G2/\H acc=some (.lst ys)/\Rps G2 ys yd/\G2 acc=none/\Jw j yd e/\σI.length=e.length/\Sls B.K G2 σI e
    refine ⟨fun j m ys σI H=>m=ds2.length - j/\j<=ds2.length/\Wi j ys σI H,⟨ds2.length,by simp,Nat.zero_le _,G6,e6,yd,K6,Same.refl _,ac6,ry5.same g6,ga6,w0,I6.ln,agu I6 (wc _ _ _ w0)⟩,?_⟩
    rintro j m zs σJ H7 ⟨rfl,hj,G7,e7,zd,I7,g7,ac7,rz,ga7,jw,ln7,sl7⟩
    refine ⟨ac7,?_⟩
    by_cases hlt2:j < ds2.length
    ·refine .inr ⟨it2.go j G7 H7 g7 I7.gh hlt2,Wi (j+1),fun ys' σ' H' hw=>⟨ds2.length - (j+1),by row_cond lo,rfl,hlt2,hw⟩,fun x2 H8 y2=>?_⟩
     obtain ⟨G8,o2⟩:=it2.yld j G7 H7 x2 H8 _ g7 I7.gh I7.ft (List.getElem?_eq_getElem hlt2) y2
     obtain ⟨I8,ga8,ac8⟩:=step I7 ga7 ac7 o2
     have E8:=aic (K:=B.K) I8.gh I8.ft ln7 (sl7.same o2.gg)
     refine ws j _ zd e7 (List.getElem?_eq_getElem hlt2) jw (bsC B.K G8 H8 σJ) rfl σJ G8 H8 _ x2 _ _ E8 (aci o2.ok.1) fun σ9 G9 H9 F9 e9 I9 g9 q9=>?_
     refine q9 σ9 G9 H9 F9 _ I9 fun b GA HA FA eA IA gA qA=>?_
     cases b with
     | false =>
      rw [if_neg Bool.false_ne_true] at qA ⊢
      obtain ⟨KA,gaA,acA⟩:=leave I8 ga8 ac8 IA
      have sA:=o2.gg.trans (g9.trans gA)
      exact ⟨GA,eA,zd,KA,g7.trans sA,acA,rz.same sA,gaA,qA,IA.ln,agu IA (wc _ _ _ qA)⟩
     | true =>
      rw [if_pos rfl] at qA ⊢
      refine qA σ9 GA HA FA _ IA fun yv GB HB FB dB eB IB gB rB ⟨lB,qB⟩=>?_
      obtain ⟨KB,gaB,acB⟩:=leave I8 ga8 ac8 IB
      have sB:=o2.gg.trans (g9.trans (gA.trans gB))
      have rzB:=rz.same sB
      refine ⟨acB,by rw [rzB.length];exact Nat.lt_of_le_of_lt lB (by decide),GB,eB,zd ++ [dB],KB.aside (fun _ z=>nomatch z) gaB fa hb,g7.trans sB,aag,rzB.append (.cons rB .nil),gaB,qB,IB.ln,agu IB (wc _ _ _ qB)⟩
    ·have ej:j=ds2.length:=by row_cond lo
     subst ej
     refine .inl ⟨it2.stop _ G7 H7 g7 I7.gh rfl,G7,e7,zd,I7,s6.trans g7,ac7,rz,ga7,wd _ _ jw,ln7,sl7⟩
  ·have ei:i=ds.length:=by row_cond lo
   subst ei
   refine .inl ⟨it.stop _ G2 H2 g2' I2.gh rfl,?_⟩
   refine k (.ref acc) G2 H2 F1 (· = acc) (.own (OL yd)) e1 I2 (g1.trans g2') ⟨⟨acc,ys,rfl,hac,ry,fun b=>Iff.rfl⟩,fun a z=>by rw [z];exact hb,fun a z=>by rw [z];exact ga,fun a z=>by rw [z];exact ⟨_,hac⟩,fun j a z=>by rw [z];exact fa j⟩ (jd _ _ jv)
end
theorem abg {o:Option PyData} {e:En} (h:ado e):ado (stO o :: e):=fun j s es=>by
 cases j with
 | zero =>
  cases o with
  | none=>simp [stO] at es
  | some d =>
   have:s=.st d:=by simpa [stO] using es.symm
   exact .inl ⟨d,this⟩
 | succ j=>exact h j s (by simpa using es)
section
variable {B:Bs} {env:En} {Q':PyData->En->Prop} {QO:Sl->En->Prop} {c:TT} {ta tb:TE}
theorem ax0 {src:List (Option Nat)} {wi:TI} {g:TG} {tif:TT} {wi2:TI} {g2:TG} {tif2:TT} {te:TE} (h:EvI B wi env fun ds e1=>LcV2 B.K src g tif wi2 g2 tif2 te ds e1 fun ys=>Q' (.list ys) e1):Ev B (tLC2 src wi g tif wi2 g2 tif2 te) env Q':=abz (amp fun σ G H F R I k=>h σ G H F R I fun J G1 H1 F1 ds e1 I1 g1 it ⟨Jv,a,b,c,d⟩=>k J G1 H1 F1 ds e1 I1 g1 it ⟨Jv,a,b,c,fun ys e q=>adf (d ys e q)⟩)
end
noncomputable def ax1 (e:En):Bool:=e.all fun o=>match o with | some (.own _)=>false | some (.io _)=>false | _=>true
theorem ap8 {e:En} (h:ax1 e=true):ado e:=fun j s es=>by
 have:=List.all_eq_true.mp h (some s) (List.mem_of_getElem? es)
 cases s with
 | st d=>exact .inl ⟨d,rfl⟩
 | scr ns=>exact .inr ⟨ns,rfl⟩
 | own A=>simp at this
 | io A=>simp at this
end VL
namespace VL
open PySem PySem.Spec L2 PyProof.Rows
theorem ad7 {G:Hp}:∀ {vs:List V} {ds:List PyData} {i:Nat} {v:V} {d:PyData},Rps G vs ds->vs[i]?=some v->ds[i]?=some d->Rp G v d
 | _,_,0,_,_,.cons r _,e1,e2=>by simp at e1 e2;subst e1 e2;exact r
 | _,_,i+1,_,_,.cons _ t,e1,e2=>ad7 t (i:=i) (by simpa using e1) (by simpa using e2)
theorem asd {K:PySem.W.Frag} {ds:List PyData} {R:Sl->Prop} (hc:∀ d∈ds,∀ e∈ds,cmpD d e=true) (hp:∀ d∈ds,aai d=true/\d.depth<=60) (h0:ds=[]->R (.st .none)) (h1:∀ d,ds[argBest (HT.btD ds) (ds.length - 1)]?=some d->R (.st d)):OpA (ant K) [.list ds] R:=fun G H vs Q gh rs k=>by
 cases rs with
 | cons r t =>
  cases t
  cases r with
  | @lst a xs ds ha ra =>
   have hl:=ra.length
   refine ⟨a,xs,ds,rfl,SqL.of (gh _ _ ha),hl,fun i v d ev ed=>((ad7 ra ev ed).rep (hp d (List.mem_of_getElem? ed)).1).same gh,hc,hp,fun e=>?_,fun v ev=>?_⟩
   ·exact k _ _ _ _ _ (Out.refl gh .non) (h0 (List.length_eq_zero_iff.mp (by rw [← hl,e];rfl)))
   ·rw [hl] at ev
    have hi:=(List.getElem?_eq_some_iff.mp ev).1
    have ed:ds[argBest (HT.btD ds) (ds.length - 1)]?=some (ds[argBest (HT.btD ds) (ds.length - 1)]'(by row_cond lo)):=List.getElem?_eq_getElem (by row_cond lo)
    exact k _ _ _ _ _ (Out.refl gh (ad7 ra ev ed)) (h1 _ ed)
theorem ase {K:PySem.W.Frag} {ds:List PyData} {R:Sl->Prop} (hc:∀ d∈ds,∀ e∈ds,cmpD d e=true) (hp:∀ d∈ds,aai d=true/\d.depth<=60) (h0:ds ≠ []) (h1:∀ d,ds[argBest (HT.btD ds) (ds.length - 1)]?=some d->R (.st d)):OpA (anu K) [.list ds] R:=fun G H vs Q gh rs k=>by
 cases rs with
 | cons r t =>
  cases t
  cases r with
  | @lst a xs ds ha ra =>
   have hl:=ra.length
   refine ⟨a,xs,ds,rfl,SqL.of (gh _ _ ha),hl,fun i v d ev ed=>((ad7 ra ev ed).rep (hp d (List.mem_of_getElem? ed)).1).same gh,hc,hp,fun e=>?_,fun v ev=>?_⟩
   ·exact h0 (List.length_eq_zero_iff.mp (by rw [← hl,e];rfl))
   ·rw [hl] at ev
    have hi:=(List.getElem?_eq_some_iff.mp ev).1
    have ed:ds[argBest (HT.btD ds) (ds.length - 1)]?=some (ds[argBest (HT.btD ds) (ds.length - 1)]'(by row_cond lo)):=List.getElem?_eq_getElem (by row_cond lo)
    exact k _ _ _ _ _ (Out.refl gh (ad7 ra ev ed)) (h1 _ ed)
theorem amq {bt:Nat->Nat->Bool}:∀ (m:Nat),argBest bt m<=m
 | 0=>Nat.le_refl _
 | m+1=>by
  have:=amq (bt:=bt) m
  simp only [argBest]
  split <;> row_cond lo
theorem amr {bt:Nat->Nat->Bool} {n:Nat} (ir:∀ i,i < n->bt i i=false) (tr:∀ i j k,i < n->j < n->k < n->bt i j=true->bt j k=true->bt i k=true):∀ (m:Nat),m < n->∀ i,i<=m->bt i (argBest bt m)=false
 | 0,hm,i,hi=>by
  have:i=0:=by row_cond lo
  subst this;exact ir 0 hm
 | m+1,hm,i,hi=>by
  have ih:=amr ir tr m (by row_cond lo)
  have hb:=amq (bt:=bt) m
  simp only [argBest]
  by_cases h:bt (m+1) (argBest bt m)=true
  ·rw [if_pos h]
   by_cases hi':i=m+1
   ·subst hi';exact ir _ hm
   ·cases e:bt i (m+1) with
    | false=>rfl
    | true =>
     have:=tr i (m+1) (argBest bt m) (by row_cond lo) hm (by row_cond lo) e h
     rw [ih i (by row_cond lo)] at this;cases this
  ·rw [if_neg h]
   by_cases hi':i=m+1
   ·subst hi';simpa using h
   ·exact ih i (by row_cond lo)
noncomputable abbrev Z3:=Int × (Int × Int)
@[reducible] noncomputable def z3D (z:Z3):PyData:=.tuple [.int z.1,prD z.2]
def lt3 (y z:Z3):Prop:=y.1 < z.1\/(y.1=z.1/\ltP y.2 z.2)
theorem avg (z:Z3):¬ lt3 z z:=by
 rintro (h | ⟨_,h⟩)
 ·row_cond lo
 ·exact amn _ h
theorem ax2 {x y z:Z3} (h:lt3 x y) (g:lt3 y z):lt3 x z:=by
 rcases h with h | ⟨h,h'⟩ <;> rcases g with g | ⟨g,g'⟩
 ·exact .inl (by row_cond lo)
 ·exact .inl (by row_cond lo)
 ·exact .inl (by row_cond lo)
 ·exact .inr ⟨by row_cond lo,axy h' g'⟩
theorem avh (y z:Z3):lt3 y z\/y=z\/lt3 z y:=by
 rcases Int.lt_trichotomy y.1 z.1 with h | h | h
 ·exact .inl (.inl h)
 ·rcases amo y.2 z.2 with g | g | g
  ·exact .inl (.inr ⟨h,g⟩)
  ·exact .inr (.inl (Prod.ext h g))
  ·exact .inr (.inr (.inr ⟨h.symm,g⟩))
 ·exact .inr (.inr (.inl h))
theorem ax3 (y z:Z3):ltv (z3D y) (z3D z)=true ↔ lt3 y z:=by
 obtain ⟨a,b,c⟩:=y
 obtain ⟨d,e,f⟩:=z
 simp only [z3D,prD,ltv,ltvs,PyData.eqv,lt3,ltP]
 by_cases h1:a=d <;> by_cases h2:b=e <;> by_cases h3:c=f <;> simp [h1,h2,h3,ltv,ltvs,PyData.eqv,PyData.eqvAll] <;> row_cond lo
theorem z3_ok {zs:List Z3}:(∀ d∈zs.map z3D,∀ e∈zs.map z3D,cmpD d e=true)/\∀ d∈zs.map z3D,aai d=true/\d.depth<=60:=by
 refine ⟨fun d hd e he=>?_,fun d hd=>?_⟩
 ·obtain ⟨y,_,rfl⟩:=List.mem_map.mp hd
  obtain ⟨z,_,rfl⟩:=List.mem_map.mp he
  simp [cmpD,cmpDs]
 ·obtain ⟨y,_,rfl⟩:=List.mem_map.mp hd
  exact ⟨rfl,by simp [PyData.depth,PyData.depthAll]⟩
theorem ams {zs:List Z3} {d:PyData} (ed:(zs.map z3D)[argBest (HT.btD (zs.map z3D)) ((zs.map z3D).length - 1)]?=some d):∃ z∈zs,d=z3D z/\∀ y∈zs,¬ lt3 y z:=by
 have hg:∀ i j,i < zs.length->j < zs.length->(HT.btD (zs.map z3D) i j=true ↔ lt3 (zs.getD i (0,0,0)) (zs.getD j (0,0,0))):=fun i j hi hj=>by
  rw [← ax3]
  unfold HT.btD
  rw [List.getD_eq_getElem?_getD,List.getD_eq_getElem?_getD,List.getD_eq_getElem?_getD,List.getD_eq_getElem?_getD,List.getElem?_map,List.getElem?_map,List.getElem?_eq_getElem hi,List.getElem?_eq_getElem hj]
  simp
 rw [List.length_map] at ed
 generalize hk:argBest (HT.btD (zs.map z3D)) (zs.length - 1)=b at ed
 rw [List.getElem?_map] at ed
 cases ez:zs[b]? with
 | none=>rw [ez] at ed;cases ed
 | some z =>
  rw [ez] at ed
  cases ed
  have hb:=(List.getElem?_eq_some_iff.mp ez).1
  refine ⟨z,List.mem_of_getElem? ez,rfl,fun y hy hlt=>?_⟩
  obtain ⟨i,hi,ey⟩:=List.mem_iff_getElem.mp hy
  have key:=amr (bt:=HT.btD (zs.map z3D)) (n:=zs.length) (fun i hi=>by
    cases e:HT.btD (zs.map z3D) i i with
    | false=>rfl
    | true => exact absurd ((hg i i hi hi).mp e) (avg _)) (fun i j k hi hj hk' a b => (hg i k hi hk').mpr (ax2 ((hg i j hi hj).mp a) ((hg j k hj hk').mp b))) (zs.length - 1) (by row_cond lo) i (by row_cond lo)
  rw [hk] at key
  have:HT.btD (zs.map z3D) i b=true:=(hg i b hi hb).mpr (by
   rw [List.getD_eq_getElem?_getD,List.getD_eq_getElem?_getD,ez,List.getElem?_eq_getElem hi]
   simpa [ey] using hlt)
  rw [key] at this;cases this
theorem asf {K:PySem.W.Frag} {zs:List Z3} {R:Sl->Prop} (h0:zs=[]->R (.st .none)) (h1:∀ z∈zs,(∀ y∈zs,¬ lt3 y z)->R (.st (z3D z))):OpA (ant K) [.list (zs.map z3D)] R :=
 asd z3_ok.1 z3_ok.2 (fun e=>h0 (by simpa using e)) fun d ed=>by
  obtain ⟨z,hz,rfl,hm⟩:=ams ed
  exact h1 z hz hm
theorem ap9 {K:PySem.W.Frag} {zs:List Z3} {R:Sl->Prop} (h0:zs ≠ []) (h1:∀ z∈zs,(∀ y∈zs,¬ lt3 y z)->R (.st (z3D z))):OpA (anu K) [.list (zs.map z3D)] R :=
 ase z3_ok.1 z3_ok.2 (by simpa using h0) fun d ed=>by
  obtain ⟨z,hz,rfl,hm⟩:=ams ed
  exact h1 z hz hm
end VL
namespace VL
open PySem PySem.Spec L2
section
variable {B:Bs} {env:En} {QO:Sl->En->Prop} {i:Nat}
end
end VL
namespace VL
open PySem PySem.Spec L2
end VL
namespace VL
open PySem PySem.Spec L2
section
variable {X:Cx}
end
section
variable {R:Sl->Prop}
end
end VL
namespace L2
open PySem PySem.Spec PyProof.Rows
section
variable {X:Cx}
variable {e est:Expr} {te:TE} {ts:TO} {pos p2:Pos}
end
end L2
namespace VL
open PySem PySem.Spec L2
section
variable {B:Bs} {env:En} {QO:Sl->En->Prop} {Q':PyData->En->Prop} {te tl:TE} {ts:TO} {K:PySem.W.Frag} {i:Nat}
end
end VL
namespace VL
open PySem PySem.Spec L2
theorem ati {α:Type} [DecidableEq α]:∀ {as bs:List α},as.Nodup->(∀ a∈as,a∈bs)->as.length<=bs.length
 | [],_,_,_=>Nat.zero_le _
 | a :: as,bs,hn,hs=>by
  have ha:a∈bs:=hs a (List.mem_cons_self ..)
  have hn':=List.nodup_cons.mp hn
  have h:=ati (bs:=bs.erase a) hn'.2 fun x hx=>(List.mem_erase_of_ne (show x ≠ a from fun e=>hn'.1 (by rw [← e];exact hx))).mpr (hs x (List.mem_cons_of_mem _ hx))
  rw [List.length_erase_of_mem ha] at h
  have:0 < bs.length:=List.length_pos_of_mem ha
  simp only [List.length_cons]
  row_cond lo
structure But (n:Int) (es rem:List (Int × Int)):Prop where
 rise:Rise es
 inn:∀ p∈es,0<=p.1/\p.1 < p.2/\p.2 < n
 all:∀ p:Int × Int,0<=p.1->p.1 < p.2->p.2 < n->p∈es\/p∈rem
theorem But.len {n:Int} {es rem:List (Int × Int)} (h:But n es rem) (hn:8<=n) (hr:rem.length<=5):2<=es.length:=by
 have:=ati (as:=[((0:Int),(1:Int)),(0,2),(0,3),(0,4),(0,5),(0,6),(0,7)]) (bs:=es ++ rem) (by decide) (fun p hp=>by
  have:0<=p.1/\p.1 < p.2/\p.2 < 8:=by
   simp only [List.mem_cons,List.not_mem_nil,or_false] at hp
   rcases hp with rfl | rfl | rfl | rfl | rfl | rfl | rfl <;> decide
  exact List.mem_append.mpr (h.all p this.1 this.2.1 (by row_cond lo)))
 simp at this
 row_cond lo
end VL
namespace PopT
open PySem PyProof.Rows
section
variable {prog:Program} {w:World} {K:Type} [DecidableEq K] {knd:HeapKind prog w K} {A:Around} {E:Value->Shared->Prop} {s:Shared}
end
end PopT
namespace L2
open PySem PySem.Spec PySem.W PyProof.Rows
theorem KT.at {H:Hp} {kvs:List (List Key × V)} {xs:List (List Key × Addr × Value)} (r:KT H kvs xs):∀ {j:Nat} {k:List Key} {v:V},kvs[j]?=some (k,v)->∃ p:Addr × Value,xs[j]?=some (k,p)/\RelV v p.2:=by
 induction r with
 | nil=>intro j k v e;simp at e
 | @cons p q ps qs hq t ih =>
  intro j k v e
  cases j with
  | zero =>
   have e:p=(k,v):=by simpa using e
   subst e
   exact ⟨q.2,by rw [List.getElem?_cons_zero,show k=q.1 from hq.1],hq.2.2⟩
  | succ j=>exact ih (by simpa using e)
theorem KT.erase {H:Hp} {kvs:List (List Key × V)} {xs:List (List Key × Addr × Value)} (r:KT H kvs xs):∀ (j:Nat),KT H (kvs.eraseIdx j) (xs.eraseIdx j):=by
 induction r with
 | nil=>intro j;exact .nil
 | @cons p q ps qs hq t ih =>
  intro j
  cases j with
  | zero=>exact t
  | succ j=>exact .cons hq (ih j)
section
variable {X:Cx} {pins:List (Addr × Obj)} {σ:St} {H:Hp} {s:Shared} {a b:Addr} {A:Around} {E:Value->Shared->Prop}
end
section
variable {X:Cx} {o e f:Expr} {apos cpos:Pos} {td ty tx:TE}
end
end L2
namespace DNe
open PySem PyProof.Rows
end DNe
namespace L2
open PySem PySem.Spec PySem.W PyProof.Rows
end L2
namespace DNe
open PySem PyProof.Rows
section
variable {prog:Program} {w:World} {A:Around} {E:Value->Shared->Prop} {s:Shared}
end
end DNe
namespace L2
open PySem PySem.Spec PySem.W PyProof.Rows
end L2
namespace VL
open PySem PySem.Spec L2
section
variable {B:Bs} {env:En} {Q':PyData->En->Prop} {QO:Sl->En->Prop} {i:Nat} {ty:TE}
theorem RpT.at {G:Hp}:∀ {kvs:List (List Key × V)} {es:List (List Key × PyData)},RpT G kvs es->∀ {j:Nat} {ks:List Key} {d:PyData},es[j]?=some (ks,d)->∃ v,kvs[j]?=some (ks,v)/\Rp G v d
 | _,_,.nil,j,ks,d,e=>by simp at e
 | _,_,.cons (k:=k) (v:=v) (d:=d0) h t,0,ks,d,e=>by
  have e:(k,d0)=(ks,d):=by simpa using e
  cases e
  exact ⟨v,rfl,h⟩
 | _,_,.cons h t,j+1,ks,d,e=>by
  obtain ⟨v,e1,r⟩:=RpT.at t (j:=j) (by simpa using e)
  exact ⟨v,by simpa using e1,r⟩
theorem RpT.erase {G:Hp}:∀ {kvs:List (List Key × V)} {es:List (List Key × PyData)},RpT G kvs es->∀ (j:Nat),RpT G (kvs.eraseIdx j) (es.eraseIdx j)
 | _,_,.nil,_ => .nil
 | _,_,.cons _ t,0=>t
 | _,_,.cons h t,j+1 => .cons h (RpT.erase t j)
@[reducible] noncomputable def afg (es:List (Key × PyData)):PyData:=.dict (es.map fun p=>(kD p.1,p.2))
theorem avi {a b:Key} (h:kD a=kD b):a=b:=by
 cases a <;> cases b <;> simp [kD] at h <;> rw [h]
theorem aqa:∀ {es fs:List (Key × PyData)},es.map (fun p=>(kD p.1,p.2))=fs.map (fun p=>(kD p.1,p.2))->es=fs
 | [],[],_=>rfl
 | [],_ :: _,h=>by simp at h
 | _ :: _,[],h=>by simp at h
 | (a,x) :: es,(b,y) :: fs,h=>by
  simp only [List.map_cons,List.cons.injEq,Prod.mk.injEq] at h
  rw [avi h.1.1,h.1.2,aqa h.2]
theorem avj {G:Hp} {v:V} {es:List (Key × PyData)} (r:Rp G v (afg es)) (hne:es ≠ []):∃ a kvs,v=.ref a/\G a=some (.dK kvs)/\RpK G kvs es:=by
 cases r with
 | dk h rk e=>exact ⟨_,_,rfl,h,by rw [aqa e];exact rk⟩
 | @dt a kvs es' ds h rt e =>
  cases es with
  | nil=>exact absurd rfl hne
  | cons p es =>
   cases es' with
   | nil=>simp at e
   | cons q es' =>
    simp only [List.map_cons,List.cons.injEq,Prod.mk.injEq] at e
    have:=e.1.1
    obtain ⟨k,x⟩:=p
    cases k <;> simp [kD] at this
end
end VL
namespace DictL
open PySem PyProof.Rows
section
variable {prog:Program} {w:World} {A:Around} {R:Result->Shared->Prop} {I:Addr} {fp wr:List Addr} {n:Nat} {P:Nat->Value->Prop} {St:Nat->Heap->Prop} {K:Type} [DecidableEq K] {knd:KeyKind prog w K}
end
end DictL
namespace DictL
open PySem PyProof.Rows
section
variable {prog:Program} {w:World} {A:Around} {E:Value->Shared->Prop} {s:Shared}
end
end DictL
namespace DictL
open PySem PyProof.Rows
section
variable {prog:Program} {w:World} {A:Around} {E:Value->Shared->Prop} {s:Shared} {K:Type} [DecidableEq K] {knd:KeyKind prog w K}
end
end DictL
namespace L2
open PySem PySem.W PyProof.Rows
noncomputable def dkOf:List (Int × V)->List (Key × V):=fun kvs=>kvs.map fun p=>(.inl p.1,p.2)
section
variable {K:Type} [DecidableEq K]
end
section
variable {X:Cx}
end
end L2
namespace VL
open PySem PySem.Spec L2
section
variable {B:Bs} {env:En} {QO:Sl->En->Prop} {Q':PyData->En->Prop} {D':VEnds} {K:PySem.W.Frag} {i:Nat}
end
end VL
namespace VL
open PySem PySem.Spec L2
section
variable {B:Bs} {env:En} {QO:Sl->En->Prop} {Q':PyData->En->Prop} {K:PySem.W.Frag} {i:Nat}
end
end VL
namespace VL
open PySem PySem.Spec L2
section
variable {B:Bs} {env:En} {QO:Sl->En->Prop} {Q':PyData->En->Prop} {K:PySem.W.Frag} {i:Nat}
end
end VL
namespace L2
open PySem PySem.W PyProof.Rows
section
variable {X:Cx}
end
end L2
namespace VL
open PySem PySem.Spec L2
section
variable {B:Bs} {env:En} {Q':PyData->En->Prop} {R:Sl->Prop} {td:TE}
end
end VL
namespace SS
open PySem
theorem ahh {l:List Nat} (hr:l.Pairwise (· < ·)) {i j:Nat} (hij:i<=j) (hj:j < l.length):l[i]'(by row_cond lo)<=l[j]:=by
 by_cases e:i=j
 ·subst e;exact Nat.le_refl _
 ·exact Nat.le_of_lt (List.pairwise_iff_getElem.mp hr i j (by row_cond lo) hj (by row_cond lo))
theorem afx (xs:Array Nat) (j:Nat) (hr:xs.toList.Pairwise (· < ·)):∀ (fuel lo hi:Nat),hi - lo<=fuel->lo<=hi->hi<=xs.size->(∀ i (h:i < xs.toList.length),i < lo->xs.toList[i] < j)->(∀ i (h:i < xs.toList.length),hi<=i->j<=xs.toList[i]) ->
  SetTable.below.go xs j fuel lo hi<=xs.size/\(∀ i (h:i < xs.toList.length),i < SetTable.below.go xs j fuel lo hi->xs.toList[i] < j)/\(∀ i (h:i < xs.toList.length),SetTable.below.go xs j fuel lo hi<=i->j<=xs.toList[i])
 | 0,lo,hi,h1,h2,h3,h4,h5=>by
  unfold SetTable.below.go
  have:lo=hi:=by row_cond lo
  subst this
  exact ⟨h3,h4,h5⟩
 | fuel+1,lo,hi,h1,h2,h3,h4,h5=>by
  unfold SetTable.below.go
  by_cases hl:lo < hi
  ·rw [if_pos hl]
   have hm:(lo+hi) / 2 < xs.size:=by row_cond lo
   have hm':(lo+hi) / 2 < xs.toList.length:=by simpa using hm
   have eg:xs.getD ((lo+hi) / 2) j=xs.toList[(lo+hi) / 2]:=by simp [Array.getD,hm]
   dsimp only
   rw [eg]
   split
   ·rename_i hlt
    refine afx xs j hr fuel _ hi (by row_cond lo) (by row_cond lo) h3 (fun i h hi'=>?_) h5
    exact Nat.lt_of_le_of_lt (ahh hr (by row_cond lo) hm') hlt
   ·rename_i hge
    refine afx xs j hr fuel lo _ (by row_cond lo) (by row_cond lo) (by row_cond lo) h4 (fun i h hi'=>?_)
    exact Nat.le_trans (by row_cond lo) (ahh hr hi' h)
  ·rw [if_neg hl]
   have:lo=hi:=by row_cond lo
   subst this
   exact ⟨h3,h4,h5⟩
theorem below_ok (xs:Array Nat) (j:Nat) (hr:xs.toList.Pairwise (· < ·)) :
  SetTable.below xs j<=xs.size/\(∀ i (h:i < xs.toList.length),i < SetTable.below xs j->xs.toList[i] < j)/\(∀ i (h:i < xs.toList.length),SetTable.below xs j<=i->j<=xs.toList[i]) :=
 afx xs j hr _ 0 _ (by row_cond lo) (by row_cond lo) (Nat.le_refl _) (fun i h hi=>by row_cond lo) (fun i h hi=>by simp at h;row_cond lo)
theorem aod (xs:Array Nat) (hr:xs.toList.Pairwise (· < ·)) (i:Nat) (hi:i < xs.toList.length):SetTable.below xs (xs.toList[i] + 1)=i+1:=by
 obtain ⟨h1,h2,h3⟩:=below_ok xs (xs.toList[i] + 1) hr
 rcases Nat.lt_trichotomy (SetTable.below xs (xs.toList[i] + 1)) (i+1) with h | h | h
 ·have:=h3 i hi (by row_cond lo);row_cond lo
 ·exact h
 ·have hs:i+1 < xs.toList.length:=by simp;row_cond lo
  have a:=h2 (i+1) hs (by row_cond lo)
  have b:=List.pairwise_iff_getElem.mp hr i (i+1) hi hs (by row_cond lo)
  row_cond lo
theorem aoe (xs:Array Nat) (hr:xs.toList.Pairwise (· < ·)):SetTable.below xs 0=0:=by
 obtain ⟨h1,h2,h3⟩:=below_ok xs 0 hr
 rcases Nat.eq_zero_or_pos (SetTable.below xs 0) with h | h
 ·exact h
 ·have:=h2 0 (by simp;row_cond lo) (by row_cond lo);row_cond lo
theorem put_rise {xs:Array Nat} {j:Nat} (hr:xs.toList.Pairwise (· < ·)) (hn:xs[SetTable.below xs j]? ≠ some j):(SetTable.insertAt xs (SetTable.below xs j) j).toList.Pairwise (· < ·):=by
 obtain ⟨h1,h2,h3⟩:=below_ok xs j hr
 rw [SetTable.toList_insertAt]
 generalize SetTable.below xs j=p at h1 h2 h3 hn ⊢
 rw [← Array.getElem?_toList] at hn
 generalize xs.toList=l at hr h2 h3 hn ⊢
 have lo:∀ x∈l.take p,x < j:=fun x hx=>by
  obtain ⟨i,hi,e⟩:=List.mem_take_iff_getElem.mp hx
  rw [← e];exact h2 i (by row_cond lo) (by row_cond lo)
 have up:∀ x∈l.drop p,j < x:=fun x hx=>by
  obtain ⟨i,hi,e⟩:=List.mem_drop_iff_getElem.mp hx
  have hp:p < l.length:=by row_cond lo
  have ne:l[p] ≠ j:=fun e=>hn (by rw [List.getElem?_eq_getElem hp,e])
  have a:=h3 p hp (Nat.le_refl _)
  have b:=ahh hr (show p<=p+i by row_cond lo) (by row_cond lo:p+i < l.length)
  have e':l[p+i]=x:=by rw [← e]
  row_cond lo
 rw [List.pairwise_append]
 refine ⟨hr.sublist (List.take_sublist _ _),List.pairwise_cons.mpr ⟨up,hr.sublist (List.drop_sublist _ _)⟩,fun a ha b hb=>?_⟩
 rcases List.mem_cons.mp hb with rfl | hb
 ·exact lo a ha
 ·exact Nat.lt_trans (lo a ha) (up b hb)
structure TbI (bt:Bool) (t:SetTable):Prop where
 led:bt=false->t.led=true
 dum:t.dummies = #[]
 ris:t.plain=true->t.place.toList.Pairwise (· < ·)
theorem TbI.fresh (bt:Bool) (f m:Nat):TbI bt (.fresh f m (!bt)):=⟨fun h=>by subst h;rfl,rfl,fun _=>List.Pairwise.nil⟩
theorem has_nil (j:Nat):SetTable.has #[] j=false:=by unfold SetTable.has;simp
theorem TbI.put {bt:Bool} {t:SetTable} (x:TbI bt t) {j:Nat} (hs:t.slot j=.empty):TbI bt (t.put j).1:=by
 refine ⟨x.led,?_,fun h=>?_⟩
 ·show (if SetTable.has t.dummies j=true then _ else t.dummies) = #[]
  rw [x.dum,has_nil];rfl
 ·show (SetTable.insertAt t.place (SetTable.below t.place j) j).toList.Pairwise (· < ·)
  refine put_rise (x.ris h) fun e=>?_
  unfold SetTable.slot at hs
  dsimp only at hs
  rw [e] at hs
  simp at hs
theorem live_rise (owner:Array (Option Nat)) (m:Nat):(((List.range m).filterMap fun j=>(owner.getD j none).map (j,·)).map (·.1)).Pairwise (· < ·):=by
 rw [List.pairwise_map,List.pairwise_filterMap]
 refine List.pairwise_lt_range.imp ?_
 intro a b hab p hp q hq
 cases h1:owner.getD a none with
 | none=>rw [h1] at hp;cases hp
 | some i =>
  cases h2:owner.getD b none with
  | none=>rw [h2] at hq;cases hq
  | some k=>rw [h1] at hp;rw [h2] at hq;cases hp;cases hq;exact hab
theorem aid {α:Type} (next:Nat->Nat):∀ (n k:Nat) (left:List α) (out:Array α),left.length=n->(pickOrder.go next n k left out).toList.Perm (out.toList ++ left)
 | 0,k,left,out,h=>by
  unfold pickOrder.go
  rw [List.eq_nil_of_length_eq_zero h];simp
 | n+1,k,left,out,h=>by
  unfold pickOrder.go
  have hl:next k % left.length < left.length:=Nat.mod_lt _ (by row_cond lo)
  rw [List.getElem?_eq_getElem hl]
  dsimp only
  refine (aid next n (k+1) _ _ (by rw [List.length_eraseIdx];split <;> row_cond lo)).trans ?_
  rw [Array.toList_push,List.append_assoc]
  refine List.Perm.append_left _ ?_
  have e:left=left.take (next k % left.length) ++ left[next k % left.length] :: left.drop (next k % left.length+1):=by
   rw [← List.drop_eq_getElem_cons hl,List.take_append_drop]
  rw [List.eraseIdx_eq_take_drop_succ]
  refine List.Perm.trans ?_ (List.Perm.of_eq e.symm)
  rw [List.singleton_append]
  exact List.perm_middle.symm
theorem ahi {α:Type} (next:Nat->Nat) (xs:Array α):(pickOrder next xs).toList.Perm xs.toList:=by
 unfold pickOrder
 simpa using aid next xs.size 0 xs.toList #[] (by simp)
end SS
namespace SS
open PySem PySem.W PyProof.Rows
section
variable {prog:Program} {w:World} {A:Around} {E:Value->Shared->Prop} {s:Shared}
noncomputable def bt (w:World):Bool:=w.params.followText "set-order"
noncomputable def kE (e:Int × Value):Int:=match e.2 with | .int k _=>k | _=>0
def azf (prog:Program) (w:World) (e:Int × Value):Prop:=e.1=(intKind prog w).hash (kE e)/\∃ t,e.2=.int (kE e) t
def SetR (prog:Program) (w:World) (a:Addr) (es:Array (Int × Value)) (ep:Nat) (t:SetTable) (h:Heap):Prop :=
 ∃ o,h.get? a=some o/\o.ExactSet/\o.data=.set es ep t/\t.fits es.size=true/\TbI (bt w) t
def SetI (prog:Program) (w:World) (a:Addr) (L:List Int) (h:Heap):Prop:=∃ es ep t,SetR prog w a es ep t h/\(∀ e∈es.toList,azf prog w e)/\(es.toList.map kE).Perm L
theorem SetR.at {a:Addr} {es:Array (Int × Value)} {ep:Nat} {t:SetTable} {h h':Heap} (x:SetR prog w a es ep t h) (k:∀ o,h.get? a=some o->h'.get? a=some o):SetR prog w a es ep t h':=let ⟨o,e,r⟩:=x;⟨o,k o e,r⟩
theorem SetI.at {a:Addr} {L:List Int} {h h':Heap} (x:SetI prog w a L h) (k:∀ o,h.get? a=some o->h'.get? a=some o):SetI prog w a L h':=let ⟨es,ep,t,r,p⟩:=x;⟨es,ep,t,r.at k,p⟩
theorem SetR.put {a:Addr} {es es':Array (Int × Value)} {ep:Nat} {t t':SetTable} {h:Heap} (x:SetR prog w a es ep t h) (hf:t'.fits es'.size=true) (hT:TbI (bt w) t'):SetR prog w a es' (ep+1) t' (h.update a (Obj.putSet es' t')):=by
 obtain ⟨o,ho,hx,hd,_⟩:=x
 have hg':(h.update a (Obj.putSet es' t')).get? a=some { o with data:=.set es' (ep+1) t' }:=by
  have:=Heap.get?_update_self (Obj.putSet es' t') ho (by rw [putSet_of es' t' hd];rfl)
  rw [putSet_of es' t' hd] at this;exact this
 exact ⟨_,hg',hx,rfl,hf,hT⟩
end
end SS
namespace SS
open PySem PySem.W PyProof.Rows
section
variable {prog:Program} {w:World} {A:Around} {E:Value->Shared->Prop} {s:Shared}
noncomputable def abj (w:World):Obj:={ cls:=.type "set",dict:=none,data:=.set #[] 0 (.fresh 0 0 (!bt w)) }
theorem asg (a:Value) {Q₁:Value->Shared->Prop} (h:Q₁ (.ref s.heap.objs.size) { s with heap:=s.heap.push (abj w) }) :
  codeAny (model prog w) A (.call (.builtin "set.__new__") ⟨[.type "set",a],[]⟩) (wants Q₁ E) s:=by
 refine codeAny_of_tree ?_
 show wpAny _ A.in1 (do checkBuiltinCall "set.__new__" ⟨[.type "set",a],[]⟩;again (.builtin "set.__new__" ⟨[.type "set",a],[]⟩)) _ _ s
 refine wpAny_bind (wpAny_of_eq (PySem.F.newCall_set_1 a) (wpAny_pure ⟨plainId_quiet PySem.F.plain_set_new _,codeAny_builtin PySem.F.entry_set_new ?_⟩))
 rw [Around.under_plainId PySem.F.plain_set_new _]
 unfold Builtin.«set.__new__» Builtin.Frozenset.newClass
 have hsub:=sub_set_self
 obtain ⟨hp,g,d,tk,os⟩:=s
 dsimp only
 wp_walk
 refine wpAny_askSetting (wpAny_pure ?_)
 dsimp only
 simp only [newObj]
 refine wpAny_bind (wpAny_alloc (wpAny_pure ?_))
 exact wpAny_pure h
section
variable {R:Result->Shared->Prop} {I:Addr} {fp wr:List Addr} {n:Nat} {P:Nat->Value->Prop} {St:Nat->Heap->Prop}
end
end
end SS
namespace SS
open PySem PySem.W PyProof.Rows
theorem slot_it_next:Slot "set_iterator" "__next__" "set_iterator.__next__" :=
 .of (owner:="set_iterator") (n:="__next__") (by rw [typeLookup_type,builtinLookup_eq_fast];kernel_rfl) (by decide +kernel) (by decide +kernel) (by decide +kernel)
  (by first | exact .inl (by decide +kernel) | exact .inr (by decide +kernel)) (by rw [isSubtype_type];kernel_rfl)
theorem ae3:Slot "set_iterator" "__iter__" "set_iterator.__iter__" :=
 .of (owner:="set_iterator") (n:="__iter__") (by rw [typeLookup_type,builtinLookup_eq_fast];kernel_rfl) (by decide +kernel) (by decide +kernel) (by decide +kernel)
  (by first | exact .inl (by decide +kernel) | exact .inr (by decide +kernel)) (by rw [isSubtype_type];kernel_rfl)
theorem akn:Manifest.owners.lookup (String.ofList ['r','o','t','a','r','e','t','i','_','t','e','s'].reverse)=some Manifest.sig_set_iterator:=by kernel_rfl
theorem ako (a:Value):argsOk "set_iterator.__next__" ⟨[a],[]⟩:=by
 unfold argsOk;rw [signature?_of (id:="set_iterator.__next__") (n:=['_','_','t','x','e','n','_','_']) (o:=['r','o','t','a','r','e','t','i','_','t','e','s']) (by kernel_rfl) akn];kernel_rfl
theorem akp (a:Value):argsOk "set_iterator.__iter__" ⟨[a],[]⟩:=by
 unfold argsOk;rw [signature?_of (id:="set_iterator.__iter__") (n:=['_','_','r','e','t','i','_','_']) (o:=['r','o','t','a','r','e','t','i','_','t','e','s']) (by kernel_rfl) akn];kernel_rfl
theorem ai3:entryFor table "set_iterator.__next__" = some Builtin.«set_iterator.__next__»:=entryFor_of_tree (by kernel_rfl)
theorem ai4:entryFor table "set_iterator.__iter__" = some Builtin.«dict_keyiterator.__iter__»:=entryFor_alias (id':="dict_keyiterator.__iter__") (by kernel_rfl) rfl (by decide +kernel) (by kernel_rfl)
theorem ahj:entryFor table "set.__iter__" = some Builtin.«frozenset.__iter__»:=entryFor_alias (id':="frozenset.__iter__") (by kernel_rfl) rfl (by decide +kernel) (by kernel_rfl)
section
variable {prog:Program} {w:World} {A:Around} {E:Value->Shared->Prop} {s:Shared} {a I:Addr} {es:Array (Int × Value)} {ep:Nat} {t:SetTable}
def IsIt (h:Heap) (I:Addr) (vs:Array Value):Prop:=∃ o,h.get? I=some o/\o.cls=.type "set_iterator"/\o.data=.fields vs
theorem IsIt.ty {vs:Array Value} (x:IsIt s.heap I vs):s.TypeIs (.ref I) "set_iterator":=let ⟨o,e,c,_⟩:=x;⟨o,e,c⟩
theorem IsIt.at {h h':Heap} {vs:Array Value} (x:IsIt h I vs) (k:∀ o,h.get? I=some o->h'.get? I=some o):IsIt h' I vs:=let ⟨o,e,r⟩:=x;⟨o,k o e,r⟩
theorem SetR.ty (x:SetR prog w a es ep t s.heap):s.TypeIs (.ref a) "set":=let ⟨o,e,c,_⟩:=x;⟨o,e,c.1⟩
theorem acr {Q:(Array (Int × Value) × Nat × SetTable)->Shared->Prop} (x:SetR prog w a es ep t s.heap) (h:Q (es,ep,t) s):wpAny (model prog w) A (setState a) Q E s:=let ⟨_,ho,_,hd,hf,_⟩:=x;wpAny_setState_of ho hd hf h
theorem aei {Q:Array (Int × Value)->Shared->Prop} (x:SetR prog w a es ep t s.heap) (h:Q es s):wpAny (model prog w) A (setEntries a) Q E s:=by
 unfold setEntries;exact wpAny_bind (acr x (wpAny_pure h))
theorem akq {Q:Nat->Shared->Prop} (x:SetR prog w a es ep t s.heap) (h:Q ep s):wpAny (model prog w) A (setEpoch a) Q E s:=by
 unfold setEpoch;exact wpAny_bind (acr x (wpAny_pure h))
theorem ahk {Q:Bool->Shared->Prop} (h:Q (bt w) s):wpAny (model prog w) A setsByText Q E s:=by
 unfold setsByText;exact wpAny_bind (wpAny_askSetting (wpAny_pure h))
theorem aqb {M:Model} {src:Source} {n:Nat} {Q:Nat->Shared->Prop} (hn:0 < n) (h:∀ i d,i < n->Q i { s with drawn:=d }):wpAny M A (choose src n) Q E s:=fun Γ p _=>by
 unfold choose
 rw [Sem.wp_choose]
 exact ⟨by row_cond lo,h _ _ (Nat.mod_lt _ hn)⟩
theorem amt {α:Type} {M:Model}:∀ (n:Nat) (xs:List α) (s:Shared) (Q:List α->Shared->Prop),xs.length=n->(∀ ys d,ys.Perm xs->Q ys { s with drawn:=d })->wpAny M A (drawOrder n xs) Q E s
 | 0,xs,s,Q,hn,h=>by
  unfold drawOrder
  rw [List.eq_nil_of_length_eq_zero hn] at h
  exact wpAny_pure (h [] s.drawn (List.Perm.refl _))
 | n+1,[],s,Q,hn,h=>by cases hn
 | n+1,x :: xs,s,Q,hn,h=>by
  unfold drawOrder
  refine wpAny_bind (aqb (by simp) fun i d hi=>?_)
  rw [List.getElem?_eq_getElem hi]
  dsimp only
  refine wpAny_bind (amt n _ _ _ (by rw [List.length_eraseIdx];split <;> row_cond lo) fun ys d' hp=>wpAny_pure ?_)
  refine h _ d' ?_
  have e:(x :: xs)=(x :: xs).take i ++ (x :: xs)[i] :: (x :: xs).drop (i+1):=by
   rw [← List.drop_eq_getElem_cons hi,List.take_append_drop]
  refine (hp.cons _).trans ?_
  rw [List.eraseIdx_eq_take_drop_succ]
  refine List.Perm.trans ?_ (List.Perm.of_eq e.symm)
  exact List.perm_middle.symm
noncomputable def dr (w:World) (es:Array (Int × Value)) (t:SetTable):Bool:=!bt w && (!t.plain && decide (es.size > 1))
noncomputable def itO (f:Value) (a:Addr) (n ep:Nat):Obj:={ cls:=.type "set_iterator",data:=.fields #[f,rawInt (0:Nat),.ref a,rawInt n,rawInt ep] }
noncomputable def tuO (pl:List Nat):Obj:={ cls:=.type "tuple",data:=.seq (pl.map fun (i:Nat)=>rawInt i).toArray }
theorem avk {Q:Value->Shared->Prop} (x:SetR prog w a es ep t s.heap) (hz:es.size<=sizeLine)
  (h1:dr w es t=false->Q (.ref s.heap.objs.size) { s with heap:=s.heap.push (itO (rawInt (0:Nat)) a es.size ep) })
  (h2:dr w es t=true->∀ pl d,pl.Perm (List.range es.size)->Q (.ref (s.heap.objs.size+1)) { s with heap:=(s.heap.push (tuO pl)).push (itO (.ref s.heap.objs.size) a es.size ep),drawn:=d }):wpAny (model prog w) A (pyIter (.ref a)) Q E s:=by
 refine wpAny_pyIter_slot x.ty PySem.F.slot_set_iter (wpAny_call_entry PySem.F.slot_set_iter x.ty ahj ?body (PySem.F.args_set_iter_1 _))
 unfold Builtin.«frozenset.__iter__»
 show wpAny _ _ (Builtin.Frozenset.sizeOf a >>= _) _ _ s
 unfold Builtin.Frozenset.sizeOf
 refine wpAny_bind (wpAny_bind (aei x (wpAny_pure ?_)))
 unfold setDrawn
 refine wpAny_bind (wpAny_bind (acr x (wpAny_bind (ahk (wpAny_pure ?_)))))
 show wpAny _ _ (if dr w es t=true then _ else _) _ _ s
 cases hd:dr w es t
 ·rw [if_neg (by decide)]
  refine wpAny_bind (wpAny_pure (wpAny_bind (akq x ?_)))
  unfold newFields
  refine wpAny_bind (wpAny_newObj_type (wpAny_pure ⟨_,rfl,"set_iterator",_,⟨_,Heap.get?_push_size _ rfl,rfl⟩,slot_it_next.lookup,h1 hd⟩))
 ·rw [if_pos rfl]
  refine wpAny_bind (amt es.size (List.range es.size) s _ (by simp) fun pl d hp=>?_)
  refine wpAny_bind (wpAny_newTuple ?_ (by rw [List.length_map,hp.length_eq,List.length_range];exact hz))
  refine wpAny_bind (akq (x.at fun o e=>Heap.get?_push_of_some _ e) ?_)
  unfold newFields
  refine wpAny_bind (wpAny_newObj_type (wpAny_pure ⟨_,rfl,"set_iterator",_,⟨_,Heap.get?_push_size _ rfl,rfl⟩,slot_it_next.lookup,?_⟩))
  have:=h2 hd pl d hp
  simp only [Heap.size_push]
  exact this
end
end SS
namespace SS
open PySem PySem.W PyProof.Rows
section
variable {prog:Program} {w:World} {A:Around} {E:Value->Shared->Prop} {s:Shared} {a I:Addr} {es:Array (Int × Value)} {ep:Nat} {t:SetTable}
noncomputable def ord (w:World) (a:Addr) (es:Array (Int × Value)) (ep:Nat):List (Int × Value):=if bt w=true then (pickOrder (w.params.setOrder a ep) es).toList else es.toList
theorem ord_perm:(ord w a es ep).Perm es.toList:=by
 unfold ord;split
 ·exact ahi _ _
 ·exact List.Perm.refl _
noncomputable def sl (t:SetTable):Nat->Nat
 | 0=>0
 | i+1=>t.place.getD i 0+1
theorem aof (x:SetR prog w a es ep t s.heap) (hb:bt w=false) (hd:dr w es t=false):t.place.toList.Pairwise (· < ·):=by
 obtain ⟨o,_,_,_,hf,hT⟩:=x
 unfold dr at hd
 rw [hb] at hd
 cases hp:t.plain with
 | true=>exact hT.ris hp
 | false =>
  rw [hp] at hd
  have h1:es.size<=1:=by simpa using hd
  have h2:t.place.toList.length<=1:=by
   simp only [SetTable.fits,Bool.and_eq_true,beq_iff_eq] at hf
   rw [Array.length_toList];row_cond lo
  match hl:t.place.toList with
  | []=>exact .nil
  | [y]=>exact List.pairwise_singleton _ _
  | y :: z :: r=>rw [hl] at h2;simp at h2
theorem avl {slot i:Nat} {Q:Option (Value × Nat)->Shared->Prop} (x:SetR prog w a es ep t s.heap) (hd:dr w es t=false) (hs:bt w=false->slot=sl t i) (hi:i<=es.size)
  (h1:∀ e nx,(ord w a es ep)[i]?=some e->(bt w=false->nx=sl t (i+1))->Q (some (e.2,nx)) s) (h2:i=es.size->Q none s):wpAny (model prog w) A (setNext a slot i ep) Q E s:=by
 unfold setNext
 refine wpAny_bind (acr x ?_)
 dsimp only
 refine wpAny_bind (ahk ?_)
 cases hb:bt w with
 | true =>
  rw [if_pos rfl]
  rw [if_neg (by simp)]
  refine wpAny_bind ?_
  unfold setWalk
  refine wpAny_bind (acr x ?_)
  dsimp only
  refine wpAny_bind (ahk ?_)
  rw [hb,if_pos rfl]
  refine wpAny_bind (wpAny_askSetting (wpAny_pure (wpAny_pure ?_)))
  show Q ((pickOrder (w.params.setOrder a ep) es)[i]?.map fun e=>(e.2,slot)) s
  have eo:ord w a es ep=(pickOrder (w.params.setOrder a ep) es).toList:=by unfold ord;rw [hb,if_pos rfl]
  rw [← Array.getElem?_toList,← eo]
  cases he:(ord w a es ep)[i]? with
  | none =>
   refine h2 ?_
   have:=List.getElem?_eq_none_iff.mp he
   rw [ord_perm.length_eq,Array.length_toList] at this
   row_cond lo
  | some e=>exact h1 e slot he fun z=>by rw [hb] at z;cases z
 | false =>
  rw [if_neg (by decide)]
  have hpr:=aof x hb hd
  obtain ⟨o,ho,hx,hdt,hf,hT⟩:=id x
  have hps:t.place.size=es.size:=by
   simp only [SetTable.fits,Bool.and_eq_true,beq_iff_eq] at hf;exact hf.1
  have hbl:SetTable.below t.place slot=i:=by
   rw [hs hb]
   cases i with
   | zero=>exact aoe _ hpr
   | succ j =>
    have hj:j < t.place.toList.length:=by rw [Array.length_toList];row_cond lo
    have e:t.place.getD j 0=t.place.toList[j]:=by simp [Array.getD,show j < t.place.size by row_cond lo]
    show SetTable.below t.place (t.place.getD j 0+1)=j+1
    rw [e];exact aod _ hpr j hj
  refine wpAny_bind (wpAny_pure ?_)
  have hdr:(!t.plain && decide (es.size > 1))=false:=by unfold dr at hd;rw [hb] at hd;exact hd
  show wpAny _ _ (if (!t.plain && decide (es.size > 1))=true then _ else _) _ _ s
  rw [hdr,if_neg (by decide)]
  refine wpAny_bind ?_
  show wpAny _ _ (if (!t.led && !es.isEmpty)=true then _ else _) _ _ s
  rw [hT.led hb]
  rw [if_neg (by simp)]
  refine wpAny_pure ?_
  rw [hbl]
  have eo:ord w a es ep=es.toList:=by unfold ord;rw [hb,if_neg (by decide)]
  rcases Nat.lt_or_ge i es.size with hlt | hge
  ·have e1:es[i]?=some es[i]:=Array.getElem?_eq_getElem hlt
   have e2:t.place[i]?=some t.place[i]:=Array.getElem?_eq_getElem (by row_cond lo)
   rw [e1,e2]
   refine wpAny_pure (h1 es[i] _ (by rw [eo,Array.getElem?_toList];exact e1) fun _=>?_)
   show t.place[i] + 1=t.place.getD i 0+1
   simp [Array.getD,show i < t.place.size by row_cond lo]
  ·have e1:es[i]?=none:=Array.getElem?_eq_none_iff.mpr hge
   rw [e1]
   exact wpAny_pure (h2 (by row_cond lo))
theorem upd2 {h:Heap} {f x b n e:Value} {i:Value} (hit:IsIt h I #[f,i,x,n,e]) (j:Nat) (v:Value) (vs:Array Value) (hv : #[f,i,x,n,e].setIfInBounds j v=vs):IsIt (h.update I (Obj.mapFields (·.setIfInBounds j v))) I vs:=by
 obtain ⟨o,ho,hc,hd⟩:=hit
 exact ⟨_,Heap.get?_update_self _ ho (Obj.isFreed_of_fields (Obj.data_mapFields hd _)),(Obj.cls_mapFields ..).trans hc,by rw [Obj.data_mapFields hd,hv]⟩
theorem acs {vs:Array Value} {i:Nat} {x:Value} {Q:Unit->Shared->Prop} (hit:IsIt s.heap I vs) (hi:i < vs.size) (h:Q () { s with heap:=s.heap.update I (Obj.mapFields (·.setIfInBounds i x)) }):wpAny (model prog w) A (setField (.ref I) i x) Q E s:=by
 obtain ⟨o,ho,hc,hd⟩:=hit
 exact wpAny_setField ho hd hi h
theorem amu {vs:Array Value} {Q:Option Value->Shared->Prop} (hit:IsIt s.heap I vs)
  (h:wpAny (model prog w) A.in1 (Builtin.«set_iterator.__next__» ⟨[.ref I],[]⟩) (fun fin s'=>∃ v,fin=.done (.ret v)/\Q (some v) s') (fun e s'=>wpAny (model prog w) A (do if ← isInstance e (.type "StopIteration") then pure none else throw e) Q E s') s) :
  wpAny (model prog w) A (pyNext (.ref I)) Q E s:=by
 unfold pyNext
 refine wpAny_bind (wpAny_attempt (wpAny_callSpecial?_slot (name:=Str.ofString "__next__") hit.ty slot_it_next (wpAny_call_entry slot_it_next hit.ty ai3 ?b (ako _))))
 case b =>
  refine wpAny_mono h ?_ ?_
  ·rintro fin s' ⟨v,rfl,q⟩
   exact ⟨v,rfl,wpAny_pure q⟩
  ·intro e s' q;exact q
theorem amv {Q:Option Value->Shared->Prop} {F:Type} {Qf:F->Shared->Prop} (hh:A.handled=none) (h:∀ h',(∀ b o,s.heap.get? b=some o->h'.get? b=some o)->Q none { s with heap:=h' }) :
  wpAny (model prog w) A.in1 (newExc (.type "StopIteration") [] >>= fun e=>(raiseNew e:Sem F)) Qf (fun e s'=>wpAny (model prog w) A (do if ← isInstance e (.type "StopIteration") then pure none else throw e) Q E s') s:=by
 refine wpAny_bind ?_
 simp only [newExc,newTuple];refine wpAny_bind (wpAny_newObj_type ?_ (by size_fits))
 refine wpAny_bind (m:=firstArgMember _ _) (wpAny_of_eq (a:=Value.none) (by first | rfl | (simp only [firstArgMember];rfl)) (wpAny_newObj_type ?_ (by size_fits)))
 simp only [raiseNew];refine wpAny_bind (wpAny_handled ?_)
 rw [show A.in1.handled=none from hh];refine wpAny_bind (wpAny_pure (wpAny_throw ?_))
 refine wpAny_bind (wpAny_isInstance (T:="StopIteration") (b:=true) ⟨_,Heap.get?_push_size _ rfl,rfl⟩ isSubtype_stop ?_)
 exact wpAny_pure (h _ fun b o e=>Heap.get?_push_of_some _ (Heap.get?_push_of_some _ e))
theorem amw {slot i:Nat} {Q:Option Value->Shared->Prop} (hh:A.handled=none) (hne:a ≠ I) (hit:IsIt s.heap I #[rawInt slot,rawInt i,.ref a,rawInt es.size,rawInt ep]) (x:SetR prog w a es ep t s.heap) (hd:dr w es t=false) (hs:bt w=false->slot=sl t i) (hi:i<=es.size)
  (h1:∀ e (nx:Nat) h',(ord w a es ep)[i]?=some e->(bt w=false->nx=sl t (i+1))->IsIt h' I #[rawInt nx,rawInt ((i+1:Nat):Int),.ref a,rawInt es.size,rawInt ep]->(∀ b o,b ≠ I->s.heap.get? b=some o->h'.get? b=some o)->Q (some e.2) { s with heap:=h' })
  (h2:i=es.size->∀ h',(∀ b o,b ≠ I->s.heap.get? b=some o->h'.get? b=some o)->Q none { s with heap:=h' }):wpAny (model prog w) A (pyNext (.ref I)) Q E s:=by
 refine amu hit ?_
 obtain ⟨o,ho,hc,hdt⟩:=id hit
 unfold Builtin.«set_iterator.__next__»
 refine wpAny_bind (wpAny_pure (wpAny_bind (wpAny_fieldsOf ho hdt ?_)))
 show wpAny _ _ (setEntries a >>= _) _ _ s
 refine wpAny_bind (aei x ?_)
 rw [if_neg (by simp)]
 show wpAny _ _ (setNext a slot i ep >>= _) _ _ s
 refine wpAny_bind (avl x hd hs hi (fun e nx he hn=>?_) fun hz=>?_)
 ·dsimp only
  refine wpAny_bind (acs hit (by simp) ?_)
  have hit1:=upd2 (b:=.none) hit 0 (rawInt nx) #[rawInt nx,rawInt i,.ref a,rawInt es.size,rawInt ep] rfl
  refine wpAny_bind (acs (s:={ s with heap:=_ }) hit1 (by simp) ?_)
  have hit2:=upd2 (b:=.none) hit1 1 (rawInt ((i+1:Nat):Int)) #[rawInt nx,rawInt ((i+1:Nat):Int),.ref a,rawInt es.size,rawInt ep] rfl
  refine wpAny_pure ⟨_,rfl,h1 e nx _ he hn hit2 fun b o hb e=>?_⟩
  exact (Heap.get?_update_other _ _ (Ne.symm hb)).trans ((Heap.get?_update_other _ _ (Ne.symm hb)).trans e)
 ·dsimp only
  refine wpAny_bind (acs hit (by simp) ?_)
  refine amv (s:={ s with heap:=s.heap.update I _ }) hh fun h' k=>h2 hz h' fun b o hb e=>k b o ((Heap.get?_update_other _ _ (Ne.symm hb)).trans e)
theorem amx {vs:Array Value} {Q:Value->Shared->Prop} (hit:IsIt s.heap I vs) (h:Q (.ref I) s):wpAny (model prog w) A (pyIter (.ref I)) Q E s:=by
 refine wpAny_pyIter_slot hit.ty ae3 (wpAny_call_entry ae3 hit.ty ai4 ?_ (akp _))
 show wpAny _ _ (ret (.ref I)) _ _ s
 exact wpAny_pure ⟨_,rfl,"set_iterator",_,hit.ty,slot_it_next.lookup,h⟩
theorem walks (hh:A.handled=none) (hne:a ≠ I) (hd:dr w es t=false):Walks prog w A I [I,a] [I] es.size (fun i v=>((ord w a es ep).map (·.2))[i]?=some v)
  (fun i h=>∃ slot:Nat,IsIt h I #[rawInt slot,rawInt i,.ref a,rawInt es.size,rawInt ep]/\SetR prog w a es ep t h/\(bt w=false->slot=sl t i)) where
 sub:=fun b hb=>by simp at hb;simp [hb]
 frame:=fun _ _ _ st hk=>let ⟨slot,h1,h2,h3⟩:=st;⟨slot,h1.at fun o e=>hk I (by simp) o e,h2.at fun o e=>hk a (by simp) o e,h3⟩
 item:=fun i s Q E hi st hQ=>by
  obtain ⟨slot,h1,h2,h3⟩:=st
  refine amw hh hne h1 h2 hd h3 (Nat.le_of_lt hi) (fun e nx h' he hn hit k=>?_) fun hz=>by row_cond lo
  exact hQ _ h' s.toks (by rw [List.getElem?_map,he];rfl) ⟨nx,hit,h2.at fun o e=>k a o hne e,hn⟩ fun b o hb e=>k b o (fun z=>hb (by simp [z])) e
 done:=fun s Q E st hQ=>by
  obtain ⟨slot,h1,h2,h3⟩:=st
  refine amw hh hne h1 h2 hd h3 (Nat.le_refl _) (fun e nx h' he hn hit k=>?_) fun hz h' k=>hQ h' s.toks fun b o hb e=>k b o (fun z=>hb (by simp [z])) e
  have:=(List.getElem?_eq_some_iff.mp he).1
  rw [ord_perm.length_eq,Array.length_toList] at this
  row_cond lo
 self:=fun _ _ _ _ st hQ=>let ⟨_,h1,_,_⟩:=st;amx h1 hQ
theorem atj {i:Nat} {tu:Addr} {pl:List Nat} {Q:Option Value->Shared->Prop} (hh:A.handled=none) (hit:IsIt s.heap I #[.ref tu,rawInt i,.ref a,rawInt es.size,rawInt ep]) (hT:s.heap.get? tu=some (tuO pl)) (x:SetR prog w a es ep t s.heap) (hp:pl.Perm (List.range es.size)) (hi:i<=es.size)
  (h1:∀ e h' j,pl[i]?=some j->es[j]?=some e->IsIt h' I #[.ref tu,rawInt ((i+1:Nat):Int),.ref a,rawInt es.size,rawInt ep]->(∀ b o,b ≠ I->s.heap.get? b=some o->h'.get? b=some o)->Q (some e.2) { s with heap:=h' })
  (h2:i=es.size->∀ h',(∀ b o,b ≠ I->s.heap.get? b=some o->h'.get? b=some o)->Q none { s with heap:=h' }):wpAny (model prog w) A (pyNext (.ref I)) Q E s:=by
 refine amu hit ?_
 obtain ⟨o,ho,hc,hdt⟩:=id hit
 unfold Builtin.«set_iterator.__next__»
 refine wpAny_bind (wpAny_pure (wpAny_bind (wpAny_fieldsOf ho hdt ?_)))
 show wpAny _ _ (setEntries a >>= _) _ _ s
 refine wpAny_bind (aei x ?_)
 rw [if_neg (by simp)]
 show wpAny _ _ (seqItems? (.ref tu) >>= _) _ _ s
 refine wpAny_bind (wpAny_seqItems hT rfl ?_)
 dsimp only
 have hlen:pl.length=es.size:=by rw [hp.length_eq,List.length_range]
 have ei:(rawInt (i:Int))=.int i 0:=rfl
 rcases Nat.lt_or_ge i es.size with hlt | hge
 ·have hj:pl[i]?=some pl[i]:=List.getElem?_eq_getElem (by row_cond lo)
  have e1:(pl.map fun (i:Nat)=>rawInt i).toArray[(i:Int).toNat]?=some (rawInt pl[i]):=by
   rw [Int.toNat_natCast,List.getElem?_toArray,List.getElem?_map,hj];rfl
  rw [e1]
  have hm:pl[i] < es.size:=List.mem_range.mp (hp.mem_iff.mp (List.getElem_mem _))
  have e2:es[pl[i]]?=some es[pl[i]]:=Array.getElem?_eq_getElem hm
  show wpAny _ _ (setNextDrawn a pl[i] ep >>= _) _ _ s
  unfold setNextDrawn
  refine wpAny_bind (wpAny_bind (acr x ?_))
  dsimp only
  rw [if_neg (by simp),e2]
  refine wpAny_pure ?_
  refine wpAny_bind (acs hit (by simp) ?_)
  have hit1:=upd2 (b:=.none) hit 1 (rawInt ((i+1:Nat):Int)) #[.ref tu,rawInt ((i+1:Nat):Int),.ref a,rawInt es.size,rawInt ep] rfl
  exact wpAny_pure ⟨_,rfl,h1 _ _ _ hj e2 hit1 fun b o hb e=>(Heap.get?_update_other _ _ (Ne.symm hb)).trans e⟩
 ·have e1:(pl.map fun (i:Nat)=>rawInt i).toArray[(i:Int).toNat]?=none:=by
   rw [Int.toNat_natCast,List.getElem?_toArray,List.getElem?_map,List.getElem?_eq_none_iff.mpr (by row_cond lo)];rfl
  rw [e1]
  dsimp only
  refine wpAny_bind (acs hit (by simp) ?_)
  have hit1:=upd2 (b:=.none) hit 0 (rawInt 0) #[rawInt 0,rawInt i,.ref a,rawInt es.size,rawInt ep] rfl
  refine wpAny_bind (acs (s:={ s with heap:=_ }) hit1 (by simp) ?_)
  refine amv (s:={ s with heap:=(s.heap.update I _).update I _ }) hh fun h' k=>h2 (by row_cond lo) h' fun b o hb e=>k b o ((Heap.get?_update_other _ _ (Ne.symm hb)).trans ((Heap.get?_update_other _ _ (Ne.symm hb)).trans e))
noncomputable def ordD (es:Array (Int × Value)) (pl:List Nat):List Value:=pl.map fun j=>(es.toList.map (·.2)).getD j .none
theorem aqc {pl:List Nat} (hp:pl.Perm (List.range es.size)):(ordD es pl).Perm (es.toList.map (·.2)):=by
 refine (hp.map _).trans (List.Perm.of_eq ?_)
 refine List.ext_getElem (by simp) fun i h1 h2=>?_
 have:i < es.size:=by simpa using h1
 simp [List.getD_eq_getElem?_getD,this]
theorem ax4 {tu:Addr} {pl:List Nat} (hh:A.handled=none) (hne:a ≠ I) (hnt:tu ≠ I) (hp:pl.Perm (List.range es.size)):Walks prog w A I [I,a,tu] [I] es.size (fun i v=>(ordD es pl)[i]?=some v)
  (fun i h=>IsIt h I #[.ref tu,rawInt i,.ref a,rawInt es.size,rawInt ep]/\SetR prog w a es ep t h/\h.get? tu=some (tuO pl)) where
 sub:=fun b hb=>by simp at hb;simp [hb]
 frame:=fun _ _ _ st hk=>let ⟨h1,h2,h3⟩:=st;⟨h1.at fun o e=>hk I (by simp) o e,h2.at fun o e=>hk a (by simp) o e,hk tu (by simp) _ h3⟩
 item:=fun i s Q E hi st hQ=>by
  obtain ⟨h1,h2,h3⟩:=st
  refine atj hh h1 h3 h2 hp (Nat.le_of_lt hi) (fun e h' j hj he hit k=>?_) fun hz=>by row_cond lo
  refine hQ _ h' s.toks ?_ ⟨hit,h2.at fun o e=>k a o hne e,k tu _ hnt h3⟩ fun b o hb e=>k b o (fun z=>hb (by simp [z])) e
  unfold ordD
  rw [List.getElem?_map,hj]
  simp [List.getD_eq_getElem?_getD,he]
 done:=fun s Q E st hQ=>by
  obtain ⟨h1,h2,h3⟩:=st
  refine atj hh h1 h3 h2 hp (Nat.le_refl _) (fun e h' j hj he hit k=>?_) fun hz h' k=>hQ h' s.toks fun b o hb e=>k b o (fun z=>hb (by simp [z])) e
  have:=(List.getElem?_eq_some_iff.mp hj).1
  rw [hp.length_eq,List.length_range] at this
  row_cond lo
 self:=fun _ _ _ _ st hQ=>amx st.1 hQ
end
end SS
namespace SS
open PySem PySem.W PyProof.Rows
section
variable {prog:Program} {w:World} {A:Around} {E:Value->Shared->Prop} {s:Shared} {a:Addr} {es:Array (Int × Value)} {ep:Nat} {t:SetTable}
theorem avm {Q:Bool->Shared->Prop} (hT:s.TypeIs (.ref a) "set") (h:Q false s):wpAny (model prog w) A (Builtin.List.listLengthHint (.ref a)) Q E s:=by
 unfold Builtin.List.listLengthHint
 refine wpAny_bind (wpAny_specialOf hT PySem.F.slot_set_len.lookup ?_)
 generalize hid:("set.__len__" : String)=id0
 wp_delta
 rw [show splitId id0=some ("set","__len__") from by subst hid;decide +kernel]
 subst hid
 refine wpAny_bind (wpAny_isInstance (T:="set") (b:=true) hT sub_set_self ?_)
 refine wpAny_ite_split (fun hab=>absurd hab (by decide)) (fun _=>?_)
 refine wpAny_ite_split (fun _=>?_) (fun hab=>absurd (by decide +kernel) hab)
 refine wpAny_bind (wpAny_typeOf hT ?_)
 exact wpAny_pure h
theorem ash {vals:List Value} {acc:Array Value} (h:ItemsOf (fun i v=>vals[i]?=some v) acc vals.length):acc.toList=vals:=by
 obtain ⟨h1,h2⟩:=h
 refine List.ext_getElem (by simpa using h1) fun i a1 a2=>?_
 have:=h2 i acc.toList[i] (by rw [← Array.getElem?_toList];exact List.getElem?_eq_getElem a1)
 exact (Option.some.inj ((List.getElem?_eq_getElem a2).symm.trans this)).symm
theorem ax5 {R:Result->Shared->Prop} (hh:A.handled=none) (x:SetR prog w a es ep t s.heap) (hz:es.size<=sizeLine) (S:Addr) (hSa:S ≠ a) (res:Value) (c₀:Nat) (hS:s.heap.get? S=some { cls:=.type "list",data:=.seq #[] c₀ })
  (hR:∀ h' tk d acc c,(∀ b o,b ≠ S->s.heap.get? b=some o->h'.get? b=some o)->h'.get? S=some { cls:=.type "list",dict:=none,data:=.seq acc c,slots:=#[] }->acc.toList.Perm (es.toList.map (·.2))->R (.ok (.ret res)) { s with heap:=h',toks:=tk,drawn:=d }) :
  wpAny (model prog w) A.in1 (Builtin.List.listExtendWith (.ref S) (.ref a) res)
   (fun fin s'=>match fin with | .done f=>R (.ok f) s' | .again c'=>c'.quiet=true/\codeAny (model prog w) A c' R s') (fun e s'=>R (.error e) s') s:=by
 have key:∀ (I:Addr) (fp:List Addr) (St:Nat->Heap->Prop) (vals:List Value) (d:Drawn) (h:Heap) (c₁:Nat) (tk:Nat),Walks prog w A.in1 I fp [I] es.size (fun i v=>vals[i]?=some v) St->S ∉ fp->s.heap.objs.size<=I->vals.Perm (es.toList.map (·.2))->St 0 h->(∀ b o,b ≠ S->s.heap.get? b=some o->h.get? b=some o) ->
   h.get? S=some { cls:=.type "list",data:=.seq #[] c₁ }->codeAny (model prog w) A (.builtin "list.extend.loop" ⟨[.ref S,.ref I,res],[]⟩) R { s with heap:=h,toks:=tk,drawn:=d }:=by
  intro I fp St vals d h c₁ tk W hSf hI hp hst hk hS₁
  refine codeAny_extend_loopS W.toS hz S hSf res es.size 0 _ #[] c₁ rfl (Nat.zero_le _) hst hS₁ (ItemsOf.nil _) fun s' acc' c' hm hS' hacc=>?_
  have hl:es.size=vals.length:=by rw [hp.length_eq,List.length_map,Array.length_toList]
  rw [hl] at hacc
  rw [Moved.eq_with hm]
  refine hR s'.heap s'.toks d acc' c' (fun b o hb e=>hm.heap b o (fun hmem=>?_) (hk b o hb e)) hS' (by rw [ash hacc];exact hp)
  rcases List.mem_cons.mp hmem with e' | hmem
  ·exact hb e'
  ·rw [List.mem_singleton] at hmem
   subst hmem
   exact absurd (Heap.lt_size e) (Nat.not_lt.mpr hI)
 have hSlt:=Heap.lt_size hS
 have halt:a < s.heap.objs.size:=let ⟨_,e,_⟩:=x;Heap.lt_size e
 unfold Builtin.List.listExtendWith
 refine wpAny_bind (wpAny_typeOf (T:="set") x.ty ?_)
 have h1:Builtin.List.listSameRef (.ref S) (.ref a)=false:=by simp [Builtin.List.listSameRef,hSa]
 have h2:(Value.type "set" == Value.type "list")=false:=by decide
 have h3:(Value.type "set" == Value.type "tuple")=false:=by decide
 simp only [h1,h2,h3,Bool.or_false,Bool.false_eq_true,if_false]
 have touch:∀ (rm:Bool) (I:Addr) (fp:List Addr) (St:Nat->Heap->Prop) (vals:List Value) (d:Drawn) (h:Heap),Walks prog w A.in1 I fp [I] es.size (fun i v=>vals[i]?=some v) St->S ∉ fp->s.heap.objs.size<=I->vals.Perm (es.toList.map (·.2))->St 0 h->(∀ b o,s.heap.get? b=some o->h.get? b=some o)->
   wpAny (model prog w) A.in1 (holding [.ref I] (Builtin.List.listLengthHint (.ref a)) >>= fun room=>if (room || rm)=true then (rule "list.extend.makes-room" >>= fun _=>Builtin.List.listTouch (.ref S) >>= fun _=>again (.builtin "list.extend.loop" ⟨[.ref S,.ref I,res],[]⟩)) else again (.builtin "list.extend.loop" ⟨[.ref S,.ref I,res],[]⟩)) (fun fin s'=>match fin with | .done f=>R (.ok f) s' | .again c'=>c'.quiet=true/\codeAny (model prog w) A c' R s') (fun e s'=>R (.error e) s') { s with heap:=h,drawn:=d }:=by
  intro rm I fp St vals d h W hSf hI hp st hk
  have hS₁:=hk _ _ hS
  refine wpAny_bind (wpAny_holding (avm (s:={ s with heap:=h,drawn:=d }) (SetR.ty (s:={ s with heap:=h,drawn:=d }) (x.at fun o e=>hk a o e)) ?_))
  refine wpAny_ite_split (fun _=>?_) (fun _=>wpAny_pure ⟨plainId_quiet PySem.F.plain_extend_loop _,key I fp St vals d h c₀ _ W hSf hI hp st (fun b o _ e=>hk b o e) hS₁⟩)
  refine wpAny_bind (wpAny_rule ?_)
  refine wpAny_bind ?_
  show wpAny _ _ (updateSeq S (·.push .none) >>= fun _=>updateSeq S (·.pop)) _ _ _
  refine wpAny_bind (wpAny_updateSeq hS₁ rfl ?_)
  have hS₂:=Heap.get?_update_self (Obj.mapSeq (·.push Value.none)) hS₁ rfl
  refine wpAny_updateSeq (hz:=by seq_fits) hS₂ rfl ?_
  have hS₃:=Heap.get?_update_self (Obj.mapSeq (·.pop)) hS₂ rfl
  refine wpAny_pure ⟨plainId_quiet PySem.F.plain_extend_loop _,key I fp St vals d _ _ _ W hSf hI hp ?_ (fun b o hb e=>?_) hS₃⟩
  ·refine W.frame 0 _ _ st fun b hb o e=>?_
   have hbS:b ≠ S:=fun h=>hSf (h ▸ hb)
   exact (Heap.get?_update_other _ _ (Ne.symm hbS)).trans ((Heap.get?_update_other _ _ (Ne.symm hbS)).trans e)
  ·exact (Heap.get?_update_other _ _ (Ne.symm hb)).trans ((Heap.get?_update_other _ _ (Ne.symm hb)).trans (hk b o e))
 refine wpAny_bind (avk x hz (fun hd=>?_) fun hd pl d hp=>?_)
 ·exact touch _ s.heap.objs.size _ _ ((ord w a es ep).map (·.2)) s.drawn _ (walks (A:=A.in1) (prog:=prog) (w:=w) (t:=t) (ep:=ep) hh (Nat.ne_of_lt halt) hd) (by simp only [List.mem_cons,List.not_mem_nil,or_false,not_or];exact ⟨Nat.ne_of_lt hSlt,hSa⟩) (Nat.le_refl _) (ord_perm.map _)
   ⟨0,⟨_,Heap.get?_push_size _ rfl,rfl,rfl⟩,x.at fun o e=>Heap.get?_push_of_some _ e,fun _=>rfl⟩ fun b o e=>Heap.get?_push_of_some _ e
 ·refine touch _ (s.heap.objs.size+1) _ _ (ordD es pl) d _ (ax4 (A:=A.in1) (prog:=prog) (w:=w) (t:=t) (ep:=ep) (tu:=s.heap.objs.size) hh (Nat.ne_of_lt (Nat.lt_succ_of_lt halt)) (Nat.ne_of_lt (Nat.lt_succ_self _)) hp) (by simp only [List.mem_cons,List.not_mem_nil,or_false,not_or];exact ⟨Nat.ne_of_lt (Nat.lt_succ_of_lt hSlt),hSa,Nat.ne_of_lt hSlt⟩) (Nat.le_succ _) (aqc hp)
   ⟨⟨itO (.ref s.heap.objs.size) a es.size ep,?_,rfl,rfl⟩,x.at fun o e=>Heap.get?_push_of_some _ (Heap.get?_push_of_some _ e),Heap.get?_push_of_some _ (Heap.get?_push_size _ rfl)⟩ fun b o e=>Heap.get?_push_of_some _ (Heap.get?_push_of_some _ e)
  have:=Heap.get?_push_size (s.heap.push (tuO pl)) (o:=itO (.ref s.heap.objs.size) a es.size ep) rfl
  rw [Heap.size_push] at this
  exact this
theorem alk {Q:List Value->Shared->Prop} (hh:A.handled=none) (x:SetR prog w a es ep t s.heap) (hz:es.size<=sizeLine)
  (hQ:∀ h' tk d (vs:List Value),(∀ b o,s.heap.get? b=some o->h'.get? b=some o)->s.heap.objs.size<=h'.objs.size->vs.Perm (es.toList.map (·.2))->Q vs { s with heap:=h',toks:=tk,drawn:=d }):wpAny (model prog w) A (collect (.ref a)) Q E s:=by
 unfold collect
 refine wpAny_bind (wpAny_runValue (codeAny_builtin PySem.F.entry_proto_collect ?a1))
 case a1 =>
  rw [Around.under_plainId PySem.F.plain_proto_collect _];show wpAny _ A.in1 (newList [] >>= fun l=>again (.builtin "list.__iadd__" ⟨[l,.ref a],[]⟩)) _ _ s
  refine wpAny_bind (wpAny_newObj_type (wpAny_pure ⟨plainId_quiet PySem.F.plain_list_iadd _,codeAny_builtin PySem.F.entry_list_iadd ?a2⟩))
  case a2 =>
   rw [Around.under_plainId PySem.F.plain_list_iadd _];show wpAny _ A.in1 (Builtin.List.listExtendWith (.ref s.heap.objs.size) (.ref a) (.ref s.heap.objs.size)) _ _ _
   have hS:(s.heap.push { cls:=.type "list",data:=.seq ([]:List Value).toArray }).get? s.heap.objs.size=some { cls:=.type "list",data:=.seq #[] 0 }:=Heap.get?_push_size _ rfl
   have halt:a < s.heap.objs.size:=let ⟨_,e,_⟩:=x;Heap.lt_size e
   refine ax5 (R:=wants (fun v s'=>wpAny (model prog w) A (match v with | .ref a=>(do match (← load a).data with | .seq xs _=>pure xs.toList | _=>unsupported "internal:collect") | _=>unsupported "internal:collect") Q E s') E) (s:={ s with heap:=s.heap.push { cls:=.type "list",data:=.seq ([]:List Value).toArray } }) hh (x.at fun o e=>Heap.get?_push_of_some _ e) hz s.heap.objs.size (Nat.ne_of_gt halt) _ 0 hS (fun h' tk d acc c k hS' hacc=>?a3)
   case a3 =>
    show wpAny (model prog w) A _ Q E _
    refine wpAny_bind (wpAny_load hS' ?a4)
    case a4=>exact wpAny_pure (hQ h' tk d acc.toList (fun b o e=>k b o (Nat.ne_of_lt (Heap.lt_size e)) (Heap.get?_push_of_some _ e)) (Nat.le_of_lt (Heap.lt_size hS')) hacc)
end
end SS
namespace SS
open PySem PySem.W PyProof.Rows
section
variable {prog:Program} {w:World} {A:Around} {E:Value->Shared->Prop} {s:Shared} {a:Addr}
end
end SS
namespace L2
open PySem PySem.W PyProof.Rows
section
variable {X:Cx}
theorem Inv.drawn' {pins:List (Addr × Obj)} {σ:St} {H:Hp} {s:Shared} (I:Inv X pins σ H s) (d:Drawn):Inv X pins σ H { s with drawn:=d }:=⟨I.ok,I.os,I.bare,I.base,I.loc,I.cell,I.free,I.freeC,I.pin,I.hok,I.len⟩
end
end L2
namespace VL
open PySem PySem.Spec L2
section
variable {B:Bs} {env:En} {QO:Sl->En->Prop} {K:PySem.W.Frag} {ta:TA} {P:Program} {w:World}
end
end VL
namespace SH
open PySem PySem.SetTable
noncomputable def it:Nat->Nat->Nat
 | 0,x=>x
 | n+1,x=>it n (5 * x+1)
theorem agv:∀ (a b x:Nat),it (a+b) x=it b (it a x)
 | 0,b,x=>by rw [Nat.zero_add];rfl
 | a+1,b,x=>by rw [Nat.add_right_comm];exact agv a b (5 * x+1)
theorem ax6 (m:Nat):∃ c d:Nat,∀ x,it (2 ^ m) x=(1+2 ^ (m+2) * c) * x+2 ^ m * (2 * d+1):=by
 induction m with
 | zero => exact ⟨1, 0, fun x => by show 5 * x + 1 = _; row_cond lo⟩
 | succ m ih =>
  obtain ⟨c,d,h⟩:=ih
  refine ⟨c+2 ^ (m+1) * (c * c),d+2 ^ m * c * (2 * d+1),fun x=>?_⟩
  rw [show 2 ^ (m+1)=2 ^ m+2 ^ m by rw [Nat.pow_succ];row_cond lo,agv,h,h]
  have e1:2 ^ (m+2)=4 * 2 ^ m:=by rw [Nat.pow_add];row_cond lo
  have e2:2 ^ (m+1+2)=8 * 2 ^ m:=by rw [Nat.pow_add,Nat.pow_succ];row_cond lo
  rw [e1,e2]
  generalize 2 ^ m=P
  grind
theorem ax7 (m:Nat) (x j:Nat):∃ r,r < 2 ^ m/\it r x % 2 ^ m=j % 2 ^ m:=by
 induction m with
 | zero=>exact ⟨0,by decide,by rw [Nat.pow_zero,Nat.mod_one,Nat.mod_one]⟩
 | succ m ih =>
  obtain ⟨r,hr,e⟩:=ih
  obtain ⟨c,d,h⟩:=ax6 m
  have hp:0 < 2 ^ m:=Nat.pow_pos (by decide)
  have e2:2 ^ (m+1)=2 ^ m * 2:=Nat.pow_succ ..
  have e4:2 ^ (m+2)=2 ^ m * 4:=by rw [Nat.pow_add]
  rw [e2]
  have m1:=Nat.mod_mul (x:=it r x) (a:=2 ^ m) (b:=2)
  have m2:=Nat.mod_mul (x:=j) (a:=2 ^ m) (b:=2)
  by_cases hq:it r x / 2 ^ m % 2=j / 2 ^ m % 2
  ·exact ⟨r,by row_cond lo,by rw [m1,m2,e,hq]⟩
  ·refine ⟨r+2 ^ m,by row_cond lo,?_⟩
   rw [agv,h,e4]
   have e5:(1+2 ^ m * 4 * c) * it r x+2 ^ m * (2 * d+1)=it r x+2 ^ m * (4 * (c * it r x)+2 * d+1):=by
    generalize 2 ^ m=P
    grind
   rw [e5,Nat.mod_mul,m2,Nat.add_mul_mod_self_left,e,Nat.add_mul_div_left _ _ hp]
   have:(it r x / 2 ^ m+(4 * (c * it r x)+2 * d+1)) % 2=j / 2 ^ m % 2:=by
    generalize c * it r x=z
    row_cond lo
   rw [this]
theorem avn (r x:Nat):it (r+1) x=5 * it r x+1:=by rw [agv];rfl
noncomputable def adv (mask:Nat) (p:Probe):Probe:=if p.more > 0 then { p with j:=p.j+1,more:=p.more - 1 } else { p with j:=(leap mask p.i p.perturb).1,more:=runEnd mask (leap mask p.i p.perturb).1 - (leap mask p.i p.perturb).1,i:=(leap mask p.i p.perturb).1,perturb:=(leap mask p.i p.perturb).2 }
noncomputable def pr0 (mask:Nat) (h:Int):Probe:={ j:=bits h % (mask+1),more:=runEnd mask (bits h % (mask+1)) - bits h % (mask+1),i:=bits h % (mask+1),perturb:=bits h,dummy:=none }
noncomputable def pr (mask:Nat) (h:Int):Nat->Probe
 | 0=>pr0 mask h
 | k+1=>adv mask (pr mask h k)
theorem akr (mask:Nat) (h:Int):∀ k,(pr mask h k).dummy=none
 | 0=>rfl
 | k+1=>by
  have:=akr mask h k
  show (adv mask (pr mask h k)).dummy=none
  unfold adv
  split <;> exact this
noncomputable def lp (mask:Nat) (h:Int):Nat->Nat × Nat
 | 0=>(bits h % (mask+1),bits h)
 | n+1=>leap mask (lp mask h n).1 (lp mask h n).2
noncomputable def pAt (mask:Nat) (q:Nat × Nat) (a:Nat):Probe:={ j:=q.1+a,more:=runEnd mask q.1 - q.1 - a,i:=q.1,perturb:=q.2,dummy:=none }
theorem ax8 (mask i:Nat):runEnd mask i - i<=9:=by unfold runEnd;split <;> row_cond lo
theorem aks {mask:Nat} {h:Int} {s:Nat} {q:Nat × Nat} (e:pr mask h s=pAt mask q 0):∀ a,a<=runEnd mask q.1 - q.1->pr mask h (s+a)=pAt mask q a
 | 0,_=>e
 | a+1,ha=>by
  have ih:=aks e a (by row_cond lo)
  show adv mask (pr mask h (s+a))=_
  rw [ih]
  unfold adv pAt
  rw [if_pos (by show runEnd mask q.1 - q.1 - a > 0;row_cond lo)]
  show Probe.mk _ _ _ _ _=Probe.mk _ _ _ _ _
  congr 1
theorem avo {mask:Nat} {h:Int} {s:Nat} {q:Nat × Nat} (e:pr mask h s=pAt mask q 0):pr mask h (s+(runEnd mask q.1 - q.1)+1)=pAt mask (leap mask q.1 q.2) 0:=by
 have:=aks e _ (Nat.le_refl _)
 show adv mask (pr mask h (s+_))=_
 rw [this]
 unfold adv pAt
 rw [if_neg (by show ¬ (runEnd mask q.1 - q.1 - (runEnd mask q.1 - q.1) > 0);row_cond lo)]
 rfl
noncomputable def sp (mask:Nat) (h:Int):Nat->Nat
 | 0=>0
 | n+1=>sp mask h n+(runEnd mask (lp mask h n).1 - (lp mask h n).1)+1
theorem atk (mask:Nat) (h:Int):∀ n,sp mask h n<=10 * n
 | 0=>Nat.le_refl _
 | n+1=>by
  have:=atk mask h n
  have:=ax8 mask (lp mask h n).1
  unfold sp
  row_cond lo
theorem aog (mask:Nat) (h:Int):∀ n,pr mask h (sp mask h n)=pAt mask (lp mask h n) 0
 | 0=>rfl
 | n+1=>avo (aog mask h n)
theorem amy (mask:Nat) (h:Int):∀ n,(lp mask h n).2=bits h / 32 ^ n
 | 0=>by show bits h=_;rw [Nat.pow_zero,Nat.div_one]
 | n+1=>by
  show (lp mask h n).2 / 32=_
  rw [amy mask h n,Nat.div_div_eq_div_mul,Nat.pow_succ]
theorem avp (h:Int):bits h < 2 ^ 64:=by
 unfold bits
 have h1:=Int.emod_nonneg h (show (2 ^ 64:Int) ≠ 0 by decide)
 have h2:=Int.emod_lt_of_pos h (show (0:Int) < 2 ^ 64 by decide)
 row_cond lo
theorem avq (mask:Nat) (h:Int) (r:Nat):(lp mask h (13+r)).2=0:=by
 rw [amy]
 apply Nat.div_eq_of_lt
 refine Nat.lt_of_lt_of_le (avp h) ?_
 rw [Nat.pow_add]
 exact Nat.le_trans (show 2 ^ 64<=32 ^ 13 by decide) (Nat.le_mul_of_pos_right _ (Nat.pow_pos (by decide)))
theorem atl (mask:Nat) (h:Int):∀ r,(lp mask h (13+r)).1 % (mask+1)=it r (lp mask h 13).1 % (mask+1)
 | 0=>rfl
 | r+1=>by
  show ((lp mask h (13+r)).1 * 5+1+(lp mask h (13+r)).2 / 32) % (mask+1) % (mask+1)=_
  rw [avq,avn,Nat.mod_mod,show 0 / 32=0 from rfl,Nat.add_zero,Nat.add_mod,Nat.mul_mod,atl mask h r,← Nat.mul_mod,← Nat.add_mod,Nat.mul_comm]
theorem atm (mask:Nat) (h:Int):∀ n,(lp mask h n).1 < mask+1
 | 0=>Nat.mod_lt _ (Nat.succ_pos _)
 | n+1=>Nat.mod_lt _ (Nat.succ_pos _)
theorem aqd {mask m:Nat} (hm:mask+1=2 ^ m) (h:Int) (j:Nat) (hj:j<=mask):∃ n,n < mask+14/\(lp mask h n).1=j:=by
 obtain ⟨r,hr,e⟩:=ax7 m (lp mask h 13).1 j
 refine ⟨13+r,by row_cond lo,?_⟩
 have h1:=atl mask h r
 rw [hm,e,← hm,Nat.mod_eq_of_lt (atm mask h _),Nat.mod_eq_of_lt (show j < mask+1 by row_cond lo)] at h1
 exact h1
theorem ax9 {mask m:Nat} (hm:mask+1=2 ^ m) (h:Int) (j:Nat) (hj:j<=mask):∃ k,k < 10 * turns mask/\(pr mask h k).j=j:=by
 obtain ⟨n,hn,e⟩:=aqd hm h j hj
 refine ⟨sp mask h n,?_,by rw [aog];exact e⟩
 have:=atk mask h n
 unfold turns
 row_cond lo
end SH
namespace SH
open PySem PySem.SetTable
structure TOk (t:SetTable):Prop where
 ris:t.place.toList.Pairwise (· < ·)
 dum:t.dummies = #[]
 le:∀ j∈t.place.toList,j<=t.mask
 two:∃ m,t.mask+1=2 ^ m
 room:t.place.size<=t.mask
theorem ac1 {t:SetTable} (x:TOk t) {j i:Nat}:t.slot j=.live i ↔ t.place.toList[i]?=some j:=by
 have hb:=SS.below_ok t.place j x.ris
 unfold slot
 dsimp only
 rw [x.dum,SS.has_nil]
 constructor
 ·intro h
  split at h
  ·rename_i e
   cases h
   have e:=eq_of_beq e
   rw [Array.getElem?_toList]
   exact e
  ·cases h
 ·intro h
  obtain ⟨hi,e⟩:=List.getElem?_eq_some_iff.mp h
  have hbi:below t.place j=i:=by
   rcases Nat.lt_trichotomy (below t.place j) i with hl | hl | hl
   ·have h1:=hb.2.2 (below t.place j) (by row_cond lo) (Nat.le_refl _)
    have h2:=List.pairwise_iff_getElem.mp x.ris (below t.place j) i (by row_cond lo) hi hl
    row_cond lo
   ·exact hl
   ·have:=hb.2.1 i hi hl
    row_cond lo
  rw [hbi,if_pos (by rw [← Array.getElem?_toList,h];exact beq_self_eq_true _)]
theorem agw {t:SetTable} (x:TOk t) (j:Nat):t.slot j=.empty\/∃ i,t.slot j=.live i:=by
 unfold slot
 dsimp only
 rw [x.dum,SS.has_nil]
 split
 ·exact .inr ⟨_,rfl⟩
 ·exact .inl rfl
theorem ack {t:SetTable} (x:TOk t) {j:Nat}:t.slot j=.empty ↔ j ∉ t.place.toList:=by
 constructor
 ·intro h hm
  obtain ⟨i,hi⟩:=List.getElem?_of_mem hm
  rw [(ac1 x).mpr hi] at h
  cases h
 ·intro h
  rcases agw x j with e | ⟨i,e⟩
  ·exact e
  ·exact absurd (List.mem_of_getElem? ((ac1 x).mp e)) h
theorem aqe {t:SetTable} (x:TOk t):∃ j,j<=t.mask/\t.slot j=.empty:=by
 apply Classical.byContradiction
 intro hn
 have hall:∀ j∈List.range (t.mask+1),j∈t.place.toList:=fun j hj=>by
  have hj:=List.mem_range.mp hj
  apply Classical.byContradiction
  intro h
  exact hn ⟨j,by row_cond lo,(ack x).mpr h⟩
 have:=List.Nodup.length_le_of_subset List.nodup_range hall
 rw [List.length_range,Array.length_toList] at this
 have:=x.room
 row_cond lo
theorem akt {t:SetTable} (x:TOk t) {ha:Nat->Int} {h:Int}:∀ (fuel k:Nat),(∃ k1,k<=k1/\k1 < k+fuel/\t.slot (pr t.mask h k1).j=.empty) ->
  ∃ k1,k<=k1/\k1 < k+fuel/\(∀ k',k<=k'->k' < k1->∃ i,t.slot (pr t.mask h k').j=.live i/\ha i ≠ h) /\
   ((t.slot (pr t.mask h k1).j=.empty ∧ probe.go t ha h fuel (pr t.mask h k)=some (.empty (pr t.mask h k1).j none)) ∨
    ∃ i,t.slot (pr t.mask h k1).j=.live i/\ha i=h/\probe.go t ha h fuel (pr t.mask h k)=some (.candidate (pr t.mask h k1).j i (pr t.mask h (k1+1))))
 | 0, k, ⟨k1, h1, h2, _⟩ => by row_cond lo
 | fuel+1,k,⟨k1,h1,h2,h3⟩=>by
  rcases agw x (pr t.mask h k).j with e | ⟨i,e⟩
  ·refine ⟨k,Nat.le_refl _,by row_cond lo,fun k' a b=>by row_cond lo,.inl ⟨e,?_⟩⟩
   unfold probe.go
   rw [e,akr]
  ·by_cases hi:ha i=h
   ·refine ⟨k,Nat.le_refl _,by row_cond lo,fun k' a b=>by row_cond lo,.inr ⟨i,e,hi,?_⟩⟩
    unfold probe.go
    rw [e]
    dsimp only
    rw [if_pos (by rw [hi];exact beq_self_eq_true _)]
    rfl
   ·have hk1:k+1<=k1:=by
     rcases Nat.lt_or_eq_of_le h1 with h | h
     ·exact h
     ·rw [← h,e] at h3;cases h3
    obtain ⟨k2,a1,a2,a3,a4⟩:=akt x (ha:=ha) (h:=h) fuel (k+1) ⟨k1,hk1,by row_cond lo,h3⟩
    have eg:probe.go t ha h (fuel+1) (pr t.mask h k)=probe.go t ha h fuel (pr t.mask h (k+1)):=by
     conv=>lhs;unfold probe.go
     rw [e]
     dsimp only
     rw [if_neg (by intro z;exact hi (eq_of_beq z))]
     rfl
    refine ⟨k2,by row_cond lo,by row_cond lo,fun k' b1 b2=>?_,?_⟩
    ·rcases Nat.lt_or_eq_of_le b1 with b | b
     ·exact a3 k' (by row_cond lo) b2
     ·exact ⟨i,by rw [← b];exact e,hi⟩
    ·rw [eg]
     exact a4
def HI (t:SetTable) (es:List (Int × Value)):Prop:=es.length=t.place.size/\∀ (i:Nat) (e:Int × Value) (j:Nat),es[i]?=some e->t.place.toList[i]?=some j->∃ k,(pr t.mask e.1 k).j=j/\∀ k',k' < k->t.slot (pr t.mask e.1 k').j ≠ .empty
theorem HI.found {t:SetTable} {es:List (Int × Value)} (x:TOk t) (hI:HI t es) {h:Int} {k1:Nat} (he:t.slot (pr t.mask h k1).j=.empty) {i:Nat} {e:Int × Value} (hi:es[i]?=some e) (hh:e.1=h):∃ k,k < k1/\t.slot (pr t.mask h k).j=.live i:=by
 have hl:i < t.place.toList.length:=by rw [Array.length_toList,← hI.1];exact (List.getElem?_eq_some_iff.mp hi).1
 obtain ⟨k,e1,e2⟩:=hI.2 i e _ hi (List.getElem?_eq_getElem hl)
 rw [hh] at e1 e2
 have hs:t.slot (pr t.mask h k).j=.live i:=(ac1 x).mpr (by rw [e1];exact List.getElem?_eq_getElem hl)
 refine ⟨k,?_,hs⟩
 rcases Nat.lt_trichotomy k k1 with a | a | a
 ·exact a
 ·subst a;rw [he] at hs;cases hs
 ·exact absurd he (e2 k1 a)
theorem ins_get {α:Type} (l:List α) (p:Nat) (x : α) (hp:p<=l.length) (i:Nat):(l.take p ++ x :: l.drop p)[i]?=if i < p then l[i]? else if i=p then some x else l[i - 1]?:=by
 have hlen:(l.take p).length=p:=by rw [List.length_take];row_cond lo
 by_cases h1:i < p
 ·rw [if_pos h1,List.getElem?_append_left (by row_cond lo),List.getElem?_take,if_pos h1]
 ·rw [if_neg h1,List.getElem?_append_right (by row_cond lo),hlen]
  by_cases h2:i=p
  ·rw [if_pos h2,h2,Nat.sub_self];rfl
  ·rw [if_neg h2]
   obtain ⟨d,hd⟩:∃ d,i - p=d+1:=⟨i - p - 1,by row_cond lo⟩
   rw [hd,List.getElem?_cons_succ,List.getElem?_drop,show p+d=i - 1 by row_cond lo]
theorem ac2 (t:SetTable) (j:Nat):(t.put j).1.place.toList=t.place.toList.take (below t.place j) ++ j :: t.place.toList.drop (below t.place j):=SetTable.toList_insertAt ..
theorem asi (t:SetTable) (j:Nat):(t.put j).1.mask=t.mask:=rfl
theorem TOk.put {t:SetTable} (x:TOk t) {j:Nat} (hj:j<=t.mask) (he:t.slot j=.empty) (hr:t.place.size+1<=t.mask):TOk (t.put j).1:=by
 have hb:=SS.below_ok t.place j x.ris
 refine ⟨?_,?_,fun q hq=>?_,x.two,?_⟩
 ·refine SS.put_rise x.ris fun e=>?_
  exact (ack x).mp he (by rw [← Array.getElem?_toList] at e;exact List.mem_of_getElem? e)
 ·show (if has t.dummies j=true then _ else t.dummies) = #[]
  rw [x.dum,SS.has_nil];rfl
 ·rw [ac2] at hq
  rcases List.mem_append.mp hq with h | h
  ·exact x.le q (List.mem_of_mem_take h)
  ·rcases List.mem_cons.mp h with h | h
   ·rw [h];exact hj
   ·exact x.le q (List.mem_of_mem_drop h)
 ·have:(t.put j).1.place.toList.length=t.place.toList.length+1:=by
   rw [ac2,List.length_append,List.length_cons,List.length_take,List.length_drop]
   have:=hb.1
   simp only [Array.length_toList]
   row_cond lo
  simp only [Array.length_toList] at this
  rw [this]
  exact hr
theorem HI.put {t:SetTable} {es:List (Int × Value)} (x:TOk t) (hI:HI t es) {j:Nat} (hj:j<=t.mask) (hr:t.place.size+1<=t.mask) {e:Int × Value} {k1:Nat} (ej:(pr t.mask e.1 k1).j=j) (he:t.slot j=.empty) (hk:∀ k',k' < k1->t.slot (pr t.mask e.1 k').j ≠ .empty) :
  HI (t.put j).1 (es.take (below t.place j) ++ e :: es.drop (below t.place j)):=by
 have hb:=SS.below_ok t.place j x.ris
 have x':=x.put hj he hr
 have hle:es.length=t.place.toList.length:=by rw [Array.length_toList];exact hI.1
 have hbl:below t.place j<=t.place.toList.length:=by rw [Array.length_toList];exact hb.1
 have hmono:∀ q,t.slot q ≠ .empty->(t.put j).1.slot q ≠ .empty:=fun q hq z=>by
  rw [ack x'] at z
  refine hq ((ack x).mpr fun hm=>z ?_)
  rw [ac2]
  rw [← List.take_append_drop (below t.place j) t.place.toList] at hm
  rcases List.mem_append.mp hm with h | h
  ·exact List.mem_append_left _ h
  ·exact List.mem_append_right _ (List.mem_cons_of_mem _ h)
 refine ⟨?_,fun i e' j' hi hj'=>?_⟩
 ·have h1:(t.put j).1.place.toList.length=es.length+1:=by
   rw [ac2,List.length_append,List.length_cons,List.length_take,List.length_drop]
   row_cond lo
  rw [← Array.length_toList,h1,List.length_append,List.length_cons,List.length_take,List.length_drop]
  row_cond lo
 ·rw [ac2,ins_get _ _ _ hbl] at hj'
  rw [ins_get _ _ _ (by row_cond lo)] at hi
  rw [asi]
  by_cases h1:i < below t.place j
  ·rw [if_pos h1] at hi hj'
   obtain ⟨k,a1,a2⟩:=hI.2 i e' j' hi hj'
   exact ⟨k,a1,fun k' hk'=>hmono _ (a2 k' hk')⟩
  ·rw [if_neg h1] at hi hj'
   by_cases h2:i=below t.place j
   ·rw [if_pos h2] at hi hj'
    cases hi
    cases hj'
    exact ⟨k1,ej,fun k' hk'=>hmono _ (hk k' hk')⟩
   ·rw [if_neg h2] at hi hj'
    obtain ⟨k,a1,a2⟩:=hI.2 (i - 1) e' j' hi hj'
    exact ⟨k,a1,fun k' hk'=>hmono _ (a2 k' hk')⟩
noncomputable def ow (owner:Array (Option Nat)) (j:Nat):Option Nat:=owner.getD j none
theorem aoh (f:Nat->Bool):∀ (n:Nat),(∃ k,(List.range n).find? f=some k/\k < n/\f k=true/\∀ k',k' < k->f k'=false)\/((List.range n).find? f=none/\∀ k',k' < n->f k'=false):=fun n=>by
 cases h:(List.range n).find? f with
 | none =>
  refine .inr ⟨rfl,fun k' hk=>?_⟩
  have:=List.find?_eq_none.mp h k' (List.mem_range.mpr hk)
  simpa using this
 | some k =>
  refine .inl ⟨k,rfl,List.mem_range.mp (List.mem_of_find?_eq_some h),List.find?_some h,fun k' hk=>?_⟩
  rw [List.find?_range_eq_some] at h
  have:=h.2.2 k' hk
  simpa using this
theorem amz {mask:Nat} {owner:Array (Option Nat)} (hsz:owner.size=mask+1) {h:Int} {ne je:Nat} (hne:(lp mask h ne).1=je) (hje:ow owner je=none) (hjm:je<=mask):∀ (fuel n:Nat),n+fuel > ne->n<=ne->(∀ s',s' < sp mask h n->ow owner (pr mask h s').j ≠ none) ->
  ∃ s,layClean.free mask owner fuel (lp mask h n).1 (lp mask h n).2=some (pr mask h s).j/\ow owner (pr mask h s).j=none/\(pr mask h s).j<=mask/\∀ s',s' < s->ow owner (pr mask h s').j ≠ none
 | 0, n, h1, h2, _ => by row_cond lo
 | fuel+1,n,h1,h2,hall=>by
  have hl:=atm mask h n
  have hrun:runEnd mask (lp mask h n).1<=mask/\(lp mask h n).1<=runEnd mask (lp mask h n).1:=by unfold runEnd;split <;> row_cond lo
  have hg:∀ j,j<=mask->owner.getD j (some 0)=ow owner j:=fun j hj=>by
   unfold ow
   simp [Array.getD,hsz,show j < mask+1 by row_cond lo]
  have hat:∀ a,a<=runEnd mask (lp mask h n).1 - (lp mask h n).1->(pr mask h (sp mask h n+a)).j=(lp mask h n).1+a:=fun a ha=>by rw [aks (aog mask h n) a ha];rfl
  have hrest:∀ K,K<=runEnd mask (lp mask h n).1 - (lp mask h n).1+1->(∀ k',k' < K->(owner.getD ((lp mask h n).1+k') (some 0)).isNone=false)->∀ s',s' < sp mask h n+K->ow owner (pr mask h s').j ≠ none:=fun K hK hf s' hs'=>by
   by_cases hs:s' < sp mask h n
   ·exact hall s' hs
   ·obtain ⟨a,rfl⟩:∃ a,s'=sp mask h n+a:=⟨s' - sp mask h n,by row_cond lo⟩
    rw [hat a (by row_cond lo),← hg _ (by row_cond lo)]
    intro z
    have:=hf a (by row_cond lo)
    rw [z] at this
    cases this
  unfold layClean.free
  rcases aoh (fun k=>(owner.getD ((lp mask h n).1+k) (some 0)).isNone) (runEnd mask (lp mask h n).1+1 - (lp mask h n).1) with ⟨k,e,hk,hfk,hfb⟩ | ⟨e,hf⟩
  ·rw [e]
   refine ⟨sp mask h n+k,by rw [hat k (by row_cond lo)],?_,by rw [hat k (by row_cond lo)];row_cond lo,hrest k (by row_cond lo) hfb⟩
   rw [hat k (by row_cond lo),← hg _ (by row_cond lo)]
   simpa using hfk
  ·rw [e]
   have hne':n ≠ ne:=fun z=>by
    subst z
    have:=hf 0 (by row_cond lo)
    rw [Nat.add_zero,hne,hg je hjm,hje] at this
    cases this
   have ih:=amz hsz hne hje hjm fuel (n+1) (by row_cond lo) (by row_cond lo) (fun s' hs'=>hrest _ (Nat.le_refl _) (fun k' hk'=>hf k' (by row_cond lo)) s' (by
    have:sp mask h (n+1)=sp mask h n+(runEnd mask (lp mask h n).1 - (lp mask h n).1)+1:=rfl
    row_cond lo))
   exact ih
end SH
namespace SH
open PySem PySem.SetTable
structure Lay (mask:Nat) (hs:List Int) (owner:Array (Option Nat)):Prop where
 sz:owner.size=mask+1
 at':∀ k h,hs[k]?=some h->∃ s,(pr mask h s).j<=mask/\ow owner (pr mask h s).j=some k/\∀ s',s' < s->ow owner (pr mask h s').j ≠ none
 un:∀ j k,ow owner j=some k->k < hs.length
 inj:∀ j j' k,ow owner j=some k->ow owner j'=some k->j=j'
theorem aya {owner:Array (Option Nat)} {j:Nat} (h:owner.size<=j):ow owner j=none:=by
 unfold ow
 simp [Array.getD,show ¬ (j < owner.size) by row_cond lo]
theorem Lay.start (mask:Nat):Lay mask [] (Array.replicate (mask+1) none):=by
 have hn:∀ j,ow (Array.replicate (mask+1) none) j=none:=fun j=>by
  unfold ow
  simp only [Array.getD]
  split
  ·simp
  ·rfl
 exact ⟨by simp,fun k h hk=>by simp at hk,fun j k e=>(by rw [hn] at e;cases e),fun j j' k e=>(by rw [hn] at e;cases e)⟩
theorem Lay.gap {mask:Nat} {hs:List Int} {owner:Array (Option Nat)} (x:Lay mask hs owner) (hl:hs.length<=mask):∃ j,j<=mask/\ow owner j=none:=by
 apply Classical.byContradiction
 intro hn
 have hall:∀ j,j<=mask->∃ k,ow owner j=some k:=fun j hj=>by
  cases e:ow owner j with
  | some k=>exact ⟨k,rfl⟩
  | none=>exact absurd ⟨j,hj,e⟩ hn
 have hnd:((List.range (mask+1)).map fun j=>(ow owner j).getD 0).Nodup:=by
  rw [List.Nodup,List.pairwise_map]
  refine List.Pairwise.imp_of_mem (fun {a b} ha hb hab=>?_) List.nodup_range
  obtain ⟨k,hk⟩:=hall a (by have:=List.mem_range.mp ha;row_cond lo)
  obtain ⟨k',hk'⟩:=hall b (by have:=List.mem_range.mp hb;row_cond lo)
  rw [hk,hk']
  intro e
  have e:k=k':=e
  subst e
  exact hab (x.inj a b k hk hk')
 have:=List.Nodup.length_le_of_subset (l₂:=List.range hs.length) hnd fun k hk=>by
  obtain ⟨j,hj,rfl⟩:=List.mem_map.mp hk
  obtain ⟨k,e⟩:=hall j (by have:=List.mem_range.mp hj;row_cond lo)
  rw [e]
  exact List.mem_range.mpr (x.un j k e)
 rw [List.length_map,List.length_range,List.length_range] at this
 row_cond lo
theorem ae4 {owner:Array (Option Nat)} {j q:Nat} {o:Option Nat} (hj:j < owner.size):ow (owner.setIfInBounds j o) q=if q=j then o else ow owner q:=by
 unfold ow
 simp only [Array.getD,Array.size_setIfInBounds]
 by_cases e:q=j
 ·subst e
  simp [hj]
 ·rw [if_neg e]
  split
  ·rename_i hq
   simp [Array.getElem_setIfInBounds,hq,Ne.symm e]
  ·rfl
theorem Lay.next {mask m:Nat} (hm:mask+1=2 ^ m) {hs:List Int} {owner:Array (Option Nat)} (x:Lay mask hs owner) (hl:hs.length<=mask) (h:Int) :
  ∃ j,layClean.free mask owner (turns mask) (bits h % (mask+1)) (bits h)=some j/\Lay mask (hs ++ [h]) (owner.setIfInBounds j (some hs.length)):=by
 obtain ⟨je,hje,he⟩:=x.gap hl
 obtain ⟨ne,hne,el⟩:=aqd hm h je hje
 obtain ⟨s,e1,e2,e3,e4⟩:=amz x.sz el he hje (turns mask) 0 (by unfold turns;row_cond lo) (Nat.zero_le _) (fun s' hs'=>by cases hs')
 have hjs:(pr mask h s).j < owner.size:=by rw [x.sz];row_cond lo
 have hmono:∀ q,ow owner q ≠ none->ow (owner.setIfInBounds (pr mask h s).j (some hs.length)) q ≠ none:=fun q hq=>by
  rw [ae4 hjs]
  split
  ·simp
  ·exact hq
 refine ⟨_,e1,⟨by rw [Array.size_setIfInBounds];exact x.sz,fun k h' hk=>?_,fun j k e=>?_,fun j j' k e e'=>?_⟩⟩
 ·by_cases hkl:k < hs.length
  ·rw [List.getElem?_append_left hkl] at hk
   obtain ⟨s2,a1,a2,a3⟩:=x.at' k h' hk
   refine ⟨s2,a1,?_,fun s' hs'=>hmono _ (a3 s' hs')⟩
   rw [ae4 hjs,if_neg (fun z=>by rw [z,e2] at a2;cases a2)]
   exact a2
  ·have hk2:=(List.getElem?_eq_some_iff.mp hk).1
   rw [List.length_append] at hk2
   simp at hk2
   have:k=hs.length:=by row_cond lo
   subst this
   rw [List.getElem?_append_right (Nat.le_refl _),Nat.sub_self] at hk
   cases hk
   exact ⟨s,e3,by rw [ae4 hjs,if_pos rfl],fun s' hs'=>hmono _ (e4 s' hs')⟩
 ·rw [ae4 hjs] at e
  rw [List.length_append]
  split at e
  ·cases e;simp
  ·have:=x.un j k e;row_cond lo
 ·rw [ae4 hjs] at e e'
  split at e
  ·rename_i h1
   cases e
   split at e'
   ·rename_i h2;rw [h1,h2]
   ·have:=x.un j' _ e';row_cond lo
  ·split at e'
   ·cases e'
    have:=x.un j _ e;row_cond lo
   ·exact x.inj j j' k e e'
theorem aku {mask m:Nat} (hm:mask+1=2 ^ m):∀ (rest pre:List Int) (owner:Array (Option Nat)),Lay mask pre owner->pre.length+rest.length<=mask+1 ->
  ∃ owner',rest.foldl (fun (acc:Option (Array (Option Nat) × Nat)) h=>do
   let (owner,k) ← acc
   let j ← layClean.free mask owner (turns mask) (bits h % (mask+1)) (bits h)
   pure (owner.setIfInBounds j (some k),k+1)) (some (owner,pre.length))=some (owner',pre.length+rest.length)/\Lay mask (pre ++ rest) owner'
 | [],pre,owner,x,_=>⟨owner,rfl,by rw [List.append_nil];exact x⟩
 | h :: rest,pre,owner,x,hl=>by
  rw [List.length_cons] at hl
  obtain ⟨j,e,y⟩:=x.next hm (by row_cond lo) h
  obtain ⟨o',a1,a2⟩:=aku hm rest (pre ++ [h]) _ y (by rw [List.length_append,List.length_singleton];row_cond lo)
  refine ⟨o',?_,by rw [List.append_assoc] at a2;exact a2⟩
  rw [List.length_append,List.length_singleton] at a1
  rw [List.foldl_cons,List.length_cons]
  have e0:(do
   let (owner,k) ← (some (owner,pre.length):Option (Array (Option Nat) × Nat))
   let j ← layClean.free mask owner (turns mask) (bits h % (mask+1)) (bits h)
   pure (owner.setIfInBounds j (some k),k+1))=some (owner.setIfInBounds j (some pre.length),pre.length+1):=by
   show (layClean.free mask owner (turns mask) (bits h % (mask+1)) (bits h) >>= fun j=>pure (owner.setIfInBounds j (some pre.length),pre.length+1))=_
   rw [e]
   rfl
  rw [e0,a1]
  congr 2
  row_cond lo
theorem ayb {mask m:Nat} (hm:mask+1=2 ^ m) (hs:Array Int) (hl:hs.size<=mask+1):∃ owner,layClean mask hs=some owner/\Lay mask hs.toList owner:=by
 obtain ⟨o,e,x⟩:=aku hm hs.toList [] _ (Lay.start mask) (by simpa using hl)
 refine ⟨o,?_,by simpa using x⟩
 unfold layClean
 rw [← Array.foldl_toList]
 have e':hs.toList.foldl (fun (acc:Option (Array (Option Nat) × Nat)) h=>do
   let (owner,k) ← acc
   let j ← layClean.free mask owner (turns mask) (bits h % (mask+1)) (bits h)
   pure (owner.setIfInBounds j (some k),k+1)) (some (Array.replicate (mask+1) none,0))=_:=e
 rw [e']
 rfl
noncomputable def live (owner:Array (Option Nat)) (mask:Nat):List (Nat × Nat):=(List.range (mask+1)).filterMap fun j=>(owner.getD j none).map (j,·)
theorem live_mem {owner:Array (Option Nat)} {mask j k:Nat}:(j,k)∈live owner mask ↔ j<=mask/\ow owner j=some k:=by
 unfold live ow
 rw [List.mem_filterMap]
 constructor
 ·rintro ⟨j',hj,e⟩
  have hj:=List.mem_range.mp hj
  cases h:owner.getD j' none with
  | none=>rw [h] at e;cases e
  | some k' => rw [h] at e; cases e; exact ⟨by row_cond lo, h⟩
 ·rintro ⟨hj,e⟩
  exact ⟨j,List.mem_range.mpr (by row_cond lo),by rw [e];rfl⟩
theorem avr {mask:Nat} {hs:List Int} {owner:Array (Option Nat)} (x:Lay mask hs owner):((live owner mask).map (·.2)).Nodup:=by
 rw [List.Nodup,List.pairwise_map]
 have h1:((live owner mask).map (·.1)).Pairwise (· < ·):=SS.live_rise owner (mask+1)
 rw [List.pairwise_map] at h1
 refine List.Pairwise.imp_of_mem (fun {a b} ha hb hab e=>?_) h1
 obtain ⟨j,k⟩:=a
 obtain ⟨j',k'⟩:=b
 have e:k=k':=e
 subst e
 have:=x.inj j j' k (live_mem.mp ha).2 (live_mem.mp hb).2
 have hab:j < j':=hab
 row_cond lo
theorem aqf {mask:Nat} {hs:List Int} {owner:Array (Option Nat)} (x:Lay mask hs owner):((live owner mask).map (·.2)).Perm (List.range hs.length):=by
 refine (List.perm_ext_iff_of_nodup (avr x) List.nodup_range).mpr fun k=>?_
 rw [List.mem_map,List.mem_range]
 constructor
 ·rintro ⟨⟨j,k'⟩,h,rfl⟩
  exact x.un j _ (live_mem.mp h).2
 ·intro h
  obtain ⟨s,a1,a2,_⟩:=x.at' k _ (List.getElem?_eq_getElem h)
  exact ⟨((pr mask hs[k] s).j,k),live_mem.mpr ⟨a1,a2⟩,rfl⟩
theorem aie {α:Type} (xs:List α) (d : α):∀ (l:List Nat),(∀ k∈l,k < xs.length)->l.filterMap (xs[·]?)=l.map fun k=>xs.getD k d
 | [],_=>rfl
 | k :: l,h=>by
  have hk:=h k List.mem_cons_self
  rw [List.filterMap_cons,List.getElem?_eq_getElem hk,List.map_cons,aie xs d l fun q hq=>h q (List.mem_cons_of_mem _ hq),List.getD_eq_getElem?_getD,List.getElem?_eq_getElem hk]
  rfl
theorem avs {mask m finger moves:Nat} {led plain:Bool} (hm:mask+1=2 ^ m) (es:Array (Int × Value)) (hl:es.size<=mask) :
  ∃ t order es',laid mask finger moves led plain (es.map (·.1))=some (t,order)/\order.filterMap (es[·]?)=es'/\es'.size=es.size/\es'.toList.Perm es.toList/\TOk t/\HI t es'.toList/\t.mask=mask/\t.place.size=es.size/\t.led=led/\t.plain=plain:=by
 obtain ⟨owner,e,x⟩:=ayb hm (es.map (·.1)) (by simp;row_cond lo)
 have hlen:(es.map (·.1)).toList.length=es.size:=by simp
 have hp:=aqf x
 rw [hlen] at hp
 have hll:(live owner mask).length=es.size:=by have:=hp.length_eq;simpa using this
 have hout:=aie es.toList (0,Value.none) ((live owner mask).map (·.2)) fun k hk=>by rw [Array.length_toList];exact List.mem_range.mp (hp.mem_iff.mp hk)
 have hes:((((live owner mask).map (·.2)).toArray).filterMap (es[·]?)).toList=((live owner mask).map (·.2)).map fun k=>es.toList.getD k (0,.none):=by
  rw [← hout]
  simp
 have hpl:(((live owner mask).map (·.1)).toArray).toList=(live owner mask).map (·.1):=by simp
 have x':TOk { mask,place:=((live owner mask).map (·.1)).toArray,dummies:=#[],finger,led,moves,plain }:=by
  refine ⟨by show (((live owner mask).map (·.1)).toArray).toList.Pairwise _;rw [hpl];exact SS.live_rise owner (mask+1),rfl,fun j hj=>?_,⟨m,hm⟩,?_⟩
  ·have hj:j∈(live owner mask).map (·.1):=by simpa using hj
   obtain ⟨⟨j',k⟩,h,rfl⟩:=List.mem_map.mp hj
   exact (live_mem.mp h).1
  ·simp only [List.size_toArray,List.length_map]
   row_cond lo
 refine ⟨_,_,_,by unfold laid;rw [e];rfl,rfl,?_,?_,x',⟨?_,fun i q j hi hj=>?_⟩,rfl,?_,rfl,rfl⟩
 ·rw [← Array.length_toList]
  refine Eq.trans (congrArg List.length hes) ?_
  rw [List.length_map,List.length_map]
  exact hll
 ·refine (List.Perm.of_eq hes).trans ?_
  have h2:es.toList=(List.range es.size).map fun k=>es.toList.getD k (0,.none):=by
   refine List.ext_getElem? fun k=>?_
   rw [List.getElem?_map]
   by_cases hk:k < es.size
   ·rw [List.getElem?_range hk,List.getElem?_eq_getElem (by rw [Array.length_toList];exact hk),Option.map_some,List.getD_eq_getElem?_getD,List.getElem?_eq_getElem (by rw [Array.length_toList];exact hk)]
    rfl
   ·rw [List.getElem?_eq_none (by rw [Array.length_toList];row_cond lo),List.getElem?_eq_none (by rw [List.length_range];row_cond lo)]
    rfl
  refine (hp.map _).trans ?_
  rw [← h2]
 ·refine Eq.trans (congrArg List.length hes) ?_
  rw [List.length_map,List.length_map]
  simp
 ·have hi:=(congrArg (·[i]?) hes).symm.trans hi
  have hj:((live owner mask).map (·.1))[i]?=some j:=by simpa using hj
  rw [List.map_map,List.getElem?_map] at hi
  rw [List.getElem?_map] at hj
  cases hli:(live owner mask)[i]? with
  | none=>rw [hli] at hj;cases hj
  | some p =>
   obtain ⟨j',k⟩:=p
   rw [hli] at hi hj
   cases hj
   have hjk:=live_mem.mp (List.mem_of_getElem? hli)
   have hkl:k < es.size:=by have:=x.un _ _ hjk.2;rwa [hlen] at this
   have hq:q=es.toList.getD k (0,.none):=by simpa using hi.symm
   have hh:(es.map (·.1)).toList[k]?=some q.1:=by
    rw [hq,Array.toList_map,List.getElem?_map,List.getElem?_eq_getElem (by rw [Array.length_toList];exact hkl),List.getD_eq_getElem?_getD,List.getElem?_eq_getElem (by rw [Array.length_toList];exact hkl)]
    rfl
   obtain ⟨s,a1,a2,a3⟩:=x.at' k _ hh
   refine ⟨s,x.inj _ _ k a2 hjk.2,fun s' hs' z=>?_⟩
   have hn:=a3 s' hs'
   cases ho:ow owner (pr mask q.1 s').j with
   | none=>exact hn ho
   | some k' =>
    have hjm:(pr mask q.1 s').j<=mask:=by
     apply Classical.byContradiction
     intro hgt
     rw [aya (by rw [x.sz];row_cond lo)] at ho
     cases ho
    refine (ack x').mp z ?_
    show _∈(((live owner mask).map (·.1)).toArray).toList
    rw [hpl]
    exact List.mem_map.mpr ⟨_,live_mem.mpr ⟨hjm,ho⟩,rfl⟩
 ·simp only [List.size_toArray,List.length_map]
  exact hll
theorem akv (n:Nat):∀ (fuel a:Nat),n < 2 ^ (a+fuel)->∃ b,sizeAbove.go n fuel (2 ^ a)=2 ^ b/\n < 2 ^ b/\a<=b/\(2 ^ b=2 ^ a\/2 ^ b<=2 * n)
 | 0,a,h=>⟨a,rfl,by simpa using h,Nat.le_refl _,.inl rfl⟩
 | fuel+1,a,h=>by
  unfold sizeAbove.go
  by_cases hs:2 ^ a<=n
  ·rw [if_pos hs,← Nat.pow_succ]
   obtain ⟨b,h1,h2,h3,h4⟩:=akv n fuel (a+1) (by rw [show a+1+fuel=a+(fuel+1) by row_cond lo];exact h)
   refine ⟨b,h1,h2,by row_cond lo,.inr ?_⟩
   rcases h4 with h4 | h4
   ·rw [h4,Nat.pow_succ];row_cond lo
   ·exact h4
  ·rw [if_neg hs]
   exact ⟨a,rfl,by row_cond lo,Nat.le_refl _,.inl rfl⟩
theorem asj {n:Nat} (h:n<=100000):∃ m,sizeAbove n=2 ^ m/\n < 2 ^ m/\3<=m/\(2 ^ m=8\/2 ^ m<=2 * n):=by
 obtain ⟨b,h1,h2,h3,h4⟩:=akv n 64 3 (Nat.lt_of_le_of_lt h (by decide))
 exact ⟨b,h1,h2,h3,h4⟩
theorem aqg {m n:Nat} (h:2 ^ m<=2 * n) (hn:n < 8192):2 ^ m<=8192:=by
 apply Classical.byContradiction
 intro hc
 have:13 < m:=(Nat.pow_lt_pow_iff_right (a:=2) (by decide)).mp (by show 2 ^ 13 < 2 ^ m;row_cond lo)
 have:=Nat.pow_le_pow_right (n:=2) (by decide) (show 14<=m by row_cond lo)
 row_cond lo
end SH
namespace SH
open PySem PySem.W PyProof.Rows
section
variable {prog:Program} {w:World} {A:Around} {E:Value->Shared->Prop} {s:Shared} {U:Addr->Prop}
noncomputable abbrev TK (prog:Program) (w:World):=tupleKind (intKind prog w)
theorem afn {ks:List Int} {a:Addr} {Q:Bool->Shared->Prop} (hk:(TK prog w).is s.heap ks a) (h:Q false s):wpAny (model prog w) A (ofAClassStatement 8 (.ref a)) Q E s:=by
 have hT:=IsTupleKey.typeIs hk
 obtain ⟨o,items,n,ho,_,hd,hi⟩:=hk
 unfold ofAClassStatement
 refine wpAny_bind (wpAny_typeOf hT ?_)
 show wpAny _ _ (pure true >>= _) _ _ s
 refine wpAny_bind (wpAny_pure ?_)
 simp only [Bool.not_true,Bool.false_eq_true,if_false]
 refine wpAny_bind (wpAny_seqItems ho hd ?_)
 refine wpAny_bind ?_
 show wpAny _ _ (forIn items _ _) _ _ s
 rw [← Array.forIn_toList]
 refine wpAny_forIn_list _ (fun rest r s'=>r.1=none/\s'=s/\∀ v∈rest,carriedByValue v=true) _ ?_ ?_ _ _ ⟨rfl,rfl,hi.byValue⟩
 ·rintro v rest r s' ⟨hr,rfl,hall⟩
  have hv:=hall v List.mem_cons_self
  have e:ofAClassStatement 7 v=pure false:=by
   cases v <;> first | (simp [carriedByValue] at hv;done) | (unfold ofAClassStatement;rfl)
  rw [e]
  refine wpAny_bind (wpAny_pure ?_)
  simp only [Bool.false_eq_true,if_false]
  exact wpAny_pure ⟨rfl,rfl,fun u hu'=>hall u (List.mem_cons_of_mem _ hu')⟩
 ·rintro ⟨r1,r2⟩ s' ⟨hr,rfl,_⟩
  simp only at hr
  subst hr
  exact wpAny_pure h
theorem aoi {ks:List Int} {vs:List Value} (h:ItemsAre (intKind prog w) ks vs):∀ v∈vs,∃ i t,v=.int i t:=by
 induction h with
 | nil=>intro v hv;cases hv
 | cons h1 _ ih =>
  intro v hv
  rcases List.mem_cons.mp hv with rfl | hv
  ·obtain ⟨t,rfl⟩:=Value.isInt_shape h1
   exact ⟨_,t,rfl⟩
  ·exact ih v hv
theorem alm {ks:List Int} {a:Addr} {Q:Bool->Shared->Prop} (hk:(TK prog w).is s.heap ks a) (h:Q true s):wpAny (model prog w) A (hashByValue 8 (.ref a)) Q E s:=by
 have hT:=IsTupleKey.typeIs hk
 obtain ⟨o,items,n,ho,_,hd,hi⟩:=hk
 unfold hashByValue
 refine wpAny_bind (wpAny_specialOf hT F.slot_tuple_hash.lookup ?_)
 show wpAny _ _ (seqItems? (.ref a) >>= _) _ _ s
 refine wpAny_bind (wpAny_seqItems ho hd ?_)
 refine wpAny_bind ?_
 show wpAny _ _ (forIn items _ _) _ _ s
 rw [← Array.forIn_toList]
 refine wpAny_forIn_list _ (fun rest r s'=>r.1=none/\s'=s/\∀ v∈rest,∃ i t,v=Value.int i t) _ ?_ ?_ _ _ ⟨rfl,rfl,aoi hi⟩
 ·rintro v rest r s' ⟨hr,rfl,hall⟩
  obtain ⟨i,t,rfl⟩:=hall v List.mem_cons_self
  have e:hashByValue 7 (.int i t)=pure true:=by unfold hashByValue;rfl
  rw [e]
  refine wpAny_bind (wpAny_pure ?_)
  simp only [Bool.not_true,Bool.false_eq_true,if_false]
  exact wpAny_pure ⟨rfl,rfl,fun u hu'=>hall u (List.mem_cons_of_mem _ hu')⟩
 ·rintro ⟨r1,r2⟩ s' ⟨hr,rfl,_⟩
  simp only at hr
  subst hr
  exact wpAny_pure h
theorem ayc {k0:List Int} {b0:Addr} {stored:List Value} {Q:Bool->Shared->Prop} (hk:(TK prog w).is s.heap k0 b0) (hst:∀ v∈stored,∃ k b,v=.ref b/\(TK prog w).is s.heap k b) (h:Q false s):wpAny (model prog w) A (searchCouldBeSeen (.ref b0) stored) Q E s:=by
 unfold searchCouldBeSeen
 refine wpAny_bind ?_
 refine wpAny_forIn_list _ (fun rest r s'=>r.1=none/\s'=s/\∀ v∈rest,∃ k b,v=.ref b/\(TK prog w).is s.heap k b) _ ?_ ?_ _ _ ⟨rfl,rfl,hst⟩
 ·rintro v rest r s' ⟨hr,rfl,hall⟩
  obtain ⟨k,b,rfl,hb⟩:=hall v List.mem_cons_self
  have hrest:∀ u∈rest,∃ k b,u=Value.ref b/\(TK prog w).is s'.heap k b:=fun u hu'=>hall u (List.mem_cons_of_mem _ hu')
  dsimp only
  split
  ·exact wpAny_pure ⟨rfl,rfl,hrest⟩
  ·refine wpAny_bind ((TK prog w).quiet hk ?_)
   simp only [Bool.not_true,Bool.false_eq_true,if_false]
   refine wpAny_bind ((TK prog w).quiet hb ?_)
   simp only [Bool.not_true,Bool.false_eq_true,if_false]
   refine wpAny_bind (afn hk ?_)
   simp only [Bool.false_eq_true,if_false]
   refine wpAny_bind (afn hb ?_)
   simp only [Bool.false_eq_true,if_false]
   exact wpAny_pure ⟨rfl,rfl,hrest⟩
 ·rintro ⟨r1,r2⟩ s' ⟨hr,rfl,_⟩
  simp only at hr
  subst hr
  exact wpAny_pure h
theorem azg (mask:Nat) (h:Int):∀ k,(pr mask h k).j+(pr mask h k).more<=mask:=fun k=>by
 have run:∀ i,i < mask+1->i+(SetTable.runEnd mask i - i)<=mask:=fun i hi=>by unfold SetTable.runEnd;split <;> row_cond lo
 induction k with
 | zero=>exact run _ (Nat.mod_lt _ (Nat.succ_pos _))
 | succ k ih =>
  show (adv mask (pr mask h k)).j+(adv mask (pr mask h k)).more<=mask
  unfold adv
  split
  ·dsimp only;row_cond lo
  ·exact run _ (Nat.mod_lt _ (Nat.succ_pos _))
structure ST (prog:Program) (w:World) (U:Addr->Prop) (a:Addr) (es:Array (Int × Value)) (ep:Nat) (t:SetTable) (ks:List (List Int)) (h:Heap):Prop where
 r:SS.SetR prog w a es ep t h
 ok:TOk t
 hi:HI t es.toList
 pl:t.plain=true
 msk:7<=t.mask/\t.mask<=8191
 len:ks.length=es.size
 gd:∀ (i:Nat) e k,es.toList[i]?=some e->ks[i]?=some k->∃ b,e=((TK prog w).hash k,.ref b)/\(TK prog w).is h k b/\U b
 nd:ks.Nodup
theorem ST.stored {a:Addr} {es:Array (Int × Value)} {ep:Nat} {t:SetTable} {ks:List (List Int)} {h:Heap} (x:ST prog w U a es ep t ks h) {e:Int × Value} (he:e∈es.toList):∃ k b,e=((TK prog w).hash k,.ref b)/\(TK prog w).is h k b/\U b:=by
 obtain ⟨i,hi⟩:=List.getElem?_of_mem he
 have hl:i < ks.length:=by rw [x.len,← Array.length_toList];exact (List.getElem?_eq_some_iff.mp hi).1
 obtain ⟨b,h1,h2⟩:=x.gd i e _ hi (List.getElem?_eq_getElem hl)
 exact ⟨_,b,h1,h2⟩
theorem aln {a b0:Addr} {es:Array (Int × Value)} {ep:Nat} {t:SetTable} {ks:List (List Int)} {kx:List Int} {Q:SetFound->Shared->Prop} (hu:(TK prog w).room A) (x:ST prog w U a es ep t ks s.heap) (hk:(TK prog w).is s.heap kx b0)
  (h1:kx∈ks->Q (.there none) s) (h2:kx ∉ ks->∀ k1,(pr t.mask ((TK prog w).hash kx) k1).j<=t.mask->t.slot (pr t.mask ((TK prog w).hash kx) k1).j=.empty->(∀ k',k' < k1->t.slot (pr t.mask ((TK prog w).hash kx) k').j ≠ .empty)->Q (.free (pr t.mask ((TK prog w).hash kx) k1).j false) s) :
  ∀ (fuel k0:Nat) (stand:Option SetTable.Probe),fuel+k0 > 10 * SetTable.turns t.mask->stand.getD (t.probeStart ((TK prog w).hash kx))=pr t.mask ((TK prog w).hash kx) k0->(∀ k',k' < k0->∃ i,t.slot (pr t.mask ((TK prog w).hash kx) k').j=.live i/\ks[i]? ≠ some kx) ->
   wpAny (model prog w) A (setSearchFrom a (.ref b0) ((TK prog w).hash kx) true fuel stand) Q E s:=by
 obtain ⟨o,ho,hx,hd,hf,hT⟩:=id x.r
 generalize hhx:(TK prog w).hash kx=hx0 at *
 obtain ⟨je,hje,hjee⟩:=aqe x.ok
 obtain ⟨m,hm⟩:=x.ok.two
 obtain ⟨ke,hke,ekj⟩:=ax9 hm hx0 je hje
 have hgw:t.gaveWay=false:=by
  unfold SetTable.gaveWay
  have:m ≠ 0:=fun z=>by rw [z] at hm;have:=x.msk.1;simp at hm;row_cond lo
  obtain ⟨m',rfl⟩:=Nat.exists_eq_succ_of_ne_zero this
  rw [Nat.pow_succ] at hm
  have:t.mask % 2=1:=by row_cond lo
  rw [this];rfl
 intro fuel
 induction fuel with
 | zero =>
  intro k0 stand hfu _ hinv
  exfalso
  obtain ⟨i,hi,_⟩:=hinv ke (by row_cond lo)
  rw [ekj,hjee] at hi
  cases hi
 | succ fuel ih =>
  intro k0 stand hfu hst hinv
  have hk0:k0<=ke:=by
   apply Classical.byContradiction
   intro hc
   obtain ⟨i,hi,_⟩:=hinv ke (by row_cond lo)
   rw [ekj,hjee] at hi
   cases hi
  unfold setSearchFrom
  refine wpAny_bind (wpAny_setState_of ho hd hf ?_)
  dsimp only
  rw [hgw]
  simp only [Bool.false_eq_true,if_false]
  rw [hst]
  obtain ⟨k1,a1,a2,a3,a4⟩:=akt x.ok (ha:=fun i=>(es[i]?.map (·.1)).getD 0) (h:=hx0) (10 * SetTable.turns t.mask) k0 ⟨ke,hk0,by row_cond lo,by rw [ekj];exact hjee⟩
  have hbefore:∀ k',k' < k1->∃ i,t.slot (pr t.mask hx0 k').j=.live i/\ks[i]? ≠ some kx:=fun k' hk'=>by
   by_cases hkk:k' < k0
   ·exact hinv k' hkk
   ·obtain ⟨i,hi,hne⟩:=a3 k' (by row_cond lo) hk'
    refine ⟨i,hi,fun hks=>?_⟩
    have hpl:=(ac1 x.ok).mp hi
    have hil:i < es.toList.length:=by rw [x.hi.1,← Array.length_toList];exact (List.getElem?_eq_some_iff.mp hpl).1
    obtain ⟨b,e1,_⟩:=x.gd i _ _ (List.getElem?_eq_getElem hil) hks
    apply hne
    rw [← Array.getElem?_toList,List.getElem?_eq_getElem hil,e1]
    exact hhx
  generalize hp:t.probe _ hx0 (pr t.mask hx0 k0)=pp
  rcases a4 with ⟨e,ep'⟩ | ⟨i,e,hei,ep'⟩
  ·have hpp:pp=some (.empty (pr t.mask hx0 k1).j none):=hp.symm.trans ep'
   subst hpp
   dsimp only
   refine wpAny_pure (h2 (fun hm=>?_) k1 ?_ e fun k' hk' z=>?_)
   ·obtain ⟨i,hi⟩:=List.getElem?_of_mem hm
    have hil:i < es.toList.length:=by rw [Array.length_toList,← x.len];exact (List.getElem?_eq_some_iff.mp hi).1
    obtain ⟨b,e1,_⟩:=x.gd i _ _ (List.getElem?_eq_getElem hil) hi
    obtain ⟨k,hk,hs⟩:=x.hi.found x.ok e (List.getElem?_eq_getElem hil) (by rw [e1];exact hhx)
    obtain ⟨i',hs',hne⟩:=hbefore k hk
    rw [hs] at hs'
    cases hs'
    exact hne hi
   ·exact Nat.le_trans (Nat.le_add_right _ _) (azg t.mask hx0 k1)
   ·obtain ⟨i,hi,_⟩:=hbefore k' hk'
    rw [z] at hi
    cases hi
  ·have hpp:pp=some (.candidate (pr t.mask hx0 k1).j i (pr t.mask hx0 (k1+1))):=hp.symm.trans ep'
   subst hpp
   have hpl:=(ac1 x.ok).mp e
   have hil:i < es.toList.length:=by rw [x.hi.1,← Array.length_toList];exact (List.getElem?_eq_some_iff.mp hpl).1
   have hikl:i < ks.length:=by rw [x.len,← Array.length_toList];exact hil
   obtain ⟨b,e1,e2⟩:=x.gd i _ _ (List.getElem?_eq_getElem hil) (List.getElem?_eq_getElem hikl)
   have hes:es[i]?=some ((TK prog w).hash ks[i],.ref b):=by rw [← Array.getElem?_toList,List.getElem?_eq_getElem hil,e1]
   have rest:wpAny (model prog w) A (do
     let some (_,y):=es[i]? | unsupported "internal:set-entry"
     let equal ← holding [y] (eqBool y (.ref b0))
     let (es',_,t') ← setState a
     if true && equal then return .there none
     let some same:=t'.sameMemory t.moves t.mask | unsupported "set.changed-during-lookup:is-the-new-block-at-the-old-address"
     let still ← match (if same then t'.slot (pr t.mask hx0 k1).j else .empty) with
      | .live i'=>match es'[i']? with
       | some (_,y')=>do pure (if ← isSame y' y then some i' else none)
       | none=>pure none
      | _=>pure none
     match still with
     | none=>rule "set.search.anew";setSearchFrom a (.ref b0) hx0 true fuel none
     | some i'=>if equal then return .there (some i') else setSearchFrom a (.ref b0) hx0 true fuel (some (pr t.mask hx0 (k1+1)))) Q E s:=by
    rw [hes]
    dsimp only
    refine wpAny_bind (wpAny_holding ((TK prog w).eqBool hu e2.1 hk ?_))
    refine wpAny_bind (wpAny_setState_of ho hd hf ?_)
    dsimp only
    by_cases heq:ks[i]=kx
    ·rw [decide_eq_true heq]
     simp only [Bool.and_self,if_true]
     exact wpAny_pure (h1 (by rw [← heq];exact List.getElem_mem hikl))
    ·rw [decide_eq_false heq]
     simp only [Bool.and_false,Bool.false_eq_true,if_false]
     have hsm:t.sameMemory t.moves t.mask=some true:=by
      unfold SetTable.sameMemory
      rw [if_pos (beq_self_eq_true _)]
     rw [hsm]
     dsimp only
     rw [if_pos rfl,e]
     dsimp only
     rw [hes]
     dsimp only
     refine wpAny_bind (wpAny_isSame_ref_self ?_)
     refine wpAny_bind (wpAny_pure ?_)
     rw [if_pos rfl]
     dsimp only
     refine ih (k1+1) (some _) (by row_cond lo) rfl fun k' hk'=>?_
     rcases Nat.lt_or_eq_of_le (Nat.le_of_lt_succ hk') with hlt | heq'
     ·exact hbefore k' hlt
     ·refine ⟨i,by rw [heq'];exact e,fun z=>heq ?_⟩
      rw [List.getElem?_eq_getElem hikl] at z
      exact Option.some.inj z
   dsimp only
   cases hled:t.led with
   | true =>
    simp only [Bool.not_true,Bool.false_eq_true,if_false]
    exact rest
   | false =>
    simp only [Bool.not_false,if_true]
    refine wpAny_bind (ayc hk (fun v hv=>?_) ?_)
    ·obtain ⟨q,hq,rfl⟩:=List.mem_map.mp hv
     have hq:q∈es.toList:=by
      have:=Array.mem_toList_iff.mp hq
      exact Array.mem_toList_iff.mpr (Array.mem_filter.mp this).1
     obtain ⟨k,b,rfl,hb⟩:=x.stored hq
     exact ⟨k,b,rfl,hb.1⟩
    ·simp only [Bool.false_eq_true,if_false]
     exact rest
theorem ST.at {a:Addr} {es:Array (Int × Value)} {ep:Nat} {t:SetTable} {ks:List (List Int)} {h h':Heap} (x:ST prog w U a es ep t ks h) (k:∀ o,h.get? a=some o->h'.get? a=some o) (kt:∀ b ks,U b->(TK prog w).is h ks b->(TK prog w).is h' ks b):ST prog w U a es ep t ks h' :=
 ⟨x.r.at k,x.ok,x.hi,x.pl,x.msk,x.len,fun i e q h1 h2=>let ⟨b,e1,e2⟩:=x.gd i e q h1 h2;⟨b,e1,kt b q e2.2 e2.1,e2.2⟩,x.nd⟩
def SetT (prog:Program) (w:World) (U:Addr->Prop) (a:Addr) (L:List (List Int)) (h:Heap):Prop:=∃ es ep t ks,ST prog w U a es ep t ks h/\t.place.size * 5 < t.mask * 3/\ks.Perm L
theorem akw {a b:Addr} {ks:List Int} {h h':Heap} (hs:Heap.SameBut a h h') (hk:(TK prog w).is h ks b) {o:Obj} (ho:h.get? a=some o) (hx:o.ExactSet):(TK prog w).is h' ks b:=by
 obtain ⟨ob,items,n,e1,e2,r⟩:=hk
 refine ⟨ob,items,n,?_,e2,r⟩
 rw [hs.2 b fun z=>?_]
 ·exact e1
 ·subst z
  rw [ho] at e1
  cases e1
  rw [hx.1] at e2
  exact absurd e2 (by decide)
theorem am0 {t:SetTable} {n:Nat} (x:TOk t) (h:t.place.size=n):t.fits n=true:=by
 unfold SetTable.fits SetTable.fill
 rw [x.dum,h,beq_self_eq_true,Bool.true_and,decide_eq_true_eq]
 have:=x.room
 show n+0<=t.mask
 row_cond lo
theorem akx {α:Type} (l:List α) (x : α) (p:Nat):(l.take p ++ x :: l.drop p).Perm (x :: l):=by
 have h:=List.perm_middle (a:=x) (l₁:=l.take p) (l₂:=l.drop p)
 rw [List.take_append_drop] at h
 exact h
theorem asl {a:Addr} {es:Array (Int × Value)} {ep:Nat} {t:SetTable} {ks:List (List Int)} {Q:Unit->Shared->Prop} (x:ST prog w U a es ep t ks s.heap) (hz:es.size<=2040) (h1:1<=es.size)
  (h:∀ h',Heap.SameBut a s.heap h'->∀ es' ep' t' ks',ST prog w U a es' ep' t' ks' h'->t'.place.size * 5 < t'.mask * 3->ks'.Perm ks->Q () { s with heap:=h' }):wpAny (model prog w) A (setRelay a (SetTable.grown es.size)) Q E s:=by
 obtain ⟨o,ho,hx,hd,hf,hT⟩:=id x.r
 have hgr:SetTable.grown es.size=es.size * 4:=by unfold SetTable.grown;rw [if_neg (by row_cond lo)]
 rw [hgr]
 obtain ⟨m,em,hm1,hm2,hm3⟩:=asj (n:=es.size * 4) (by row_cond lo)
 have h8:8<=2 ^ m:=Nat.pow_le_pow_right (n:=2) (by decide) hm2
 have hle:2 ^ m<=8192:=by
  rcases hm3 with h | h
  ·row_cond lo
  ·exact aqg h (by row_cond lo)
 unfold setRelay
 refine wpAny_bind (wpAny_setState_of ho hd hf ?_)
 dsimp only
 rw [em,if_neg (by rw [sizeLine_eq];row_cond lo)]
 obtain ⟨t2,order,es2,e1,e2,e3,e4,ok2,hi2,em2,eps,el,epl⟩:=avs (mask:=2 ^ m - 1) (m:=m) (finger:=t.finger) (moves:=t.movedTo (2 ^ m - 1)) (led:=t.led) (plain:=t.plain) (by row_cond lo) es (by row_cond lo)
 have er:t.relaid (es.map (·.1)) (es.size * 4)=some (t2,order):=by
  unfold SetTable.relaid
  rw [em]
  exact e1
 rw [er]
 refine wpAny_bind ?_
 show wpAny _ _ (do
  let es':=order.filterMap (es[·]?)
  if es'.size != es.size then unsupported "internal:set-table-lost-an-element"
  pure (es',t2)) _ _ _
 rw [e2]
 dsimp only
 rw [if_neg (by rw [e3];simp)]
 refine wpAny_pure ?_
 dsimp only
 refine wpAny_storeSet_of ho hd ?_ (by rw [e3,sizeLine_eq];row_cond lo)
 have sb:=Heap.SameBut.update s.heap a (Obj.putSet es2 t2)
 have r2:=x.r.put (es':=es2) (t':=t2) (am0 ok2 (by rw [e3];exact eps)) ⟨fun hb=>by rw [el];exact hT.led hb,ok2.dum,fun _=>ok2.ris⟩
 have kk:∀ q b,(TK prog w).is s.heap q b->(TK prog w).is (s.heap.update a (Obj.putSet es2 t2)) q b:=fun q b hq=>akw sb hq ho hx
 have hkey:∃ f:Int × Value->List Int,∀ e∈es.toList,∃ b,e=((TK prog w).hash (f e),.ref b)/\(TK prog w).is s.heap (f e) b/\U b:=by
  have:=Classical.skolem (p:=fun (e:Int × Value) (k:List Int)=>e∈es.toList->∃ b,e=((TK prog w).hash k,Value.ref b)/\(TK prog w).is s.heap k b/\U b)
  exact this.mp fun e=>by
   by_cases he:e∈es.toList
   ·obtain ⟨k,b,h1,h2⟩:=x.stored he
    exact ⟨k,fun _=>⟨b,h1,h2⟩⟩
   ·exact ⟨[],fun z=>absurd z he⟩
 obtain ⟨f,hff⟩:=hkey
 have hks:ks=es.toList.map f:=by
  refine List.ext_getElem? fun i=>?_
  rw [List.getElem?_map]
  by_cases hi:i < ks.length
  ·have hil:i < es.toList.length:=by rw [Array.length_toList,← x.len];exact hi
   rw [List.getElem?_eq_getElem hi,List.getElem?_eq_getElem hil,Option.map_some]
   obtain ⟨b,g1,g2⟩:=x.gd i _ _ (List.getElem?_eq_getElem hil) (List.getElem?_eq_getElem hi)
   obtain ⟨b',g3,g4⟩:=hff _ (List.getElem_mem hil)
   have hbb:Value.ref b=.ref b':=(Prod.ext_iff.mp (g1.symm.trans g3)).2
   cases hbb
   rw [(TK prog w).inj g2.1 g4.1]
  ·rw [List.getElem?_eq_none (by row_cond lo),List.getElem?_eq_none (by rw [Array.length_toList,← x.len];row_cond lo)]
   rfl
 have hpk:(es2.toList.map f).Perm ks:=by rw [hks];exact e4.map f
 refine h _ sb es2 _ t2 (es2.toList.map f) ⟨r2,ok2,hi2,by rw [epl];exact x.pl,by row_cond lo,by rw [List.length_map,Array.length_toList],fun i e k g1 g2=>?_,hpk.nodup_iff.mpr x.nd⟩ (by row_cond lo) hpk
 rw [List.getElem?_map,g1] at g2
 cases g2
 obtain ⟨b,q1,q2⟩:=hff e (e4.mem_iff.mp (List.mem_of_getElem? g1))
 exact ⟨b,q1,kk _ b q2.1,q2.2⟩
theorem aqh {a b0:Addr} {L:List (List Int)} {kx:List Int} {Q:Bool->Shared->Prop} (hu:(TK prog w).room A) (x:SetT prog w U a L s.heap) (hk:(TK prog w).is s.heap kx b0) (hU:U b0) (hb:L.length+1<=2040)
  (h:∀ b h',Heap.SameBut a s.heap h'->SetT prog w U a (if kx∈L then L else L ++ [kx]) h'->Q b { s with heap:=h' }):wpAny (model prog w) A (setAddHashed a (.ref b0) ((TK prog w).hash kx)) Q E s:=by
 obtain ⟨es,ep,t,ks,x,hnf,hp⟩:=x
 obtain ⟨o,ho,hx,hd,hf,hT⟩:=id x.r
 have hsz:es.size=L.length:=by rw [← hp.length_eq,x.len]
 have hps:t.place.size=es.size:=by have:=x.hi.1;rw [Array.length_toList] at this;row_cond lo
 unfold setAddHashed setAddHashedIn
 refine wpAny_holding (wpAny_bind (wpAny_setState_of ho hd hf ?_))
 dsimp only
 have hns:byScan (.ref b0) es=false:=rfl
 rw [hns]
 simp only [Bool.false_eq_true,if_false]
 unfold setSearch
 refine wpAny_bind (aln hu x hk (fun hm=>?_) (fun hm k1 hj he hbf=>?_) 100000 0 none ?_ rfl fun k' hk'=>absurd hk' (Nat.not_lt_zero _))
 ·refine wpAny_pure ?_
  have e:s={ s with heap:=s.heap }:=by cases s;rfl
  have:=h false s.heap (Heap.SameBut.refl a s.heap) (by rw [if_pos (hp.mem_iff.mp hm)];exact ⟨es,ep,t,ks,x,hnf,hp⟩)
  rw [e];exact this
 ·have hmL:kx ∉ L:=fun z=>hm (hp.mem_iff.mpr z)
  have hroom:t.place.size+1<=t.mask:=by have:=x.msk.1;row_cond lo
  obtain ⟨j,hjd⟩:∃ j,j=(pr t.mask ((TK prog w).hash kx) k1).j:=⟨_,rfl⟩
  rw [← hjd] at hj he ⊢
  dsimp only
  refine wpAny_bind (wpAny_setState_of ho hd hf ?_)
  dsimp only
  have hpl1:(t.put j).1.plain=true:=x.pl
  rw [if_pos hpl1]
  refine wpAny_bind (alm hk ?_)
  rw [if_pos rfl]
  have hbl:=(SS.below_ok t.place j x.ok.ris).1
  obtain ⟨es1,hes1⟩:∃ es1,es1=SetTable.insertAt es (t.put j).2 ((TK prog w).hash kx,Value.ref b0):=⟨_,rfl⟩
  have hes1l:es1.toList=es.toList.take (SetTable.below t.place j) ++ ((TK prog w).hash kx,Value.ref b0) :: es.toList.drop (SetTable.below t.place j):=by rw [hes1];exact SetTable.toList_insertAt ..
  have hsz1:es1.size=es.size+1:=by
   rw [← Array.length_toList,hes1l,List.length_append,List.length_cons,List.length_take,List.length_drop,Array.length_toList]
   row_cond lo
  have ok1:=x.ok.put hj he hroom
  have hi1:HI (t.put j).1 es1.toList:=by
   rw [hes1l]
   exact x.hi.put x.ok hj hroom (e:=((TK prog w).hash kx,Value.ref b0)) (k1:=k1) hjd.symm he hbf
  have hps1:(t.put j).1.place.size=es1.size:=by have:=hi1.1;rw [Array.length_toList] at this;exact this.symm
  have hfits:(t.put j).1.fits es1.size=true:=am0 ok1 hps1
  rw [← hes1]
  refine wpAny_bind (wpAny_storeSet_of ho hd ?_ (by rw [hsz1];rw [sizeLine_eq];row_cond lo))
  have r1:=x.r.put (es':=es1) (t':=(t.put j).1) hfits (hT.put he)
  have sb1:=Heap.SameBut.update s.heap a (Obj.putSet es1 (t.put j).1)
  have kk:∀ q b,(TK prog w).is s.heap q b->(TK prog w).is (s.heap.update a (Obj.putSet es1 (t.put j).1)) q b:=fun q b hq=>akw sb1 hq ho hx
  have x1:ST prog w U a es1 (ep+1) (t.put j).1 (ks.take (SetTable.below t.place j) ++ kx :: ks.drop (SetTable.below t.place j)) (s.heap.update a (Obj.putSet es1 (t.put j).1)):=by
   have hkb:SetTable.below t.place j<=ks.length:=by rw [x.len];row_cond lo
   have heb:SetTable.below t.place j<=es.toList.length:=by rw [Array.length_toList];row_cond lo
   refine ⟨r1,ok1,hi1,hpl1,x.msk,?_,fun i e k h1 h2=>?_,?_⟩
   ·rw [List.length_append,List.length_cons,List.length_take,List.length_drop,hsz1,← x.len]
    row_cond lo
   ·rw [hes1l,ins_get _ _ _ heb] at h1
    rw [ins_get _ _ _ hkb] at h2
    by_cases c1:i < SetTable.below t.place j
    ·rw [if_pos c1] at h1 h2
     obtain ⟨b,g1,g2⟩:=x.gd i e k h1 h2
     exact ⟨b,g1,kk k b g2.1,g2.2⟩
    ·rw [if_neg c1] at h1 h2
     by_cases c2:i=SetTable.below t.place j
     ·rw [if_pos c2] at h1 h2
      cases h1
      cases h2
      exact ⟨b0,rfl,kk kx b0 hk,hU⟩
     ·rw [if_neg c2] at h1 h2
      obtain ⟨b,g1,g2⟩:=x.gd (i - 1) e k h1 h2
      exact ⟨b,g1,kk k b g2.1,g2.2⟩
   ·refine (akx ks kx _).nodup_iff.mpr (List.nodup_cons.mpr ⟨hm,x.nd⟩)
  have hp1:(ks.take (SetTable.below t.place j) ++ kx :: ks.drop (SetTable.below t.place j)).Perm (L ++ [kx]):=(akx ks kx _).trans ((hp.cons kx).trans (List.perm_append_singleton kx L).symm)
  by_cases hfull:(t.put j).1.tooFull=true
  ·rw [if_pos (by rw [hfull];rfl)]
   rw [← hsz1]
   refine wpAny_bind (asl (s:={ s with heap:=s.heap.update a (Obj.putSet es1 (t.put j).1) }) x1 (by row_cond lo) (by row_cond lo) fun h' sb2 es2 ep2 t2 ks2 x2 hnf2 hp2=>?_)
   refine wpAny_pure (h true h' (sb1.trans sb2) ?_)
   rw [if_neg hmL]
   exact ⟨es2,ep2,t2,ks2,x2,hnf2,hp2.trans hp1⟩
  ·rw [if_neg (by intro z;exact hfull (by simpa using z))]
   refine wpAny_pure ?_
   refine h true _ sb1 ?_
   rw [if_neg hmL]
   refine ⟨es1,ep+1,_,_,x1,?_,hp1⟩
   unfold SetTable.tooFull SetTable.fill at hfull
   rw [ok1.dum] at hfull
   simp at hfull
   row_cond lo
 ·have:=x.msk.2
  unfold SetTable.turns
  row_cond lo
end
end SH
namespace SH
open PySem PySem.W PyProof.Rows SS
section
variable {prog:Program} {w:World} {A:Around} {E:Value->Shared->Prop} {s:Shared} {U:Addr->Prop}
theorem avt (h:Heap):SetT prog w U h.objs.size [] (h.push (abj w)):=by
 have tok:TOk (SetTable.fresh 0 0 (!bt w)):=⟨List.Pairwise.nil,rfl,fun j hj=>(nomatch hj),⟨3,rfl⟩,Nat.zero_le _⟩
 have hi:HI (SetTable.fresh 0 0 (!bt w)) ([]:List (Int × Value)):=⟨rfl,fun i e j hi=>(nomatch hi)⟩
 exact ⟨#[],0,_,[],⟨⟨_,Heap.get?_push_size _ rfl,⟨rfl,rfl,rfl⟩,rfl,rfl,TbI.fresh _ _ _⟩,tok,hi,rfl,⟨Nat.le_refl 7,show (7:Nat)<=8191 by decide⟩,rfl,fun i e k hi=>(nomatch hi),List.nodup_nil⟩,show (0:Nat) * 5 < 7 * 3 by decide,.refl _⟩
section
variable {R:Result->Shared->Prop} {I:Addr} {fp wr:List Addr} {n:Nat} {P:Nat->Value->Prop} {St:Nat->Heap->Prop}
theorem azh (W:Walks prog w A.in1 I fp wr n P St) (S:Addr) (hSf:S ∉ fp) (hu:(TK prog w).room A.in1) (h0:Heap) (val:Nat->List Int) (tup:Nat->Addr) (hval:∀ i v,P i v->v=.ref (tup i)) (hU:∀ i,i < n->U (tup i)) (hUw:∀ b,U b->b ≠ S/\b ∉ wr) (hb:n+1<=2040)
  (hkey:∀ h',(∀ b o,b ≠ S->b ∉ wr->h0.get? b=some o->h'.get? b=some o)->∀ i,i < n->(TK prog w).is h' (val i) (tup i)) :
  ∀ (k i:Nat) (s:Shared) (L:List (List Int)),n - i=k->i<=n->St i s.heap->(∀ b o,b ≠ S->b ∉ wr->h0.get? b=some o->s.heap.get? b=some o)->SetT prog w U S L s.heap->L.Nodup->L.length<=i->(∀ x,x∈L ↔ ∃ j,j < i/\val j=x) ->
   (∀ h' tk L',(∀ b o,b ≠ S->b ∉ wr->s.heap.get? b=some o->h'.get? b=some o)->SetT prog w U S L' h'->L'.Nodup->L'.length<=n->(∀ x,x∈L' ↔ ∃ j,j < n/\val j=x)->R (.ok (.ret .none)) { s with heap:=h',toks:=tk }) ->
   codeAny (model prog w) A (.builtin "set.update.loop" ⟨[.ref S,.ref I],[]⟩) R s:=by
 have hSw:S ∉ wr:=fun h=>hSf (W.sub _ h)
 have mv:∀ {h h':Heap} {L:List (List Int)},SetT prog w U S L h->(∀ b o,b ∉ wr->h.get? b=some o->h'.get? b=some o)->SetT prog w U S L h':=fun {h h' L} x hm=>by
  obtain ⟨es,ep,t,ks,x,r⟩:=x
  exact ⟨es,ep,t,ks,x.at (fun o e=>hm S o hSw e) (fun b ks hb ⟨o,items,m,e,q⟩=>⟨o,items,m,hm b o (hUw b hb).2 e,q⟩),r⟩
 intro k
 induction k with
 | zero =>
  intro i s L hk hi hst h00 hS hnd hlen hmem hR
  have hin:i=n:=by row_cond lo
  subst hin
  refine codeAny_builtin PyProof.Rows.F.entry_set_update_loop ?_
  rw [Around.under_plainId PyProof.Rows.F.plain_set_update_loop _]
  show wpAny _ A.in1 (pyNext (.ref I) >>= _) _ _ s
  refine wpAny_bind (W.done s _ _ hst fun h' tk hk=>?_)
  show wpAny _ A.in1 (ret Value.none) _ _ _
  exact wpAny_pure (hR h' tk L (fun b o _ hb e=>hk b o hb e) (mv hS hk) hnd hlen hmem)
 | succ k ih =>
  intro i s L hk hi hst h00 hS hnd hlen hmem hR
  have hlt:i < n:=by row_cond lo
  refine codeAny_builtin PyProof.Rows.F.entry_set_update_loop ?_
  rw [Around.under_plainId PyProof.Rows.F.plain_set_update_loop _]
  show wpAny _ A.in1 (pyNext (.ref I) >>= _) _ _ s
  refine wpAny_bind (W.item i s _ _ hlt hst fun v h1 tk hP hst' hk1=>?_)
  have ev:=hval i v hP
  subst ev
  have hS':SetT prog w U S L h1:=mv hS hk1
  have h01:∀ b o,b ≠ S->b ∉ wr->h0.get? b=some o->h1.get? b=some o:=fun b o b1 b2 e=>hk1 b o b2 (h00 b o b1 b2 e)
  show wpAny _ A.in1 (holding [Value.ref (tup i)] (setAdd S (.ref (tup i))) >>= _) _ _ _
  refine wpAny_bind (wpAny_holding ?_)
  unfold setAdd
  refine wpAny_holding ?_
  refine wpAny_bind ((TK prog w).pyHash hu (hkey h1 h01 i hlt) ?_)
  refine aqh (s:={ s with heap:=h1,toks:=tk+(TK prog w).draws (val i) }) hu hS' (hkey h1 h01 i hlt) (hU i hlt) (by row_cond lo) fun b h' hsb hS2=>?_
  refine wpAny_pure ⟨plainId_quiet PyProof.Rows.F.plain_set_update_loop _,ih (i+1) _ _ (by row_cond lo) hlt (W.frame _ h1 _ hst' fun b hb o e=>?_) (fun b o b1 b2 e=>?_) hS2 ?_ ?_ ?_ fun h'' tk'' L' hk'' hS'' n1 n2 n3=>?_⟩
  ·rw [hsb.2 b (fun h:b=S=>hSf (by rw [← h];exact hb))];exact e
  ·show h'.get? b=some o
   rw [hsb.2 b b1];exact h01 b o b1 b2 e
  ·split
   ·exact hnd
   ·rename_i hm
    rw [List.nodup_append]
    refine ⟨hnd,by simp,fun a ha b hb=>?_⟩
    rw [List.mem_singleton] at hb;subst hb
    exact fun z=>hm (z ▸ ha)
  ·split
   ·row_cond lo
   ·rw [List.length_append,List.length_singleton];row_cond lo
  ·intro x
   have key:x∈(if val i∈L then L else L ++ [val i]) ↔ x∈L\/x=val i:=by
    split
    ·rename_i hm;exact ⟨.inl,fun h=>h.elim id fun e=>e ▸ hm⟩
    ·simp
   rw [key,hmem x]
   constructor
   ·rintro (⟨j,a,b⟩ | rfl)
    ·exact ⟨j,by row_cond lo,b⟩
    ·exact ⟨i,by row_cond lo,rfl⟩
   ·rintro ⟨j,a,b⟩
    by_cases e:j=i
    ·subst e;exact .inr b.symm
    ·exact .inl ⟨j,by row_cond lo,b⟩
  ·refine hR h'' tk'' L' (fun b o b1 b2 e=>hk'' b o b1 b2 ?_) hS'' n1 n2 n3
   show h'.get? b=some o
   rw [hsb.2 b b1]
   exact hk1 b o b2 e
end
theorem call_setT {U:Addr->Prop} {l:Addr} {items:Array Value} {n:Nat} {val:Nat->List Int} {tup:Nat->Addr} {Q:Value->Shared->Prop}
  (hh:A.handled=none) (hu:(TK prog w).room A.in1.in1.in1) (hl:s.heap.IsList l items) (hP:∀ (i:Nat) (v:Value),items[i]?=some v->v=Value.ref (tup i)) (hi:∀ i,i < items.size->(TK prog w).is s.heap (val i) (tup i)) (hU:∀ i,i < items.size->U (tup i)) (hUl:∀ b,U b->b < s.heap.objs.size) (hb:items.size+1<=2040)
  (h:∀ (h':Heap) (tk:Nat) (L:List (List Int)),SetT prog w U s.heap.objs.size L h'->L.Nodup->L.length<=items.size->(∀ x,x∈L ↔ ∃ j,j < items.size/\val j=x) ->
   (∀ b o,s.heap.get? b=some o->h'.get? b=some o)->Q (.ref s.heap.objs.size) { s with heap:=h',toks:=tk }) :
  wpAny (model prog w) A (call (.type "set") [.ref l]) Q E s:=by
 obtain ⟨c,tl,hmro⟩:=PySem.F.called_set.mro
 have hmade:=PySem.F.called_set.made
 have hsub:=PySem.F.called_set.sub
 refine wpAny_call (codeAny_of_tree ?_)
 show wpAny _ _ (callAny (.type "set") _) _ _ _
 refine wpAny_pure ⟨Code.quiet_builtin _ (by decide +kernel),codeAny_builtin PySem.F.entry_type_call ?_⟩
 rw [Around.under_plain (weight_type_call_type "set" [.ref l] []) rfl]
 have h1:=PySem.F.called_set.notType
 have h2:=PySem.F.called_set.canCreate
 have hct:=PySem.F.typeCall_set_1 (.ref l)
 repeat (any_goals (first | assumption | wp_step))
 refine codeAny_mono (asg (.ref l) (E:=E) (Q₁:=fun obj s₁=>obj=.ref s.heap.objs.size/\s₁={ s with heap:=s.heap.push (abj w) }) ⟨rfl,rfl⟩) fun r s₁ hr=>?_
 cases r with
 | error e=>exact hr
 | ok fl =>
  cases fl with
  | ret obj =>
   obtain ⟨rfl,rfl⟩:=hr
   have hS:(s.heap.push (abj w)).get? s.heap.objs.size=some (abj w):=Heap.get?_push_size _ rfl
   have hT:Shared.TypeIs { s with heap:=s.heap.push (abj w) } (.ref s.heap.objs.size) "set":=⟨_,hS,rfl⟩
   have hli:=PySem.F.called_set.init.lookup
   have hbi:=PySem.F.called_set.init.bind (.ref s.heap.objs.size)
   repeat (any_goals (first | assumption | wp_step))
   refine codeAny_mono (codeAny_call_builtin (R:=wants (fun r s₂=>r=.none/\∃ h' tk L,s₂={ s with heap:=h',toks:=tk }/\SetT prog w U s.heap.objs.size L h'/\L.Nodup/\L.length<=items.size/\(∀ x,x∈L ↔ ∃ j,j < items.size/\val j=x) /\
     (∀ b o,s.heap.get? b=some o->h'.get? b=some o)) E) PySem.F.called_set.init.plain PySem.F.entry_set_init (check_set_init_1 hT ?_)) fun r₂ s₂ hr₂=>?_
   ·obtain ⟨ol,hol,hcl,nl,hdl⟩:=hl
    obtain ⟨ocls,odict,odata,oslots⟩:=ol
    simp only at hcl hdl
    subst hcl;subst hdl
    have hol':(s.heap.push (abj w)).get? l=some { cls:=.type "list",dict:=odict,data:=.seq items nl,slots:=oslots }:=Heap.get?_push_of_some _ hol
    have hsls:=PySem.F.sub_list_set
    have hslf:=PySem.F.sub_list_frozenset
    have hne:(Value.type "list" == Value.type "dict")=false:=by decide
    have hl1:(s.heap.push (abj w)).IsList l items:=⟨_,hol',rfl,nl,rfl⟩
    unfold Builtin.«set.__init__» noKeywords Builtin.Frozenset.updateFrom
    generalize hPI:pyIter=PI
    unfold abj at *
    wp_walk
    subst hPI
    refine wpAny_pyIter_list hl1 ?_
    refine wpAny_bind (wpAny_runValue ?_)
    have hlS:l < s.heap.objs.size:=Heap.lt_size hol
    have hh3:A.in1.in1.in1.handled=none:=by simp [hh]
    have hneI:l ≠ (s.heap.push (abj w)).objs.size:=by
     rw [Heap.size_push];exact Nat.ne_of_lt (Nat.lt_succ_of_lt hlS)
    have hSf:s.heap.objs.size ∉ [(s.heap.push (abj w)).objs.size,l]:=by
     rw [Heap.size_push];simp only [List.mem_cons,List.mem_singleton,List.not_mem_nil,or_false,not_or]
     exact ⟨Nat.ne_of_lt (Nat.lt_succ_self _),Nat.ne_of_gt hlS⟩
    have hts:∀ i,i < items.size->tup i < s.heap.objs.size:=fun i h=>let ⟨_,_,_,e,_⟩:=hi i h;Heap.lt_size e
    refine azh (U:=U) (Walks.list hh3 _ l hneI items) s.heap.objs.size hSf hu s.heap val tup hP hU (fun b hb=>⟨Nat.ne_of_lt (hUl b hb),by rw [List.mem_singleton,Heap.size_push];exact Nat.ne_of_lt (Nat.lt_succ_of_lt (hUl b hb))⟩) hb
     (fun h' kp i h=>let ⟨o,its,m,e,q⟩:=hi i h;⟨o,its,m,kp _ o (Nat.ne_of_lt (Heap.lt_size e)) (by rw [List.mem_singleton,Heap.size_push];exact Nat.ne_of_lt (Nat.lt_succ_of_lt (Heap.lt_size e))) e,q⟩)
     (items.size - 0) 0 _ [] (by row_cond lo) (Nat.zero_le _)
     ⟨⟨_,Heap.get?_push_size _ rfl,rfl,rfl⟩,(hl1.push _)⟩ (fun b o _ _ e=>Heap.get?_push_of_some _ (Heap.get?_push_of_some _ e)) (let ⟨es,ep,t,ks,x,r⟩:=avt s.heap;⟨es,ep,t,ks,x.at (fun o e=>Heap.get?_push_of_some _ e) (fun b ks hb ⟨o,its,m,e,q⟩=>⟨o,its,m,Heap.get?_push_of_some _ e,q⟩),r⟩) List.nodup_nil (Nat.le_refl _) (fun x=>by simp) fun h' tk L hk hS' n1 n2 n3=>?_
    show wpAny _ _ _ _ _ _
    refine wpAny_pure ?_
    show wpAny _ _ (ret Value.none) _ _ _
    refine wpAny_pure ⟨rfl,h',tk,L,rfl,hS',n1,n2,n3,fun b o e=>?_⟩
    have hlt:=Heap.lt_size e
    have hb1:b ≠ s.heap.objs.size:=Nat.ne_of_lt hlt
    have hb2:b ≠ (s.heap.push (abj w)).objs.size:=by
     rw [Heap.size_push];exact Nat.ne_of_lt (Nat.lt_succ_of_lt hlt)
    exact hk b o hb1 (by rw [List.mem_singleton];exact hb2) (Heap.get?_push_of_some _ (Heap.get?_push_of_some _ e))
   ·cases r₂ with
    | error e=>exact hr₂
    | ok fl₂ =>
     cases fl₂ with
     | ret r =>
      obtain ⟨rfl,h',tk,L,rfl,hS',n1,n2,n3,hk'⟩:=hr₂
      repeat (any_goals (first | assumption | wp_step))
      exact h _ _ _ hS' n1 n2 n3 hk'
     | _=>exact hr₂.elim
  | _=>exact hr.elim
end
end SH
namespace SH
open PySem PySem.W PyProof.Rows SS
section
variable {prog:Program} {w:World} {A:Around} {E:Value->Shared->Prop} {s:Shared} {a:Addr}
def SetB (prog:Program) (w:World) (a:Addr) (bs:List Addr) (h:Heap):Prop:=∃ es ep t,SetR prog w a es ep t h/\(es.toList.map (·.2)).Perm (bs.map Value.ref)
theorem sorted_setT {bs:List Addr} {Q:Value->Shared->Prop} (hh:A.handled=none) (x:SetB prog w a bs s.heap) (hb:bs.length < 64)
  (hκ:∀ vs:List Value,vs.Perm (bs.map Value.ref)->2<=vs.length->∀ h' tk d,(∀ b o,s.heap.get? b=some o->h'.get? b=some o)->∃ κ S R,(∀ (Q:SortKind->Shared->Prop),Q κ { s with heap:=h',toks:=tk,drawn:=d }->wpAny (model prog w) A.in1.in1 (keyKind' vs.toArray) Q E { s with heap:=h',toks:=tk,drawn:=d })/\TS.Cmp (model prog w) A.in1.in1 E { s with heap:=h',toks:=tk,drawn:=d } κ S R/\(∀ v∈vs,S (v,v)) /\
   ∀ (out:List Value) p h'' e,out.Perm vs->out.Pairwise (fun x y=>R (y,y) (x,x)=false)->(∀ b o,s.heap.get? b=some o->h''.get? b=some o)->s.heap.objs.size<=p->h''.get? p=some (seqObj "list" out.toArray e)->Q (.ref p) { s with heap:=h'',toks:=tk,drawn:=d })
  (h1:∀ (vs:List Value) p h'' e tk d,vs.Perm (bs.map Value.ref)->vs.length < 2->(∀ b o,s.heap.get? b=some o->h''.get? b=some o)->s.heap.objs.size<=p->h''.get? p=some (seqObj "list" vs.toArray e)->Q (.ref p) { s with heap:=h'',toks:=tk,drawn:=d }) :
  wpAny (model prog w) A (call (.builtin "sorted") [.ref a]) Q E s:=by
 obtain ⟨es,ep,t,x,hp⟩:=x
 have hsz:es.size=bs.length:=by have:=hp.length_eq;simpa using this
 have hline:es.size<=sizeLine:=by rw [sizeLine_eq];row_cond lo
 refine Calls.call_function_entry kind_sorted plain_sorted entry_sorted (args_sorted1 _) ?_
 unfold Builtin.«sorted»
 refine wpAny_bind (m:=checkCount "sorted" 1 1 _) (wpAny_pure (wpAny_bind (alk (A:=A.in1) hh x hline fun g tk d vs kp hs hv=>?_)))
 have hvp:=hv.trans hp
 have hlen:vs.length=bs.length:=by rw [hvp.length_eq,List.length_map]
 have hlz:vs.length<=sizeLine:=by rw [hlen,sizeLine_eq];row_cond lo
 refine wpAny_bind (wpAny_newList ?_ hlz)
 have hoL:(g.push (seqObj "list" vs.toArray 0)).get? g.objs.size=some (seqObj "list" vs.toArray 0):=Heap.get?_push_size _ rfl
 have keep:∀ b o,s.heap.get? b=some o->(g.push (seqObj "list" vs.toArray 0)).get? b=some o:=fun b o e=>Heap.get?_push_of_some _ (kp b o e)
 have fin:∀ out:List Value,(∀ b o,s.heap.get? b=some o->(sortedHeap (g.push (seqObj "list" vs.toArray 0)) g.objs.size vs out.toArray).get? b=some o):=fun out b o q=>by
  have lt:=Heap.lt_size (kp b o q)
  rw [sortedHeap_old (Nat.ne_of_lt lt) (by rw [size_push'];exact Nat.lt_succ_of_lt lt)]
  exact keep b o q
 refine wpAny_bind (wpAny_holding (wpAny_call_entry slot_list_sort ⟨_,hoL,rfl⟩ entry_list_sort ?body (args_list_sort _)))
 case body =>
  refine TS.list_sort_small (s:={ s with heap:=g.push (seqObj "list" vs.toArray 0),toks:=tk,drawn:=d }) hoL hlz (by rw [hlen];exact hb) (fun hge h' kq=>?_) fun hlt=>?_
  ·obtain ⟨κ,S,R,hk,C,hS,hfin⟩:=hκ vs hvp hge h' tk d fun b o e=>kq b o (Nat.ne_of_lt (Heap.lt_size (kp b o e))) (keep b o e)
   refine ⟨κ,S,R,hk,C,hS,fun out q1 q2=>⟨_,rfl,wpAny_pure ⟨_,rfl,?_⟩⟩⟩
   obtain ⟨e,he⟩:=sortedHeap_at (vs:=vs) (out:=out.toArray) (n:=0) hoL
   exact hfin out _ _ e q1 q2 (fin out) hs he
  ·refine ⟨_,rfl,wpAny_pure ⟨_,rfl,?_⟩⟩
   obtain ⟨e,he⟩:=sortedHeap_at (vs:=vs) (out:=vs.toArray) (n:=0) hoL
   exact h1 vs _ _ e tk d hvp hlt (fin vs) hs he
end
end SH
namespace L2
open PySem PySem.W PyProof.Rows
def atn (P:Program) (w:World) (K:PySem.W.Frag):List V->Hp->VK->Prop:=fun xs H Q=>∃ (a:Addr) (ts:List Addr) (ps:List (List Int)),xs=[.ref a]/\SqL K H a (ts.map V.ref)/\ts.length=ps.length/\ps.length<=2030 /\
 (∀ (i:Nat) t k,ts[i]?=some t->ps[i]?=some k->H t=some (.tup (k.map V.int))) /\
 ∀ (bs:List Addr) (L:List (List Int)) (p:Addr),bs.length=L.length->L.length<=ps.length->(∀ (i:Nat) b k,bs[i]?=some b->L[i]?=some k->H b=some (.tup (k.map V.int)))->L.Nodup->(∀ x,x∈L ↔ x∈ps)->H p=none->Q (.ref p) (upd H p (.ext (SH.SetB P w p bs)))
def am1 (P:Program) (w:World):List V->Hp->VK->Prop:=fun xs H Q=>∃ (a:Addr) (bs:List Addr),xs=[.ref a]/\H a=some (.ext (SH.SetB P w a bs))/\bs.length < 64/\(∀ b∈bs,TupI H (.ref b)) /\
 ∀ (vs':List V) (p:Addr),vs'.Perm (bs.map V.ref)->vs'.Pairwise (fun x y=>HT.lexLt (kH H y) (kH H x)=false)->H p=none->Q (.ref p) (upd H p (.lst vs'))
section
variable {X:Cx}
theorem aky {P:Program} {w:World}:∀ {its:List Value} {k:List Int},IntsAre its k->ItemsAre (intKind P w) k its
 | _,_,.nil => .nil
 | _,_,.cons i tk h => .cons (intKind_is _ _ _ _) (aky h)
theorem ato {H:Hp} {h:Heap} {P:Program} {w:World} (ok:HOk P w H h) {t:Addr} {k:List Int} (e:H t=some (.tup (k.map V.int))):(SH.TK P w).is h k t:=by
 obtain ⟨_,its,rv,o,e1,e2,n,e3⟩:=(show ObjOk P w H h t (.tup (k.map V.int)) from ok t _ e)
 refine ⟨o,its.toArray,n,e1,e2,e3,?_⟩
 have hi:IntsAre its k:=by simpa using (adb rv:IntsAre its.toArray.toList k)
 show ItemsAre (intKind P w) k its.toArray.toList
 rw [List.toList_toArray]
 exact aky hi
theorem call_setT (hc:X.calm=true) (hu:X.A.units+64 < cLine):abh X (.type "set") (atn X.prog X.w X.K):=by
 intro pins s σ H xs us Q I r h
 obtain ⟨a,ts,ps,rfl,ha,hl,hz,ht,q⟩:=h
 obtain ⟨u,rfl,ru⟩:=acu r
 cases ru
 obtain ⟨its,rv,p1,_⟩:=I.list ha
 have hlen:its.length=ts.length:=by have:=rv.length;rw [List.length_map] at this;row_cond lo
 have hsz:its.toArray.size=ts.length:=by simp [hlen]
 have g1:∀ {i},i < ts.length->ts[i]?=some (ts.getD i 0):=fun {i} hi=>by rw [List.getD_eq_getElem?_getD,List.getElem?_eq_getElem hi];rfl
 have g2:∀ {i},i < ts.length->ps[i]?=some (ps.getD i []):=fun {i} hi=>by rw [List.getD_eq_getElem?_getD,List.getElem?_eq_getElem (show i < ps.length by row_cond lo)];rfl
 have hH:∀ i,i < ts.length->H (ts.getD i 0)=some (.tup ((ps.getD i []).map V.int)):=fun i hi=>ht i _ _ (g1 hi) (g2 hi)
 refine SH.call_setT (n:=0) (U:=fun b=>b∈ts) (items:=its.toArray) (val:=fun i=>ps.getD i []) (tup:=fun i=>ts.getD i 0) (I.ok.hd hc) (by show X.A.units+1+1+1 < cLine;row_cond lo) p1.isList (fun i v hv=>?_) (fun i hi=>ato I.hok (hH i (by row_cond lo))) (fun i hi=>List.mem_of_getElem? (g1 (by row_cond lo))) (fun b hb=>?_) (by row_cond lo) fun h' tk L hS nd nl hm kp=>?_
 ·have hv:its[i]?=some v:=by simpa using hv
  have hi:=(List.getElem?_eq_some_iff.mp hv).1
  have e1:(ts.map V.ref)[i]?=some (.ref (ts.getD i 0)):=by rw [List.getElem?_map,g1 (by row_cond lo)];rfl
  obtain ⟨u,hu,ru⟩:=rv.get e1
  rw [hv] at hu
  cases hu
  exact ru
 ·obtain ⟨i,hi⟩:=List.getElem?_of_mem hb
  have hil:=(List.getElem?_eq_some_iff.mp hi).1
  have:=hH i hil
  rw [List.getD_eq_getElem?_getD,hi] at this
  exact ObjOk.lt (I.hok _ _ this)
 ·obtain ⟨es,ep,t,ks,x,_,hpk⟩:=hS
  have hkey:∀ (i:Nat) (e:Int × Value) k,es.toList[i]?=some e->ks[i]?=some k->∃ b,e.2=.ref b/\H b=some (.tup (k.map V.int)):=fun i e k h1 h2=>by
   obtain ⟨b,e1,e2,e3⟩:=x.gd i e k h1 h2
   refine ⟨b,by rw [e1],?_⟩
   obtain ⟨j,hj⟩:=List.getElem?_of_mem e3
   have hjl:=(List.getElem?_eq_some_iff.mp hj).1
   have hb:=hH j hjl
   rw [List.getD_eq_getElem?_getD,hj] at hb
   have hb:H b=some (.tup ((ps.getD j []).map V.int)):=hb
   have h3:=ato (I.hok.kept kp) hb
   rw [(SH.TK X.prog X.w).inj e2 h3]
   exact hb
  have hbs:∃ bs:List Addr,es.toList.map (·.2)=bs.map Value.ref/\bs.length=ks.length/\∀ (i:Nat) b k,bs[i]?=some b->ks[i]?=some k->H b=some (.tup (k.map V.int)):=by
   refine ⟨es.toList.map fun e=>match e.2 with | .ref b=>b | _=>0,?_,?_,fun i b k h1 h2=>?_⟩
   ·rw [List.map_map]
    refine List.map_congr_left fun e he=>?_
    obtain ⟨i,hi⟩:=List.getElem?_of_mem he
    have hil:i < ks.length:=by rw [x.len,← Array.length_toList];exact (List.getElem?_eq_some_iff.mp hi).1
    obtain ⟨b,e1,_⟩:=hkey i e _ hi (List.getElem?_eq_getElem hil)
    simp only [Function.comp,e1]
   ·rw [List.length_map,x.len,Array.length_toList]
   ·rw [List.getElem?_map] at h1
    cases he:es.toList[i]? with
    | none=>rw [he] at h1;cases h1
    | some e =>
     rw [he] at h1
     obtain ⟨b',e1,e2⟩:=hkey i e k he h2
     rw [Option.map_some,e1] at h1
     cases h1
     exact e2
  obtain ⟨bs,b1,b2,b3⟩:=hbs
  have hfr:=I.hok.fresh (a:=s.heap.objs.size) (Nat.le_refl _)
  have hSB:SH.SetB X.prog X.w s.heap.objs.size bs h':=⟨es,ep,t,x.r,by rw [b1]⟩
  refine ⟨.ref s.heap.objs.size,_,I.laid (t':=tk) (o:=.ext (SH.SetB X.prog X.w s.heap.objs.size bs)) kp (Nat.le_refl _) ⟨hSB,?_,fun h1 h2 ⟨es,ep,t,y,r⟩ k=>⟨es,ep,t,y.at k,r⟩⟩,rfl,q bs ks _ b2 ?_ b3 x.nd (fun y=>?_) hfr⟩
  ·obtain ⟨o,e,_⟩:=x.r
   exact ⟨o,e⟩
  ·rw [hpk.length_eq];row_cond lo
  ·rw [hpk.mem_iff,hm]
   constructor
   ·rintro ⟨j,hj,e⟩
    rw [← e]
    exact List.mem_of_getElem? (g2 (by row_cond lo))
   ·intro hy
    obtain ⟨j,hj⟩:=List.getElem?_of_mem hy
    have hjl:=(List.getElem?_eq_some_iff.mp hj).1
    exact ⟨j,by row_cond lo,by rw [List.getD_eq_getElem?_getD,hj];rfl⟩
theorem alo (hc:X.calm=true):abh X (.builtin "sorted") (am1 X.prog X.w):=by
 intro pins s σ H xs us Q I r h
 obtain ⟨a,bs,rfl,ha,hz,hT,q⟩:=h
 obtain ⟨u,rfl,ru⟩:=acu r
 cases ru
 obtain ⟨hS,_,_⟩:=(show ObjOk X.prog X.w H s.heap a (.ext (SH.SetB X.prog X.w a bs)) from I.hok a _ ha)
 have hrefs:∀ {us:List Value},us.Perm (bs.map Value.ref)->∀ u∈us,∃ b,u=.ref b/\b∈bs:=fun {us} hp u hu=>by
  obtain ⟨b,hb,rfl⟩:=List.mem_map.mp (hp.mem_iff.mp hu)
  exact ⟨b,rfl,hb⟩
 have hvals:∀ {us:List Value},us.Perm (bs.map Value.ref)->Vals (us.map ab6) us/\(∀ v∈us.map ab6,TupI H v)/\(us.map ab6).Perm (bs.map V.ref):=fun {us} hp=>by
  refine ⟨aex fun u hu=>let ⟨b,e,_⟩:=hrefs hp u hu;⟨b,e⟩,fun v hv=>?_,?_⟩
  ·obtain ⟨u,hu,rfl⟩:=List.mem_map.mp hv
   obtain ⟨b,rfl,hb⟩:=hrefs hp u hu
   exact hT b hb
  ·have:=hp.map ab6
   rw [List.map_map] at this
   exact this
 have fin:∀ (us out:List Value) p h'' e tk d,us.Perm (bs.map Value.ref)->out.Perm us->(out.map ab6).Pairwise (fun x y=>HT.lexLt (kH H y) (kH H x)=false)->(∀ b o,s.heap.get? b=some o->h''.get? b=some o)->s.heap.objs.size<=p->h''.get? p=some (seqObj "list" out.toArray e)->EP X pins σ Q (.ref p) { s with heap:=h'',toks:=tk,drawn:=d }:=by
  intro us out p h'' e tk d hp ho hs kp hpp he
  obtain ⟨v1,v2,v3⟩:=hvals (ho.trans hp)
  have hl:out.length=bs.length:=by rw [(ho.trans hp).length_eq,List.length_map]
  have J:=I.laid (t':=tk) (o:=.lst (out.map ab6)) kp hpp (show ObjOk X.prog X.w _ h'' p (.lst (out.map ab6)) from ⟨by rw [List.length_map,hl,sizeLine_eq];row_cond lo,out,e,v1,by rw [he]⟩)
  exact ⟨.ref p,_,J.drawn' d,rfl,q _ _ v3 hs (I.hok.fresh hpp)⟩
 refine SH.sorted_setT (I.ok.hd hc) hS hz (fun vs hp hge h' tk d kp=>?_) fun vs p h'' e tk d hp hlt kp hpp he=>?_
 ·obtain ⟨v1,v2,v3⟩:=hvals hp
  obtain ⟨⟨fs,k1,k2,k3⟩,k4⟩:=aft I kp v1 v2
  have hne:(Value.type "int" != Value.type "tuple")=true:=by rfl
  refine ⟨tuples' true,TS.tS h' (fun a=>kH H (.ref a)),TS.tR (fun a=>kH H (.ref a)),fun Q' hq=>?_,TS.cmp_tups (s:={ s with heap:=h',toks:=tk,drawn:=d }) (fun a=>kH H (.ref a)),fun v hv=>?_,fun out p h'' e ho hs kq hpp he=>fin vs out p h'' e tk d hp ho ?_ kq hpp he⟩
  ·refine PySem.W.kat_kind (T:=.type "int") (s:={ s with heap:=h',toks:=tk,drawn:=d }) k1 (by row_cond lo) (fun v hv=>?_) (by rfl) ?_
   ·obtain ⟨i,t,rfl⟩:=k3 v hv
    exact .now
   ·rw [hne];exact hq
  ·obtain ⟨a,e,ht⟩:=k4 v hv
   exact ⟨rfl,a,e,ht⟩
  ·rw [List.pairwise_map]
   refine List.Pairwise.imp_of_mem ?_ hs
   intro x y hx hy hr
   obtain ⟨ax,rfl,_⟩:=hrefs (ho.trans hp) x hx
   obtain ⟨ay,rfl,_⟩:=hrefs (ho.trans hp) y hy
   exact hr
 ·exact fin vs vs p h'' e tk d hp (List.Perm.refl _) (akc (by rw [List.length_map];exact hlt)) kp hpp he
end
end L2
namespace VL
open PySem PySem.Spec L2
section
variable {B:Bs} {env:En} {QO:Sl->En->Prop} {K:PySem.W.Frag} {ta:TA} {P:Program} {w:World}
theorem aoj (h:EvA B ta env fun ds e=>∃ ps:List (Int × Int),ds=[.list (ps.map prD)]/\ps.length < 64/\∀ qs:List (Int × Int),qs.Nodup->(∀ x,x∈qs ↔ x∈ps)->lexS (qs.map p2)->QO (.own (OL (qs.map prD))) e):EvO B (tCB (am1 P w) (aa6 (tCB (atn P w K) ta) tNil)) env QO:=fun σ G H F Q I k =>
 h σ G H F _ I fun vs G1 H1 F1 ds e1 I1 g1 r1 z_=>by
  obtain ⟨ps,ed,hl,q1⟩:=z_
  subst ed
  cases r1 with
  | cons r t =>
   cases t
   cases r with
   | @lst a us _ ha rs =>
    rw [← ad5] at rs
    obtain ⟨t1,t2⟩:=acw I1.gh rs aoa
    have hus:us.length=ps.length:=by have:=congrArg List.length t2;simpa using this
    obtain ⟨ts,ets⟩:∃ ts:List Addr,us=ts.map V.ref:=⟨us.map fun v=>match v with | .ref b=>b | _=>0,by
     rw [List.map_map]
     conv=>lhs;rw [← List.map_id us]
     refine List.map_congr_left fun v hv=>?_
     obtain ⟨b,_,rfl,_⟩:=t1 v hv
     rfl⟩
    subst ets
    have htl:ts.length=ps.length:=by simpa using hus
    have hk:∀ (i:Nat) t q,ts[i]?=some t->(ps.map p2)[i]?=some q->H1 t=some (.tup (q.map V.int)):=fun i t q h1 h2=>by
     have h3:(ts.map V.ref)[i]?=some (.ref t):=by rw [List.getElem?_map,h1];rfl
     obtain ⟨b,ns,e,hb,_⟩:=t1 _ (List.mem_of_getElem? h3)
     cases e
     have h4:((ts.map V.ref).map (kH H1))[i]?=some (kH H1 (.ref t)):=by rw [List.getElem?_map,h3];rfl
     rw [t2,h2,agg hb] at h4
     cases h4
     exact hb
    refine ⟨a,ts,ps.map p2,rfl,SqL.of (I1.gh _ _ ha),by rw [List.length_map];exact htl,by rw [List.length_map];row_cond lo,hk,fun bs L p hbl hll hbk nd hm hf=>?_⟩
    rw [List.length_map] at hll
    have J:=I1.aside (p:=p) (o:=.ext (SH.SetB P w p bs)) (fun _ z=>nomatch z) (I1.no_g hf) (fun j z=>I1.no_f hf j z) (I1.no_b hf)
    have hb2:∀ (i:Nat) b q,bs[i]?=some b->L[i]?=some q->upd H1 p (.ext (SH.SetB P w p bs)) b=some (.tup (q.map V.int)):=fun i b q h1 h2=>by
     have:=hbk i b q h1 h2
     rw [aac (aak this hf)]
     exact this
    have hLp:∀ q∈L,∃ x∈ps,q=p2 x:=fun q hq=>by
     obtain ⟨x,hx,e⟩:=List.mem_map.mp ((hm q).mp hq)
     exact ⟨x,hx,e.symm⟩
    have hbT:∀ b∈bs,TupI (upd H1 p (.ext (SH.SetB P w p bs))) (.ref b):=fun b hb=>by
     obtain ⟨i,hi⟩:=List.getElem?_of_mem hb
     have hil:i < L.length:=by rw [← hbl];exact (List.getElem?_eq_some_iff.mp hi).1
     refine ⟨b,L[i],rfl,hb2 i b _ hi (List.getElem?_eq_getElem hil),?_⟩
     obtain ⟨x,_,e⟩:=hLp _ (List.getElem_mem hil)
     rw [e]
     simp
    have hbL:(bs.map V.ref).map (kH (upd H1 p (.ext (SH.SetB P w p bs))))=L:=by
     refine List.ext_getElem? fun i=>?_
     rw [List.getElem?_map,List.getElem?_map]
     by_cases hi:i < bs.length
     ·rw [List.getElem?_eq_getElem hi,List.getElem?_eq_getElem (show i < L.length by row_cond lo),Option.map_some,Option.map_some,agg (hb2 i _ _ (List.getElem?_eq_getElem hi) (List.getElem?_eq_getElem (by row_cond lo)))]
     ·rw [List.getElem?_eq_none (by row_cond lo),List.getElem?_eq_none (show L.length<=i by row_cond lo)]
      rfl
    refine ⟨p,bs,rfl,aag,by row_cond lo,hbT,fun ws p' hp hs hf'=>?_⟩
    have tw:∀ v∈ws,TupI (upd H1 p (.ext (SH.SetB P w p bs))) v:=fun v hv=>by
     obtain ⟨b,hb,rfl⟩:=List.mem_map.mp (hp.mem_iff.mp hv)
     exact hbT b hb
    have o:=Out.newL J.gh hf' (aeh J.ft tw)
    have hqp:(ws.map (kH (upd H1 p (.ext (SH.SetB P w p bs))))).Perm L:=by
     have:=hp.map (kH (upd H1 p (.ext (SH.SetB P w p bs))))
     rw [hbL] at this
     exact this
    obtain ⟨qs,eqs⟩:∃ qs:List (Int × Int),ws.map (kH (upd H1 p (.ext (SH.SetB P w p bs))))=qs.map p2:=⟨(ws.map (kH (upd H1 p (.ext (SH.SetB P w p bs))))).map fun l=>(l.getD 0 0,l.getD 1 0),by
     rw [List.map_map]
     conv=>lhs;rw [← List.map_id (ws.map (kH (upd H1 p (.ext (SH.SetB P w p bs)))))]
     refine List.map_congr_left fun q hq=>?_
     obtain ⟨x,_,rfl⟩:=hLp q (hqp.mem_iff.mp hq)
     rfl⟩
    rw [eqs] at hqp o
    rw [ad5] at o
    have p2i:∀ x y:Int × Int,p2 x=p2 y->x=y:=fun x y e=>by
     obtain ⟨a,b⟩:=x
     obtain ⟨c,d⟩:=y
     simp [p2] at e
     rw [e.1,e.2]
    refine k _ _ _ F1 _ _ e1 (J.out o).1 (g1.trans o.gg) (J.out o).2 (q1 qs ?_ (fun x=>?_) ?_)
    ·have:=hqp.nodup_iff.mpr nd
     rw [List.Nodup,List.pairwise_map] at this
     exact this.imp fun {x y} h e=>h (by rw [e])
    ·constructor
     ·intro hx
      obtain ⟨y,hy,e⟩:=hLp _ (hqp.mem_iff.mp (List.mem_map_of_mem hx))
      rw [p2i x y e]
      exact hy
     ·intro hx
      obtain ⟨y,hy,e⟩:=List.mem_map.mp (hqp.mem_iff.mpr ((hm (p2 x)).mpr (List.mem_map_of_mem hx)))
      rw [← p2i y x e]
      exact hy
    ·rw [← eqs]
     unfold lexS
     rw [List.pairwise_map]
     exact hs
end
end VL
namespace L2
open PySem PySem.W PyProof.Rows
def aok (td ty tx:TE):TE:=fun σ H Q=>td σ H fun x H1=>∃ a,x=.ref a/\IsD H1 a/\ty σ H1 fun y H2=>tx σ H2 fun z H3=>∃ kvs k,H3 a=some (.dK kvs)/\y=kV k/\kvs.length < sizeLine/\(∀ v,valV kvs k=some v->Q v H3)/\(valV kvs k=none->Q z (upd H3 a (.dK (putK kvs k z))))
section
variable {X:Cx} {pins:List (Addr × Obj)} {σ:St} {H:Hp} {s:Shared} {a:Addr} {kvs:List (Key × V)} {k:Key} {A:Around} {E:Value->Shared->Prop}
theorem asm {z:V} {u r:Value} {Q:Value->Shared->Prop} (I:Inv X pins σ H s) (e:H a=some (.dK kvs)) (ry:RelV (kV k) u) (rz:RelV z r) (hl:kvs.length < sizeLine)
  (h1:∀ v w' s',valV kvs k=some v->Inv X pins σ H s'->RelV v w'->Q w' s') (h2:∀ s',valV kvs k=none->Inv X pins σ (upd H a (.dK (putK kvs k z))) s'->Q r s') :
  wpAny (model X.prog X.w) A (call (.builtin "dict.setdefault") [.ref a,u,r]) Q E s:=by
 obtain ⟨hz,hd,vs,rel,dd⟩:=ays I.hok e
 refine call_meetsIn PySem.F.slot_dict_setdefault dd.typeIs PySem.F.entry_dict_setdefault (PySem.F.args_dict_setdefault_3 _ _ _) (kt_meets_setdefault (aa9 X.prog X.w) a (ani ry) hd r)
  ⟨vs,dd,by rw [← rel.length];exact hz,fun v hv=>?_,fun hn h' dd' hs=>?_⟩
 ·have hr:=rel.val k
  rw [hv] at hr
  cases hval:valV kvs k with
  | none=>rw [hval] at hr;cases hr
  | some x =>
   rw [hval] at hr
   exact h1 x v _ hval (I.tok _) hr
 ·have hr:=rel.val k
  rw [hn] at hr
  cases hval:valV kvs k with
  | some x=>rw [hval] at hr;cases hr
  | none =>
   have hp:putK kvs k z=kvs ++ [(k,z)]:=by
    unfold putK
    rw [afp,hval]
    rfl
   have hst:stored vs k r=vs ++ [(k,r)]:=stored_absent hn r
   refine h2 _ hval ?_
   obtain ⟨q,hq⟩:∃ q,h'.get? a=some q:=let ⟨o,_,_,e,_⟩:=dd';⟨o,e⟩
   refine at4 I (by rw [e];exact True.intro) hs ⟨q,hq⟩ (aws (by rw [hp,List.length_append];simp;row_cond lo) hd (vs:=vs ++ [(k,r)]) (by rw [hp];exact Paired.snoc rel ⟨rfl,rz⟩) (by rw [← hst];exact dd'))
end
section
variable {X:Cx} {o e f:Expr} {apos cpos:Pos} {td ty tx:TE}
theorem am2 (ho:PE X o td) (he:PE X e ty) (hf:PE X f tx) (m:M2 X o "setdefault" apos e f cpos):PE X (.Call (.Attribute o "setdefault" apos) [e,f] [] cpos) (aok td ty tx):=by
 intro pins s σ H Q I h
 refine wpAny_Call_method m.base m.few m.line PySem.F.plainAttrs_dict PySem.F.slot_dict_setdefault PySem.F.type_dict_setdefault (thn (ho pins s σ H _ I h) fun u s1 ⟨x,H1,I1,rx,a,ex,d,q1⟩=>?_)
 subst ex
 obtain rfl:u=Value.ref a:=rx
 obtain ⟨t1,t2,_⟩:=ao8 I1 d
 refine ⟨t1,t2,?_⟩
 rw [m.trees]
 refine Calls.callWith_builtin rfl (Calls.evalArgs_plain (Calls.spliced_cons (thn (he pins s1 σ H1 _ I1 q1) fun iv s2 ⟨y,H2,I2,ry,q2⟩ =>
  Calls.spliced_cons (thn (hf pins s2 σ H2 _ I2 q2) fun fv s3 ⟨z,H3,I3,rz,kvs,k,ea,ey,hl,q3,q4⟩=>Calls.spliced_nil ?_))))
 subst ey
 exact asm I3 ea ry rz hl (fun v w' s' hv I4 rw'=>⟨v,H3,I4,rw',q3 v hv⟩) fun s' hv I4=>⟨z,_,I4,rz,q4 hv⟩
end
end L2
namespace VL
open PySem PySem.Spec L2
noncomputable def zipK:List (Int × List PyData)->List Addr->List (Int × V)
 | p :: es,a :: as=>(p.1,.ref a) :: zipK es as
 | _,_=>[]
theorem afy {k:Int}:∀ {es:List (Int × List PyData)} {as:List Addr} {i:Nat} {ds:List PyData} {b:Addr},(es.map (·.1)).Nodup->es[i]?=some (k,ds)->as[i]?=some b->valV (dkOf (zipK es as)) (.inl k)=some (.ref b)
 | [],_,i,_,_,_,h,_=>by simp at h
 | _ :: _,[],i,_,_,_,_,h=>by simp at h
 | p :: es,a :: as,0,ds,b,nd,h1,h2=>by
  simp at h1 h2
  subst h1 h2
  exact ad9 (p:=(Sum.inl k,V.ref a)) rfl
 | p :: es,a :: as,i+1,ds,b,nd,h1,h2=>by
  rw [List.map_cons,List.nodup_cons] at nd
  have h1':es[i]?=some (k,ds):=by simpa using h1
  have hne:¬ ((Sum.inl p.1:Key)=Sum.inl k):=fun e=>nd.1 (by rw [Sum.inl.inj e];exact List.mem_map.mpr ⟨_,List.mem_of_getElem? h1',rfl⟩)
  show valV ((Sum.inl p.1,V.ref a) :: dkOf (zipK es as)) _=_
  rw [adk (p:=(Sum.inl p.1,V.ref a)) hne]
  exact afy nd.2 h1' (by simpa using h2)
theorem aif {k:Int}:∀ {es:List (Int × List PyData)} {as:List Addr},(∀ p∈es,p.1 ≠ k)->valV (dkOf (zipK es as)) (.inl k)=none
 | [],_,_=>by simp [zipK];rfl
 | _ :: _,[],_=>rfl
 | p :: es,a :: as,h=>by
  have hne:¬ ((Sum.inl p.1:Key)=Sum.inl k):=fun e=>h p List.mem_cons_self (Sum.inl.inj e)
  show valV ((Sum.inl p.1,V.ref a) :: dkOf (zipK es as)) _=_
  rw [adk (p:=(Sum.inl p.1,V.ref a)) hne]
  exact aif fun q hq=>h q (List.mem_cons_of_mem _ hq)
theorem aig {p:Int × List PyData} {a:Addr}:∀ {es:List (Int × List PyData)} {as:List Addr},es.length=as.length->zipK (es ++ [p]) (as ++ [a])=zipK es as ++ [(p.1,.ref a)]
 | [],[],_=>rfl
 | [],_ :: _,h=>by simp at h
 | _ :: _,[],h=>by simp at h
 | q :: es,b :: as,h=>by
  show (q.1,V.ref b) :: zipK (es ++ [p]) (as ++ [a])=_
  rw [aig (by simpa using h)]
  rfl
theorem aih:∀ {es fs:List (Int × List PyData)} {as:List Addr},es.map (·.1)=fs.map (·.1)->zipK es as=zipK fs as
 | [],[],_,_=>rfl
 | [],_ :: _,_,h=>by simp at h
 | _ :: _,[],_,h=>by simp at h
 | p :: es,q :: fs,[],h=>rfl
 | p :: es,q :: fs,a :: as,h=>by
  rw [List.map_cons,List.map_cons,List.cons.injEq] at h
  show (p.1,V.ref a) :: zipK es as=(q.1,V.ref a) :: zipK fs as
  rw [h.1,aih h.2]
theorem akz:∀ {es:List (Int × List PyData)} {as:List Addr},es.length=as.length->(zipK es as).length=es.length
 | [],_,_=>by simp [zipK]
 | _ :: _,[],h=>by simp at h
 | p :: es,a :: as,h=>by
  show (zipK es as).length+1=es.length+1
  rw [akz (by simpa using h)]
noncomputable def OKL (es:List (Int × List PyData)):Own where
 P:=fun G H v F=>∃ (a:Addr) (as:List Addr),v=.ref a/\H a=some (.dK (dkOf (zipK es as)))/\(es.map fun q:Int × List PyData=>q.1).Nodup/\as.Nodup/\a ∉ as/\es.length=as.length/\(∀ (i:Nat) b p,as[i]?=some b->es[i]?=some p->∃ vs,H b=some (.lst vs)/\Rps G vs p.2)/\∀ b,F b ↔ b=a\/b∈as
 mono:=fun ⟨a,as,e,h,n0,n1,n2,l,r,f⟩ g hh=>⟨a,as,e,hh a _ ((f a).mpr (.inl rfl)) h,n0,n1,n2,l,fun i b p hb hd=>by
  obtain ⟨vs,h1,h2⟩:=r i b p hb hd
  exact ⟨vs,hh b _ ((f b).mpr (.inr (List.mem_of_getElem? hb))) h1,h2.same g⟩,f⟩
 dom:=fun ⟨a,as,e,h,n0,n1,n2,l,r,f⟩ b z=>by
  rcases (f b).mp z with rfl | z
  ·exact ⟨_,h⟩
  ·obtain ⟨i,hi,e⟩:=List.mem_iff_getElem.mp z
   have hb:as[i]?=some b:=by rw [List.getElem?_eq_getElem hi,e]
   obtain ⟨vs,h1,_⟩:=r i b _ hb (List.getElem?_eq_getElem (by rw [l];exact hi))
   exact ⟨_,h1⟩
theorem aqi {G H:Hp} {v:V} {F:Addr->Prop} (h:(OD []).P G H v F):(OKL []).P G H v F:=by
 obtain ⟨a,kvs,e,h,r,f⟩:=h
 cases r
 exact ⟨a,[],e,h,List.nodup_nil,List.nodup_nil,by simp,rfl,fun i b p hb=>by simp at hb,fun b=>by rw [f b];simp⟩
theorem am3 {G:Hp}:∀ {es:List (Int × List PyData)} {as:List Addr},es.length=as.length->(∀ (i:Nat) b p,as[i]?=some b->es[i]?=some p->Rp G (.ref b) (.list p.2))->RpK G (dkOf (zipK es as)) (es.map fun p=>(.inl p.1,.list p.2))
 | [],_,_,_=>by simp [zipK];exact .nil
 | _ :: _,[],h,_=>by simp at h
 | p :: es,a :: as,h,q => .cons (q 0 a p rfl rfl) (am3 (by simpa using h) fun i b p h1 h2=>q (i+1) b p (by simpa using h1) (by simpa using h2))
@[reducible] noncomputable def kvG (es:List (Int × List PyData)):List (Key × PyData):=es.map fun p=>(.inl p.1,.list p.2)
theorem avu {es:List (Int × List PyData)}:Frz (OKL es) (afg (kvG es)):=fun G H v F ⟨a,as,e,h,n0,n1,n2,l,r,f⟩ n g=>by
 subst e
 refine .dk (by rw [afb ((f a).mpr (.inl rfl))];exact h) (am3 l fun i b p hb hp=>?_) rfl
 obtain ⟨vs,h1,h2⟩:=r i b p hb hp
 exact .lst (by rw [afb ((f b).mpr (.inr (List.mem_of_getElem? hb)))];exact h1) (h2.same (abu n))
section
variable {B:Bs} {env:En} {QO:Sl->En->Prop} {Q':PyData->En->Prop} {D':VEnds} {K:PySem.W.Frag} {i:Nat}
theorem avv {t:TS} (i:Nat) (e:env[i]?=some (some (.own (OD [])))) (q:EvS B t D' (env.set i (some (.own (OKL []))))):EvS B t D' env:=fun σ G H F D I r=>q σ G H F D (I.weakO e fun _ _ _ _=>aqi) r
theorem aol {es:List (Int × List PyData)} {l j:Nat} {k:Int} {y:PyData} (e:env[i]?=some (some (.own (OKL es)))) (ek:env[l]?=some (some (.st (.int k)))) (ey:env[j]?=some (some (.st y)))
  (hel:es.length<=900000) (hds:∀ p∈es,p.2.length<=900000)
  (q1:∀ (n:Nat) (ds:List PyData),es[n]?=some (k,ds)->Q' .none (env.set i (some (.own (OKL (es.set n (k,ds ++ [y])))))))
  (q2:(∀ p∈es,p.1 ≠ k)->Q' .none (env.set i (some (.own (OKL (es ++ [(k,[y])])))))):Ev B (tBM K "list" acn (aok (tVar i) (tVar l) (tLst tNil)) (aa6 (tVar j) tNil)) env Q':=fun σ G H F Q I kk=>by
 obtain ⟨v,hv,⟨a,as,rfl,h,n0,n1,n2,ln,r,f⟩,_⟩:=I.sl i _ e
 obtain ⟨vk,hvk,rk,_⟩:=I.sl l _ ek
 obtain ⟨vy,hvy,ry,_⟩:=I.sl j _ ey
 cases rk
 refine ⟨_,hv,a,rfl,.inl ⟨_,.inl h⟩,_,hvk,by decide,fun p hp=>?_⟩
 have ap:a ≠ p:=aak h hp
 have has:∀ b∈as,∃ vs,H b=some (.lst vs):=fun b hb=>by
  obtain ⟨i,hi⟩:=List.getElem?_of_mem hb
  obtain ⟨vs,h1,_⟩:=r i b _ hi (List.getElem?_eq_getElem (show i < es.length by rw [ln];exact (List.getElem?_eq_some_iff.mp hi).1))
  exact ⟨vs,h1⟩
 have pas:p ∉ as:=fun hb=>by obtain ⟨vs,h1⟩:=has p hb;rw [h1] at hp;cases hp
 have hzl:(dkOf (zipK es as)).length < sizeLine:=by
  unfold dkOf
  rw [List.length_map,akz ln,sizeLine_eq]
  row_cond lo
 refine ⟨dkOf (zipK es as),.inl k,by rw [aac ap];exact h,rfl,hzl,fun v hval=>?_,fun hval=>?_⟩
 ·-- the key is there
  have hex:∃ (n:Nat) (ds:List PyData),es[n]?=some (k,ds):=by
   apply Classical.byContradiction
   intro hno
   rw [aif fun q hq z=>?_] at hval
   ·cases hval
   ·obtain ⟨m,hm⟩:=List.getElem?_of_mem hq
    exact hno ⟨m,q.2,by rw [hm,← z]⟩
  obtain ⟨n,ds,hn⟩:=hex
  have hnl:n < as.length:=by rw [← ln];exact (List.getElem?_eq_some_iff.mp hn).1
  have hb:as[n]?=some as[n]:=List.getElem?_eq_getElem hnl
  generalize as[n]'hnl=b at hb
  have hbm:b∈as:=List.mem_of_getElem? hb
  rw [afy n0 hn hb] at hval
  cases hval
  obtain ⟨vs,h1,h2⟩:=r n b _ hb hn
  have bp:b ≠ p:=fun z=>pas (z ▸ hbm)
  have hab:a ≠ b:=fun z=>n2 (z ▸ hbm)
  have hl2:=hds _ (List.mem_of_getElem? hn)
  have J0:=I.aside (p:=p) (o:=.lst []) (fun _ z=>nomatch z) (I.no_g hp) (fun j z=>I.no_f hp j z) (I.no_b hp)
  have h1':upd H p (.lst []) b=some (.lst vs):=by rw [aac bp];exact h1
  refine ⟨.inl ⟨rfl,_,SqL.of h1'⟩,_,hvy,acz h1' (by rw [h2.length,sizeLine_eq];have:ds.length<=900000:=hl2;row_cond lo) ?_⟩
  have J:=J0.change (A:=OKL (es.set n (k,ds ++ [y]))) (H2:=upd (upd H p (.lst [])) b (.lst (vs ++ [vy]))) (F2:=F i) (os':=.own (OKL (es.set n (k,ds ++ [y])))) i e hv (fun c o hc ec=>by rw [aac (fun z:c=b=>hc ((f c).mpr (.inr (by rw [z];exact hbm))))];exact ec)
   (fun c o ec=>by
    by_cases z:c=b
    ·rw [z];exact ⟨_,aag⟩
    ·rw [aac z];exact ⟨o,ec⟩)
   (fun c z=>⟨.inl z,by
    by_cases y:c=b
    ·rw [y];exact ⟨_,aag⟩
    ·rw [aac y];exact J0.fo i c z⟩) ?_ (fun c ks e=>by
    by_cases z:c=b
    ·subst z;rw [aag] at e;cases e
    ·rw [aac z] at e;exact J0.ft c ks e) (.inl ⟨rfl,_,rfl⟩)
  ·exact kk _ G _ _ _ _ J (Same.refl _) .non (q1 n ds hn)
  ·have hk:(es.set n (k,ds ++ [y])).map (·.1)=es.map (·.1):=by
    refine List.ext_getElem? fun m=>?_
    rw [List.getElem?_map,List.getElem?_map,List.getElem?_set]
    by_cases hm:n=m
    ·subst hm
     rw [if_pos rfl,if_pos (show n < es.length by rw [ln];exact hnl),hn]
     rfl
    ·rw [if_neg hm]
   refine ⟨a,as,rfl,?_,by rw [hk];exact n0,n1,n2,by rw [List.length_set];exact ln,fun m c q hc hq=>?_,f⟩
   ·rw [aac hab,aac ap,aih hk]
    exact h
   ·by_cases hm:m=n
    ·subst hm
     rw [hb] at hc;cases hc
     rw [List.getElem?_set,if_pos rfl,if_pos (show m < es.length by rw [ln];exact hnl)] at hq
     cases hq
     exact ⟨_,aag,h2.append (.cons ry .nil)⟩
    ·rw [List.getElem?_set,if_neg (fun z=>hm z.symm)] at hq
     obtain ⟨us,h3,h4⟩:=r m c q hc hq
     refine ⟨us,?_,h4⟩
     have hcm:=List.mem_of_getElem? hc
     rw [aac,aac (fun z:c=p=>pas (z ▸ hcm))]
     ·exact h3
     ·rintro rfl
      obtain ⟨l1,e1⟩:=List.getElem?_eq_some_iff.mp hb
      obtain ⟨l2,e2⟩:=List.getElem?_eq_some_iff.mp hc
      exact hm (nodup_ix n1 l2 l1 (e2.trans e1.symm))
 ·-- a new key
  have hno:∀ q∈es,q.1 ≠ k:=fun q hq z=>by
   obtain ⟨m,hm⟩:=List.getElem?_of_mem hq
   have hml:m < as.length:=by rw [← ln];exact (List.getElem?_eq_some_iff.mp hm).1
   have:=afy (k:=k) (ds:=q.2) n0 (by rw [hm,← z]) (List.getElem?_eq_getElem hml)
   rw [this] at hval
   cases hval
  have hput:putK (dkOf (zipK es as)) (.inl k) (.ref p)=dkOf (zipK (es ++ [(k,[y])]) (as ++ [p])):=by
   rw [aig ln]
   unfold putK
   rw [afp,hval]
   unfold dkOf
   rw [List.map_append]
   rfl
  rw [hput]
  have pa:p ≠ a:=ap.symm
  have h1':upd (upd H p (.lst [])) a (.dK (dkOf (zipK (es ++ [(k,[y])]) (as ++ [p])))) p=some (.lst []):=by rw [aac pa,aag]
  refine ⟨.inl ⟨rfl,_,SqL.of h1'⟩,_,hvy,acz h1' (show (0:Nat) < sizeLine by rw [sizeLine_eq];decide) ?_⟩
  have J:=I.change (A:=OKL (es ++ [(k,[y])])) (H2:=upd (upd (upd H p (.lst [])) a (.dK (dkOf (zipK (es ++ [(k,[y])]) (as ++ [p]))))) p (.lst ([] ++ [vy]))) (F2:=fun c=>F i c\/c=p) (os':=.own (OKL (es ++ [(k,[y])]))) i e hv (fun c o hc ec=>by
    rw [aac (aak ec hp),aac (fun z:c=a=>hc ((f c).mpr (.inl z))),aac (aak ec hp)]
    exact ec)
   (fun c o ec=>by
    by_cases z:c=p
    ·rw [z];exact ⟨_,aag⟩
    ·rw [aac z]
     by_cases z2:c=a
     ·rw [z2];exact ⟨_,aag⟩
     ·rw [aac z2,aac z];exact ⟨o,ec⟩)
   (fun c z=>by
    rcases z with z | z
    ·refine ⟨.inl z,?_⟩
     obtain ⟨o,ec⟩:=I.fo i c z
     rw [aac (aak ec hp)]
     by_cases z2:c=a
     ·rw [z2];exact ⟨_,aag⟩
     ·rw [aac z2,aac (aak ec hp)];exact ⟨o,ec⟩
    ·subst z
     exact ⟨.inr hp,_,aag⟩) ?_ (fun c ks e=>by
    by_cases z:c=p
    ·subst z;rw [aag] at e;cases e
    ·rw [aac z] at e
     by_cases z2:c=a
     ·subst z2;rw [aag] at e;cases e
     ·rw [aac z2,aac z] at e;exact I.ft c ks e) (.inl ⟨rfl,_,rfl⟩)
  ·exact kk _ G _ _ _ _ J (Same.refl _) .non (q2 hno)
  ·refine ⟨a,as ++ [p],rfl,by rw [aac ap,aag],?_,?_,?_,by rw [List.length_append,List.length_append,ln];rfl,fun m c q hc hq=>?_,fun c=>?_⟩
   ·rw [List.map_append,List.nodup_append]
    refine ⟨n0,by simp,fun x hx z hz=>?_⟩
    obtain ⟨q,hq,rfl⟩:=List.mem_map.mp hx
    have:z=k:=by simpa using hz
    rw [this]
    exact hno q hq
   ·rw [List.nodup_append]
    refine ⟨n1,by simp,fun x hx z hz=>?_⟩
    have:z=p:=by simpa using hz
    rw [this]
    exact fun e=>pas (e ▸ hx)
   ·intro z
    rcases List.mem_append.mp z with z | z
    ·exact n2 z
    ·exact ap (List.mem_singleton.mp z)
   ·by_cases hm:m < as.length
    ·rw [List.getElem?_append_left hm] at hc
     rw [List.getElem?_append_left (by row_cond lo)] at hq
     obtain ⟨us,h3,h4⟩:=r m c q hc hq
     have hcm:=List.mem_of_getElem? hc
     refine ⟨us,?_,h4⟩
     rw [aac (fun z:c=p=>pas (z ▸ hcm)),aac (fun z:c=a=>n2 (z ▸ hcm)),aac (fun z:c=p=>pas (z ▸ hcm))]
     exact h3
    ·have hm2:m=as.length:=by
      have:=(List.getElem?_eq_some_iff.mp hc).1
      simp at this
      row_cond lo
     subst hm2
     rw [List.getElem?_append_right (Nat.le_refl _),Nat.sub_self] at hc
     rw [← ln,List.getElem?_append_right (Nat.le_refl _),Nat.sub_self] at hq
     cases hc
     cases hq
     exact ⟨_,aag,.cons ry .nil⟩
   ·show (F i c\/c=p) ↔ _
    rw [f c,List.mem_append,List.mem_singleton]
    exact or_assoc
noncomputable def adt (es:List (Int × List PyData)) (k:Int):List PyData:=((es.find? fun p=>decide (p.1=k)).map (·.2)).getD []
theorem avw (es:List (Int × List PyData)) (k:Int):valD (kvG es) (.inl k)=(es.find? fun p=>decide (p.1=k)).map fun p => .list p.2:=by
 unfold valD kvG
 rw [List.find?_map,Option.map_map]
 congr 1
 apply congrFun (congrArg List.find? (funext fun p=>?_))
 simp [Function.comp]
theorem aqj {es:List (Int × List PyData)} {l:Nat} {k:Int} {s1:Sl} (e:env[i]?=some (some s1)) (hs:(s1=.own (OKL [])/\es=[])\/(s1=.st (afg (kvG es))/\es ≠ [])) (ek:env[l]?=some (some (.st (.int k)))) (q1:adt es k=[]->QO (.own (OL [])) env) (q2:QO (.st (.list (adt es k))) env):EvO B (af6 (tVar i) (tVar l) (tLst tNil)) env QO:=fun σ G H F Q I kk=>by
 obtain ⟨v,hv,rv⟩:=I.sl i _ e
 obtain ⟨vk,hvk,rk,_⟩:=I.sl l _ ek
 cases rk
 rcases hs with ⟨rfl,rfl⟩ | ⟨rfl,hne⟩
 ·obtain ⟨⟨a,as,rfl,h,n0,n1,n2,ln,r,f⟩,_⟩:=rv
  refine ⟨_,hv,a,rfl,.inl ⟨_,.inl h⟩,_,hvk,by decide,fun p hp=>⟨none,.inl ⟨_,.inl k,.inl (by rw [aac (aak h hp)];exact h),rfl,rfl⟩,?_⟩⟩
  have o:=Out.newL (xs:=[]) (ds:=[]) I.gh hp .nil
  exact kk _ _ _ F _ _ env (I.out o).1 o.gg (I.out o).2 (q1 rfl)
 ·obtain ⟨a,kvs,rfl,ha,rk⟩:=avj rv.1 (by cases es with | nil=>exact absurd rfl hne | cons p es=>exact List.cons_ne_nil _ _)
  have ha':=I.gh _ _ ha
  refine ⟨_,hv,a,rfl,.inl ⟨kvs,.inl ha'⟩,_,hvk,by decide,fun p hp=>⟨valV kvs (.inl k),.inl ⟨kvs,.inl k,.inl (by rw [aac (aak ha' hp)];exact ha'),rfl,rfl⟩,?_⟩⟩
  have hval:=avw es k
  cases hf:es.find? fun p=>decide (p.1=k) with
  | none =>
   rw [hf] at hval
   rw [(RpK.val rk).1 hval]
   have o:=Out.newL (xs:=[]) (ds:=[]) I.gh hp .nil
   exact kk _ _ _ F _ _ env (I.out o).1 o.gg (I.out o).2 (q1 (by unfold adt;rw [hf];rfl))
  | some q =>
   rw [hf] at hval
   obtain ⟨w,hw,rw'⟩:=(RpK.val rk).2 _ hval
   rw [hw]
   have J:=I.aside (p:=p) (o:=.lst []) (fun _ z=>nomatch z) (I.no_g hp) (fun j z=>I.no_f hp j z) (I.no_b hp)
   have e2:adt es k=q.2:=by unfold adt;rw [hf];rfl
   rw [e2] at q2
   exact kk _ _ _ F _ _ env J (Same.refl _) (aci rw') q2
theorem aqk {QI:List PyData->En->Prop} {es:List (Int × List PyData)} {l:Nat} {k:Int} {s1:Sl} (e:env[i]?=some (some s1)) (hs:(s1=.own (OKL [])/\es=[])\/(s1=.st (afg (kvG es))/\es ≠ [])) (ek:env[l]?=some (some (.st (.int k)))) (q:QI (adt es k) env):EvI B (anb K (af6 (tVar i) (tVar l) (tLst tNil))) env QI :=
 akf (abz (aqj e hs ek (fun h=>adf ⟨_,rfl,by rw [h] at q;exact q⟩) (atf ⟨_,rfl,q⟩)))
end
end VL
namespace VL
open PySem PySem.Spec L2
theorem aom {α β:Type} {K K1 K2:PySem.W.Frag} {src:List (Option Nat)} {e1:En} {wi2:TI} {tif2:TT} {te:TE} {R:List PyData->Prop} {xs:List α} {fa fb : α->PyData} (yf : α->List β) (fc fd : α->β->PyData) (f : α->β->PyData) (q : α->β->Bool) (hc:ado (aao src e1))
  (hl:(xs.flatMap fun x=>((yf x).filter (q x)).map (f x)).length<=999999)
  (h1:∀ x∈xs,∀ B':Bs,B'.K=K->∀ o o',EvI B' wi2 (some (.st (fa x)) :: some (.st (fb x)) :: stO o :: stO o' :: aao src e1) fun ds2 e4=>ds2=(yf x).map (fun y => .tuple [fc x y,fd x y])/\e4=some (.st (fa x)) :: some (.st (fb x)) :: stO o :: stO o' :: aao src e1)
  (h2:∀ x∈xs,∀ y∈yf x,∀ B':Bs,B'.K=K->EvT B' tif2 (some (.st (fa x)) :: some (.st (fb x)) :: some (.st (fc x y)) :: some (.st (fd x y)) :: aao src e1) fun b e6=>b=q x y/\e6=some (.st (fa x)) :: some (.st (fb x)) :: some (.st (fc x y)) :: some (.st (fd x y)) :: aao src e1/\(b=true->Ev B' te (some (.st (fa x)) :: some (.st (fb x)) :: some (.st (fc x y)) :: some (.st (fd x y)) :: aao src e1) fun z e7=>z=f x y/\e7=some (.st (fa x)) :: some (.st (fb x)) :: some (.st (fc x y)) :: some (.st (fd x y)) :: aao src e1))
  (hR:R (xs.flatMap fun x=>((yf x).filter (q x)).map (f x))):LcV2 K (none :: none :: none :: none :: src) (gTup K1 2 (act (aa5 0) (act (aa5 1) gNil))) tYes wi2 (gTup K2 2 (act (aa5 2) (act (aa5 3) gNil))) tif2 te (xs.map fun x => .tuple [fa x,fb x]) e1 R:=by
 refine ⟨fun i ys e=>ys=(xs.take i).flatMap (fun x=>((yf x).filter (q x)).map (f x))/\∃ o o' p p',e=stO o :: stO o' :: stO p :: stO p' :: aao src e1,⟨by simp,none,none,none,none,rfl⟩,?_,?_,?_⟩
 ·rintro i ys e ⟨_,o,o',p,p',rfl⟩
  exact abg (abg (abg (abg hc)))
 ·rintro i d ys e hd ⟨rfl,o,o',p,p',rfl⟩ B' hB
  rw [List.getElem?_map] at hd
  cases hx:xs[i]? with
  | none=>rw [hx] at hd;cases hd
  | some x =>
   rw [hx] at hd
   cases hd
   have hxm:=List.mem_of_getElem? hx
   have et:xs.take (i+1)=xs.take i ++ [x]:=by rw [List.take_add_one,hx];rfl
   have hle:((xs.take (i+1)).flatMap (fun x=>((yf x).filter (q x)).map (f x))).length<=999999:=by
    refine Nat.le_trans ?_ hl
    conv=>rhs;rw [← List.take_append_drop (i+1) xs,List.flatMap_append,List.length_append]
    exact Nat.le_add_right _ _
   refine ahc rfl (ac0 (aa3 (ac0 (aa3 (afu (afc ?_))))))
   rw [if_pos rfl]
   show EvI B' wi2 (some (.st (fa x)) :: some (.st (fb x)) :: stO p :: stO p' :: aao src e1) _
   intro σ G H F Q I k
   refine h1 x hxm B' hB p p' σ G H F Q I fun J G' H' F' ds2 e4 I' g' it' ⟨hds,he4⟩=>k J G' H' F' ds2 e4 I' g' it' ?_
   subst hds he4
   refine ⟨fun j ys2 e=>ys2=(xs.take i).flatMap (fun x=>((yf x).filter (q x)).map (f x)) ++ (((yf x).take j).filter (q x)).map (f x)/\∃ p p',e=some (.st (fa x)) :: some (.st (fb x)) :: stO p :: stO p' :: aao src e1,⟨by simp,p,p',rfl⟩,?_,?_,?_⟩
   ·rintro j ys2 e ⟨_,p,p',rfl⟩
    exact abg (o:=some (fa x)) (abg (o:=some (fb x)) (abg (abg hc)))
   ·rintro j d2 ys2 e hd2 ⟨rfl,p,p',rfl⟩ B2 hB2
    rw [List.getElem?_map] at hd2
    cases hy:(yf x)[j]? with
    | none=>rw [hy] at hd2;cases hd2
    | some y =>
     rw [hy] at hd2
     cases hd2
     have et2:(yf x).take (j+1)=(yf x).take j ++ [y]:=by rw [List.take_add_one,hy];rfl
     refine ahc rfl (ac0 (aa3 (ac0 (aa3 (afu ?_)))))
     show EvT B2 tif2 (some (.st (fa x)) :: some (.st (fb x)) :: some (.st (fc x y)) :: some (.st (fd x y)) :: aao src e1) _
     intro σ G H F Q I k
     refine h2 x hxm y (List.mem_of_getElem? hy) B2 hB2 σ G H F Q I fun b G' H' F' e3 I' g' ⟨hb,he,hq⟩=>k b G' H' F' e3 I' g' ?_
     subst he
     by_cases hp:b=true
     ·rw [if_pos hp]
      intro σ G H F Q I k
      refine hq hp σ G H F Q I fun v G' H' F' d' e4 I' g' r' ⟨hy',he4⟩=>k v G' H' F' d' e4 I' g' r' ?_
      subst hy' he4
      have hqt:q x y=true:=by rw [← hb];exact hp
      refine ⟨?_,?_,some (fc x y),some (fd x y),rfl⟩
      ·refine Nat.le_trans ?_ hle
       rw [et,List.flatMap_append,List.length_append,List.length_append]
       refine Nat.add_le_add_left ?_ _
       simp only [List.flatMap_cons,List.flatMap_nil,List.append_nil,List.length_map]
       exact (List.Sublist.filter (q x) (List.take_sublist j (yf x))).length_le
      ·rw [et2,List.filter_append,List.map_append,← List.append_assoc]
       simp [hqt]
     ·rw [if_neg hp]
      have hqf:q x y=false:=by rw [← hb];simpa using hp
      refine ⟨?_,some (fc x y),some (fd x y),rfl⟩
      rw [et2,List.filter_append,List.map_append]
      simp [hqf]
   ·rintro ys2 e ⟨rfl,p,p',rfl⟩
    refine ⟨?_,some (fa x),some (fb x),p,p',rfl⟩
    rw [et,List.flatMap_append]
    simp
 ·rintro ys e ⟨rfl,o,o',p,p',rfl⟩
  rw [List.length_map,List.take_length]
  exact hR
theorem aon {B:Bs} {env:En} {QO:Sl->En->Prop} {K:PySem.W.Frag} {ta:TA} (h:EvA B ta env fun ds e=>∃ ps:List (Int × Int),ds=[.list (ps.map prD)]/\ps.length < 64/\∀ qs:List (Int × Int),qs.Perm ps->lexS (qs.map p2)->QO (.own (OL (qs.map prD))) e):EvO B (tCB (aey K) ta) env QO:=fun σ G H F Q I k =>
 h σ G H F _ I fun vs G1 H1 F1 ds e1 I1 g1 r1 z_=>by
  obtain ⟨ps,ed,h64,q1⟩:=z_
  rw [← ad5] at ed
  subst ed
  cases r1 with
  | cons r t =>
   cases t
   cases r with
   | @lst a us _ ha rs =>
    obtain ⟨t1,t2⟩:=acw I1.gh rs aoa
    refine ⟨a,us,rfl,SqL.of (I1.gh _ _ ha),t1,by have:=rs.length;rw [List.length_map,List.length_map] at this;row_cond lo,fun ws p hp hs hf=>?_⟩
    have tw:∀ v∈ws,TupI H1 v:=fun v hv=>t1 v (hp.mem_iff.mp hv)
    have o:=Out.newL I1.gh hf (aeh I1.ft tw)
    have hp':=hp.map (kH H1)
    rw [t2] at hp'
    obtain ⟨qs,e2,hq⟩:=ags hp'
    refine k _ _ _ F1 _ _ e1 (I1.out o).1 (g1.trans o.gg) (I1.out o).2 ?_
    rw [e2,ad5]
    refine q1 qs hq ?_
    rw [← e2]
    unfold lexS;rw [List.pairwise_map];exact hs
end VL
namespace VL
open PySem PySem.Spec L2
noncomputable def isLT:PyData->Bool
 | .list _ | .tuple _=>true
 | _=>false
theorem ayd {K:PySem.W.Frag} (d:PyData):PySem.W.kitAny K (.type (tyD d)) (["list","tuple"].map Value.type)=some (isLT d):=by
 cases d with
 | none=>exact ai2
 | bool _=>exact apn
 | int _=>exact ari
 | str _=>exact arj
 | list _=>exact apo
 | tuple _=>exact anq
 | dict _=>exact apq
theorem avx {B:Bs} {env:En} {Q':PyData->En->Prop} {te:TE} {K:PySem.W.Frag} (h:Ev B te env fun d e=>Q' (.bool (isLT d)) e):Ev B (tCB (atd K) (aa6 te (aa6 (tTup (aa6 (tC (.ty "list")) (aa6 (tC (.ty "tuple")) tNil))) tNil))) env Q':=fun σ G H F Q I k =>
 h σ G H F _ I fun v G1 H1 F1 d e1 I1 g1 r1 q1=>by
  refine ⟨by decide,fun p hp=>?_⟩
  refine ⟨v,p,["list","tuple"],_,_,rfl,aag,ath (r1.same (I1.gh.trans (abp hp))),ayd d,?_⟩
  refine k _ G1 _ F1 _ e1 (I1.grow (Same.refl _) (I1.gh.trans (abp hp)) (abp hp) (fun a o e => .inl e) fun a ks e=>?_) g1 (.bl _) q1
  by_cases z:a=p
  ·subst z
   rw [aag] at e
   cases ks with
   | nil=>cases e
   | cons x ks=>cases x <;> cases e
  ·rw [aac z] at e
   exact I1.ft a ks e
end VL
namespace VL
open PySem L2
theorem asn {n:Int} {es:List (Int × Int)} (h:Conn n (Tied es)):∃ fs:List (Int × Int),fs.Nodup/\(∀ p∈fs,p∈es)/\(fs.length:Int)=(n - 1).toNat:=by
 have key:∀ i:Nat,∃ p:Int × Int,(i:Int)+1 < n->p∈es/\∃ (u:Int) (d:Nat),(p=(u,(i:Int)+1)\/p=((i:Int)+1,u))/\Gr.Dist (Tied es) 0 u d/\Gr.Dist (Tied es) 0 ((i:Int)+1) (d+1):=by
  intro i
  by_cases hi:(i:Int)+1 < n
  ·obtain ⟨k,w⟩:=h 0 ((i:Int)+1) (by row_cond lo) (by row_cond lo) (by row_cond lo) hi
   obtain ⟨d,_,hd⟩:=Gr.Dist.of_walk w
   cases d with
   | zero =>
    have hz:=hd.1
    generalize hv:(i:Int)+1=v at hz
    cases hz
    row_cond lo
   | succ d =>
    obtain ⟨u,ht,hu⟩:=hd.pred
    rcases ht with ht | ht
    ·exact ⟨_,fun _=>⟨ht,u,d,.inl rfl,hu,hd⟩⟩
    ·exact ⟨_,fun _=>⟨ht,u,d,.inr rfl,hu,hd⟩⟩
  ·exact ⟨(0,0),fun q=>absurd q hi⟩
 obtain ⟨f,hf⟩:∃ f:Nat->Int × Int,∀ i:Nat,(i:Int)+1 < n->f i∈es/\∃ (u:Int) (d:Nat),(f i=(u,(i:Int)+1)\/f i=((i:Int)+1,u))/\Gr.Dist (Tied es) 0 u d/\Gr.Dist (Tied es) 0 ((i:Int)+1) (d+1):=⟨fun i=>Classical.choose (key i),fun i=>Classical.choose_spec (key i)⟩
 refine ⟨(List.range (n - 1).toNat).map f,?_,fun p hp=>?_,by simp⟩
 ·unfold List.Nodup
  rw [List.pairwise_map]
  refine List.Pairwise.imp_of_mem ?_ List.nodup_range
  intro i j hi hj hij e
  have hi1:=List.mem_range.mp hi
  have hj1:=List.mem_range.mp hj
  obtain ⟨_,u,d,e1,hu,hd⟩:=hf i (by row_cond lo)
  obtain ⟨_,v,c,e2,hv,hc⟩:=hf j (by row_cond lo)
  rw [e] at e1
  have hsw:u=(j:Int)+1/\v=(i:Int)+1:=by
   rcases e1 with e1 | e1 <;> rcases e2 with e2 | e2 <;> rw [e1] at e2 <;> simp only [Prod.mk.injEq] at e2 <;> row_cond lo
  rw [hsw.1] at hu
  rw [hsw.2] at hv
  have:=hu.uniq hc
  have:=hv.uniq hd
  row_cond lo
 ·obtain ⟨i,hi,rfl⟩:=List.mem_map.mp hp
  exact (hf i (by have:=List.mem_range.mp hi;row_cond lo)).1
noncomputable def aa4 (es:List (Int × Int)) (t:Int × Int):List (Int × Int):=es.filter fun p => !decide (p=t)
theorem lessE_mem {es:List (Int × Int)} {t p:Int × Int}:p∈aa4 es t ↔ p∈es/\p ≠ t:=by simp [aa4]
theorem aii {es:List (Int × Int)} {a b:Int} (h:(a,b)∈es) (x y:Int):Tied es x y ↔ Tied (aa4 es (a,b)) x y\/(x=a/\y=b)\/(x=b/\y=a):=by
 unfold Tied
 rw [lessE_mem,lessE_mem]
 constructor
 ·rintro (q | q)
  ·by_cases e:(x,y)=(a,b)
   ·exact .inr (.inl (by simpa using e))
   ·exact .inl (.inl ⟨q,e⟩)
  ·by_cases e:(y,x)=(a,b)
   ·simp only [Prod.mk.injEq] at e
    exact .inr (.inr ⟨e.2,e.1⟩)
   ·exact .inl (.inr ⟨q,e⟩)
 ·rintro ((q | q) | ⟨rfl,rfl⟩ | ⟨rfl,rfl⟩)
  ·exact .inl q.1
  ·exact .inr q.1
  ·exact .inl h
  ·exact .inr h
theorem aoo {n:Int} {es:List (Int × Int)} {a b:Int} (hn:1<=n) (hl:(es.length:Int)=n - 1) (hc:Conn n (Tied es)) (h:(a,b)∈es) (k:Nat):¬ Gr.Walk (Tied (aa4 es (a,b))) a k b:=fun hw=>by
 have hs:∀ u v,Tied (aa4 es (a,b)) u v->Tied (aa4 es (a,b)) v u:=fun _ _ t=>t.symm
 have hc':Conn n (Tied (aa4 es (a,b))):=fun u v u0 u1 v0 v1=>by
  obtain ⟨j,w⟩:=hc u v u0 u1 v0 v1
  clear v0 v1
  induction w with
  | refl=>exact ⟨0,.refl⟩
  | step _ t ih =>
   obtain ⟨m,w⟩:=ih
   rcases (aii h _ _).mp t with t | ⟨rfl,rfl⟩ | ⟨rfl,rfl⟩
   ·exact ⟨_,.step w t⟩
   ·exact ⟨_,w.app hw⟩
   ·exact ⟨_,w.app (hw.rev hs)⟩
 obtain ⟨fs,nd,sub,len⟩:=asn hc'
 have:=List.Nodup.length_le_of_subset (l₁:=(a,b) :: fs) (l₂:=es) (List.nodup_cons.mpr ⟨fun q=>(lessE_mem.mp (sub _ q)).2 rfl,nd⟩) fun p hp=>by
  rcases List.mem_cons.mp hp with rfl | hp
  ·exact h
  ·exact (lessE_mem.mp (sub _ hp)).1
 simp only [List.length_cons] at this
 row_cond lo
section
variable {T T':Int->Int->Prop} {a b:Int}
theorem aij (hs:∀ u v,T' u v->T' v u) (hT:∀ x y,T x y ↔ T' x y\/(x=a/\y=b)\/(x=b/\y=a)) (hn:∀ k,¬ Gr.Walk T' a k b) {u v:Int} {i k:Nat} (hu:Gr.Walk T' a i u) (w:Gr.Walk T u k v):((∃ j,Gr.Walk T' a j v)->∃ m,m<=k/\Gr.Walk T' u m v)/\((¬ ∃ j,Gr.Walk T' a j v)->∃ m,m+1<=k/\Gr.Walk T' u m a):=by
 induction w with
 | refl=>exact ⟨fun _=>⟨0,Nat.le_refl _,.refl⟩,fun h=>absurd ⟨i,hu⟩ h⟩
 | @step k x y _ t ih =>
  rcases (hT _ _).mp t with t | ⟨rfl,rfl⟩ | ⟨rfl,rfl⟩
  ·constructor
   ·rintro ⟨j,hy⟩
    obtain ⟨m,hm,q⟩:=ih.1 ⟨_,hy.step (hs _ _ t)⟩
    exact ⟨m+1,by row_cond lo,q.step t⟩
   ·intro hy
    obtain ⟨m,hm,q⟩:=ih.2 fun ⟨j,hx⟩=>hy ⟨_,hx.step t⟩
    exact ⟨m,by row_cond lo,q⟩
  ·refine ⟨fun ⟨j,hy⟩=>absurd hy (hn j),fun _=>?_⟩
   obtain ⟨m,hm,q⟩:=ih.1 ⟨0,.refl⟩
   exact ⟨m,by row_cond lo,q⟩
  ·refine ⟨fun _=>?_,fun hy=>absurd ⟨0,.refl⟩ hy⟩
   obtain ⟨m,hm,q⟩:=ih.2 fun ⟨j,hy⟩=>hn j hy
   exact ⟨m,by row_cond lo,q⟩
theorem aik (hs:∀ u v,T' u v->T' v u) (hT:∀ x y,T x y ↔ T' x y\/(x=a/\y=b)\/(x=b/\y=a)) (hn:∀ k,¬ Gr.Walk T' a k b) {u v:Int} {i j d:Nat} (hu:Gr.Walk T' a i u) (hv:Gr.Walk T' a j v) (h:Gr.Dist T u v d):Gr.Dist T' u v d:=by
 have up:∀ {k:Nat} {y:Int},Gr.Walk T' u k y->Gr.Walk T u k y:=fun w=>w.rec .refl fun _ t ih => .step ih ((hT _ _).mpr (.inl t))
 obtain ⟨m,hm,q⟩:=(aij hs hT hn hu h.1).1 ⟨j,hv⟩
 have:m=d:=Nat.le_antisymm hm (h.2 m (up q))
 subst this
 exact ⟨q,fun k w=>h.2 k (up w)⟩
theorem abw (hs:∀ u v,T' u v->T' v u) (hT:∀ x y,T x y ↔ T' x y\/(x=a/\y=b)\/(x=b/\y=a)) (hn:∀ k,¬ Gr.Walk T' a k b) {u:Int} {i d e:Nat} (hu:Gr.Walk T' a i u) (ha:Gr.Dist T u a d) (hb:Gr.Dist T u b e):d < e:=by
 have up:∀ {k:Nat} {y:Int},Gr.Walk T' u k y->Gr.Walk T u k y:=fun w=>w.rec .refl fun _ t ih => .step ih ((hT _ _).mpr (.inl t))
 obtain ⟨m,hm,q⟩:=(aij hs hT hn hu hb.1).2 fun ⟨j,hy⟩=>hn j hy
 have:=ha.2 m (up q)
 row_cond lo
theorem ail (hT:∀ x y,T x y ↔ T' x y\/(x=a/\y=b)\/(x=b/\y=a)) {u:Int} {k:Nat} (w:Gr.Walk T a k u):(∃ i,Gr.Walk T' a i u)\/∃ i,Gr.Walk T' b i u:=by
 induction w with
 | refl=>exact .inl ⟨0,.refl⟩
 | step _ t ih =>
  rcases (hT _ _).mp t with t | ⟨rfl,rfl⟩ | ⟨rfl,rfl⟩
  ·rcases ih with ⟨i,q⟩ | ⟨i,q⟩
   ·exact .inl ⟨_,q.step t⟩
   ·exact .inr ⟨_,q.step t⟩
  ·exact .inr ⟨0,.refl⟩
  ·exact .inl ⟨0,.refl⟩
end
theorem ak0 {n:Int} {es:List (Int × Int)} {a b:Int} (hn:1<=n) (hin:InN n es) (hl:(es.length:Int)=n - 1) (hc:Conn n (Tied es)) (h:(a,b)∈es) {u v:Int} {ua ub va vb d:Nat}
  (u0:0<=u) (u1:u < n) (v0:0<=v) (v1:v < n) (hua:Gr.Dist (Tied es) u a ua) (hub:Gr.Dist (Tied es) u b ub) (hva:Gr.Dist (Tied es) v a va) (hvb:Gr.Dist (Tied es) v b vb) (hd:Gr.Dist (Tied es) u v d) :
  ((ua < ub ↔ va < vb)->Gr.Dist (Tied (aa4 es (a,b))) u v d)/\((ua < ub ↔ ¬ va < vb)->∀ k,¬ Gr.Walk (Tied (aa4 es (a,b))) u k v):=by
 have hs:∀ u v,Tied (aa4 es (a,b)) u v->Tied (aa4 es (a,b)) v u:=fun _ _ t=>t.symm
 have hT:=aii h
 have hT2:∀ x y,Tied es x y ↔ Tied (aa4 es (a,b)) x y\/(x=b/\y=a)\/(x=a/\y=b):=fun x y=>(hT x y).trans ⟨fun q=>q.elim .inl fun q => .inr q.symm,fun q=>q.elim .inl fun q => .inr q.symm⟩
 have hnp:=aoo hn hl hc h
 have hnp2:∀ k,¬ Gr.Walk (Tied (aa4 es (a,b))) b k a:=fun k w=>hnp k (w.rev hs)
 have hab:=hin _ h
 obtain ⟨ku,wu⟩:=hc a u hab.1 hab.2.1 u0 u1
 obtain ⟨kv,wv⟩:=hc a v hab.1 hab.2.1 v0 v1
 rcases ail hT wu with ⟨i,su⟩ | ⟨i,su⟩ <;> rcases ail hT wv with ⟨j,sv⟩ | ⟨j,sv⟩
 ·have q1:=abw hs hT hnp su hua hub
  have q2:=abw hs hT hnp sv hva hvb
  exact ⟨fun _=>aik hs hT hnp su sv hd,fun q=>absurd q2 (q.mp q1)⟩
 ·have q1:=abw hs hT hnp su hua hub
  have q2:=abw hs hT2 hnp2 sv hvb hva
  exact ⟨fun q=>absurd (q.mp q1) (by row_cond lo),fun _ k w=>hnp _ ((su.app w).app (sv.rev hs))⟩
 ·have q1:=abw hs hT2 hnp2 su hub hua
  have q2:=abw hs hT hnp sv hva hvb
  exact ⟨fun q=>absurd (q.mpr q2) (by row_cond lo),fun _ k w=>hnp2 _ ((su.app w).app (sv.rev hs))⟩
 ·have q1:=abw hs hT2 hnp2 su hub hua
  have q2:=abw hs hT2 hnp2 sv hvb hva
  exact ⟨fun _=>aik hs hT2 hnp2 su sv hd,fun q=>absurd (q.mpr (by row_cond lo)) (by row_cond lo)⟩
end VL
namespace G
open PySem L2 VL
noncomputable def top (i:Nat):Stmt:=PySem.Challenge.pw_fewties_k39_where_trees_are_parted.main.body.getD i (.Pass ⟨0,0,0,0⟩)
noncomputable abbrev s_is_whole:Stmt:=top 6
noncomputable abbrev s_is_between:Stmt:=top 7
noncomputable abbrev s_is_place:Stmt:=top 8
noncomputable abbrev s_tied_places:Stmt:=top 9
noncomputable abbrev s_far_from:Stmt:=top 10
noncomputable abbrev s_need_place:Stmt:=top 11
noncomputable abbrev s_all_far:Stmt:=top 12
noncomputable abbrev s_is_joined:Stmt:=top 13
noncomputable abbrev s_need_joined:Stmt:=top 15
noncomputable abbrev s_far_rows:Stmt:=top 16
noncomputable abbrev s_is_tree:Stmt:=top 18
noncomputable abbrev s_need_tree:Stmt:=top 19
noncomputable abbrev s_parting_tie:Stmt:=top 20
noncomputable abbrev s_parted_far:Stmt:=top 21
noncomputable abbrev s_law_cell:Stmt:=top 23
noncomputable abbrev s_law_store:Stmt:=top 24
noncomputable abbrev s_law_take:Stmt:=top 25
noncomputable abbrev s_law_tree_ties:Stmt:=top 26
noncomputable abbrev s_law_renumbered:Stmt:=top 27
noncomputable abbrev s_law_tree:Stmt:=top 28
noncomputable abbrev s_law_far_from:Stmt:=top 30
noncomputable abbrev s_law_same:Stmt:=top 31
noncomputable abbrev s_law_parted:Stmt:=top 32
noncomputable abbrev s_law:Stmt:=top 33
structure Txt (K:PySem.W.Frag) (mg:Str->Option Value):Prop where
 b_ValueError:mg "ValueError" = none
 b_min:mg "min" = none
 b_max:mg "max" = none
 b_range:mg "range" = none
 b_list:mg "list" = none
 b_sorted:mg "sorted" = none
 b_isinstance:mg "isinstance" = none
 b_str:mg "str" = none
 b_int:mg "int" = none
 b_len:mg "len" = none
 b_set:mg "set" = none
 b_tuple:mg "tuple" = none
 b_bool:mg "bool" = none
 b_zip:mg "zip" = none
 d_is_whole:∃ f fd,DefAt K mg "is_whole" s_is_whole ["thing"] f fd
 d_is_between:∃ f fd,DefAt K mg "is_between" s_is_between ["least","most","thing"] f fd
 d_is_place:∃ f fd,DefAt K mg "is_place" s_is_place ["n","thing"] f fd
 d_tied_places:∃ f fd,DefAt K mg "tied_places" s_tied_places ["web"] f fd
 d_far_from:∃ f fd,DefAt K mg "far_from" s_far_from ["tied","start"] f fd
 d_need_place:∃ f fd,DefAt K mg "need_place" s_need_place ["web","thing"] f fd
 d_all_far:∃ f fd,DefAt K mg "all_far" s_all_far ["web","a"] f fd
 d_is_joined:∃ f fd,DefAt K mg "is_joined" s_is_joined ["web"] f fd
 d_need_joined:∃ f fd,DefAt K mg "need_joined" s_need_joined ["web"] f fd
 d_far_rows:∃ f fd,DefAt K mg "far_rows" s_far_rows ["web"] f fd
 d_is_tree:∃ f fd,DefAt K mg "is_tree" s_is_tree ["web"] f fd
 d_need_tree:∃ f fd,DefAt K mg "need_tree" s_need_tree ["web"] f fd
 d_parting_tie:∃ f fd,DefAt K mg "parting_tie" s_parting_tie ["web"] f fd
 d_parted_far:∃ f fd,DefAt K mg "parted_far" s_parted_far ["rows","tie"] f fd
 d_law_cell:∃ f fd,DefAt K mg "_law_cell" s_law_cell ["script","k"] f fd
 d_law_store:∃ f fd,DefAt K mg "_law_store" s_law_store ["cell"] f fd
 d_law_take:∃ f fd,DefAt K mg "_law_take" s_law_take ["store","many"] f fd
 d_law_tree_ties:∃ f fd,DefAt K mg "_law_tree_ties" s_law_tree_ties ["store","n","kind"] f fd
 d_law_renumbered:∃ f fd,DefAt K mg "_law_renumbered" s_law_renumbered ["store","n","ties"] f fd
 d_law_tree:∃ f fd,DefAt K mg "_law_tree" s_law_tree ["store"] f fd
 d_law_far_from:∃ f fd,DefAt K mg "_law_far_from" s_law_far_from ["web","a"] f fd
 d_law_same:∃ f fd,DefAt K mg "_law_same" s_law_same ["found","due"] f fd
 d_law_parted:∃ f fd,DefAt K mg "_law_parted" s_law_parted ["web","tie"] f fd
 d_law:∃ f fd,DefAt K mg "law" s_law ["script"] f fd
local macro_rules | `(tactic| row_cond gn) => `(tactic| first | (with_reducible first | refine evg_n0 ?_ | refine axo ?_ | refine axp ?_ | refine axq ?_ | refine axr ?_ | refine axs ?_ | refine axt ?_ | refine axu ?_ | refine axv ?_ | refine evg_n9 ?_ | refine evg_n10 ?_ | refine evg_n11 ?_ | refine evg_n12 ?_ | refine evg_n13 ?_ | refine evg_n14 ?_ | refine evg_n15 ?_ | refine evg_n16 ?_ | refine evg_n17 ?_ | refine evg_n18 ?_ | refine evg_n19 ?_ | refine evg_n20 ?_ | refine evg_n21 ?_ | refine evg_n22 ?_ | refine evg_n23 ?_ | refine evg_n24 ?_ | refine evg_n25 ?_) | ((with_reducible refine aa3 ?_); dsimp only [List.set_cons_zero, List.set_cons_succ]))
local macro_rules | `(tactic| row_cond dc) => `(tactic| first | assumption | row_cond lo | (with_reducible rfl))
local macro_rules | `(tactic| row_cond ar) => `(tactic| first | assumption | (refine ⟨?_, ?_, ?_⟩ <;> decide) | (constructor <;> first | assumption | row_cond lo) | (show (0 : Int) < _; first | assumption | row_cond lo) | (left; constructor <;> first | assumption | row_cond lo) | (right; constructor <;> first | assumption | row_cond lo))
local macro_rules | `(tactic| row_cond hs) => `(tactic| first | exact Or.inl rfl | exact Or.inr rfl)
local macro_rules | `(tactic| row_cond fz) => `(tactic| first | exact adm | exact frz_OD | exact frz_OT | exact frz_OW | exact ahf | assumption)
local macro_rules | `(tactic| row_cond le) => `(tactic| first | exact Nat.le_of_ble_eq_true rfl | assumption | row_cond lo | (simp only [List.length_append, List.length_map, List.length_cons, List.length_nil, List.length_set, List.length_replicate]; row_cond lo))
local macro_rules | `(tactic| row_cond ia) => `(tactic| first | assumption | exact at0 | exact at1 | exact at2 | exact rfl)
local macro_rules | `(tactic| row_cond ty) => `(tactic| first | exact axk | exact au3 | exact ar2 | exact au4 | exact axl | exact ty_dict)
local macro_rules | `(tactic| row_cond sEvS) => `(tactic| first | (with_reducible refine arq (fun c_ hc_ => ?_)) | (with_reducible first | refine aum ?_ | refine axb ?_ | refine arn ?_) | ((with_reducible refine' ar3 ?h0 ?_); (case h0 => exact rfl)) | (with_reducible first | refine amc ?_ | refine aun ?_ | refine aed ?_) | ((with_reducible refine' auo ?h0 ?_); (case h0 => assumption)))
local macro_rules | `(tactic| row_cond sEvG) => `(tactic| first | row_cond gn | ((with_reducible refine' ahc ?h0 ?_); (case h0 => exact rfl)) | ((with_reducible refine' ar1 ?h0 ?_); (case h0 => row_cond hs)) | (with_reducible refine evg_st ?_))
local macro_rules | `(tactic| row_cond sEvGs) => `(tactic| first | (with_reducible first | refine ac0 ?_ | refine afu ?_))
local macro_rules | `(tactic| row_cond sEv) => `(tactic| first | ((with_reducible refine' aw5 ?h0 ?_); (case h0 => exact rfl)) | (with_reducible refine aw6 ?_) | ((with_reducible refine' axh ?h0 ?_); (case h0 => row_cond hs)) | ((with_reducible refine' axi ?h0 ?h1 ?_); (case h0 => exact rfl); (case h1 => assumption)) | (with_reducible refine ayx ?_) | ((with_reducible refine' au2 ?h0 ?h1 ?_); (case h0 => exact rfl); (case h1 => assumption)) | ((with_reducible refine' axj ?h0 ?_); (case h0 => row_cond ty)) | ((with_reducible refine' axg ?h0 ?h1 ?_); (case h0 => row_cond hs); (case h1 => row_cond fz)) | ((with_reducible refine' apz ?h0 ?_); (case h0 => exact rfl)) | ((with_reducible refine' ap0 ?h0 ?_); (case h0 => exact rfl)) | ((with_reducible refine' art ?h0 ?h1 ?_); (case h0 => exact rfl); (case h1 => assumption)) | (with_reducible refine ars ?_) | ((with_reducible refine' aue ?h0 ?h1 ?_); (case h0 => exact rfl); (case h1 => row_cond fz); dsimp only [List.set_cons_zero, List.set_cons_succ]) | (with_reducible first | refine aw8 ?_ | refine aw9 ?_ | refine ayw ?_ | refine aw7 ?_ | refine auj ?_ | refine auk ?_ | refine arm ?_ | refine abz (te:=tCB (aey _) _) ?_ | refine ayy ?_) | ((with_reducible refine' anw ?h0 ?_); (case h0 => row_cond hs)) | ((with_reducible refine' ar0 ?h0 ?_); (case h0 => row_cond hs)) | (with_reducible refine ev_listR ?_) | ((with_reducible refine' ay5 ?h0 ?_); (case h0 => decide)) | (with_reducible first | refine ax0 ?_))
local macro_rules | `(tactic| row_cond sEvO) => `(tactic| first | (with_reducible first | refine akd (r:=rCat) ?_ | refine akd (r:=rRep) ?_ | refine abv (te:=tOp _ _ _) ?_ | refine abv (te:=tVar _) ?_ | refine abv (te:=tC _) ?_ | refine amb ?_) | (with_reducible refine ama ?_) | ((with_reducible refine' agn ?h0 ?_); (case h0 => exact rfl)) | ((with_reducible refine' ago ?h0 ?_); (case h0 => exact rfl)) | ((with_reducible refine' ah4 ?h0 ?h1 ?_); (case h0 => exact rfl); (case h1 => assumption)) | (with_reducible first | refine ah3 ?_ | refine au6 ?_) | ((with_reducible refine' apx ?h0 ?_); (case h0 => decide)) | (with_reducible first | refine amp ?_) | (with_reducible first | refine ap7 ?_ | refine ap6 ?_ | refine agi (r:=akl _) ?_ | refine abv (te:=am8 _ _) ?_ | refine abv (te:=am9 _) ?_ | refine abv (te:=ajk _ _ _ _ _) ?_ | refine abv (te:=af6 _ _ _) ?_ | refine abv (te:=tCB (rLen _) _) ?_ | refine abv (te:=tCB (rIsi _) _) ?_ | refine abv (te:=tCB ai9 _) ?_ | refine abv (te:=tCB aja _) ?_ | refine abv (te:=tCB (ano _) _) ?_ | refine abv (te:=tBM _ _ _ _ _) ?_))
local macro_rules | `(tactic| row_cond sEvT) => `(tactic| first | (with_reducible first | refine ake ?_ | refine ayz ?_ | refine aug ?_ | refine axa ?_ | refine auh ?_ | refine afc ?_) | (with_reducible refine aui ?_))
local macro_rules | `(tactic| row_cond sEvA) => `(tactic| first | (with_reducible first | refine arl ?_ | refine auf ?_))
local macro_rules | `(tactic| row_cond sEvI) => `(tactic| first | (with_reducible first | refine aro ?_ | refine arp ?_ | refine evi_down ?_ | refine akf ?_ | refine au9 ?_) | (with_reducible refine evi_tup ?_))
local macro_rules | `(tactic| row_cond sOp2) => `(tactic| first | (with_reducible first | refine aup ?_ | refine auq ?_) | ((with_reducible refine' axf ?h0 ?_); (case h0 => row_cond ar)) | (with_reducible first | refine aur ?_ | refine aus ?_) | ((with_reducible refine' aux ?h0 ?_); (case h0 => row_cond ia)) | ((with_reducible refine' auy ?h0 ?_); (case h0 => row_cond ia)) | (with_reducible first | refine aut ?_ | refine auv ?_ | refine auz ?_ | refine arv ?_) | ((with_reducible refine' au0 ?h0 ?_); (case h0 => row_cond le)))
local macro_rules | `(tactic| row_cond sOp1) => `(tactic| first | (with_reducible refine op1_Ui ?_))
local macro_rules | `(tactic| row_cond sOpA) => `(tactic| first | (with_reducible first | refine arw ?_ | refine arx ?_ | refine ary ?_ | refine arz ?_ | refine asa ?_))
local macro_rules | `(tactic| row_cond sFQ) => `(tactic| first | (with_reducible first | refine atf ?_ | refine adf ?_))
local macro_rules | `(tactic| row_cond sRngA1) => `(tactic| first | ((with_reducible refine' axd ?h0 ?h1 ?_); (case h0 => row_cond lo); (case h1 => row_cond lo)))
local macro_rules | `(tactic| row_cond sRngA2) => `(tactic| first | ((with_reducible refine' axe ?h0 ?_); (case h0 => row_cond lo)))
local macro_rules | `(tactic| row_cond sRest) => `(tactic| first | (with_reducible first | refine x_bl ?_ | refine x_st ?_ | refine axc ?_) | ((with_reducible refine' ay2 ?h0 ?h1 ?_); (case h0 => row_cond hs); (case h1 => row_cond ia)) | ((with_reducible refine' ay3 ?h0 ?_); (case h0 => row_cond ia)) | ((with_reducible refine' x_sc ?h0 ?_); (case h0 => exact rfl)) | ((with_reducible refine' ay1 ?h0 ?_); (case h0 => row_cond le)) | (with_reducible first | refine abn ?_ | refine aby ?_ | refine al8 ?_) | ((with_reducible refine' ag2 ?h0 ?_); (case h0 => row_cond dc)) | ((with_reducible refine' ag3 ?h0 ?_); (case h0 => row_cond dc)) | ((with_reducible refine' arh ?h0 ?_); (case h0 => row_cond dc)) | ((with_reducible refine' ay4 ?h0 ?_); (case h0 => first | exact rfl | row_cond hs)) | ((with_reducible refine' x_rt ?h0 ?_); (case h0 => exact rfl)) | ((with_reducible refine' axm ?h0 ?h1 ?_); (case h0 => exact rfl); (case h1 => row_cond le); dsimp only [List.set_cons_zero, List.set_cons_succ]) | ((with_reducible refine' agm ?h0 ?h1 ?_); (case h0 => exact rfl); (case h1 => first | exact ixN0 | exact ixN1 | exact ixN2 | assumption); dsimp only [List.set_cons_zero, List.set_cons_succ, reS]) | ((with_reducible refine' axn ?h0 ?h1 ?_); (case h0 => exact rfl); (case h1 => first | exact ixN0 | exact ixN1 | exact ixN2 | assumption); dsimp only [List.set_cons_zero, List.set_cons_succ, reS]) | (with_reducible first | refine ar4 ?_) | (with_reducible first | refine ay6 ?_) | ((with_reducible refine' ava ?h0 ?h1 ?_); (case h0 => row_cond lo); (case h1 => row_cond lo)) | ((with_reducible refine' x_ow ?h0 ?_); (case h0 => exact rfl); dsimp only [List.set_cons_zero, List.set_cons_succ]))
local macro_rules | `(tactic| row_cond st) => `(tactic| first | ((with_reducible refine ay7 ?_); row_cond sEvS) | ((with_reducible refine ay8 ?_); row_cond sEvG) | ((with_reducible refine axz ?_); row_cond sEvGs) | ((with_reducible refine g_Ev ?_); row_cond sEv) | ((with_reducible refine ay9 ?_); row_cond sEvO) | ((with_reducible refine aza ?_); row_cond sEvT) | ((with_reducible refine azb ?_); row_cond sEvA) | ((with_reducible refine azc ?_); row_cond sEvI) | ((with_reducible refine g_EvOp ?_); row_cond sEvOp) | ((with_reducible refine azd ?_); row_cond sOp2) | ((with_reducible refine g_Op1 ?_); row_cond sOp1) | ((with_reducible refine aze ?_); row_cond sOpA) | ((with_reducible refine g_FQ ?_); row_cond sFQ) | ((with_reducible refine avd ?_); row_cond sRngA1) | ((with_reducible refine ave ?_); row_cond sRngA2) | row_cond sRest)
local macro_rules | `(tactic| row_cond go) => `(tactic| repeat row_cond st)
local macro_rules | `(tactic| row_cond hnx) => `(tactic| first | assumption | (apply Ne.symm; assumption) | exact aak (by assumption) (by assumption) | exact (aak (by assumption) (by assumption)).symm)
local macro_rules | `(tactic| row_cond hhp) => `(tactic| first | assumption | exact aag | (rw [aac (by row_cond hnx)]; row_cond hhp) | ((refine' Same.at ?ss ?hh); (case ss => assumption); (case hh => row_cond hhp)))
local macro_rules | `(tactic| row_cond hix) => `(tactic| first | assumption | exact at0 | exact at1 | exact at2)
local macro_rules | `(tactic| row_cond hst) => `(tactic| first | (with_reducible first | refine go_seq ?_ | refine go_asg ?_ | refine al0 ?_ | refine go_op ?_ | refine go_c ?_ | refine go_I0 ?_ | refine go_U ?_ | refine ape ?_ | refine go_test ?_ | refine go_bl ?_ | refine go_ifS ?_ | refine go_and ?_ | refine go_ret ?_ | refine go_drop ?_ | refine go_next ?_ | refine go_cb ?_ | refine go_cons ?_ | refine apd ?_ | refine go_call ?_ | refine al3 ?_ | refine al4 ?_ | refine go_intB ?_ | refine go_gsub ?_ | refine go_lstW ?_ | refine go_bmL ?_ | refine go_for ?_ | refine go_lc ?_ | refine go_irng1 ?_ | refine apf ?_ | refine abn ?_ | refine aby ?_) | ((with_reducible refine' go_var ?hv ?_); (case hv => exact rfl)) | ((with_reducible refine' aec ?ha ?hv ?_); (case ha => row_cond hhp); (case hv => row_cond hix)) | ((with_reducible refine go_I ?hc ?_); (case hc => row_cond ar)) | ((with_reducible refine' al2 ?ha ?_); (case ha => row_cond hhp)) | ((with_reducible refine' al1 ?ha ?hj ?_); (case ha => row_cond hhp); (case hj => first | exact ixN0 | exact ixN1 | exact ixN2)) | ((with_reducible refine' go_tyL ?ha ?_); (case ha => row_cond hhp)) | ((with_reducible refine' acz ?ha ?hl ?_); (case ha => row_cond hhp); (case hl => exact aeq (by simp; row_cond lo))) | ((with_reducible refine' ag2 ?hc ?_); (case hc => row_cond dc)) | ((with_reducible refine' ag3 ?hc ?_); (case hc => row_cond dc)) | dsimp only [List.set_cons_zero, List.set_cons_succ])
local macro_rules | `(tactic| row_cond hgo) => `(tactic| repeat row_cond hst)
noncomputable def isInt:PyData->Bool
 | .int _=>true
 | _=>false
noncomputable def btwD (a b:Int):PyData->Bool
 | .int i=>decide (a<=i/\i<=b)
 | _=>false
def avy:VP:=fun ss Q=>∃ d,ss=[.st d]/\Q (.st (.bool (isInt d)))
def aql:VP:=fun ss Q=>∃ (a b:Int) (d:PyData),ss=[.st (.int a),.st (.int b),.st d]/\Q (.st (.bool (btwD a b d)))
def avz:VP:=fun ss Q=>∃ (n:Int) (d:PyData),ss=[.st (.int n),.st d]/\Q (.st (.bool (btwD 0 (n - 1) d)))
section
variable {P:Program} {w:World} {K:PySem.W.Frag} {mg:Str->Option Value} {base:Heap}
theorem sc_is_whole:FnScope ["thing"] ["thing"] (aaf s_is_whole):=⟨rfl,rfl,rfl,by decide +kernel,rfl,by decide +kernel,by decide +kernel⟩
theorem ak1 (T:Txt K mg):Can P w K mg base "is_whole" 1 ["thing"] (spP K (avy)):=by
 obtain ⟨f,fd,D⟩:=T.d_is_whole
 refine D.can (D.fn.ok sc_is_whole (fun vs H Q E h=>lenP h fun ss Q' q=>by obtain ⟨d,rfl,k⟩:=q;rfl) (fun cdv A outer s H vs Q E hr h=>?_))
 have nd:=sc_is_whole.nd
 refine ⟨_,(aah (aav (ady (aal abo (by rfl) T.b_isinstance aax (aaa (pv 0) (aaa (abi (v:=.ty "int") rfl T.b_int apg rfl) aab))) (aen (aov (aal abo (by rfl) T.b_isinstance aax (aaa (pv 0) (aaa (abi (v:=.ty "bool") rfl T.b_bool al5 rfl) aab)))))))),?_⟩
 refine abb h fun ss Q' q B hK=>?_
 refine exS1 ss q fun d q1_=>?_
 have k:=q1_
 clear q1_ q
 show EvS B _ _ [some (.st d)]
 row_cond go
 cases d with
 | int i => refine abn ?_; row_cond go; exact k
 | bool b => refine abn ?_; row_cond go; exact k
 | _=>refine aby ?_;exact k
theorem sc_is_between:FnScope ["least","most","thing"] ["least","most","thing"] (aaf s_is_between):=⟨rfl,rfl,rfl,by decide +kernel,rfl,by decide +kernel,by decide +kernel⟩
theorem ahl (T:Txt K mg):Can P w K mg base "is_between" 2 ["least","most","thing"] (spP K (aql)):=by
 obtain ⟨f,fd,D⟩:=T.d_is_between
 refine D.can (D.fn.ok sc_is_between (fun vs H Q E h=>lenP h fun ss Q' q=>by obtain ⟨a,b,d,rfl,k⟩:=q;rfl) (fun cdv A outer s H vs Q E hr h=>?_))
 have nd:=sc_is_between.nd
 refine ⟨_,(aah (aav (ady (aaj (ak1 T) hr (aaa (pv 2) aab)) (aen (aqw as7 as7 (pv 0) (pv 2) (pv 1)))))),?_⟩
 refine abb h fun ss Q' q B hK=>?_
 refine exS3 ss q fun a b d q1_=>?_
 have k:=q1_
 clear q1_ q
 show EvS B _ _ [some (.st (.int a)),some (.st (.int b)),some (.st d)]
 row_cond go
 refine ⟨d,rfl,?_⟩
 row_cond go
 cases d with
 | int i =>
  refine abn ?_
  row_cond go
  refine ab8 (fun h1=>?_) (fun h1=>?_)
  ·row_cond go
   have e:decide (i<=b)=btwD a b (.int i):=by
    show _=decide (a<=i/\i<=b)
    rw [Bool.eq_iff_iff];simp [h1]
   rw [e];exact k
  ·have e:false=btwD a b (.int i):=by
    show _=decide (a<=i/\i<=b)
    exact (decide_eq_false (fun z=>h1 z.1)).symm
   rw [e];exact k
 | _=>exact aby k
theorem sc_is_place:FnScope ["n","thing"] ["n","thing"] (aaf s_is_place):=⟨rfl,rfl,rfl,by decide +kernel,rfl,by decide +kernel,by decide +kernel⟩
theorem ak2 (T:Txt K mg):Can P w K mg base "is_place" 3 ["n","thing"] (spP K (avz)):=by
 obtain ⟨f,fd,D⟩:=T.d_is_place
 refine D.can (D.fn.ok sc_is_place (fun vs H Q E h=>lenP h fun ss Q' q=>by obtain ⟨n,d,rfl,k⟩:=q;rfl) (fun cdv A outer s H vs Q E hr h=>?_))
 have nd:=sc_is_place.nd
 refine ⟨_,(aah (aav (aaj (ahl T) hr (aaa aae (aaa (aau aeo (pv 0) aae) (aaa (pv 1) aab)))))),?_⟩
 refine abb h fun ss Q' q B hK=>?_
 refine exS2 ss q fun n d q1_=>?_
 have k:=q1_
 clear q1_ q
 show EvS B _ _ [some (.st (.int n)),some (.st d)]
 row_cond go
 exact ⟨_,_,_,rfl,k⟩
def aye:VP:=fun ss Q=>∃ (n:Int) (es:List (Int × Int)),ss=[.st (webD n es)]/\0<=n/\n<=100/\InN n es/\es.length<=10000/\∀ tl,TiedL n (Tied es) tl->Q (.own (OLL (tlD tl)))
theorem sc_tied_places:FnScope ["web","n","ties","tied","a","b"] ["web"] (aaf s_tied_places):=⟨rfl,rfl,rfl,by decide +kernel,rfl,by decide +kernel,by decide +kernel⟩
theorem adu (T:Txt K mg):Can P w K mg base "tied_places" 1 ["web"] (spP K (aye)):=by
 obtain ⟨f,fd,D⟩:=T.d_tied_places
 refine D.can (D.fn.ok sc_tied_places (fun vs H Q E h=>lenP h fun ss Q' q=>by obtain ⟨n,es,rfl,n0,n1,hin,hle,k⟩:=q;rfl) (fun cdv A outer s H vs Q E hr h=>?_))
 have nd:=sc_tied_places.nd
 refine ⟨_,(aad (acf (pv 0) (acx rfl (aa2 (aam (i:=1) nd rfl (Or.inl rfl)) (aa2 (aam (i:=2) nd rfl (Or.inl rfl)) acb))))
  (aad (ajs (i:=3) nd rfl (Or.inl rfl) rfl (N:=["place"]) (src:=[none]) (by exact ab0 rfl rfl rfl rfl rfl rfl) (acd rfl T.b_range (aaa (pv 1) aab)) (fun _ _ _ _=>(aam (i:=0) (show List.Nodup (["place"]:List Str) by decide +kernel) rfl (Or.inl rfl) (hf:=Or.inr rfl))) (fun _ _ _ _=>aco) (fun _ _ _ _=>(abc aab)))
  (aad (acg PassesOwn.never rfl (abt (pv 2)) (acx rfl (aa2 (aam (i:=4) nd rfl (Or.inl rfl)) (aa2 (aam (i:=5) nd rfl (Or.inl rfl)) acb)))
   (aad (abr (adc PySem.F.plainAttrs_list PySem.F.slot_list_append PySem.F.type_list_append abe (aas aat (pv 3) (pv 4) (fun _ _=>rfl)) (aaa (pv 5) aab)))
    (aah (abr (adc PySem.F.plainAttrs_list PySem.F.slot_list_append PySem.F.type_list_append abe (aas aat (pv 3) (pv 5) (fun _ _=>rfl)) (aaa (pv 4) aab))))))
  (aah (aav (pv 3)))))),?_⟩
 refine abb h fun ss Q' q B hK=>?_
 refine exS2 ss q fun n es q1_=>?_
 have n0:=q1_.1
 have n1:=q1_.2.1
 have hin:=q1_.2.2.1
 have hle:=q1_.2.2.2.1
 have k:=q1_.2.2.2.2
 clear q1_ q
 show EvS B _ _ [some (.st (webD n es)),none,none,none,none,none]
 row_cond go
 rw [abq]
 refine ⟨by row_cond lo,?_⟩
 row_cond go
 refine acp (fun i e=>∃ v4 v5 tl,e=[some (.st (webD n es)),some (.st (.int n)),some (.st (.list (es.map prD))),some (.own (OLL (tlD tl))),v4,v5]/\TiedL n (Tied (es.take i)) tl/\∀ ws∈tl,ws.length<=2 * i)
  ⟨none,none,List.replicate n.toNat [],by simp [tlD],⟨by simp;row_cond lo,fun i ws hi w=>?_⟩,fun ws hw=>?_⟩ ?_ ?_
 ·rw [List.getElem?_replicate] at hi
  split at hi
  ·cases hi;simp [Tied]
  ·cases hi
 ·have:=List.eq_of_mem_replicate hw
  subst this;simp
 ·rintro i ⟨a,b⟩ e hx q0_
  refine exS3 e q0_ fun v4 v5 tl q1_=>?_
  have ht:=q1_.1
  have hlen:=q1_.2
  clear q1_ q0_
  have hi:i < es.length:=(List.getElem?_eq_some_iff.mp hx).1
  obtain ⟨a0,a1,b0,b1⟩:=hin _ (List.mem_of_getElem? hx)
  dsimp only at a0 a1 b0 b1
  row_cond go
  obtain ⟨ws,hws,_⟩:=ht.get a0 a1
  have l1:=hlen ws (List.mem_of_getElem? hws)
  refine agp (n:=a.toNat) (ds:=ws.map .int) rfl rfl rfl (by rw [List.length_map];exact ad4 a0 (by rw [ht.1];exact a1)) (ahg hws) (by rw [List.length_map];row_cond lo) ?_
  dsimp only [List.set_cons_zero,List.set_cons_succ]
  have t2:=ht.put (q:=b) a0 a1 hws
  rw [show ws.map PyData.int ++ [.int b]=(ws ++ [b]).map .int by simp,amk]
  have hlen2:∀ us∈tl.set a.toNat (ws ++ [b]),us.length<=2 * i+1:=fun us hu=>by
   rcases List.mem_or_eq_of_mem_set hu with h | h
   ·have:=hlen us h;row_cond lo
   ·subst h;simp;row_cond lo
  generalize tl.set a.toNat (ws ++ [b])=tl2 at t2 hlen2
  row_cond go
  obtain ⟨ws,hws,_⟩:=t2.get b0 b1
  have l1:=hlen2 ws (List.mem_of_getElem? hws)
  refine agp (n:=b.toNat) (ds:=ws.map .int) rfl rfl rfl (by rw [List.length_map];exact ad4 b0 (by rw [t2.1];exact b1)) (ahg hws) (by rw [List.length_map];row_cond lo) ?_
  dsimp only [List.set_cons_zero,List.set_cons_succ]
  rw [show ws.map PyData.int ++ [.int a]=(ws ++ [a]).map .int by simp,amk]
  refine ⟨_,_,_,rfl,(t2.put (q:=a) b0 b1 hws).iff fun u v=>(Tied.snoc hx u v).symm,fun us hu=>?_⟩
  rcases List.mem_or_eq_of_mem_set hu with h | h
  ·have:=hlen2 us h;row_cond lo
  ·subst h;simp;row_cond lo
 ·rintro e q0_
  refine exS3 e q0_ fun v4 v5 tl q1_=>?_
  have ht:=q1_.1
  have hlen:=q1_.2
  clear q1_ q0_
  rw [List.take_length] at ht
  row_cond go
  exact k tl ht
end
@[reducible] noncomputable def tlV (tl:List (List Int)):PyData:=.list ((tlD tl).map .list)
def azi:VP:=fun ss Q=>∃ (n a:Int) (T:Int->Int->Prop) (tl:List (List Int)),ss=[.st (tlV tl),.st (.int a)]/\n<=100/\TiedL n T tl/\(∀ u v,T u v->0<=v/\v < n)/\0<=a/\a < n/\Q (.own (OL (lab n.toNat (Gr.farO T a))))
section
variable {P:Program} {w:World} {K:PySem.W.Frag} {mg:Str->Option Value} {base:Heap}
theorem sc_far_from:FnScope ["tied","start","far","edge","beyond","place","other"] ["tied","start"] (aaf s_far_from):=⟨rfl,rfl,rfl,by decide +kernel,rfl,by decide +kernel,by decide +kernel⟩
theorem ae5 (T:Txt K mg):Can P w K mg base "far_from" 1 ["tied","start"] (spP K (azi)):=by
 obtain ⟨f,fd,D⟩:=T.d_far_from
 refine D.can (D.fn.ok sc_far_from (fun vs H Q E h=>lenP h fun ss Q' q=>by obtain ⟨n,a,T,tl,rfl,n1,ht,hT,a0,a1,k⟩:=q;rfl) (fun cdv A outer s H vs Q E hr h=>?_))
 have nd:=sc_far_from.nd
 refine ⟨_,(aad (aan (i:=2) nd rfl (Or.inl rfl) (aau ao5 (abc (aaa ab7 aab)) (aal abf (by rfl) T.b_len ab9 (aaa (pv 0) aab))))
  (aad (acf aae (adz (pv 2) (pv 1) acm))
  (aad (aan (i:=3) nd rfl (Or.inl rfl) (abc (aaa (pv 1) aab)))
  (aad (ajh PassesOwn.never (aw4 (pv 3))
   (aad (aan (i:=4) nd rfl (Or.inl rfl) (abc aab))
    (aad (acg PassesOwn.never rfl (abt (pv 3)) (aam (i:=5) nd rfl (Or.inl rfl))
     (aah (acg PassesOwn.never rfl (abt (aas aat (pv 0) (pv 5) (fun _ _=>rfl))) (aam (i:=6) nd rfl (Or.inl rfl))
       (aah (abk (aa1 afa (aas aat (pv 2) (pv 6) (fun _ _=>rfl)) ab7 (aaw _))
         (aad (acf (aau ab3 (aas aat (pv 2) (pv 5) (fun _ _=>rfl)) aae) (adz (pv 2) (pv 6) acm))
          (aah (abr (adc PySem.F.plainAttrs_list PySem.F.slot_list_append PySem.F.type_list_append abe (pv 4) (aaa (pv 6) aab)))))
         aa7)))))
    (aah (aan (i:=3) nd rfl (Or.inl rfl) (pv 4))))))
  (aah (aav (pv 2))))))),?_⟩
 refine abb h fun ss Q' q B hK=>?_
 refine exS4 ss q fun n a T tl q1_=>?_
 have n1:=q1_.1
 have ht:=q1_.2.1
 have hT:=q1_.2.2.1
 have a0:=q1_.2.2.2.1
 have a1:=q1_.2.2.2.2.1
 have k:=q1_.2.2.2.2.2
 clear q1_ q
 show EvS B _ _ [some (.st (tlV tl)),some (.st (.int a)),none,none,none,none,none]
 have hl:tl.length=n.toNat:=by have:=ht.1;row_cond lo
 row_cond go
 refine amh (by first | row_cond lo | (simp;done) | (simp;row_cond lo)) (by first | row_cond lo | (simp;done) | (simp;row_cond lo)) (by first | row_cond lo | (simp;done) | (simp;row_cond lo)) ?_
 simp only [List.length_map,hl]
 rw [show ((n.toNat:Nat):Int).toNat=n.toNat by row_cond lo,aml]
 row_cond go
 refine agm (j:=a.toNat) rfl (by rw [abd];exact ad4 a0 (by row_cond lo)) ?_
 dsimp only [List.set_cons_zero,List.set_cons_succ,reS]
 rw [show (PyData.int 0)=.int ((0:Nat):Int) from rfl,aff a0 (by row_cond lo)]
 row_cond go
 refine ami 3 rfl adm ?_
 dsimp only [List.set_cons_zero,List.set_cons_succ]
 refine ah2 (fun m e=>∃ v4 v5 v6 far edge kk,e=[some (.st (tlV tl)),some (.st (.int a)),some (.own (OL (lab n.toNat far))),some (.st (.list (edge.map .int))),v4,v5,v6]/\Gr.Ring T a kk far edge/\(∀ v∈edge,0<=v/\v < n)/\m=2 * cnt far n.toNat+(if edge=[] then 0 else 1))
  ⟨_,none,none,none,_,[a],0,rfl,Gr.Ring.start,fun v hv=>by simp at hv;subst hv;exact ⟨a0,a1⟩,rfl⟩ ?_
 rintro m e q0_
 refine exS6 e q0_ fun v4 v5 v6 far edge kk q1_=>?_
 have hR:=q1_.1
 have hb:=q1_.2.1
 have e2_:=q1_.2.2
 clear q1_ q0_
 subst e2_
 row_cond go
 rw [ali]
 cases hedge:edge with
 | nil =>
  subst hedge
  refine aby ?_
  row_cond go
  rw [ah7 (g:=Gr.farO T a) fun v _ _=>hR.fin v]
  exact k
 | cons e0 er =>
  refine abn ?_
  rw [← hedge]
  have hne:edge ≠ []:=by rw [hedge];simp
  row_cond go
  refine acp (fun i e=>∃ v5 v6 far' beyond,e=[some (.st (tlV tl)),some (.st (.int a)),some (.own (OL (lab n.toNat far'))),some (.st (.list (edge.map .int))),some (.own (OL (beyond.map .int))),v5,v6]/\Gr.Mid T kk far edge (fun u=>u∈edge.take i) far' beyond/\cnt far' n.toNat+beyond.length=cnt far n.toNat/\∀ v∈beyond,0<=v/\v < n)
   ⟨v5,v6,far,[],rfl,Gr.Mid.start.imp fun u hu=>by simp at hu,rfl,fun v hv=>by simp at hv⟩ ?_ ?_
  ·rintro i p e hp q0_
   refine exS4 e q0_ fun v5 v6 far' beyond q1_=>?_
   have hM:=q1_.1
   have hc:=q1_.2.1
   have hbd:=q1_.2.2
   clear q1_ q0_
   have hpe:=List.mem_of_getElem? hp
   obtain ⟨p0,p1⟩:=hb p hpe
   obtain ⟨ws,hws,hw⟩:=ht.get p0 p1
   have hat:atI ((tlD tl).map PyData.list) p=some (.list (ws.map .int)):=agr (f:=PyData.list) (ajf p0 (ahg hws))
   row_cond go
   have hfp:far p=some kk:=(hR.lab p kk).mpr ⟨(hR.edg p).mp hpe,Nat.le_refl _⟩
   refine acp (fun j e=>∃ v6 far' beyond,e=[some (.st (tlV tl)),some (.st (.int a)),some (.own (OL (lab n.toNat far'))),some (.st (.list (edge.map .int))),some (.own (OL (beyond.map .int))),some (.st (.int p)),v6]/\Gr.Mid T kk far edge (fun u=>u∈edge.take i) far' beyond/\cnt far' n.toNat+beyond.length=cnt far n.toNat/\(∀ v∈beyond,0<=v/\v < n)/\∀ x∈ws.take j,far' x ≠ none)
    ⟨v6,far',beyond,rfl,hM,hc,hbd,fun x hx=>by simp at hx⟩ ?_ ?_
   ·rintro j u e hu q0_
    refine exS3 e q0_ fun v6 far' beyond q1_=>?_
    have hM:=q1_.1
    have hc:=q1_.2.1
    have hbd:=q1_.2.2.1
    have hdn:=q1_.2.2.2
    clear q1_ q0_
    have tu:T p u:=(hw u).mp (List.mem_of_getElem? hu)
    obtain ⟨u0,u1⟩:=hT _ _ tu
    have hau:atI (lab n.toNat far') u=some (oD (far' u)):=agq u0 (by row_cond lo)
    have hap:atI (lab n.toNat far') p=some (.int (kk:Int)):=by
     rw [agq p0 (by row_cond lo),hM.old p kk hfp];rfl
    row_cond go
    rw [amj]
    cases hf:far' u with
    | none =>
     refine abn ?_
     row_cond go
     refine agm (j:=u.toNat) rfl (by rw [abd];exact ad4 u0 (by row_cond lo)) ?_
     dsimp only [List.set_cons_zero,List.set_cons_succ,reS]
     rw [show (PyData.int ((kk:Int)+1))=.int ((kk+1:Nat):Int) by simp,aff u0 (by row_cond lo)]
     have hcc:=ah8 (d:=kk+1) u0 hf (n:=n.toNat) (by row_cond lo)
     have hblen:beyond.length<=cnt far n.toNat:=by row_cond lo
     have hcn:∀ m,cnt far m<=m:=fun m=>by
      induction m with
      | zero=>exact Nat.le_refl _
      | succ m ih => unfold cnt; split <;> row_cond lo
     have:=hcn n.toNat
     row_cond go
     refine ⟨some (.st (.int u)),Gr.label far' u (kk+1),beyond ++ [u],by simp,hM.add hpe tu hf,by simp;row_cond lo,fun v hv=>?_,fun x hx=>?_⟩
     ·rcases List.mem_append.mp hv with h | h
      ·exact hbd v h
      ·have:v=u:=by simpa using h
       subst this;exact ⟨u0,u1⟩
     ·by_cases hx2:x=u
      ·subst hx2;rw [Gr.label_same];simp
      ·rw [Gr.label_ne hx2]
       rcases ac9 hu hx with h | h
       ·exact hdn x h
       ·exact absurd h hx2
    | some d =>
     refine aby ?_
     row_cond go
     refine ⟨_,far',beyond,rfl,hM,hc,hbd,fun x hx=>?_⟩
     rcases ac9 hu hx with h | h
     ·exact hdn x h
     ·subst h;rw [hf];simp
   ·rintro e q0_
    refine exS3 e q0_ fun v6 far' beyond q1_=>?_
    have hM:=q1_.1
    have hc:=q1_.2.1
    have hbd:=q1_.2.2.1
    have hdn:=q1_.2.2.2
    clear q1_ q0_
    rw [List.take_length] at hdn
    refine ⟨_,_,far',beyond,rfl,?_,hc,hbd⟩
    refine (hM.did (u:=p) fun x tx=>hdn x ((hw x).mpr tx)).imp fun x hx=>?_
    exact ac9 hp hx
  ·rintro e q0_
   refine exS4 e q0_ fun v5 v6 far' beyond q1_=>?_
   have hM:=q1_.1
   have hc:=q1_.2.1
   have hbd:=q1_.2.2
   clear q1_ q0_
   row_cond go
   refine ⟨_,?_,_,_,_,far',beyond,kk+1,rfl,hR.next hM fun u hu=>by rw [List.take_length];exact hu,hbd,rfl⟩
   rw [if_neg hne]
   cases beyond with
   | nil => rw [if_pos rfl]; simp at hc; row_cond lo
   | cons b0 br => rw [if_neg (by simp)]; simp at hc; row_cond lo
end
def alp:VP:=fun ss Q=>∃ (n a:Int) (es:List (Int × Int)),ss=[.st (webD n es),.st (.int a)]/\0<=a/\a < n/\Q (.st .none)
def ak3:VP:=fun ss Q=>∃ (n a:Int) (es:List (Int × Int)),ss=[.st (webD n es),.st (.int a)]/\n<=100/\InN n es/\es.length<=10000/\0<=a/\a < n/\Q (.own (OL (lab n.toNat (Gr.farO (Tied es) a))))
def aso:VP:=fun ss Q=>∃ (n:Int) (es:List (Int × Int)),ss=[.st (webD n es)]/\1<=n/\n<=100/\InN n es/\es.length<=10000/\∀ b:Bool,(b=true ↔ Joined n es)->Q (.st (.bool b))
section
variable {P:Program} {w:World} {K:PySem.W.Frag} {mg:Str->Option Value} {base:Heap}
theorem sc_need_place:FnScope ["web","thing"] ["web","thing"] (aaf s_need_place):=⟨rfl,rfl,rfl,by decide +kernel,rfl,by decide +kernel,by decide +kernel⟩
theorem ahm (T:Txt K mg):Can P w K mg base "need_place" 4 ["web","thing"] (spP K (alp)):=by
 obtain ⟨f,fd,D⟩:=T.d_need_place
 refine D.can (D.fn.ok sc_need_place (fun vs H Q E h=>lenP h fun ss Q' q=>by obtain ⟨n,a,es,rfl,a0,a1,k⟩:=q;rfl) (fun cdv A outer s H vs Q E hr h=>?_))
 have nd:=sc_need_place.nd
 refine ⟨_,(aah (abk (aem (adi (aaj (ak2 T) hr (aaa (aas aat (pv 0) aae (fun _ _=>rfl)) (aaa (pv 1) aab)))))
   (aah afo)
   aa7)),?_⟩
 refine abb h fun ss Q' q B hK=>?_
 refine exS3 ss q fun n a es q1_=>?_
 have a0:=q1_.1
 have a1:=q1_.2.1
 have k:=q1_.2.2
 clear q1_ q
 show EvS B _ _ [some (.st (webD n es)),some (.st (.int a))]
 row_cond go
 refine ⟨_,_,rfl,?_⟩
 row_cond go
 have e:btwD 0 (n - 1) (.int a)=true:=decide_eq_true ⟨a0,by row_cond lo⟩
 rw [e]
 row_cond go
 exact k
theorem sc_all_far:FnScope ["web","a"] ["web","a"] (aaf s_all_far):=⟨rfl,rfl,rfl,by decide +kernel,rfl,by decide +kernel,by decide +kernel⟩
theorem alq (T:Txt K mg):Can P w K mg base "all_far" 5 ["web","a"] (spP K (ak3)):=by
 obtain ⟨f,fd,D⟩:=T.d_all_far
 refine D.can (D.fn.ok sc_all_far (fun vs H Q E h=>lenP h fun ss Q' q=>by obtain ⟨n,a,es,rfl,n1,hin,hle,a0,a1,k⟩:=q;rfl) (fun cdv A outer s H vs Q E hr h=>?_))
 have nd:=sc_all_far.nd
 refine ⟨_,(aad (abr (aaj (ahm T) hr (aaa (pv 0) (aaa (pv 1) aab))))
  (aah (aav (aaj (ae5 T) hr (aaa (aaj (adu T) hr (aaa (pv 0) aab)) (aaa (pv 1) aab)))))),?_⟩
 refine abb h fun ss Q' q B hK=>?_
 refine exS3 ss q fun n a es q1_=>?_
 have n1:=q1_.1
 have hin:=q1_.2.1
 have hle:=q1_.2.2.1
 have a0:=q1_.2.2.2.1
 have a1:=q1_.2.2.2.2.1
 have k:=q1_.2.2.2.2.2
 clear q1_ q
 show EvS B _ _ [some (.st (webD n es)),some (.st (.int a))]
 row_cond go
 refine ⟨n,a,es,rfl,a0,a1,?_⟩
 row_cond go
 refine ⟨n,es,rfl,by row_cond lo,n1,hin,hle,fun tl ht=>?_⟩
 refine axw ?_
 row_cond go
 exact ⟨n,a,Tied es,tl,rfl,n1,ht,fun u v h=>(h.in hin).2,a0,a1,k⟩
theorem sc_is_joined:FnScope ["web"] ["web"] (aaf s_is_joined):=⟨rfl,rfl,rfl,by decide +kernel,rfl,by decide +kernel,by decide +kernel⟩
theorem ael (T:Txt K mg):Can P w K mg base "is_joined" 6 ["web"] (spP K (aso)):=by
 obtain ⟨f,fd,D⟩:=T.d_is_joined
 refine D.can (D.fn.ok sc_is_joined (fun vs H Q E h=>lenP h fun ss Q' q=>by obtain ⟨n,es,rfl,n0,n1,hin,hle,k⟩:=q;rfl) (fun cdv A outer s H vs Q E hr h=>?_))
 have nd:=sc_is_joined.nd
 refine ⟨_,(aah (aav (acl (apk hr.units) ab7 (aaj (alq T) hr (aaa (pv 0) (aaa aae aab))) rfl))),?_⟩
 refine abb h fun ss Q' q B hK=>?_
 refine exS2 ss q fun n es q1_=>?_
 have n0:=q1_.1
 have n1:=q1_.2.1
 have hin:=q1_.2.2.1
 have hle:=q1_.2.2.2.1
 have k:=q1_.2.2.2.2
 clear q1_ q
 show EvS B _ _ [some (.st (webD n es))]
 row_cond go
 refine ⟨n,0,es,rfl,n1,hin,hle,by row_cond lo,by row_cond lo,?_⟩
 row_cond go
 refine auw rfl ap1 (by simp [PyData.depth]) ?_
 row_cond go
 refine k _ ?_
 rw [if_pos rfl,Bool.not_eq_true',← Bool.not_eq_true,au7]
 constructor
 ·intro h v v0 v1
  cases e:Gr.farO (Tied es) 0 v with
  | some d=>exact ⟨d,Gr.farO_some.mp e⟩
  | none => exact absurd ⟨v, v0, by row_cond lo, e⟩ h
 ·rintro h ⟨v,v0,v1,e⟩
  obtain ⟨d,hd⟩:=h v v0 (by row_cond lo)
  exact Gr.farO_none.mp e d hd
end
noncomputable def dsF (es:List (Int × Int)) (u v:Int):Int:=(((Gr.farO (Tied es) u v).getD 0:Nat):Int)
noncomputable def rowD (n:Nat) (r:Int->Int):List PyData:=(List.range n).map fun (i:Nat) => .int (r (i:Int))
noncomputable def matD (n:Nat) (m:Int->Int->Int):List PyData:=(List.range n).map fun (u:Nat) => .list (rowD n (m (u:Int)))
theorem aqm {n:Nat} {r:Int->Int} {x:Int} (h0:0<=x) (h1:x < n):atI (rowD n r) x=some (.int (r x)):=by
 have:=adg (xs:=rowD n r) (j:=x.toNat) (v:=.int (r x)) (by
  unfold rowD
  rw [List.getElem?_map,List.getElem?_eq_getElem (by simp;row_cond lo)]
  simp [Int.max_eq_left h0])
 rwa [show ((x.toNat:Nat):Int)=x by row_cond lo] at this
theorem agx {n:Int} {es:List (Int × Int)} (hJ:Joined n es) {u v:Int} (u0:0<=u) (u1:u < n) (v0:0<=v) (v1:v < n):∃ d,Gr.farO (Tied es) u v=some d:=by
 cases e:Gr.farO (Tied es) u v with
 | some d=>exact ⟨d,rfl⟩
 | none =>
  obtain ⟨k,hw⟩:=hJ.conn u v u0 u1 v0 v1
  obtain ⟨d,_,hd⟩:=Gr.Dist.of_walk hw
  exact absurd hd (Gr.farO_none.mp e d)
theorem av0 {n:Int} {es:List (Int × Int)} (hJ:Joined n es) {u:Int} (u0:0<=u) (u1:u < n):lab n.toNat (Gr.farO (Tied es) u)=rowD n.toNat (dsF es u):=by
 unfold lab rowD
 refine List.map_congr_left fun i hi=>?_
 obtain ⟨d,e⟩:=agx hJ u0 u1 (show 0<=(i:Int) by row_cond lo) (by have:=List.mem_range.mp hi;row_cond lo)
 simp only [dsF,e,oD,Option.getD_some]
theorem aej {α:Type} {K:PySem.W.Frag} {src:List (Option Nat)} {e1:En} {te:TE} {R:List PyData->En->Prop} {xs:List α} {f : α->PyData} (g : α->PyData) (hno:noIo (aao src e1)=true) (hl:xs.length<=999999)
  (h:∀ x∈xs,∀ B':Bs,B'.K=K->Ev B' te (some (.st (f x)) :: aao src e1) fun y e4=>y=g x/\e4=some (.st (f x)) :: aao src e1)
  (hR:R (xs.map g) e1):LcV K (none :: src) (aa5 0) tYes te (xs.map f) e1 R:=by
 have hno':noIo (aao (none :: src) e1)=true:=by
  show ((none :: aao src e1).all fun s => !isIo s)=true
  rw [List.all_cons]
  exact (Bool.and_eq_true _ _).mpr ⟨rfl,hno⟩
 refine ⟨fun i ys e=>ys=(xs.take i).map g/\∃ o,e=stO o :: aao src e1,⟨by simp,none,rfl⟩,?_,?_,?_⟩
 ·rintro i ys e ⟨_,o,rfl⟩
  exact ⟨⟨isIo_stO.symm,ae0⟩,ae1 afm⟩
 ·rintro i d ys e hd ⟨rfl,o,rfl⟩ B' hB
  rw [List.getElem?_map] at hd
  cases hx:xs[i]? with
  | none=>rw [hx] at hd;cases hd
  | some x =>
   rw [hx] at hd
   cases hd
   have hi:i < xs.length:=(List.getElem?_eq_some_iff.mp hx).1
   have et:xs.take (i+1)=xs.take i ++ [x]:=by rw [List.take_add_one,hx];rfl
   refine aa3 (afc ?_)
   rw [if_pos rfl]
   intro σ G H F Q I k
   refine h x (List.mem_of_getElem? hx) B' hB σ G H F Q I fun v G' H' F' d' e4 I' g' r' ⟨hy,he4⟩=>k v G' H' F' d' e4 I' g' r' ?_
   subst hy he4
   refine ⟨by simp;row_cond lo,by rw [et];simp,some _,rfl⟩
 ·rintro ys e ⟨rfl,o,rfl⟩
  rw [amf hno']
  simpa using hR
theorem am4:∀ {ns:List Int},ns ≠ []->∃ x,agd ns x
 | [a],_=>⟨a,by simp [agd]⟩
 | a :: b :: r,_=>by
  obtain ⟨x,hx,hm⟩:=am4 (ns:=b :: r) (by simp)
  by_cases h:a<=x
  ·exact ⟨x,List.mem_cons_of_mem _ hx,fun y hy=>by
    rcases List.mem_cons.mp hy with rfl | hy
    ·exact h
    ·exact hm y hy⟩
  ·exact ⟨a,List.mem_cons_self,fun y hy=>by
    rcases List.mem_cons.mp hy with rfl | hy
    ·exact Int.le_refl _
    ·have:=hm y hy;row_cond lo⟩
def ak4:VP:=fun ss Q=>∃ (n:Int) (es:List (Int × Int)),ss=[.st (webD n es)]/\1<=n/\n<=100/\InN n es/\es.length<=10000/\Joined n es/\Q (.st .none)
def aqn:VP:=fun ss Q=>∃ (n:Int) (es:List (Int × Int)),ss=[.st (webD n es)]/\1<=n/\n<=100/\InN n es/\es.length<=10000/\Joined n es/\Q (.own (OL (matD n.toNat (dsF es))))
structure FreeAll (n:Int) (es fs:List (Int × Int)):Prop where
 mem:∀ p:Int × Int,p∈fs ↔ (0<=p.1/\p.1 < p.2/\p.2 < n/\p ∉ es)
 rise:Rise fs
theorem FreeAll.len {n:Int} {es fs:List (Int × Int)} (h:FreeAll n es fs) (h1:n<=100):fs.length<=10000:=PsOk.len ⟨h.rise.nodup,fun p hp=>by have:=(h.mem p).mp hp;row_cond lo⟩ h1
section
variable {P:Program} {w:World} {K:PySem.W.Frag} {mg:Str->Option Value} {base:Heap}
theorem sc_need_joined:FnScope ["web"] ["web"] (aaf s_need_joined):=⟨rfl,rfl,rfl,by decide +kernel,rfl,by decide +kernel,by decide +kernel⟩
theorem agy (T:Txt K mg):Can P w K mg base "need_joined" 7 ["web"] (spP K (ak4)):=by
 obtain ⟨f,fd,D⟩:=T.d_need_joined
 refine D.can (D.fn.ok sc_need_joined (fun vs H Q E h=>lenP h fun ss Q' q=>by obtain ⟨n,es,rfl,n0,n1,hin,hle,hJ,k⟩:=q;rfl) (fun cdv A outer s H vs Q E hr h=>?_))
 have nd:=sc_need_joined.nd
 refine ⟨_,(aah (abk (aem (adi (aaj (ael T) hr (aaa (pv 0) aab))))
   (aah afo)
   aa7)),?_⟩
 refine abb h fun ss Q' q B hK=>?_
 refine exS2 ss q fun n es q1_=>?_
 have n0:=q1_.1
 have n1:=q1_.2.1
 have hin:=q1_.2.2.1
 have hle:=q1_.2.2.2.1
 have hJ:=q1_.2.2.2.2.1
 have k:=q1_.2.2.2.2.2
 clear q1_ q
 show EvS B _ _ [some (.st (webD n es))]
 row_cond go
 refine ⟨n,es,rfl,n0,n1,hin,hle,fun b hb=>?_⟩
 have:b=true:=hb.mpr hJ
 subst this
 row_cond go
 exact k
theorem sc_far_rows:FnScope ["web","tied"] ["web"] (aaf s_far_rows):=⟨rfl,rfl,rfl,by decide +kernel,rfl,by decide +kernel,by decide +kernel⟩
theorem ak5 (T:Txt K mg):Can P w K mg base "far_rows" 8 ["web"] (spP K (aqn)):=by
 obtain ⟨f,fd,D⟩:=T.d_far_rows
 refine D.can (D.fn.ok sc_far_rows (fun vs H Q E h=>lenP h fun ss Q' q=>by obtain ⟨n,es,rfl,n0,n1,hin,hle,hJ,k⟩:=q;rfl) (fun cdv A outer s H vs Q E hr h=>?_))
 have nd:=sc_far_rows.nd
 refine ⟨_,(aad (abr (aaj (agy T) hr (aaa (pv 0) aab)))
  (aad (aan (i:=1) nd rfl (Or.inr rfl) (aaj (adu T) hr (aaa (pv 0) aab)))
  (aah (aav (aea rfl (N:=["place","tied"]) (src:=[none,some 1]) (by exact ab0 rfl rfl rfl rfl rfl rfl) (acd rfl T.b_range (aaa (aal abf (by rfl) T.b_len ab9 (aaa (pv 1) aab)) aab)) (fun _ _ _ _=>(aam (i:=0) (show List.Nodup (["place","tied"]:List Str) by decide +kernel) rfl (Or.inl rfl) (hf:=Or.inr rfl))) (fun _ _ _ _=>aco) (fun _ _ _ _=>(aaj (ae5 T) hr (aaa (pv 1) (aaa (pv 0) aab))))))))),?_⟩
 refine abb h fun ss Q' q B hK=>?_
 refine exS2 ss q fun n es q1_=>?_
 have n0:=q1_.1
 have n1:=q1_.2.1
 have hin:=q1_.2.2.1
 have hle:=q1_.2.2.2.1
 have hJ:=q1_.2.2.2.2.1
 have k:=q1_.2.2.2.2.2
 clear q1_ q
 show EvS B _ _ [some (.st (webD n es)),none]
 row_cond go
 refine ⟨n,es,rfl,n0,n1,hin,hle,hJ,?_⟩
 row_cond go
 refine ⟨n,es,rfl,by row_cond lo,n1,hin,hle,fun tl ht=>?_⟩
 refine ad6 ahf ?_
 have hl:tl.length=n.toNat:=by have:=ht.1;row_cond lo
 have hl2:((tlD tl).map PyData.list).length=n.toNat:=by simp [tlD,hl]
 row_cond go
 rw [hl2,show (((n.toNat:Nat):Int)).toNat=n.toNat by row_cond lo]
 unfold rngD
 refine aej (fun u:Nat => .list (rowD n.toNat (dsF es (u:Int)))) rfl (by simp;row_cond lo) (fun u hu B' hB=>?_) ?_
 ·have hu1:(u:Int) < n:=by have:=List.mem_range.mp hu;row_cond lo
  row_cond go
  refine ⟨n,0+(u:Int),Tied es,tl,rfl,n1,ht,fun u v h=>(h.in hin).2,by row_cond lo,by row_cond lo,adf ⟨?_,rfl⟩⟩
  rw [Int.zero_add,av0 hJ (by row_cond lo) hu1]
 ·row_cond go
  exact k
end
noncomputable def stD (g c t:Int):List PyData:=[.int g,.int c,.int t]
def ayf:VP:=fun ss Q=>∃ (ns:List Int) (k:Int),ss=[.scr ns,.st (.int k)]/\0<=k/\k < 1048576/\∀ c,Q (.st (.int c))
def av1:VP:=fun ss Q=>∃ c:Int,ss=[.st (.int c)]/\∀ g t u,Q (.own (OL (stD g t u)))
def ayg:VIo:=fun A ss Q=>∃ g c t many:Int,A=OL (stD g c t)/\ss=[.st (.int many)]/\0 < many/\many < 1073741824/\∀ r g' c' t':Int,0<=r->r < many->Q (OL (stD g' c' t')) (.st (.int r))
section
variable {P:Program} {w:World} {K:PySem.W.Frag} {mg:Str->Option Value} {base:Heap}
theorem sc_law_cell:FnScope ["script","k"] ["script","k"] (aaf s_law_cell):=⟨rfl,rfl,rfl,by decide +kernel,rfl,by decide +kernel,by decide +kernel⟩
theorem ak6 (T:Txt K mg):Can P w K mg base "_law_cell" 1 ["script","k"] (spP K (ayf)):=by
 obtain ⟨f,fd,D⟩:=T.d_law_cell
 refine D.can (D.fn.ok sc_law_cell (fun vs H Q E h=>lenP h fun ss Q' q=>by obtain ⟨ns,k,rfl,h0,h1,kk⟩:=q;rfl) (fun cdv A outer s H vs Q E hr h=>?_))
 have nd:=sc_law_cell.nd
 refine ⟨_,(aad (abk (aa1 ane (pv 1) (aal abf (by rfl) T.b_len ab9 (aaa (pv 0) aab)) (aaw _))
   (aah (aav (aas aat (pv 0) (pv 1) (fun _ _=>rfl))))
   aa7)
  (aah (aav (aau ab3 (aau ab3 (aau acy (aau acy aae (pv 1)) (pv 1)) (aau acy aae (pv 1))) aae)))),?_⟩
 refine abb h fun ss Q' q B hK=>?_
 refine exS2 ss q fun ns k q1_=>?_
 have h0:=q1_.1
 have h1:=q1_.2.1
 have kk:=q1_.2.2
 clear q1_ q
 show EvS B _ _ [some (.scr ns),some (.st (.int k))]
 row_cond go
 refine ab8 (fun hk=>?_) (fun hk=>?_)
 ·have hin:k.toNat < ns.length:=by row_cond lo
  have hat:atI ns k=some ns[k.toNat]:=ajf h0 (List.getElem?_eq_getElem hin)
  row_cond go
  exact kk _
 ·row_cond go
  exact kk _
theorem sc_law_store:FnScope ["cell","great"] ["cell"] (aaf s_law_store):=⟨rfl,rfl,rfl,by decide +kernel,rfl,by decide +kernel,by decide +kernel⟩
theorem ai5 (T:Txt K mg):Can P w K mg base "_law_store" 1 ["cell"] (spP K (av1)):=by
 obtain ⟨f,fd,D⟩:=T.d_law_store
 refine D.can (D.fn.ok sc_law_store (fun vs H Q E h=>lenP h fun ss Q' q=>by obtain ⟨c,rfl,k⟩:=q;rfl) (fun cdv A outer s H vs Q E hr h=>?_))
 have nd:=sc_law_store.nd
 refine ⟨_,(aad (aan (i:=1) nd rfl (Or.inl rfl) aae)
  (aad (abk (aa1 ayq (pv 0) (at9 (n:=1000000000000000000) (by decide) (by refine ⟨by decide,by decide,by decide⟩)) (aaw _))
   (aah (aan (i:=1) nd rfl (Or.inl rfl) (pv 0)))
   aa7)
  (aah (aav (abc (aaa (pv 1) (aaa (aau ad0 (pv 0) aae) (aaa aae aab)))))))),?_⟩
 refine abb h fun ss Q' q B hK=>?_
 refine exS1 ss q fun c q1_=>?_
 have k:=q1_
 clear q1_ q
 show EvS B _ _ [some (.st (.int c)),none]
 row_cond go
 refine ab8 (fun hk=>?_) (fun hk=>?_)
 ·row_cond go
  exact k _ _ _
 ·row_cond go
  exact k _ _ _
theorem sc_law_take:FnScope ["store","many","told","one"] ["store","many"] (aaf s_law_take):=⟨rfl,rfl,rfl,by decide +kernel,rfl,by decide +kernel,by decide +kernel⟩
theorem ai6 (T:Txt K mg):Can P w K mg base "_law_take" 1 ["store","many"] (spI K (ayg)):=by
 obtain ⟨f,fd,D⟩:=T.d_law_take
 refine D.can (D.fn.ok sc_law_take (fun vs H Q E h=>lenI h fun A ss Q' q=>by obtain ⟨g,c,t,many,rfl,rfl,h1,h2,k⟩:=q;rfl) (fun cdv A outer s H vs Q E hr h=>?_))
 have nd:=sc_law_take.nd
 refine ⟨_,(aad (abk (aa1 af2 (aas aat (pv 0) aae (fun _ _=>rfl)) aae (aaw _))
   (aad (aan (i:=2) nd rfl (Or.inl rfl) (aau ad0 (aas aat (pv 0) aae (fun _ _=>rfl)) (pv 1)))
    (aad (acf (aau alt (aas aat (pv 0) aae (fun _ _=>rfl)) (pv 1)) (adz (pv 0) aae acm))
    (aah (aav (pv 2)))))
   aa7)
  (aad (acf (aau ab3 (aas aat (pv 0) aae (fun _ _=>rfl)) aae) (adz (pv 0) aae acm))
  (aad (aan (i:=3) nd rfl (Or.inl rfl) (aau ad0 (aau acy (aau ab3 (aas aat (pv 0) aae (fun _ _=>rfl)) (aau acy aae (aas aat (pv 0) aae (fun _ _=>rfl)))) aae) aae))
  (aad (aan (i:=3) nd rfl (Or.inl rfl) (aau ad0 (aau acy (pv 3) (pv 3)) aae))
  (aad (aan (i:=3) nd rfl (Or.inl rfl) (aau ad0 (aau acy (aau ab3 (pv 3) (aau acy aae (aas aat (pv 0) aae (fun _ _=>rfl)))) aae) aae))
  (aah (aav (aau ad0 (aau alt (pv 3) aae) (pv 1))))))))),?_⟩
 refine aje h fun A0 ss Q' q B hK=>?_
 obtain ⟨g,c,t,many,rfl,rfl,h1,h2,k⟩:=q
 show EvS B _ _ [some (.io (OL (stD g c t))),some (.st (.int many)),none,none]
 unfold stD at *
 row_cond go
 refine ab8 (fun hk=>?_) (fun hk=>?_)
 ·row_cond go
  exact k _ _ _ _ (Int.emod_nonneg _ (by row_cond lo)) (Int.emod_lt_of_pos _ h1)
 ·row_cond go
  exact k _ _ _ _ (Int.emod_nonneg _ (by row_cond lo)) (Int.emod_lt_of_pos _ h1)
end
noncomputable def OSt:Own:=exO fun q:Int × Int × Int=>OL (stD q.1 q.2.1 q.2.2)
theorem av2 {K:PySem.W.Frag} {f:VIo} {vs:List V} {H:Hp} {Q:VK} {E:XK} (h:spI K (fun A ss Q=>A=OSt/\∀ g c t,f (OL (stD g c t)) ss fun A' s=>(∃ g c t,A'=OL (stD g c t))/\Q OSt s) vs H Q E):spI K f vs H Q E:=by
 obtain ⟨v0,vr,G,R,A,ss,F0,Q',rfl,gh,ft,rh,ap,fg,fr,ao,⟨rfl,hf⟩,hQ⟩:=h
 obtain ⟨⟨g,c,t⟩,ap⟩:=ap
 refine ⟨v0,vr,G,R,OL (stD g c t),ss,F0,_,rfl,gh,ft,rh,ap,fg,fr,ao,hf g c t,fun A' s hq v G' H' F' Fv o=>?_⟩
 obtain ⟨⟨g',c',t',rfl⟩,q⟩:=hq
 exact hQ OSt s q v G' H' F' Fv { o with ap:=⟨(g',c',t'),o.ap⟩ }
theorem asp {P:Program} {w:World} {K:PySem.W.Frag} {mg:Str->Option Value} {base:Heap} {x:Str} {k:Nat} {ps:List Str} {sp sp':Sp} (c:Can P w K mg base x k ps sp) (h:∀ vs H Q E,sp' vs H Q E->sp vs H Q E):Can P w K mg base x k ps sp':=by
 obtain ⟨f,fd,ok,m,kp,b⟩:=c
 exact ⟨f,fd,ok.imp h,m,kp,b⟩
def av3:VIo:=fun A ss Q=>∃ many:Int,A=OSt/\ss=[.st (.int many)]/\0 < many/\many < 1073741824/\∀ r:Int,0<=r->r < many->Q OSt (.st (.int r))
theorem av4 {K:PySem.W.Frag} {f f':VIo} {vs:List V} {H:Hp} {Q:VK} {E:XK} (hf:∀ A ss Q',f A ss Q'->f' A ss Q') (h:spI K f vs H Q E):spI K f' vs H Q E:=by
 obtain ⟨v0,vr,G,R,A,ss,F0,Q',rfl,gh,ft,rh,ap,fg,fr,ao,q,hQ⟩:=h
 exact ⟨v0,vr,G,R,A,ss,F0,Q',rfl,gh,ft,rh,ap,fg,fr,ao,hf _ _ _ q,hQ⟩
theorem asq {B:Bs} {t:TS} {D':VEnds} {env:En} {g c u:Int} (i:Nat) (e:env[i]?=some (some (.own (OL (stD g c u))))) (q:EvS B t D' (env.set i (some (.own OSt)))):EvS B t D' env:=fun σ G H F D I r=>q σ G H F D (I.weakO e fun _ _ _ _ h=>⟨(g,c,u),h⟩) r
section
variable {P:Program} {w:World} {K:PySem.W.Frag} {mg:Str->Option Value} {base:Heap}
theorem aay (T:Txt K mg):Can P w K mg base "_law_take" 1 ["store","many"] (spI K (av3)) :=
 asp (ai6 T) fun vs H Q E h=>av2 (av4 (fun A ss Q' q=>by
  obtain ⟨many,rfl,rfl,h1,h2,k⟩:=q
  exact ⟨rfl,fun g c t=>⟨g,c,t,many,rfl,rfl,h1,h2,fun r g' c' t' r0 r1=>⟨⟨g',c',t',rfl⟩,k r r0 r1⟩⟩⟩) h)
end
structure TreeT (n:Int) (ps:List (Int × Int)):Prop where
 len:(ps.length:Int)=n - 1
 at':∀ (i:Nat) p,ps[i]?=some p->0<=p.1/\p.1 < p.2/\p.2=(i:Int)+1
def av5:VIo:=fun A ss Q=>∃ n kind:Int,A=OSt/\ss=[.st (.int n),.st (.int kind)]/\1<=n/\n<=60/\0<=kind/\kind < 4/\∀ ps,TreeT n ps->Q OSt (.own (OL (ps.map prD)))
section
variable {P:Program} {w:World} {K:PySem.W.Frag} {mg:Str->Option Value} {base:Heap}
theorem sc_law_tree_ties:FnScope ["store","n","kind","ties","b","a"] ["store","n","kind"] (aaf s_law_tree_ties):=⟨rfl,rfl,rfl,by decide +kernel,rfl,by decide +kernel,by decide +kernel⟩
theorem ada (T:Txt K mg):Can P w K mg base "_law_tree_ties" 2 ["store","n","kind"] (spI K (av5)):=by
 obtain ⟨f,fd,D⟩:=T.d_law_tree_ties
 refine D.can (D.fn.ok sc_law_tree_ties (fun vs H Q E h=>lenI h fun A ss Q' q=>by obtain ⟨n,kind,rfl,rfl,n0,n1,k0,k1,k⟩:=q;rfl) (fun cdv A outer s H vs Q E hr h=>?_))
 have nd:=sc_law_tree_ties.nd
 refine ⟨_,(aad (aan (i:=3) nd rfl (Or.inl rfl) (abc aab))
  (aad (acg PassesOwn.never rfl (aoy rfl T.b_range (aaa aae (aaa (pv 1) aab))) (aam (i:=4) nd rfl (Or.inl rfl))
   (aad (aan (i:=5) nd rfl (Or.inl rfl) (aas aat (abc (aaa (aaj (aay T) hr (aaa (pv 0) (aaa (pv 4) aab))) (aaa (aau aeo (aau aeo (pv 4) aae) (aaj (aay T) hr (aaa (pv 0) (aaa (aal (ade rfl) (by rfl) T.b_min aes (aaa (pv 4) (aaa aae aab))) aab)))) (aaa (aaj (aay T) hr (aaa (pv 0) (aaa (aal (ade rfl) (by rfl) T.b_min aes (aaa (pv 4) (aaa aae aab))) aab))) (aaa (aau aeo (pv 4) aae) aab))))) (pv 2) (fun _ _=>rfl)))
    (aah (abr (adc PySem.F.plainAttrs_list PySem.F.slot_list_append PySem.F.type_list_append abe (pv 3) (aaa (ach (aaa (pv 5) (aaa (pv 4) aab))) aab))))))
  (aah (aav (pv 3))))),?_⟩
 refine aje h fun A0 ss Q' q B hK=>?_
 obtain ⟨n,kind,rfl,rfl,n0,n1,k0,k1,k⟩:=q
 show EvS B _ _ [some (.io OSt),some (.st (.int n)),some (.st (.int kind)),none,none,none]
 row_cond go
 refine afv (fun i e=>∃ v4 v5 ps,e=[some (.io OSt),some (.st (.int n)),some (.st (.int kind)),some (.own (OL (List.map prD ps))),v4,v5]/\ps.length=i/\∀ (j:Nat) p,ps[j]?=some p->0<=p.1/\p.1 < p.2/\p.2=(j:Int)+1) ⟨_,_,[],rfl,rfl,fun j p h=>by simp at h⟩ ?_ ?_
 ·rintro i e hi q0_
  refine exS3 e q0_ fun v4 v5 ps q1_=>?_
  have hpl:=q1_.1
  have hps:=q1_.2
  clear q1_ q0_
  have hi2:1+(i:Int) < n:=by row_cond lo
  row_cond go
  refine ⟨1+(i:Int),rfl,rfl,by row_cond lo,by row_cond lo,fun r1 r1a r1b=>?_⟩
  row_cond go
  refine ⟨_,rfl,rfl,by split <;> row_cond lo,by split <;> row_cond lo,fun r2 r2a r2b=>?_⟩
  have r2c:r2 < 1+(i:Int):=by split at r2b <;> row_cond lo
  row_cond go
  refine ⟨_,rfl,rfl,by split <;> row_cond lo,by split <;> row_cond lo,fun r3 r3a r3b=>?_⟩
  have r3c:r3 < 1+(i:Int):=by split at r3b <;> row_cond lo
  obtain ⟨x,hx,x0,x1⟩:∃ x:Int,atI [PyData.int r1,PyData.int (1+(i:Int) - 1 - r2),PyData.int r3,PyData.int (1+(i:Int) - 1)] kind=some (.int x)/\0<=x/\x < 1+(i:Int):=by
   rcases (show kind=0\/kind=1\/kind=2\/kind=3 by row_cond lo) with rfl | rfl | rfl | rfl
   ·exact ⟨r1,rfl,r1a,r1b⟩
   ·exact ⟨_,rfl,by row_cond lo,by row_cond lo⟩
   ·exact ⟨r3,rfl,r3a,r3c⟩
   ·exact ⟨_,rfl,by row_cond lo,by row_cond lo⟩
  row_cond go
  refine ⟨_,_,ps ++ [(x,1+(i:Int))],by rw [List.map_append];rfl,by rw [List.length_append,hpl];rfl,fun j p hp=>?_⟩
  by_cases hj:j < ps.length
  ·rw [List.getElem?_append_left hj] at hp
   exact hps j p hp
  ·have hj2:=(List.getElem?_eq_some_iff.mp hp).1
   simp at hj2
   have:j=ps.length:=by row_cond lo
   subst this
   rw [List.getElem?_append_right (Nat.le_refl _),Nat.sub_self] at hp
   cases hp
   exact ⟨x0,x1,by simp only;row_cond lo⟩
 ·rintro e q0_
  refine exS3 e q0_ fun v4 v5 ps q1_=>?_
  have hpl:=q1_.1
  have hps:=q1_.2
  clear q1_ q0_
  row_cond go
  exact k ps ⟨by row_cond lo,hps⟩
end
theorem aim {α β:Type} (f : α->β):∀ (l:List α) (k:Nat),(l.map f).eraseIdx k=(l.eraseIdx k).map f
 | [],_=>rfl
 | _ :: _,0=>rfl
 | a :: l,k+1=>by simp [aim f l k]
theorem ayh {j:Int} {n:Nat} (q0:0<=j) (q1:j < n):seqIndex? j n=some j.toNat:=by unfold seqIndex?;simp;row_cond lo
theorem ayi {left:List Int} {k:Nat} {y:Int} (hy:left[k]?=some y):(left.map PyData.int)[k]?=some (.int y):=by rw [List.getElem?_map,hy];rfl
theorem ayj (row:List Int) (p:Int × Int):PyData.tuple [.int (if aaz row p.2 < aaz row p.1 then aaz row p.2 else aaz row p.1),.int (if aaz row p.2 > aaz row p.1 then aaz row p.2 else aaz row p.1)]=prD (reP row p):=by
 unfold reP prD
 split <;> split <;> first | rfl | row_cond lo | (simp only [PyData.tuple.injEq,List.cons.injEq,PyData.int.injEq,and_true];row_cond lo)
def av6:VIo:=fun A ss Q=>∃ (n:Int) (ps:List (Int × Int)),A=OSt/\ss=[.st (.int n),.st (.list (ps.map prD))]/\1<=n/\n<=60/\InN n ps/\ps.length < 64 /\
 ∀ (row:List Int) (qs:List (Int × Int)),Order n row->qs.Nodup->(∀ x,x∈qs ↔ x∈ps.map (reP row))->lexS (qs.map p2)->Q OSt (.own (OL (qs.map prD)))
section
variable {P:Program} {w:World} {K:PySem.W.Frag} {mg:Str->Option Value} {base:Heap}
theorem sc_law_renumbered:FnScope ["store","n","ties","left","numbers","found","a","b"] ["store","n","ties"] (aaf s_law_renumbered):=⟨rfl,rfl,rfl,by decide +kernel,rfl,by decide +kernel,by decide +kernel⟩
theorem ae6 (T:Txt K mg):Can P w K mg base "_law_renumbered" 2 ["store","n","ties"] (spI K (av6)):=by
 obtain ⟨f,fd,D⟩:=T.d_law_renumbered
 refine D.can (D.fn.ok sc_law_renumbered (fun vs H Q E h=>lenI h fun A ss Q' q=>by obtain ⟨n,ps,rfl,rfl,n0,n1,hin,hle,k⟩:=q;rfl) (fun cdv A outer s H vs Q E hr h=>?_))
 have nd:=sc_law_renumbered.nd
 refine ⟨_,(aad (aan (i:=3) nd rfl (Or.inr rfl) (ar8 rfl T.b_list rfl T.b_range rfl (aaa (pv 1) aab)))
  (aad (ajs (i:=4) nd rfl (Or.inl rfl) rfl (N:=["k","left","store"]) (src:=[none,some 3,some 0]) (by exact ab0 rfl rfl rfl rfl rfl rfl) (acd rfl T.b_range (aaa (pv 1) aab)) (fun _ _ _ _=>(aam (i:=0) (show List.Nodup (["k","left","store"]:List Str) by decide +kernel) rfl (Or.inl rfl) (hf:=Or.inr rfl))) (fun _ _ _ _=>aco) (fun _ _ _ _=>(show PE _ _ (tBM K "list" af5 _ _) from (adc PySem.F.plainAttrs_list PySem.F.slot_list_pop PySem.F.type_list_pop aq0 (pv 1) (aaa (aaj (aay T) hr (aaa (pv 2) (aaa (aal (show abh _ (.builtin "len") (rLen K) from abf) (by rfl) T.b_len ab9 (aaa (pv 1) aab)) aab))) aab)))))
  (aad (aan (i:=5) nd rfl (Or.inl rfl) (abc aab))
  (aad (acg PassesOwn.never rfl (abt (pv 2)) (acx rfl (aa2 (aam (i:=6) nd rfl (Or.inl rfl)) (aa2 (aam (i:=7) nd rfl (Or.inl rfl)) acb)))
   (aah (abr (adc PySem.F.plainAttrs_list PySem.F.slot_list_append PySem.F.type_list_append abe (pv 5) (aaa (ach (aaa (aal (ade rfl) (by rfl) T.b_min aes (aaa (aas aat (pv 4) (pv 6) (fun _ _=>rfl)) (aaa (aas aat (pv 4) (pv 7) (fun _ _=>rfl)) aab))) (aaa (aal (af9 rfl) (by rfl) T.b_max aga (aaa (aas aat (pv 4) (pv 6) (fun _ _=>rfl)) (aaa (aas aat (pv 4) (pv 7) (fun _ _=>rfl)) aab))) aab))) aab)))))
  (aah (aav (aal (alo rfl) (by rfl) T.b_sorted aet (aaa (ahv (call_setT rfl hr.units) (by rfl) T.b_set aw2 (aaa (pv 5) aab)) aab)))))))),?_⟩
 refine aje h fun A0 ss Q' q B hK=>?_
 obtain ⟨n,ps,rfl,rfl,n0,n1,hin,hle,k⟩:=q
 show EvS B _ _ [some (.io OSt),some (.st (.int n)),some (.st (.list (ps.map prD))),none,none,none,none,none]
 row_cond go
 refine ⟨fun j ys e=>∃ (o:Option PyData) (row left:List Int),e=[stO o,some (.io (OL (left.map .int))),some (.io OSt)]/\ys=row.map .int/\row.length=j/\Order n (row ++ left),⟨none,[],(List.range n.toNat).map fun (i:Nat)=>(i:Int),by rw [← avf];rfl,rfl,rfl,Order.id n⟩,?_,?_,?_⟩
 ·rintro i ys e q0_
  refine exS3 e q0_ fun o row left q1_=>?_
  have hys:=q1_.1
  have hrl:=q1_.2.1
  have hO:=q1_.2.2
  clear q1_ q0_
  exact ⟨⟨isIo_stO.symm,ae0⟩,⟨rfl,rfl⟩,⟨rfl,rfl⟩,True.intro⟩
 ·rintro i d ys e hd ⟨o,row,left,rfl,rfl,hrl,hO⟩ B' hB
  obtain ⟨hi,rfl⟩:=adn hd
  have hll:left.length=n.toNat - i:=by have:=hO.len;simp at this;row_cond lo
  refine aa3 (afc ?_)
  rw [if_pos rfl]
  show Ev B' _ [some (.st (.int (0+(i:Int)))),some (.io (OL (left.map .int))),some (.io OSt)] _
  row_cond go
  rw [List.length_map]
  refine ⟨(left.length:Int),rfl,rfl,by row_cond lo,by row_cond lo,fun r r0 r1=>?_⟩
  obtain ⟨y,hy⟩:∃ y,left[r.toNat]?=some y:=⟨_,List.getElem?_eq_getElem (show r.toNat < left.length by row_cond lo)⟩
  refine ⟨_,left.map .int,r,r.toNat,.int y,rfl,rfl,.inr rfl,by row_cond lo,by row_cond lo,ayh r0 (by rw [List.length_map];exact r1),ayi hy,by rw [List.length_map];row_cond lo,some (.int (0+(i:Int))),row ++ [y],left.eraseIdx r.toNat,?_,by rw [List.map_append];rfl,by rw [List.length_append,hrl];rfl,aoc hO hy⟩
  rw [aim]
  rfl
 ·rintro ys e q0_
  refine exS3 e q0_ fun o row left q1_=>?_
  have e0_:=q1_.1
  have hrl:=q1_.2.1
  have hO:=q1_.2.2
  clear q1_ q0_
  subst e0_
  have hll:left=[]:=by rw [abq] at hrl;have:=hO.len;simp at this;exact List.length_eq_zero_iff.mp (by row_cond lo)
  subst hll
  rw [List.append_nil] at hO
  show EvG B (aa5 4) (.own (OL (row.map .int))) [some (.io OSt),some (.st (.int n)),some (.st (.list (ps.map prD))),some (.own (OL [])),none,none,none,none] _
  refine ad6 adm ?_
  row_cond go
  refine acp (fun i e=>∃ v6 v7,e=[some (.io OSt),some (.st (.int n)),some (.st (.list (ps.map prD))),some (.own (OL [])),some (.st (.list (row.map .int))),some (.own (OL (((ps.take i).map (reP row)).map prD))),v6,v7]) ⟨_,_,rfl⟩ ?_ ?_
  ·rintro i p e hp q0_
   refine exE2 e q0_ fun v6 v7=>?_
   clear q0_
   have hq:=hin p (List.mem_of_getElem? hp)
   have r1:=agr (f:=PyData.int) (hO.atI (a:=p.1) (by row_cond lo) (by row_cond lo))
   have r2:=agr (f:=PyData.int) (hO.atI (a:=p.2) (by row_cond lo) (by row_cond lo))
   row_cond go
   refine ⟨by simp;row_cond lo,some (.st (.int p.1)),some (.st (.int p.2)),?_⟩
   rw [ayj,← List.map_singleton (f:=prD),← List.map_append,← List.map_singleton (f:=reP row),← List.map_append,show ps.take i ++ [p]=ps.take (i+1) by rw [List.take_add_one,hp];rfl]
  ·rintro e q0_
   refine exE2 e q0_ fun v6 v7=>?_
   clear q0_
   rw [List.take_length]
   row_cond go
   refine aoj ?_
   row_cond go
   refine ⟨ps.map (reP row),rfl,by rw [List.length_map];row_cond lo,fun qs nd hm hs=>?_⟩
   exact ⟨_,rfl,k row qs hO nd hm hs⟩
end
structure TreeW (n:Int) (es:List (Int × Int)):Prop where
 web:WebOk n es
 len:(es.length:Int)=n - 1
 conn:Conn n (Tied es)
theorem TreeT.inn {n:Int} {ps:List (Int × Int)} (h:TreeT n ps):InN n ps:=fun p hp=>by
 obtain ⟨i,hi⟩:=List.getElem?_of_mem hp
 have h1:=h.at' i p hi
 have h2:=(List.getElem?_eq_some_iff.mp hi).1
 have:=h.len
 row_cond lo
theorem TreeT.ps {n:Int} {ps:List (Int × Int)} (h:TreeT n ps):PsOk n ps:=by
 refine ⟨?_,fun p hp=>?_⟩
 ·refine List.pairwise_iff_getElem.mpr fun i j hi hj hij e=>?_
  have h1:=(h.at' i _ (List.getElem?_eq_getElem hi)).2.2
  have h2:=(h.at' j _ (List.getElem?_eq_getElem hj)).2.2
  rw [e] at h1
  row_cond lo
 ·obtain ⟨i,hi⟩:=List.getElem?_of_mem hp
  have h1:=h.at' i p hi
  have h2:=(List.getElem?_eq_some_iff.mp hi).1
  have:=h.len
  row_cond lo
theorem TreeT.conn {n:Int} {ps:List (Int × Int)} (h:TreeT n ps):Conn n (Tied ps):=Tr.conn fun k k1 k2=>by
 have hl:(k - 1).toNat < ps.length:=by have:=h.len;row_cond lo
 have h1:=h.at' (k - 1).toNat _ (List.getElem?_eq_getElem hl)
 refine ⟨ps[(k - 1).toNat].1,h1.1,by row_cond lo,?_⟩
 have:(ps[(k - 1).toNat].1,k)=ps[(k - 1).toNat]:=Prod.ext rfl (by simp only;row_cond lo)
 rw [this]
 exact List.getElem_mem hl
theorem TreeW.of {n:Int} {ps qs:List (Int × Int)} (h0:1<=n) (h1:n<=60) (h:PsOk n ps) (hl:(ps.length:Int)=n - 1) (hc:Conn n (Tied ps)) (hp:qs.Perm ps) (hs:lexS (qs.map p2)):TreeW n qs :=
 ⟨asb h0 h1 h hp hs,by rw [hp.length_eq];exact hl,hc.mono fun u v t=>(Tied.perm hp).mpr t⟩
theorem am5 {n:Int} {row:List Int} {ps qs:List (Int × Int)} (h:PsOk n ps) (hO:Order n row) (nd:qs.Nodup) (hm:∀ x,x∈qs ↔ x∈ps.map (reP row)):qs.Perm (ps.map (reP row)):=(List.perm_ext_iff_of_nodup nd (h.re hO).nd).mpr hm
theorem TreeW.inn {n:Int} {es:List (Int × Int)} (h:TreeW n es):InN n es:=fun p hp=>by
 have:=h.web.inn p hp
 row_cond lo
def ayk:VIo:=fun A ss Q=>A=OSt/\ss=[]/\∀ (n:Int) (es:List (Int × Int)),TreeW n es->Q OSt (.st (webD n es))
section
variable {P:Program} {w:World} {K:PySem.W.Frag} {mg:Str->Option Value} {base:Heap}
theorem sc_law_tree:FnScope ["store","n","ties"] ["store"] (aaf s_law_tree):=⟨rfl,rfl,rfl,by decide +kernel,rfl,by decide +kernel,by decide +kernel⟩
theorem ak7 (T:Txt K mg):Can P w K mg base "_law_tree" 3 ["store"] (spI K (ayk)):=by
 obtain ⟨f,fd,D⟩:=T.d_law_tree
 refine D.can (D.fn.ok sc_law_tree (fun vs H Q E h=>lenI h fun A ss Q' q=>by obtain ⟨rfl,rfl,k⟩:=q;rfl) (fun cdv A outer s H vs Q E hr h=>?_))
 have nd:=sc_law_tree.nd
 refine ⟨_,(aad (aan (i:=1) nd rfl (Or.inl rfl) (aas aat (abc (aaa (aau ab3 aae (aaj (aay T) hr (aaa (pv 0) (aaa aae aab)))) (aaa (aau ab3 aae (aaj (aay T) hr (aaa (pv 0) (aaa aae aab)))) (aaa (aau ab3 aae (aaj (aay T) hr (aaa (pv 0) (aaa aae aab)))) aab)))) (aaj (aay T) hr (aaa (pv 0) (aaa aae aab))) (fun _ _=>rfl)))
  (aad (aan (i:=2) nd rfl (Or.inl rfl) (aaj (ada T) hr (aaa (pv 0) (aaa (pv 1) (aaa (aaj (aay T) hr (aaa (pv 0) (aaa aae aab))) aab)))))
  (aad (abk (aa1 af2 (aaj (aay T) hr (aaa (pv 0) (aaa aae aab))) aae (aaw _))
   (aah (aan (i:=2) nd rfl (Or.inl rfl) (aaj (ae6 T) hr (aaa (pv 0) (aaa (pv 1) (aaa (pv 2) aab))))))
   aa7)
  (aah (aav (ach (aaa (pv 1) (aaa (aal agh (by rfl) T.b_sorted aet (aaa (pv 2) aab)) aab)))))))),?_⟩
 refine aje h fun A0 ss Q' q B hK=>?_
 obtain ⟨rfl,rfl,k⟩:=q
 show EvS B _ _ [some (.io OSt),none,none]
 row_cond go
 refine ⟨6,rfl,rfl,by row_cond lo,by row_cond lo,fun r1 r1a r1b=>?_⟩
 row_cond go
 refine ⟨16,rfl,rfl,by row_cond lo,by row_cond lo,fun r2 r2a r2b=>?_⟩
 row_cond go
 refine ⟨60,rfl,rfl,by row_cond lo,by row_cond lo,fun r3 r3a r3b=>?_⟩
 row_cond go
 refine ⟨3,rfl,rfl,by row_cond lo,by row_cond lo,fun r4 r4a r4b=>?_⟩
 obtain ⟨n,hn,n0,n1⟩:∃ n:Int,atI [PyData.int (1+r1),PyData.int (1+r2),PyData.int (1+r3)] r4=some (.int n)/\1<=n/\n<=60:=by
  rcases (show r4=0\/r4=1\/r4=2 by row_cond lo) with rfl | rfl | rfl <;> exact ⟨_,rfl,by row_cond lo,by row_cond lo⟩
 row_cond go
 refine ⟨4,rfl,rfl,by row_cond lo,by row_cond lo,fun r5 r5a r5b=>?_⟩
 row_cond go
 refine ⟨n,r5,rfl,rfl,n0,n1,r5a,r5b,fun ps hT=>ad6 adm ?_⟩
 have hin:=hT.inn
 have hle:ps.length<=60:=by have:=hT.len;row_cond lo
 row_cond go
 refine ⟨3,rfl,rfl,by row_cond lo,by row_cond lo,fun r6 r6a r6b=>?_⟩
 row_cond go
 refine ab8 (fun h=>?_) (fun h=>?_)
 ·row_cond go
  refine ⟨n,ps,rfl,rfl,n0,n1,hin,by row_cond lo,fun row qs hO nd hm hs=>ad6 adm ?_⟩
  row_cond go
  refine ah9 (ps:=qs) (by rw [(am5 hT.ps hO nd hm).length_eq,List.length_map];row_cond lo) ?_
  row_cond go
  intro qs2 hp hl
  row_cond go
  have hq:=am5 hT.ps hO nd hm
  exact k n qs2 (TreeW.of n0 n1 (hT.ps.re hO) (by rw [List.length_map];exact hT.len) (hT.conn.re hO) (hp.trans hq) hl)
 ·row_cond go
  refine ah9 (ps:=ps) (by row_cond lo) ?_
  row_cond go
  intro qs2 hp hl
  row_cond go
  exact k n qs2 (TreeW.of n0 n1 hT.ps hT.len hT.conn hp hl)
end
noncomputable def kM (M:List (Int × List Int)):List (Int × List PyData):=M.map fun p=>(p.1,p.2.map .int)
structure KT (T:Int->Int->Prop) (M:List (Int × List Int)):Prop where
 nd:(M.map (·.1)).Nodup
 iff:∀ k w,T k w ↔ ∃ ws,(k,ws)∈M/\w∈ws
theorem ayl {M:List (Int × List Int)} {n:Nat} {k:Int} {ds:List PyData} (h:(kM M)[n]?=some (k,ds)):∃ ws,M[n]?=some (k,ws)/\ds=ws.map .int:=by
 unfold kM at h
 rw [List.getElem?_map] at h
 cases e:M[n]? with
 | none=>rw [e] at h;cases h
 | some p =>
  rw [e] at h
  obtain ⟨a,b⟩:=p
  cases h
  exact ⟨b,rfl,rfl⟩
theorem aqo {M:List (Int × List Int)} {n:Nat} {k y:Int} {ws:List Int}:(kM M).set n (k,ws.map .int ++ [.int y])=kM (M.set n (k,ws ++ [y])):=by
 unfold kM
 rw [List.map_set]
 simp
theorem am6 {M:List (Int × List Int)} {k y:Int}:kM M ++ [(k,[.int y])]=kM (M ++ [(k,[y])]):=by simp [kM]
theorem KT.set {T T':Int->Int->Prop} {M:List (Int × List Int)} {n:Nat} {k y:Int} {ws:List Int} (h:KT T M) (hn:M[n]?=some (k,ws)) (hT:∀ u v,T' u v ↔ T u v\/(u=k/\v=y)):KT T' (M.set n (k,ws ++ [y])):=by
 have hm:=List.mem_of_getElem? hn
 obtain ⟨hl,he⟩:=List.getElem?_eq_some_iff.mp hn
 refine ⟨?_,fun u v=>?_⟩
 ·rw [List.map_set,show (k,ws ++ [y]).1=(M.map (·.1))[n]'(by simpa using hl) by simp [he],List.set_getElem_self]
  exact h.nd
 rw [hT,h.iff]
 constructor
 ·rintro (⟨us,h1,h2⟩ | ⟨rfl,rfl⟩)
  ·obtain ⟨j,hj,ej⟩:=List.mem_iff_getElem.mp h1
   by_cases e:j=n
   ·subst e
    rw [he] at ej
    cases ej
    exact ⟨ws ++ [y],List.mem_iff_getElem.mpr ⟨j,by simpa using hl,by simp⟩,List.mem_append.mpr (.inl h2)⟩
   ·exact ⟨us,List.mem_iff_getElem.mpr ⟨j,by simpa using hj,by rw [List.getElem_set_ne (Ne.symm e)];exact ej⟩,h2⟩
  ·exact ⟨ws ++ [v],List.mem_iff_getElem.mpr ⟨n,by simpa using hl,by simp⟩,List.mem_append.mpr (.inr (List.mem_singleton.mpr rfl))⟩
 ·rintro ⟨us,h1,h2⟩
  rcases List.mem_or_eq_of_mem_set h1 with q | q
  ·exact .inl ⟨us,q,h2⟩
  ·cases q
   rcases List.mem_append.mp h2 with h2 | h2
   ·exact .inl ⟨ws,hm,h2⟩
   ·exact .inr ⟨rfl,List.mem_singleton.mp h2⟩
theorem KT.snoc {T T':Int->Int->Prop} {M:List (Int × List Int)} {k y:Int} (h:KT T M) (hn:∀ p∈kM M,p.1 ≠ k) (hT:∀ u v,T' u v ↔ T u v\/(u=k/\v=y)):KT T' (M ++ [(k,[y])]):=by
 refine ⟨?_,fun u v=>?_⟩
 ·rw [List.map_append,List.nodup_append]
  refine ⟨h.nd,by simp,fun a ha b hb e=>?_⟩
  obtain ⟨p,hp,rfl⟩:=List.mem_map.mp ha
  have hb2:b=k:=by simpa using hb
  exact hn (p.1,p.2.map .int) (List.mem_map.mpr ⟨p,hp,rfl⟩) (by rw [← hb2];exact e)
 rw [hT,h.iff]
 constructor
 ·rintro (⟨us,h1,h2⟩ | ⟨rfl,rfl⟩)
  ·exact ⟨us,List.mem_append.mpr (.inl h1),h2⟩
  ·exact ⟨_,List.mem_append.mpr (.inr (List.mem_singleton.mpr rfl)),List.mem_singleton.mpr rfl⟩
 ·rintro ⟨us,h1,h2⟩
  rcases List.mem_append.mp h1 with q | q
  ·exact .inl ⟨us,q,h2⟩
  ·cases List.mem_singleton.mp q
   exact .inr ⟨rfl,List.mem_singleton.mp h2⟩
theorem KT.one {T:Int->Int->Prop} {M:List (Int × List Int)} (h:KT T M) {k:Int} {us ws:List Int} (h1:(k,us)∈M) (h2:(k,ws)∈M):us=ws:=by
 obtain ⟨i,hi,ei⟩:=List.mem_iff_getElem.mp h1
 obtain ⟨j,hj,ej⟩:=List.mem_iff_getElem.mp h2
 have hp:=List.pairwise_iff_getElem.mp h.nd
 by_cases e:i=j
 ·subst e
  rw [ei] at ej
  cases ej
  rfl
 ·exfalso
  rcases (show i < j\/j < i by row_cond lo) with q | q
  ·exact hp i j (by simpa using hi) (by simpa using hj) q (by simp [ei,ej])
  ·exact hp j i (by simpa using hj) (by simpa using hi) q (by simp [ei,ej])
theorem KT.look {T:Int->Int->Prop} {M:List (Int × List Int)} (h:KT T M) (k:Int):∃ ws:List Int,adt (kM M) k=ws.map .int/\∀ w,w∈ws ↔ T k w:=by
 unfold adt
 cases hf:(kM M).find? fun p=>decide (p.1=k) with
 | none =>
  refine ⟨[],rfl,fun w=>⟨fun hw=>(List.not_mem_nil hw).elim,fun hw=>?_⟩⟩
  obtain ⟨ws,h1,h2⟩:=(h.iff k w).mp hw
  exact absurd (decide_eq_true rfl) (List.find?_eq_none.mp hf (k,ws.map .int) (List.mem_map.mpr ⟨_,h1,rfl⟩))
 | some q =>
  have hq:q.1=k:=by have:=List.find?_some hf;simpa using this
  obtain ⟨⟨k',ws⟩,hp,e⟩:=List.mem_map.mp (List.mem_of_find?_eq_some hf)
  subst e
  dsimp only at hq
  subst hq
  refine ⟨ws,rfl,fun w=>⟨fun hw=>(h.iff _ w).mpr ⟨ws,hp,hw⟩,fun hw=>?_⟩⟩
  obtain ⟨us,h1,h2⟩:=(h.iff _ w).mp hw
  rw [h.one hp h1]
  exact h2
structure KTB (T:Int->Int->Prop) (M:List (Int × List Int)) (m:Nat):Prop extends KT T M where
 lenM:M.length<=m
 lenW:∀ p∈kM M,p.2.length<=m
theorem aym (M:List (Int × List Int)):(kM M).length=M.length:=by simp [kM]
theorem KTB.set {T T':Int->Int->Prop} {M:List (Int × List Int)} {m n:Nat} {k y:Int} {ws:List Int} (h:KTB T M m) (hn:M[n]?=some (k,ws)) (hT:∀ u v,T' u v ↔ T u v\/(u=k/\v=y)):KTB T' (M.set n (k,ws ++ [y])) (m+1):=by
 refine ⟨h.toKT.set hn hT,by rw [List.length_set];have:=h.lenM;row_cond lo,fun p hp=>?_⟩
 rw [← aqo] at hp
 rcases List.mem_or_eq_of_mem_set hp with q | q
 ·have:=h.lenW p q;row_cond lo
 ·subst q
  have:=h.lenW (k,ws.map .int) (List.mem_map.mpr ⟨_,List.mem_of_getElem? hn,rfl⟩)
  simp at this ⊢
  exact this
theorem KTB.snoc {T T':Int->Int->Prop} {M:List (Int × List Int)} {m:Nat} {k y:Int} (h:KTB T M m) (hn:∀ p∈kM M,p.1 ≠ k) (hT:∀ u v,T' u v ↔ T u v\/(u=k/\v=y)):KTB T' (M ++ [(k,[y])]) (m+1):=by
 refine ⟨h.toKT.snoc hn hT,by have:=h.lenM;simp;row_cond lo,fun p hp=>?_⟩
 rw [← am6] at hp
 rcases List.mem_append.mp hp with q | q
 ·have:=h.lenW p q;row_cond lo
 ·cases List.mem_singleton.mp q
  simp
theorem agz {B:Bs} {env:En} {Q':PyData->En->Prop} {K:PySem.W.Frag} {T T':Int->Int->Prop} {M:List (Int × List Int)} {m i l j:Nat} {x y:Int} (hM:KTB T M m) (hm:m<=900000) (e:env[i]?=some (some (.own (OKL (kM M))))) (ek:env[l]?=some (some (.st (.int x)))) (ey:env[j]?=some (some (.st (.int y)))) (hT:∀ u v,T' u v ↔ T u v\/(u=x/\v=y))
  (q:∀ M',KTB T' M' (m+1)->Q' .none (env.set i (some (.own (OKL (kM M')))))):Ev B (tBM K "list" acn (aok (tVar i) (tVar l) (tLst tNil)) (aa6 (tVar j) tNil)) env Q' :=
 aol e ek ey (by rw [aym];have:=hM.lenM;row_cond lo) (fun p hp=>by have:=hM.lenW p hp;row_cond lo) (fun n ds h=>by
  obtain ⟨ws,h1,rfl⟩:=ayl h
  rw [aqo]
  exact q _ (hM.set h1 hT)) (fun h=>by rw [am6];exact q _ (hM.snoc h hT))
theorem afz {n:Int} {line:List Int} (nd:line.Nodup) (h:∀ v∈line,0<=v/\v < n):line.length<=n.toNat * n.toNat:=by
 have:=ae2 (n:=n.toNat) (es:=line.map fun v=>(v,(0:Int))) (List.pairwise_map.mpr (nd.imp fun hab e=>hab (by simpa using e))) fun p hp=>by
  obtain ⟨v,hv,rfl⟩:=List.mem_map.mp hp
  have:=h v hv
  simp only
  row_cond lo
 simpa using this
theorem atp {n:Int} (h:n<=100):n.toNat * n.toNat<=10000:=Nat.mul_le_mul (show n.toNat<=100 by row_cond lo) (show n.toNat<=100 by row_cond lo)
structure FarL (far:Int->Option Nat) (line:List Int) (ds:List Nat):Prop where
 at':∀ (i:Nat) v d,line[i]?=some v->ds[i]?=some d->far v=some d
 no:∀ v,v ∉ line->far v=none
theorem FarL.start (a:Int):FarL (Gr.label (fun _=>none) a 0) [a] [0]:=⟨fun i v d h1 h2=>by
 cases i with
 | zero=>simp at h1 h2;subst h1 h2;exact Gr.label_same
 | succ i=>simp at h1,fun v hv=>by rw [Gr.label_ne (by simpa using hv)]⟩
theorem FarL.add {far:Int->Option Nat} {line:List Int} {ds:List Nat} {w:Int} {d:Nat} (h:FarL far line ds) (hl:ds.length=line.length) (hw:w ∉ line):FarL (Gr.label far w d) (line ++ [w]) (ds ++ [d]):=by
 refine ⟨fun i v e h1 h2=>?_,fun v hv=>?_⟩
 ·by_cases hi:i < line.length
  ·rw [List.getElem?_append_left hi] at h1
   rw [List.getElem?_append_left (by row_cond lo)] at h2
   have hne:v ≠ w:=fun e=>hw (e ▸ List.mem_of_getElem? h1)
   rw [Gr.label_ne hne]
   exact h.at' i v e h1 h2
  ·have hi2:=(List.getElem?_eq_some_iff.mp h1).1
   simp at hi2
   have:i=line.length:=by row_cond lo
   subst this
   rw [List.getElem?_append_right (Nat.le_refl _),Nat.sub_self] at h1
   rw [← hl,List.getElem?_append_right (Nat.le_refl _),Nat.sub_self] at h2
   cases h1
   cases h2
   exact Gr.label_same
 ·have h1:v ∉ line:=fun q=>hv (List.mem_append.mpr (.inl q))
  have h2:v ≠ w:=fun q=>hv (List.mem_append.mpr (.inr (List.mem_singleton.mpr q)))
  rw [Gr.label_ne h2]
  exact h.no v h1
theorem FarL.fin {T:Int->Int->Prop} {a:Int} {far:Int->Option Nat} {line:List Int} {ds:List Nat} (h:FarL far line ds) (b:Gr.Bfs T a line ds line.length) (v:Int):far v=Gr.farO T a v:=by
 by_cases hv:v∈line
 ·obtain ⟨i,hi⟩:=List.getElem?_of_mem hv
  have hil:=(List.getElem?_eq_some_iff.mp hi).1
  obtain ⟨d,hd⟩:∃ d,ds[i]?=some d:=⟨_,List.getElem?_eq_getElem (by rw [b.len];exact hil)⟩
  rw [h.at' i v d hi hd,Gr.farO_some.mpr (b.dist i v d hi hd)]
 ·rw [h.no v hv]
  cases e:Gr.farO T a v with
  | none=>rfl
  | some d =>
   exact absurd (b.fin d v (Gr.farO_some.mp e).1) hv
section
variable {P:Program} {w:World} {K:PySem.W.Frag} {mg:Str->Option Value} {base:Heap}
theorem sc_law_far_from:FnScope ["web","a","beside","one","other","found","line","at","place"] ["web","a"] (aaf s_law_far_from):=⟨rfl,rfl,rfl,by decide +kernel,rfl,by decide +kernel,by decide +kernel⟩
theorem af0 (T:Txt K mg):Can P w K mg base "_law_far_from" 2 ["web","a"] (spP K (ak3)):=by
 obtain ⟨f,fd,D⟩:=T.d_law_far_from
 refine D.can (D.fn.ok sc_law_far_from (fun vs H Q E h=>lenP h fun ss Q' q=>by obtain ⟨n,a,es,rfl,n1,hin,hle,a0,a1,k⟩:=q;rfl) (fun cdv A outer s H vs Q E hr h=>?_))
 have nd:=sc_law_far_from.nd
 refine ⟨_,(aad (aan (i:=2) nd rfl (Or.inl rfl) aq2)
  (aad (acg PassesOwn.never rfl (abt (aas aat (pv 0) aae (fun _ _=>rfl))) (acx rfl (aa2 (aam (i:=3) nd rfl (Or.inl rfl)) (aa2 (aam (i:=4) nd rfl (Or.inl rfl)) acb)))
   (aad (abr (adc PySem.F.plainAttrs_list PySem.F.slot_list_append PySem.F.type_list_append abe (am2 (pv 2) (pv 3) (abc aab) ⟨rfl,rfl,rfl,rfl⟩) (aaa (pv 4) aab)))
    (aah (abr (adc PySem.F.plainAttrs_list PySem.F.slot_list_append PySem.F.type_list_append abe (am2 (pv 2) (pv 4) (abc aab) ⟨rfl,rfl,rfl,rfl⟩) (aaa (pv 3) aab))))))
  (aad (aan (i:=5) nd rfl (Or.inl rfl) (aau ao5 (abc (aaa ab7 aab)) (aas aat (pv 0) aae (fun _ _=>rfl))))
  (aad (aan (i:=6) nd rfl (Or.inl rfl) (abc (aaa (pv 1) aab)))
  (aad (acf aae (adz (pv 5) (pv 1) acm))
  (aad (aan (i:=7) nd rfl (Or.inl rfl) aae)
  (aad (ajh PassesOwn.never (aa1 ane (pv 7) (aal abf (by rfl) T.b_len ab9 (aaa (pv 6) aab)) (aaw _))
   (aad (aan (i:=8) nd rfl (Or.inl rfl) (aas aat (pv 6) (pv 7) (fun _ _=>rfl)))
    (aad (aan (i:=7) nd rfl (Or.inl rfl) (aau ab3 (pv 7) aae))
    (aah (acg PassesOwn.never rfl (abt (aq3 (ayu hr) (pv 2) (pv 8) (abc aab) ⟨rfl,rfl,rfl,rfl⟩)) (aam (i:=4) nd rfl (Or.inl rfl))
     (aah (abk (aa1 afa (aas aat (pv 5) (pv 4) (fun _ _=>rfl)) ab7 (aaw _))
       (aad (acf (aau ab3 (aas aat (pv 5) (pv 8) (fun _ _=>rfl)) aae) (adz (pv 5) (pv 4) acm))
        (aah (abr (adc PySem.F.plainAttrs_list PySem.F.slot_list_append PySem.F.type_list_append abe (pv 6) (aaa (pv 4) aab)))))
       aa7)))))))
  (aah (aav (pv 5)))))))))),?_⟩
 refine abb h fun ss Q' q B hK=>?_
 refine exS3 ss q fun n a es q1_=>?_
 have n1:=q1_.1
 have hin:=q1_.2.1
 have hle:=q1_.2.2.1
 have a0:=q1_.2.2.2.1
 have a1:=q1_.2.2.2.2.1
 have k:=q1_.2.2.2.2.2
 clear q1_ q
 show EvS B _ _ [some (.st (webD n es)),some (.st (.int a)),none,none,none,none,none,none,none]
 repeat (first | (refine avv 2 rfl ?_) | row_cond st)
 refine acp (fun i e=>∃ v3 v4 M,e=[some (.st (webD n es)),some (.st (.int a)),some (.own (OKL (kM M))),v3,v4,none,none,none,none]/\KTB (Tied (es.take i)) M (2 * i))
  ⟨none,none,[],rfl,⟨⟨List.nodup_nil,fun k w=>by simp [Tied]⟩,Nat.zero_le _,fun p hp=>by cases hp⟩⟩ ?_ ?_
 ·rintro i ⟨x,y⟩ e hx q0_
  refine exS3 e q0_ fun v3 v4 M q1_=>?_
  have hM:=q1_
  clear q1_ q0_
  have hi:i < es.length:=(List.getElem?_eq_some_iff.mp hx).1
  have hT:=Tied.snoc hx
  row_cond go
  refine agz (T':=fun u v=>Tied (es.take i) u v\/(u=x/\v=y)) hM (by row_cond lo) rfl rfl rfl (fun u v=>Iff.rfl) (fun M1 h1=>?_)
  row_cond go
  refine agz (T':=Tied (es.take (i+1))) h1 (by row_cond lo) rfl rfl rfl hT (fun M2 h2=>?_)
  row_cond go
  exact ⟨_,_,M2,rfl,h2⟩
 ·rintro e q0_
  refine exS3 e q0_ fun v3 v4 M q1_=>?_
  have hM:=q1_
  clear q1_ q0_
  rw [List.take_length] at hM
  obtain ⟨s2,h2e,hs⟩:∃ s2:Sl,(s2=.own (OKL (kM M))\/s2=.st (afg (kvG (kM M))))/\((s2=.own (OKL [])/\kM M=[])\/(s2=.st (afg (kvG (kM M)))/\kM M ≠ [])):=by
   by_cases h:kM M=[]
   ·exact ⟨.own (OKL (kM M)),.inl rfl,.inl ⟨by rw [h],h⟩⟩
   ·exact ⟨_,.inr rfl,.inr ⟨rfl,h⟩⟩
  refine cutR (R:=EvS B ?ts ?Ds [some (.st (webD n es)),some (.st (.int a)),some s2,v3,v4,none,none,none,none]) (fun R=>?K1) ?K2
  case K1 =>
   rcases h2e with rfl | rfl
   ·exact R
   ·exact ami 2 rfl avu R
  case K2 =>
   row_cond go
   refine amh (by row_cond lo) (by row_cond lo) (by simp;row_cond lo) ?_
   rw [aml]
   row_cond go
   refine agm (j:=a.toNat) rfl (by rw [abd];exact ad4 a0 (by row_cond lo)) ?_
   dsimp only [List.set_cons_zero,List.set_cons_succ,reS]
   rw [show (PyData.int 0)=.int ((0:Nat):Int) from rfl,aff a0 (by row_cond lo)]
   row_cond go
   have hall:∀ u v:Int,Tied es u v->0<=v/\v < n:=fun u v h=>(h.in hin).2
   refine ah2 (fun mm e=>∃ v4 v8 line ds at_ far,e=[some (.st (webD n es)),some (.st (.int a)),some s2,v3,v4,some (.own (OL (lab n.toNat far))),some (.own (OL (line.map .int))),some (.st (.int ((at_:Nat):Int))),v8]/\Gr.Bfs (Tied es) a line ds at_/\FarL far line ds/\(∀ v∈line,0<=v/\v < n)/\mm=n.toNat * n.toNat - at_) ⟨_,v4,_,[a],[0],0,_,rfl,Gr.Bfs.start _ _,FarL.start a,fun v hv=>?_,rfl⟩ ?_
   ·have:v=a:=by simpa using hv
    row_cond lo
   rintro mm e q0_
   refine exS6 e q0_ fun v4 v8 line ds at_ far q1_=>?_
   have hB:=q1_.1
   have hF:=q1_.2.1
   have hR:=q1_.2.2.1
   have e3_:=q1_.2.2.2
   clear q1_ q0_
   subst e3_
   row_cond go
   rw [List.length_map]
   refine ab8 (fun h=>?_) (fun h=>?_)
   ·have hal:at_ < line.length:=by row_cond lo
    obtain ⟨here,hat⟩:∃ here,line[at_]?=some here:=⟨_,List.getElem?_eq_getElem hal⟩
    have hix:atI (line.map PyData.int) (at_:Int)=some (.int here):=agr (f:=PyData.int) (adg hat)
    have hh:=hR here (List.mem_of_getElem? hat)
    obtain ⟨ws,hws,hmem⟩:=hM.toKT.look here
    have hq:=Nat.le_trans (afz hB.nd hR) (atp n1)
    repeat (first | (refine aqk rfl hs rfl ?_) | row_cond st)
    rw [hws]
    refine acp (fun j e=>∃ v4 line ds far,e=[some (.st (webD n es)),some (.st (.int a)),some s2,v3,v4,some (.own (OL (lab n.toNat far))),some (.own (OL (line.map .int))),some (.st (.int ((at_:Int)+1))),some (.st (.int here))]/\Gr.Bfs (Tied es) a line ds at_/\FarL far line ds/\(∀ v∈line,0<=v/\v < n)/\line[at_]?=some here/\∀ x∈ws.take j,x∈line) ⟨_,line,ds,far,rfl,hB,hF,hR,hat,fun x hx=>by simp at hx⟩ ?_ ?_
    ·clear hB hF hR hat hix hal hq
     rintro j there e hj q0_
     refine exS4 e q0_ fun v4 line ds far q1_=>?_
     have hB:=q1_.1
     have hF:=q1_.2.1
     have hR:=q1_.2.2.1
     have hat:=q1_.2.2.2.1
     have htk:=q1_.2.2.2.2
     clear q1_ q0_
     have hT:Tied es here there:=(hmem there).mp (List.mem_of_getElem? hj)
     obtain ⟨u0,u1⟩:=hall _ _ hT
     have etk:ws.take (j+1)=ws.take j ++ [there]:=by rw [List.take_add_one,hj];rfl
     have hLB:=Nat.le_trans (afz hB.nd hR) (atp n1)
     have hal:at_ < line.length:=(List.getElem?_eq_some_iff.mp hat).1
     obtain ⟨d,hd⟩:∃ d,ds[at_]?=some d:=⟨_,List.getElem?_eq_getElem (by rw [hB.len];exact hal)⟩
     have hau:atI (lab n.toNat far) there=some (oD (far there)):=agq u0 (by row_cond lo)
     have hap:atI (lab n.toNat far) here=some (.int (d:Int)):=by rw [agq hh.1 (by row_cond lo),hF.at' at_ here d hat hd];rfl
     row_cond go
     rw [amj]
     by_cases hm:there∈line
     ·obtain ⟨q,hq⟩:=List.getElem?_of_mem hm
      have hql:=(List.getElem?_eq_some_iff.mp hq).1
      obtain ⟨dd,e2⟩:∃ dd,ds[q]?=some dd:=⟨_,List.getElem?_eq_getElem (by rw [hB.len];exact hql)⟩
      rw [hF.at' q there dd hq e2]
      refine aby ?_
      row_cond go
      refine ⟨_,line,ds,far,rfl,hB,hF,hR,hat,fun x hx=>?_⟩
      rw [etk] at hx
      rcases List.mem_append.mp hx with hx | hx
      ·exact htk x hx
      ·have:x=there:=by simpa using hx
       rw [this];exact hm
     ·rw [hF.no there hm]
      refine abn ?_
      row_cond go
      refine agm (j:=there.toNat) rfl (by rw [abd];exact ad4 u0 (by row_cond lo)) ?_
      dsimp only [List.set_cons_zero,List.set_cons_succ,reS]
      rw [show (PyData.int ((d:Int)+1))=.int ((d+1:Nat):Int) by simp,aff u0 (by row_cond lo)]
      row_cond go
      refine ⟨_,line ++ [there],ds ++ [d+1],Gr.label far there (d+1),by rw [List.map_append];rfl,hB.add hat hd hT hm,hF.add hB.len hm,fun v hv=>?_,by rw [List.getElem?_append_left hal];exact hat,fun x hx=>?_⟩
      ·rcases List.mem_append.mp hv with hv | hv
       ·exact hR v hv
       ·have:v=there:=by simpa using hv
        rw [this];exact ⟨u0,u1⟩
      ·rw [etk] at hx
       rcases List.mem_append.mp hx with hx | hx
       ·exact List.mem_append.mpr (.inl (htk x hx))
       ·exact List.mem_append.mpr (.inr hx)
    ·rintro e q0_
     refine exS4 e q0_ fun v4 line' ds' far' q1_=>?_
     have hB':=q1_.1
     have hF':=q1_.2.1
     have hR':=q1_.2.2.1
     have hat':=q1_.2.2.2.1
     have htk:=q1_.2.2.2.2
     clear q1_ q0_
     rw [List.take_length] at htk
     have hal:at_ < line'.length:=(List.getElem?_eq_some_iff.mp hat').1
     have hLB:=afz hB'.nd hR'
     exact ⟨n.toNat * n.toNat - (at_+1),by row_cond lo,_,_,line',ds',at_+1,far',rfl,hB'.next hat' fun x hx=>htk x ((hmem x).mpr hx),hF',hR',rfl⟩
   ·have hat:at_=line.length:=by have:=hB.le;row_cond lo
    subst hat
    row_cond go
    rw [ah7 (g:=Gr.farO (Tied es) a) fun v _ _=>hF.fin hB v]
    exact k
end
def asr:VP:=fun ss Q=>∃ (n:Int) (es:List (Int × Int)),ss=[.st (webD n es)]/\1<=n/\n<=100/\InN n es/\es.length<=10000/\∀ b:Bool,(b=true ↔ (es.length:Int)=n - 1/\Joined n es)->Q (.st (.bool b))
section
variable {P:Program} {w:World} {K:PySem.W.Frag} {mg:Str->Option Value} {base:Heap}
theorem sc_is_tree:FnScope ["web","n","ties"] ["web"] (aaf s_is_tree):=⟨rfl,rfl,rfl,by decide +kernel,rfl,by decide +kernel,by decide +kernel⟩
theorem alr (T:Txt K mg):Can P w K mg base "is_tree" 7 ["web"] (spP K (asr)):=by
 obtain ⟨f,fd,D⟩:=T.d_is_tree
 refine D.can (D.fn.ok sc_is_tree (fun vs H Q E h=>lenP h fun ss Q' q=>by obtain ⟨n,es,rfl,n0,n1,hin,hle,k⟩:=q;rfl) (fun cdv A outer s H vs Q E hr h=>?_))
 have nd:=sc_is_tree.nd
 refine ⟨_,(aad (acf (pv 0) (acx rfl (aa2 (aam (i:=1) nd rfl (Or.inl rfl)) (aa2 (aam (i:=2) nd rfl (Or.inl rfl)) acb))))
  (aah (aav (ady (acl as6 (aal abf (by rfl) T.b_len ab9 (aaa (pv 2) aab)) (aau aeo (pv 1) aae) (aaw _)) (aen (aaj (ael T) hr (aaa (pv 0) aab))))))),?_⟩
 refine abb h fun ss Q' q B hK=>?_
 refine exS2 ss q fun n es q1_=>?_
 have n0:=q1_.1
 have n1:=q1_.2.1
 have hin:=q1_.2.2.1
 have hle:=q1_.2.2.2.1
 have k:=q1_.2.2.2.2
 clear q1_ q
 show EvS B _ _ [some (.st (webD n es)),none,none]
 row_cond go
 rw [List.length_map]
 refine ab8 (fun h=>?_) (fun h=>?_)
 ·row_cond go
  refine ⟨n,es,rfl,n0,n1,hin,hle,fun b hb=>?_⟩
  row_cond go
  exact k b (hb.trans ⟨fun q=>⟨h,q⟩,fun q=>q.2⟩)
 ·row_cond go
  exact k false ⟨fun q=>(by cases q),fun q=>absurd q.1 h⟩
end
def aop:VP:=fun ss Q=>∃ (n:Int) (es:List (Int × Int)),ss=[.st (webD n es)]/\1<=n/\n<=100/\InN n es/\es.length<=10000/\((es.length:Int)=n - 1/\Joined n es)/\Q (.st .none)
def IsPt (n:Nat) (m:Int->Int->Int) (a b x:Int):Prop:=(∃ u v:Int,0<=u/\u < n/\0<=v/\v < n/\(m u a < m u b ↔ m v a < m v b)/\m u v=x)/\∀ u v:Int,0<=u->u < n->0<=v->v < n->(m u a < m u b ↔ m v a < m v b)->m u v<=x
def als:VP:=fun ss Q=>∃ (n:Nat) (m:Int->Int->Int) (a b:Int),ss=[.st (.list (matD n m)),.st (prD (a,b))]/\1<=n/\n<=100/\0<=a/\a < n/\0<=b/\b < n/\∀ x,IsPt n m a b x->Q (.st (.int x))
noncomputable def sdF (m:Int->Int->Int) (a b:Int) (u:Nat):Bool:=decide (m (u:Int) a < m (u:Int) b)
theorem ayn {m:Int->Int->Int} {a b:Int} {u v:Nat}:sdF m a b u=sdF m a b v ↔ (m (u:Int) a < m (u:Int) b ↔ m (v:Int) a < m (v:Int) b):=by
 unfold sdF
 rw [Bool.eq_iff_iff]
 simp
theorem av7 {n:Nat} {m:Int->Int->Int} {g:Nat->Bool}:zipD (matD n m) ((List.range n).map fun u => .bool (g u))=(List.range n).map fun (u:Nat) => .tuple [.list (rowD n (m (u:Int))),.bool (g u)]:=by
 unfold zipD matD
 rw [List.zip_map',List.map_map]
 rfl
theorem ass {n:Nat} {r:Int->Int} {g:Nat->Bool}:zipD (rowD n r) ((List.range n).map fun u => .bool (g u))=(List.range n).map fun (v:Nat) => .tuple [.int (r (v:Int)),.bool (g v)]:=by
 unfold zipD rowD
 rw [List.zip_map',List.map_map]
 rfl
noncomputable def ptF (n:Nat) (m:Int->Int->Int) (g:Nat->Bool):List Int:=(List.range n).flatMap fun u=>((List.range n).filter fun v=>g u == g v).map fun (v:Nat)=>m (u:Int) (v:Int)
theorem atq (n:Nat) (m:Int->Int->Int) (g:Nat->Bool):((List.range n).flatMap fun u=>((List.range n).filter fun v=>g u == g v).map fun (v:Nat)=>PyData.int (m (u:Int) (v:Int)))=(ptF n m g).map .int:=by
 unfold ptF
 rw [List.map_flatMap]
 congr 1
 funext x
 rw [List.map_map]
 rfl
theorem ak8 {α:Type} {n:Nat} {f:Nat->List α}:∀ (l:List Nat),(∀ u∈l,(f u).length<=n)->(l.flatMap f).length<=l.length * n
 | [],_=>by simp
 | u :: l,h=>by
  have h1:=h u List.mem_cons_self
  have h2:=ak8 l fun v hv=>h v (List.mem_cons_of_mem _ hv)
  rw [List.flatMap_cons,List.length_append,List.length_cons,Nat.add_mul]
  row_cond lo
theorem av8 {n:Nat} (h:n<=100) (m:Int->Int->Int) (g:Nat->Bool):(ptF n m g).length<=10000:=by
 have:=ak8 (n:=n) (f:=fun u=>((List.range n).filter fun v=>g u == g v).map fun (v:Nat)=>m (u:Int) (v:Int)) (List.range n) fun u _=>by
  rw [List.length_map]
  exact Nat.le_trans (List.length_filter_le _ _) (by simp)
 rw [List.length_range] at this
 exact Nat.le_trans this (Nat.mul_le_mul h h)
theorem ptF_mem {n:Nat} {m:Int->Int->Int} {a b x:Int}:x∈ptF n m (sdF m a b) ↔ ∃ u v:Int,0<=u/\u < n/\0<=v/\v < n/\(m u a < m u b ↔ m v a < m v b)/\m u v=x:=by
 unfold ptF
 simp only [List.mem_flatMap,List.mem_range,List.mem_map,List.mem_filter,beq_iff_eq,ayn]
 constructor
 ·rintro ⟨u,hu,v,⟨hv,q⟩,rfl⟩
  exact ⟨u,v,by row_cond lo,by row_cond lo,by row_cond lo,by row_cond lo,q,rfl⟩
 ·rintro ⟨u,v,u0,u1,v0,v1,q,rfl⟩
  refine ⟨u.toNat,by row_cond lo,v.toNat,⟨by row_cond lo,?_⟩,?_⟩
  ·rw [show ((u.toNat:Nat):Int)=u by row_cond lo,show ((v.toNat:Nat):Int)=v by row_cond lo];exact q
  ·rw [show ((u.toNat:Nat):Int)=u by row_cond lo,show ((v.toNat:Nat):Int)=v by row_cond lo]
theorem atr {n:Nat} {m:Int->Int->Int} {a b x:Int} (h:agd (ptF n m (sdF m a b)) x):IsPt n m a b x :=
 ⟨ptF_mem.mp h.1,fun u v u0 u1 v0 v1 q=>h.2 _ (ptF_mem.mpr ⟨u,v,u0,u1,v0,v1,q,rfl⟩)⟩
theorem ag0 {n:Nat} (hn:1<=n) (m:Int->Int->Int) (a b:Int):∃ x,IsPt n m a b x:=by
 obtain ⟨x,hx⟩:=am4 (ns:=ptF n m (sdF m a b)) fun e=>by
  have:m 0 0∈ptF n m (sdF m a b):=ptF_mem.mpr ⟨0,0,by row_cond lo,by row_cond lo,by row_cond lo,by row_cond lo,Iff.rfl,rfl⟩
  rw [e] at this
  cases this
 exact ⟨x,atr hx⟩
theorem ahn {n:Nat} {m:Int->Int->Int} {a b x y:Int} (h:IsPt n m a b x) (g:IsPt n m a b y):x=y:=by
 obtain ⟨u,v,u0,u1,v0,v1,q,rfl⟩:=h.1
 obtain ⟨u',v',u0',u1',v0',v1',q',rfl⟩:=g.1
 have h1:=g.2 u v u0 u1 v0 v1 q
 have h2:=h.2 u' v' u0' u1' v0' v1' q'
 row_cond lo
section
variable {P:Program} {w:World} {K:PySem.W.Frag} {mg:Str->Option Value} {base:Heap}
theorem sc_need_tree:FnScope ["web"] ["web"] (aaf s_need_tree):=⟨rfl,rfl,rfl,by decide +kernel,rfl,by decide +kernel,by decide +kernel⟩
theorem ai7 (T:Txt K mg):Can P w K mg base "need_tree" 8 ["web"] (spP K (aop)):=by
 obtain ⟨f,fd,D⟩:=T.d_need_tree
 refine D.can (D.fn.ok sc_need_tree (fun vs H Q E h=>lenP h fun ss Q' q=>by obtain ⟨n,es,rfl,n0,n1,hin,hle,hJ,k⟩:=q;rfl) (fun cdv A outer s H vs Q E hr h=>?_))
 have nd:=sc_need_tree.nd
 refine ⟨_,(aah (abk (aem (adi (aaj (alr T) hr (aaa (pv 0) aab))))
   (aah afo)
   aa7)),?_⟩
 refine abb h fun ss Q' q B hK=>?_
 refine exS2 ss q fun n es q1_=>?_
 have n0:=q1_.1
 have n1:=q1_.2.1
 have hin:=q1_.2.2.1
 have hle:=q1_.2.2.2.1
 have hJ:=q1_.2.2.2.2.1
 have k:=q1_.2.2.2.2.2
 clear q1_ q
 show EvS B _ _ [some (.st (webD n es))]
 row_cond go
 refine ⟨n,es,rfl,n0,n1,hin,hle,fun b hb=>?_⟩
 obtain rfl:b=true:=hb.mpr hJ
 row_cond go
 exact k
theorem sc_parted_far:FnScope ["rows","tie","a","b","sides"] ["rows","tie"] (aaf s_parted_far):=⟨rfl,rfl,rfl,by decide +kernel,rfl,by decide +kernel,by decide +kernel⟩
theorem aho (T:Txt K mg):Can P w K mg base "parted_far" 1 ["rows","tie"] (spP K (als)):=by
 obtain ⟨f,fd,D⟩:=T.d_parted_far
 refine D.can (D.fn.ok sc_parted_far (fun vs H Q E h=>lenP h fun ss Q' q=>by obtain ⟨n,m,a,b,rfl,n0,n1,a0,a1,b0,b1,k⟩:=q;rfl) (fun cdv A outer s H vs Q E hr h=>?_))
 have nd:=sc_parted_far.nd
 refine ⟨_,(aad (acf (pv 1) (acx rfl (aa2 (aam (i:=2) nd rfl (Or.inr rfl)) (aa2 (aam (i:=3) nd rfl (Or.inr rfl)) acb))))
  (aad (aan (i:=4) nd rfl (Or.inr rfl) (aea rfl (N:=["row","a","b"]) (src:=[none,some 2,some 3]) (by exact ab0 rfl rfl rfl rfl rfl rfl) (abt (pv 0)) (fun _ _ _ _=>(aam (i:=0) (show List.Nodup (["row","a","b"]:List Str) by decide +kernel) rfl (Or.inl rfl) (hf:=Or.inr rfl))) (fun _ _ _ _=>aco) (fun _ _ _ _=>(acl ane (aas (show IxR _ (ab5 K) from aat) (pv 0) (pv 1) (fun _ _=>rfl)) (aas (show IxR _ (ab5 K) from aat) (pv 0) (pv 2) (fun _ _=>rfl)) (aaw _)))))
  (aah (aav (aal (ah0 rfl) (by rfl) T.b_max aga (aaa (awu rfl (N:=["row","side","far","other","sides"]) (src:=[none,none,none,none,some 4]) (by exact ab0 rfl rfl rfl rfl rfl rfl) (ap2 rfl T.b_zip (aaa (pv 0) (aaa (pv 4) aab))) (fun _ _ _ _=>(show PG _ _ (gTup K 2 (act (aa5 0) (act (aa5 1) gNil))) from (acx rfl (aa2 (aam (i:=0) (show List.Nodup (["row","side","far","other","sides"]:List Str) by decide +kernel) rfl (Or.inl rfl) (hf:=Or.inr rfl)) (aa2 (aam (i:=1) (show List.Nodup (["row","side","far","other","sides"]:List Str) by decide +kernel) rfl (Or.inl rfl) (hf:=Or.inr rfl)) acb))))) (fun _ _ _ _=>aco) (fun _ _ _ _=>(show PI _ _ _ (iZip K _) from ap2 (by rfl) T.b_zip (aaa (pv 0) (aaa (pv 4) aab)))) (fun _ _ _ _=>(show PG _ _ (gTup K 2 (act (aa5 2) (act (aa5 3) gNil))) from (acx rfl (aa2 (aam (i:=2) (show List.Nodup (["row","side","far","other","sides"]:List Str) by decide +kernel) rfl (Or.inl rfl) (hf:=Or.inr rfl)) (aa2 (aam (i:=3) (show List.Nodup (["row","side","far","other","sides"]:List Str) by decide +kernel) rfl (Or.inl rfl) (hf:=Or.inr rfl)) acb))))) (fun _ _ _ _=>ae9 (aa1 as6 (pv 1) (pv 3) (aaw _))) (fun _ _ _ _=>(pv 2))) aab)))))),?_⟩
 refine abb h fun ss Q' q B hK=>?_
 refine exS4 ss q fun n m a b q1_=>?_
 have n0:=q1_.1
 have n1:=q1_.2.1
 have a0:=q1_.2.2.1
 have a1:=q1_.2.2.2.1
 have b0:=q1_.2.2.2.2.1
 have b1:=q1_.2.2.2.2.2.1
 have k:=q1_.2.2.2.2.2.2
 clear q1_ q
 show EvS B _ _ [some (.st (.list (matD n m))),some (.st (prD (a,b))),none,none,none]
 row_cond go
 unfold matD
 refine aej (fun u:Nat => .bool (sdF m a b u)) rfl (by simp;row_cond lo) (fun u hu B' hB=>?_) ?_
 ·have ra:=aqm (r:=m (u:Int)) a0 a1
  have rb:=aqm (r:=m (u:Int)) b0 b1
  row_cond go
  exact rfl
 ·row_cond go
  rw [show ((List.range n).map fun (u:Nat)=>PyData.list (rowD n (m (u:Int))))=matD n m from rfl,av7]
  refine aom (xs:=List.range n) (fun _=>List.range n) (fun u v => .int (m (u:Int) (v:Int))) (fun _ v => .bool (sdF m a b v)) (fun u v => .int (m (u:Int) (v:Int))) (fun u v=>sdF m a b u == sdF m a b v) (ap8 rfl) ?_ ?_ ?_ ?_
  ·rw [atq,List.length_map]
   have:=av8 n1 m (sdF m a b)
   row_cond lo
  ·intro u hu B' hB o o'
   row_cond go
   rw [ass]
   exact ⟨rfl,rfl⟩
  ·intro u hu v hv B' hB
   row_cond go
   intro _
   row_cond go
   exact rfl
  ·rw [atq]
   row_cond go
   refine akj ?_ fun x hx=>?_
   ·intro e
    have:m 0 0∈ptF n m (sdF m a b):=ptF_mem.mpr ⟨0,0,by row_cond lo,by row_cond lo,by row_cond lo,by row_cond lo,Iff.rfl,rfl⟩
    rw [e] at this
    cases this
   ·row_cond go
    exact k x (atr hx)
def IsPart (n:Int) (es:List (Int × Int)) (z:Z3):Prop:=∃ xs:List Z3,(∀ t:Int × Int,t∈es->∃ x,(x,t)∈xs)/\(∀ y∈xs,y.2∈es/\IsPt n.toNat (dsF es) y.2.1 y.2.2 y.1)/\z∈xs/\∀ y∈xs,¬ lt3 y z
def PartD (n:Int) (es:List (Int × Int)) (D:PyData):Prop:=(es=[]/\D=.none)\/∃ z,IsPart n es z/\D=z3D z
def aqp:VP:=fun ss Q=>∃ (n:Int) (es:List (Int × Int)),ss=[.st (webD n es)]/\1<=n/\n<=100/\InN n es/\es.length<=10000/\((es.length:Int)=n - 1/\Joined n es)/\∀ D,PartD n es D->Q (.st D)
theorem sc_parting_tie:FnScope ["web","rows"] ["web"] (aaf s_parting_tie):=⟨rfl,rfl,rfl,by decide +kernel,rfl,by decide +kernel,by decide +kernel⟩
theorem adw (T:Txt K mg):Can P w K mg base "parting_tie" 9 ["web"] (spP K (aqp)):=by
 obtain ⟨f,fd,D⟩:=T.d_parting_tie
 refine D.can (D.fn.ok sc_parting_tie (fun vs H Q E h=>lenP h fun ss Q' q=>by obtain ⟨n,es,rfl,n0,n1,hin,hle,hJ,k⟩:=q;rfl) (fun cdv A outer s H vs Q E hr h=>?_))
 have nd:=sc_parting_tie.nd
 refine ⟨_,(aad (abr (aaj (ai7 T) hr (aaa (pv 0) aab)))
  (aad (aan (i:=1) nd rfl (Or.inr rfl) (aaj (ak5 T) hr (aaa (pv 0) aab)))
  (aah (aav (auc hr.units rfl (by rfl) T.b_min (aaa (aea rfl (N:=["tie","rows"]) (src:=[none,some 1]) (by exact ab0 rfl rfl rfl rfl rfl rfl) (abt (aas aat (pv 0) aae (fun _ _=>rfl))) (fun _ _ _ _=>(aam (i:=0) (show List.Nodup (["tie","rows"]:List Str) by decide +kernel) rfl (Or.inl rfl) (hf:=Or.inr rfl))) (fun _ _ _ _=>aco) (fun _ _ _ _=>(ach (aaa (aaj (aho T) hr (aaa (pv 1) (aaa (pv 0) aab))) (aaa (pv 0) aab))))) aab) ab7))))),?_⟩
 refine abb h fun ss Q' q B hK=>?_
 refine exS2 ss q fun n es q1_=>?_
 have n0:=q1_.1
 have n1:=q1_.2.1
 have hin:=q1_.2.2.1
 have hle:=q1_.2.2.2.1
 have hJ:=q1_.2.2.2.2.1
 have k:=q1_.2.2.2.2.2
 clear q1_ q
 show EvS B _ _ [some (.st (webD n es)),none]
 row_cond go
 refine ⟨n,es,rfl,n0,n1,hin,hle,hJ,?_⟩
 row_cond go
 refine ⟨n,es,rfl,n0,n1,hin,hle,hJ.2,ad6 adm ?_⟩
 row_cond go
 obtain ⟨pf,hpf⟩:∃ pf:Int × Int->Int,∀ t,IsPt n.toNat (dsF es) t.1 t.2 (pf t):=⟨fun t=>Classical.choose (ag0 (n:=n.toNat) (by row_cond lo) (dsF es) t.1 t.2),fun t=>Classical.choose_spec (ag0 (n:=n.toNat) (by row_cond lo) (dsF es) t.1 t.2)⟩
 refine agi ?_
 row_cond go
 refine aej (xs:=es) (fun t:Int × Int=>z3D (pf t,t)) rfl (by row_cond lo) (fun t ht B' hB=>?_) ?_
 ·have hq:=hin t ht
  row_cond go
  refine ⟨n.toNat,dsF es,t.1,t.2,rfl,by row_cond lo,by row_cond lo,by row_cond lo,by row_cond lo,by row_cond lo,by row_cond lo,fun x hx=>?_⟩
  row_cond go
  rw [ahn hx (hpf t)]
  exact ⟨rfl,rfl⟩
 ·row_cond go
  rw [show es.map (fun t:Int × Int=>z3D (pf t,t))=(es.map fun t=>((pf t,t):Z3)).map z3D by rw [List.map_map];rfl]
  refine asf (fun e=>?_) fun z hz hm=>?_
  ·row_cond go
   exact k _ (.inl ⟨List.map_eq_nil_iff.mp e,rfl⟩)
  ·row_cond go
   refine k _ (.inr ⟨z,⟨_,fun t ht=>⟨pf t,List.mem_map.mpr ⟨t,ht,rfl⟩⟩,fun y hy=>?_,hz,hm⟩,rfl⟩)
   obtain ⟨t,ht,rfl⟩:=List.mem_map.mp hy
   exact ⟨ht,hpf t⟩
end
mutual
noncomputable def fewD:PyData->Bool
 | .list xs | .tuple xs=>decide (xs.length<=1000) && fewDs xs
 | _=>true
noncomputable def fewDs:List PyData->Bool
 | []=>true
 | x :: xs=>fewD x && fewDs xs
end
theorem aqq (ds:List PyData):fewDs ds=true ↔ ∀ d∈ds,fewD d=true:=by
 induction ds with
 | nil=>simp [fewDs]
 | cons d ds ih=>simp [fewDs,ih]
theorem aqr {ds:List PyData} (h:(decide (ds.length<=1000) && fewDs ds)=true):ds.length<=1000/\∀ d∈ds,fewD d=true:=by
 have:ds.length<=1000/\fewDs ds=true:=by simpa using h
 exact ⟨this.1,(aqq ds).mp this.2⟩
theorem af1:∀ (ds:List PyData) (d:PyData),d∈ds->d.depth<=PyData.depthAll ds
 | x :: xs,d,h=>by
  have e:PyData.depthAll (x :: xs)=max x.depth (PyData.depthAll xs):=by simp [PyData.depthAll]
  rw [e]
  rcases List.mem_cons.mp h with rfl | h
  ·exact Nat.le_max_left _ _
  ·exact Nat.le_trans (af1 xs d h) (Nat.le_max_right _ _)
theorem ak9 {α:Type} (l:List α):l.filter (fun _=>false)=[]:=List.filter_eq_nil_iff.mpr fun _ _=>by simp
def ayo (d:Nat):VP:=fun ss Q=>∃ D:PyData,ss=[.st D,.st D]/\aai D=true/\D.depth+1<=d/\D.depth<=60/\fewD D=true/\Q (.st (.bool true))
section
variable {P:Program} {w:World} {K:PySem.W.Frag} {mg:Str->Option Value} {base:Heap}
theorem sc_law_same:FnScope ["found","due"] ["found","due"] (aaf s_law_same):=⟨rfl,rfl,rfl,by decide +kernel,rfl,by decide +kernel,by decide +kernel⟩
theorem ala (T:Txt K mg):∀ d,Can P w K mg base "_law_same" d ["found","due"] (spP K (ayo d)):=by
 intro d
 obtain ⟨f,fd,D⟩:=T.d_law_same
 induction d with
 | zero => exact D.can ⟨fun vs H Q E h => (by obtain ⟨G, ss, Q', _, _, _, q, _⟩:=h; obtain ⟨D, _, _, h0, _⟩:=q; row_cond lo), fun A outer s H args us vs Q E _ _ _ _ h => (by obtain ⟨G, ss, Q', _, _, _, q, _⟩:=h; obtain ⟨D, _, _, h0, _⟩:=q; row_cond lo)⟩
 | succ d ih =>
  refine D.can (D.fn.ok sc_law_same (fun vs H Q E h=>lenP h fun ss Q' q=>by obtain ⟨D,rfl,_⟩:=q;rfl) (fun cdv A outer s H vs Q E hr h=>?_))
  have nd:=sc_law_same.nd
  refine ⟨_,(aad (abk (adi (aal apm (by rfl) T.b_isinstance aax (aaa (pv 1) (aaa (ach (aaa (abi (v:=.ty "list") rfl T.b_list ad1 rfl) (aaa (abi (v:=.ty "tuple") rfl T.b_tuple afq rfl) aab))) aab))))
   (aad (abk (PW.pt (am7 (aa1 anc (aal abo (by rfl) T.b_isinstance aax (aaa (pv 0) (aaa (abi (v:=.ty "tuple") rfl T.b_tuple afq rfl) aab))) (aal abo (by rfl) T.b_isinstance aax (aaa (pv 1) (aaa (abi (v:=.ty "tuple") rfl T.b_tuple afq rfl) aab))) (aaw _)) (aou (aa1 anc (aal abo (by rfl) T.b_isinstance aax (aaa (pv 0) (aaa (abi (v:=.ty "list") rfl T.b_list ad1 rfl) aab))) (aal abo (by rfl) T.b_isinstance aax (aaa (pv 1) (aaa (abi (v:=.ty "list") rfl T.b_list ad1 rfl) aab))) (aaw _)))))
     (aah (aav ai8))
     aa7)
    (aad (abk (aa1 anc (aal abf (by rfl) T.b_len ab9 (aaa (pv 0) aab)) (aal abf (by rfl) T.b_len ab9 (aaa (pv 1) aab)) (aaw _))
     (aah (aav ai8))
     aa7)
    (aah (aav (acl (ajw hr.units) (aea rfl (N:=["k","found","due"]) (src:=[none,some 0,some 1]) (by exact ab0 rfl rfl rfl rfl rfl rfl) (acd rfl T.b_range (aaa (aal abf (by rfl) T.b_len ab9 (aaa (pv 1) aab)) aab)) (fun _ _ _ _=>(aam (i:=0) (show List.Nodup (["k","found","due"]:List Str) by decide +kernel) rfl (Or.inl rfl) (hf:=Or.inr rfl))) (fun _ _ _ _=>ae9 (aem (adi (aaj ih hr (aaa (aas (show IxR _ (ab5 K) from aat) (pv 1) (pv 0) (fun _ _=>rfl)) (aaa (aas (show IxR _ (ab5 K) from aat) (pv 2) (pv 0) (fun _ _=>rfl)) aab)) (hj:=Nat.le_refl _))))) (fun _ _ _ _=>(pv 0))) (abc aab) (aaw _))))))
   aa7)
  (aad (abk (adi (aal abo (by rfl) T.b_isinstance aax (aaa (pv 1) (aaa (abi (v:=.ty "str") rfl T.b_str aph rfl) aab))))
   (aah (aav (ady (aal abo (by rfl) T.b_isinstance aax (aaa (pv 0) (aaa (abi (v:=.ty "str") rfl T.b_str aph rfl) aab))) (aen (acl (ajw hr.units) (pv 0) (pv 1) (aaw _))))))
   aa7)
  (aad (abk (aa1 afa (pv 1) ab7 (aaw _))
   (aah (aav (acl afa (pv 0) ab7 (aaw _))))
   aa7)
  (aah (aav (ady (aal abo (by rfl) T.b_isinstance aax (aaa (pv 0) (aaa (abi (v:=.ty "int") rfl T.b_int apg rfl) aab))) (ady (aov (aal abo (by rfl) T.b_isinstance aax (aaa (pv 0) (aaa (abi (v:=.ty "bool") rfl T.b_bool al5 rfl) aab)))) (aen (acl (ajw hr.units) (pv 0) (pv 1) (aaw _)))))))))),?_⟩
  refine abb h fun ss Q' q B hK=>?_
  refine exS1 ss q fun D q1_=>?_
  have pl:=q1_.1
  have hd:=q1_.2.1
  have hd6:=q1_.2.2.1
  have hfew:=q1_.2.2.2.1
  have k:=q1_.2.2.2.2
  clear q1_ q
  show EvS B _ _ [some (.st D),some (.st D)]
  repeat (first | (refine avx ?_) | row_cond st)
  cases D with
  | none =>
   refine aby ?_
   row_cond go
   refine aby ?_
   row_cond go
   refine abn ?_
   row_cond go
   exact k
  | int i =>
   refine aby ?_
   row_cond go
   refine aby ?_
   row_cond go
   refine aby ?_
   row_cond go
   refine abn ?_
   row_cond go
   refine abn ?_
   row_cond go
   refine ahd rfl rfl (by simp [PyData.depth]) ?_
   rw [show PyData.eqv (.int i) (.int i)=true by simp [PyData.eqv]]
   row_cond go
   exact k
  | tuple ds =>
   refine abn ?_
   have hf:=aqr (ds:=ds) (by simpa [fewD] using hfew)
   have hl:=hf.1
   have hpd:=(acv ds).mp (by simpa [aai] using pl)
   have hdd:PyData.depthAll ds+1<=d/\PyData.depthAll ds<=59:=by simp only [PyData.depth] at hd hd6;row_cond lo
   row_cond go
   refine aeg (fun d=>d) (fun _=>false) rfl (by rw [abq];row_cond lo) (fun z hz B' hB'=>?_) ?_
   ·obtain ⟨j,hj⟩:=List.getElem?_of_mem hz
    obtain ⟨hi,rfl⟩:=adn hj
    have hi':j < ds.length:=by row_cond lo
    have hat:atI ds (0+(j:Int))=some ds[j]:=by rw [Int.zero_add];exact adg (List.getElem?_eq_getElem hi')
    have hdi:=af1 ds ds[j] (List.getElem_mem hi')
    row_cond go
    refine ⟨ds[j],rfl,hpd _ (List.getElem_mem hi'),by row_cond lo,by row_cond lo,hf.2 _ (List.getElem_mem hi'),?_⟩
    row_cond go
    exact fun q=>by cases q
   ·rw [ak9]
    row_cond go
    refine ahd rfl rfl (by simp [PyData.depth,PyData.depthAll]) ?_
    row_cond go
    exact k
  | list ds =>
   refine abn ?_
   have hf:=aqr (ds:=ds) (by simpa [fewD] using hfew)
   have hl:=hf.1
   have hpd:=(acv ds).mp (by simpa [aai] using pl)
   have hdd:PyData.depthAll ds+1<=d/\PyData.depthAll ds<=59:=by simp only [PyData.depth] at hd hd6;row_cond lo
   row_cond go
   refine aeg (fun d=>d) (fun _=>false) rfl (by rw [abq];row_cond lo) (fun z hz B' hB'=>?_) ?_
   ·obtain ⟨j,hj⟩:=List.getElem?_of_mem hz
    obtain ⟨hi,rfl⟩:=adn hj
    have hi':j < ds.length:=by row_cond lo
    have hat:atI ds (0+(j:Int))=some ds[j]:=by rw [Int.zero_add];exact adg (List.getElem?_eq_getElem hi')
    have hdi:=af1 ds ds[j] (List.getElem_mem hi')
    row_cond go
    refine ⟨ds[j],rfl,hpd _ (List.getElem_mem hi'),by row_cond lo,by row_cond lo,hf.2 _ (List.getElem_mem hi'),?_⟩
    row_cond go
    exact fun q=>by cases q
   ·rw [ak9]
    row_cond go
    refine ahd rfl rfl (by simp [PyData.depth,PyData.depthAll]) ?_
    row_cond go
    exact k
  | _=>cases pl
end
def IsLs (n:Int) (T:Int->Int->Prop) (x:Int):Prop:=(∃ (u v:Int) (d:Nat),0<=u/\u < n/\0<=v/\v < n/\Gr.farO T u v=some d/\x=(d:Int))/\∀ (u v:Int) (d:Nat),0<=u->u < n->0<=v->v < n->Gr.farO T u v=some d->(d:Int)<=x
def aqs:VP:=fun ss Q=>∃ (n:Int) (es:List (Int × Int)) (t:Int × Int),ss=[.st (webD n es),.st (prD t)]/\1<=n/\n<=100/\InN n es/\es.length<=10000/\∀ x,IsLs n (Tied (aa4 es t)) x->Q (.st (.int x))
noncomputable def oI:Option Nat->Option Int
 | none=>none
 | some d=>some (d:Int)
noncomputable def adx (n:Nat) (far:Int->Option Nat):List Int:=(List.range n).filterMap fun (i:Nat)=>oI (far (i:Int))
theorem av9 (n:Nat) (far:Int->Option Nat):(lab n far).filter (fun d => !isNone d)=(adx n far).map .int:=by
 unfold lab adx
 induction List.range n with
 | nil=>rfl
 | cons i l ih =>
  rw [List.map_cons,List.filterMap_cons]
  cases e:far (i:Int) with
  | none=>rw [List.filter_cons_of_neg (by simp [oD,isNone]),ih];rfl
  | some d=>rw [List.filter_cons_of_pos (by simp [oD,isNone]),ih];rfl
theorem numsO_mem {n:Nat} {far:Int->Option Nat} {x:Int}:x∈adx n far ↔ ∃ (v:Int) (d:Nat),0<=v/\v < n/\far v=some d/\x=(d:Int):=by
 unfold adx
 simp only [List.mem_filterMap,List.mem_range]
 constructor
 ·rintro ⟨i,hi,e⟩
  cases ef:far (i:Int) with
  | none=>rw [ef] at e;cases e
  | some d =>
   rw [ef] at e
   cases e
   exact ⟨i,d,by row_cond lo,by row_cond lo,ef,rfl⟩
 ·rintro ⟨v,d,v0,v1,e,rfl⟩
  exact ⟨v.toNat,by row_cond lo,by rw [show ((v.toNat:Nat):Int)=v by row_cond lo,e];rfl⟩
theorem aqt (n:Nat) (far:Int->Option Nat):(adx n far).length<=n:=by
 unfold adx
 have:=List.length_filterMap_le (fun (i:Nat)=>oI (far (i:Int))) (List.range n)
 simpa using this
theorem ast (es:List (Int × Int)) (t:Int × Int):((es.map prD).filter fun d => !PyData.eqv d (prD t))=(aa4 es t).map prD:=by
 unfold aa4
 rw [List.filter_map]
 congr 1
 refine List.filter_congr fun p _=>?_
 show (!PyData.eqv (prD p) (prD t))=_
 rw [avc]
theorem awa {n:Int} {es:List (Int × Int)} {t:Int × Int} (h:InN n es):InN n (aa4 es t):=fun p hp=>h p (lessE_mem.mp hp).1
theorem asu (es:List (Int × Int)) (t:Int × Int):(aa4 es t).length<=es.length:=List.length_filter_le _ _
section
variable {P:Program} {w:World} {K:PySem.W.Frag} {mg:Str->Option Value} {base:Heap}
theorem sc_law_parted:FnScope ["web","tie","less","found","a"] ["web","tie"] (aaf s_law_parted):=⟨rfl,rfl,rfl,by decide +kernel,rfl,by decide +kernel,by decide +kernel⟩
theorem ahp (T:Txt K mg):Can P w K mg base "_law_parted" 3 ["web","tie"] (spP K (aqs)):=by
 obtain ⟨f,fd,D⟩:=T.d_law_parted
 refine D.can (D.fn.ok sc_law_parted (fun vs H Q E h=>lenP h fun ss Q' q=>by obtain ⟨n,es,t,rfl,n0,n1,hin,hle,k⟩:=q;rfl) (fun cdv A outer s H vs Q E hr h=>?_))
 have nd:=sc_law_parted.nd
 refine ⟨_,(aad (aan (i:=2) nd rfl (Or.inl rfl) (ach (aaa (aas aat (pv 0) aae (fun _ _=>rfl)) (aaa (aea rfl (N:=["one","tie"]) (src:=[none,some 1]) (by exact ab0 rfl rfl rfl rfl rfl rfl) (abt (aas aat (pv 0) aae (fun _ _=>rfl))) (fun _ _ _ _=>(aam (i:=0) (show List.Nodup (["one","tie"]:List Str) by decide +kernel) rfl (Or.inl rfl) (hf:=Or.inr rfl))) (fun _ _ _ _=>ae9 (aa1 (ajx hr.units) (pv 0) (pv 1) (aaw _))) (fun _ _ _ _=>(pv 0))) aab))))
  (aad (aan (i:=3) nd rfl (Or.inl rfl) aae)
  (aad (acg PassesOwn.never rfl (acd rfl T.b_range (aaa (aas aat (pv 0) aae (fun _ _=>rfl)) aab)) (aam (i:=4) nd rfl (Or.inl rfl))
   (aah (aan (i:=3) nd rfl (Or.inl rfl) (aal (ah0 rfl) (by rfl) T.b_max aga (aaa (aau awr (abc (aaa (pv 3) aab)) (aea rfl (N:=["far"]) (src:=[none]) (by exact ab0 rfl rfl rfl rfl rfl rfl) (abt (aaj (af0 T) hr (aaa (pv 2) (aaa (pv 4) aab)))) (fun _ _ _ _=>(aam (i:=0) (show List.Nodup (["far"]:List Str) by decide +kernel) rfl (Or.inl rfl) (hf:=Or.inr rfl))) (fun _ _ _ _=>ae9 (aa1 arc (pv 0) ab7 (aaw _))) (fun _ _ _ _=>(pv 0)))) aab)))))
  (aah (aav (pv 3)))))),?_⟩
 refine abb h fun ss Q' q B hK=>?_
 refine exS3 ss q fun n es t q1_=>?_
 have n0:=q1_.1
 have n1:=q1_.2.1
 have hin:=q1_.2.2.1
 have hle:=q1_.2.2.2.1
 have k:=q1_.2.2.2.2
 clear q1_ q
 show EvS B _ _ [some (.st (webD n es)),some (.st (prD t)),none,none,none]
 row_cond go
 refine aeg (fun d=>d) (fun d => !PyData.eqv d (prD t)) rfl (by rw [List.length_map];row_cond lo) (fun d hd B' hB=>?_) ?_
 ·obtain ⟨p,hp,rfl⟩:=List.mem_map.mp hd
  row_cond go
  refine ahe (aia _) (aia _) (Nat.le_trans (aib _) (by decide)) ?_
  row_cond go
  intro _
  row_cond go
  exact rfl
 ·rw [ast,List.map_id']
  have hin':=awa (t:=t) hin
  have hle':=Nat.le_trans (asu es t) hle
  row_cond go
  refine afv (fun i e=>∃ v4 f,e=[some (.st (webD n es)),some (.st (prD t)),some (.st (webD n (aa4 es t))),some (.st (.int f)),v4]/\(∃ (u v:Int) (d:Nat),0<=u/\u < n/\0<=v/\v < n/\Gr.farO (Tied (aa4 es t)) u v=some d/\f=(d:Int))/\∀ (u v:Int) (d:Nat),0<=u->u < (i:Int)->0<=v->v < n->Gr.farO (Tied (aa4 es t)) u v=some d->(d:Int)<=f) ⟨_,0,rfl,⟨0,0,0,by row_cond lo,by row_cond lo,by row_cond lo,by row_cond lo,Gr.farO_self,rfl⟩,fun u v d u0 u1=>by row_cond lo⟩ ?_ ?_
  ·rintro i e hi ⟨v4,f,rfl,⟨u',v',d',a1,a2,a3,a4,a5,rfl⟩,hmx⟩
   row_cond go
   refine ⟨n,0+(i:Int),aa4 es t,rfl,n1,hin',hle',by row_cond lo,by row_cond lo,adf ?_⟩
   row_cond go
   refine aeg (fun d=>d) (fun d => !isNone d) rfl (by rw [abd];row_cond lo) (fun d hd B' hB=>?_) ?_
   ·row_cond go
    intro _
    row_cond go
    exact rfl
   ·rw [av9,List.map_id']
    have hnl:=aqt n.toNat (Gr.farO (Tied (aa4 es t)) (0+(i:Int)))
    row_cond go
    rw [show [PyData.int (d':Int)] ++ (adx n.toNat (Gr.farO (Tied (aa4 es t)) (0+(i:Int)))).map PyData.int=((d':Int) :: adx n.toNat (Gr.farO (Tied (aa4 es t)) (0+(i:Int)))).map .int from rfl]
    refine akj (List.cons_ne_nil _ _) fun x hx=>?_
    row_cond go
    have h0:=hx.2 (d':Int) List.mem_cons_self
    refine ⟨_,x,rfl,?_,fun u v d u0 u1 v0 v1 q=>?_⟩
    ·rcases List.mem_cons.mp hx.1 with rfl | hm
     ·exact ⟨u',v',d',a1,a2,a3,a4,a5,rfl⟩
     ·obtain ⟨v,d,v0,v1,e,rfl⟩:=numsO_mem.mp hm
      exact ⟨0+(i:Int),v,d,by row_cond lo,by row_cond lo,v0,by row_cond lo,e,rfl⟩
    ·by_cases hu:u < (i:Int)
     ·have:=hmx u v d u0 hu v0 v1 q
      row_cond lo
     ·obtain rfl:u=0+(i:Int):=by row_cond lo
      exact hx.2 _ (List.mem_cons_of_mem _ (numsO_mem.mpr ⟨v,d,v0,by row_cond lo,q,rfl⟩))
  ·rintro e q0_
   refine exS2 e q0_ fun v4 f q1_=>?_
   have h1:=q1_.1
   have h2:=q1_.2
   clear q1_ q0_
   row_cond go
   exact k f ⟨h1,fun u v d u0 u1 v0 v1 q=>h2 u v d u0 (by row_cond lo) v0 v1 q⟩
end
def aoq (K:PySem.W.Frag):Sp:=fun vs H Q _=>∃ (a:Addr) (ns:List Int),vs=[.ref a]/\SqL K H a (ns.map V.int)/\ns.length<=63/\∀ H',Q (.bl true) H'
def ats:VP:=fun ss Q=>∃ ns:List Int,ss=[.scr ns]/\ns.length<=63/\Q (.st (.bool true))
theorem asv {K:PySem.W.Frag} {vs:List V} {H:Hp} {Q:VK} {E:XK} (h:aoq K vs H Q E):spP K ats vs H Q E:=by
 obtain ⟨a,ns,rfl,hS,hl,k⟩:=h
 refine ⟨H,[.scr ns],fun s=>s=.st (.bool true),Same.refl _,fun a ks h=>h,.cons ⟨a,rfl,hS⟩ .nil,⟨ns,rfl,hl,rfl⟩,fun s e v G' H' Fv o=>?_⟩
 subst e
 have r:=o.ok.1
 cases r
 exact k _
theorem webP (n:Int) (es:List (Int × Int)):aai (webD n es)=true:=by
 have:=aob es
 simp only [webD,aai,plainDs,this,Bool.and_self]
theorem azj (n:Int) (es:List (Int × Int)):(webD n es).depth<=60:=by
 have h:PyData.depthAll (es.map prD)<=1:=alj fun d hd=>by
  obtain ⟨p,_,rfl⟩:=List.mem_map.mp hd
  exact aib p
 simp only [webD,PyData.depth,PyData.depthAll]
 row_cond lo
theorem awb {n:Int} {T:Int->Int->Prop} {x y:Int} (h:IsLs n T x) (g:IsLs n T y):x=y:=by
 obtain ⟨u,v,d,u0,u1,v0,v1,e,rfl⟩:=h.1
 obtain ⟨u',v',d',u0',u1',v0',v1',e',rfl⟩:=g.1
 have h1:=g.2 u v d u0 u1 v0 v1 e
 have h2:=h.2 u' v' d' u0' u1' v0' v1' e'
 row_cond lo
theorem azk {n:Int} {es:List (Int × Int)} {t:Int × Int} {x:Int} (h:TreeW n es) (ht:t∈es) (hx:IsPt n.toNat (dsF es) t.1 t.2 x):IsLs n (Tied (aa4 es t)) x:=by
 have hn:=h.web.lo
 have hJ:Joined n es:=h.conn.joined (by row_cond lo)
 have hin:=h.inn
 obtain ⟨a,b⟩:=t
 have hab:=hin _ ht
 simp only at hab hx
 have ds:∀ u v:Int,0<=u->u < n->0<=v->v < n->∃ d:Nat,Gr.Dist (Tied es) u v d/\dsF es u v=(d:Int):=fun u v u0 u1 v0 v1=>by
  obtain ⟨d,e⟩:=agx hJ u0 u1 v0 v1
  exact ⟨d,Gr.farO_some.mp e,by simp only [dsF,e,Option.getD_some]⟩
 constructor
 ·obtain ⟨u,v,u0,u1,v0,v1,q,rfl⟩:=hx.1
  have u1:u < n:=by row_cond lo
  have v1:v < n:=by row_cond lo
  obtain ⟨ua,hua,e1⟩:=ds u a u0 u1 hab.1 hab.2.1
  obtain ⟨ub,hub,e2⟩:=ds u b u0 u1 hab.2.2.1 hab.2.2.2
  obtain ⟨va,hva,e3⟩:=ds v a v0 v1 hab.1 hab.2.1
  obtain ⟨vb,hvb,e4⟩:=ds v b v0 v1 hab.2.2.1 hab.2.2.2
  obtain ⟨d,hd,e5⟩:=ds u v u0 u1 v0 v1
  rw [e1,e2,e3,e4] at q
  have:=(ak0 hn hin h.len h.conn ht u0 u1 v0 v1 hua hub hva hvb hd).1 (by row_cond lo)
  exact ⟨u,v,d,u0,u1,v0,v1,Gr.farO_some.mpr this,e5⟩
 ·intro u v d' u0 u1 v0 v1 e
  obtain ⟨ua,hua,e1⟩:=ds u a u0 u1 hab.1 hab.2.1
  obtain ⟨ub,hub,e2⟩:=ds u b u0 u1 hab.2.2.1 hab.2.2.2
  obtain ⟨va,hva,e3⟩:=ds v a v0 v1 hab.1 hab.2.1
  obtain ⟨vb,hvb,e4⟩:=ds v b v0 v1 hab.2.2.1 hab.2.2.2
  obtain ⟨d,hd,e5⟩:=ds u v u0 u1 v0 v1
  have hp:=ak0 hn hin h.len h.conn ht u0 u1 v0 v1 hua hub hva hvb hd
  have hd':=Gr.farO_some.mp e
  have hq:ua < ub ↔ va < vb:=Classical.byContradiction fun hq=>hp.2 (by row_cond lo) d' hd'.1
  rw [hd'.uniq (hp.1 hq),← e5]
  exact hx.2 u v u0 (by row_cond lo) v0 (by row_cond lo) (by rw [e1,e2,e3,e4];row_cond lo)
theorem aqu {n:Int} {es:List (Int × Int)} {y z:Z3} (h:IsPart n es y) (g:IsPart n es z):y=z:=by
 obtain ⟨xs,h1,h2,h3,h4⟩:=h
 obtain ⟨zs,g1,g2,g3,g4⟩:=g
 have hy:y∈zs:=by
  obtain ⟨x,hx⟩:=g1 y.2 (h2 y h3).1
  have e:=ahn (g2 _ hx).2 (h2 y h3).2
  have:(x,y.2)=y:=Prod.ext e rfl
  rwa [this] at hx
 have hz:z∈xs:=by
  obtain ⟨x,hx⟩:=h1 z.2 (g2 z g3).1
  have e:=ahn (h2 _ hx).2 (g2 z g3).2
  have:(x,z.2)=z:=Prod.ext e rfl
  rwa [this] at hx
 rcases avh y z with q | q | q
 ·exact absurd q (g4 y hy)
 ·exact q
 ·exact absurd q (h4 z hz)
theorem PartD.uniq {n:Int} {es:List (Int × Int)} {D E:PyData} (h:PartD n es D) (g:PartD n es E):D=E:=by
 rcases h with ⟨e,rfl⟩ | ⟨y,hy,rfl⟩ <;> rcases g with ⟨e',rfl⟩ | ⟨z,hz,rfl⟩
 ·rfl
 ·obtain ⟨xs,_,h2,h3,_⟩:=hz
  have:=(h2 z h3).1
  rw [e] at this
  cases this
 ·obtain ⟨xs,_,h2,h3,_⟩:=hy
  have:=(h2 y h3).1
  rw [e'] at this
  cases this
 ·rw [aqu hy hz]
theorem PartD.ok {n:Int} {es:List (Int × Int)} {D:PyData} (h:PartD n es D):aai D=true/\D.depth+1<=3/\D.depth<=60/\fewD D=true:=by
 rcases h with ⟨_,rfl⟩ | ⟨⟨a,b,c⟩,_,rfl⟩
 ·exact ⟨rfl,by simp [PyData.depth],by simp [PyData.depth],rfl⟩
 ·exact ⟨rfl,by simp [PyData.depth,PyData.depthAll],by simp [PyData.depth,PyData.depthAll],by simp [fewD,fewDs]⟩
section
variable {P:Program} {w:World} {K:PySem.W.Frag} {mg:Str->Option Value} {base:Heap}
theorem sc_law:FnScope ["script","at","store","web","handed","due"] ["script"] (aaf s_law):=⟨rfl,rfl,rfl,by decide +kernel,rfl,by decide +kernel,by decide +kernel⟩
theorem awc (T:Txt K mg) {f:Addr} {fd:FuncData} (D:DefAt K mg "law" s_law ["script"] f fd):FnOk P w K mg base CX0 10 f fd ["script"] (spP K (ats)):=by
 refine D.fn.ok sc_law (fun vs H Q E h=>lenP h fun ss Q' q=>by obtain ⟨ns,rfl,hns,kk⟩:=q;rfl) (fun cdv A outer s H vs Q E hr h=>?_)
 have nd:=sc_law.nd
 refine ⟨_,(aad (acg PassesOwn.never rfl (acd rfl T.b_range (aaa (aal (ade rfl) (by rfl) T.b_min aes (aaa (aal (af9 rfl) (by rfl) T.b_max aga (aaa (aal abf (by rfl) T.b_len ab9 (aaa (pv 0) aab)) (aaa aae aab))) (aaa aae aab))) aab)) (aam (i:=1) nd rfl (Or.inl rfl))
   (aad (aan (i:=2) nd rfl (Or.inl rfl) (aaj (ai5 T) hr (aaa (aaj (ak6 T) hr (aaa (pv 0) (aaa (pv 1) aab))) aab)))
    (aad (aan (i:=3) nd rfl (Or.inr rfl) (aaj (ak7 T) hr (aaa (pv 2) aab)))
    (aad (abk (PW.pt (awi (aa1 af2 (aas aat (pv 3) aae (fun _ _=>rfl)) aae (aaw _)) (atw (aa1 af2 (aaj (aay T) hr (aaa (pv 2) (aaa aae aab))) aae (aaw _)))))
     (aah (aan (i:=3) nd rfl (Or.inr rfl) (ach (aaa aae (aaa (aal agh (by rfl) T.b_sorted aet (aaa (aaj (ada T) hr (aaa (pv 2) (aaa aae (aaa (aaj (aay T) hr (aaa (pv 2) (aaa aae aab))) aab)))) aab)) aab)))))
     aa7)
    (aad (aan (i:=4) nd rfl (Or.inl rfl) (ach (aaa (aas aat (pv 3) aae (fun _ _=>rfl)) (aaa (ahv anx (by rfl) T.b_list ad1 (aaa (aas aat (pv 3) aae (fun _ _=>rfl)) aab)) aab))))
    (aad (aan (i:=5) nd rfl (Or.inl rfl) ab7)
    (aad (abk (aa1 af2 (aas aat (pv 3) aae (fun _ _=>rfl)) aae (aaw _))
     (aah (aan (i:=5) nd rfl (Or.inl rfl) (aal (apv hr.units rfl) (by rfl) T.b_min aes (aaa (aea rfl (N:=["tie","web"]) (src:=[none,some 3]) (by exact ab0 rfl rfl rfl rfl rfl rfl) (abt (aas aat (pv 3) aae (fun _ _=>rfl))) (fun _ _ _ _=>(aam (i:=0) (show List.Nodup (["tie","web"]:List Str) by decide +kernel) rfl (Or.inl rfl) (hf:=Or.inr rfl))) (fun _ _ _ _=>aco) (fun _ _ _ _=>(ach (aaa (aaj (ahp T) hr (aaa (pv 1) (aaa (pv 0) aab))) (aaa (pv 0) aab))))) aab))))
     aa7)
    (aah (abk (PW.pt (am7 (aem (adi (aaj (ala T 3) hr (aaa (aaj (adw T) hr (aaa (pv 4) aab)) (aaa (pv 5) aab))))) (am7 (aa1 (ajx hr.units) (pv 4) (pv 3) (aaw _)) (aou (aa1 (ajx hr.units) (aaj (adw T) hr (aaa (pv 4) aab)) (pv 5) (aaw _))))))
     (aah (aav ai8))
     aa7)))))))))
  (aah (aav ai8))),?_⟩
 refine abb h fun ss Q' q B hK=>?_
 refine exS1 ss q fun ns q1_=>?_
 have hns:=q1_.1
 have kk:=q1_.2
 clear q1_ q
 show EvS B _ _ [some (.scr ns),none,none,none,none,none]
 row_cond go
 refine afv (fun i e=>∃ v1 v2 v3 v4 v5,e=[some (.scr ns),v1,v2,v3,v4,v5]) ⟨_,_,_,_,_,rfl⟩ ?_ ?_
 ·rintro i e hi q0_
  refine exE5 e q0_ fun v1 v2 v3 v4 v5=>?_
  clear q0_
  have hi6:(i:Int) < 20:=by
   revert hi
   split <;> split <;> row_cond lo
  row_cond go
  refine ⟨ns,0+(i:Int),rfl,by row_cond lo,by row_cond lo,fun c=>?_⟩
  row_cond go
  refine ⟨c,rfl,fun g t u=>?_⟩
  repeat (first | (refine asq 2 rfl ?_) | row_cond st)
  refine ⟨rfl,rfl,fun n es hW=>?_⟩
  row_cond go
  refine' cutR (R:=∀ n es,TreeW n es->EvS B ?c1 ?d1 [some (.scr ns),some (.st (.int (0+(i:Int)))),some (.own OSt),some (.st (webD n es)),v4,v5]) (fun R=>?K1) ?K2
  case K1 =>
   refine ab8 (fun h=>?_) (fun h=>?_)
   ·row_cond go
    refine ⟨3,rfl,rfl,by row_cond lo,by row_cond lo,fun r1 r1a r1b=>?_⟩
    row_cond go
    refine ab8 (fun h=>?_) (fun h=>?_)
    ·row_cond go
     refine aon ?_
     row_cond go
     refine ⟨4,rfl,rfl,by row_cond lo,by row_cond lo,fun r2 r2a r2b=>?_⟩
     row_cond go
     refine ⟨24,r2,rfl,rfl,by row_cond lo,by row_cond lo,r2a,r2b,fun ps hT=>adf ?_⟩
     row_cond go
     refine ⟨ps,rfl,by have:=hT.len;row_cond lo,fun qs hp hs=>adf ?_⟩
     repeat (first | (refine R 24 qs ?_) | row_cond st)
     exact TreeW.of (by row_cond lo) (by row_cond lo) hT.ps hT.len hT.conn hp hs
    ·refine aed ?_
     exact R n es hW
   ·refine aed ?_
    exact R n es hW
  case K2 =>
   intro n es hW
   have hn:=hW.web.lo
   have hn6:=hW.web.hi
   have hin:=hW.inn
   have hJ:Joined n es:=hW.conn.joined (by row_cond lo)
   have hlen:=hW.len
   row_cond go
   refine' cutR (R:=∀ D,PartD n es D->EvS B ?c2 ?d2 [some (.scr ns),some (.st (.int (0+(i:Int)))),some (.own OSt),some (.st (webD n es)),some (.st (webD n es)),some (.st D)]) (fun R=>?L1) ?L2
   case L1 =>
    refine ab8 (fun h=>?_) (fun h=>?_)
    ·row_cond go
     refine agi ?_
     row_cond go
     obtain ⟨pf,hpf⟩:∃ pf:Int × Int->Int,∀ t,IsPt n.toNat (dsF es) t.1 t.2 (pf t):=⟨fun t=>Classical.choose (ag0 (n:=n.toNat) (by row_cond lo) (dsF es) t.1 t.2),fun t=>Classical.choose_spec (ag0 (n:=n.toNat) (by row_cond lo) (dsF es) t.1 t.2)⟩
     refine aej (xs:=es) (fun t:Int × Int=>z3D (pf t,t)) rfl (by row_cond lo) (fun t ht B' hB=>?_) ?_
     ·row_cond go
      refine ⟨n,es,t,rfl,by row_cond lo,by row_cond lo,hin,by row_cond lo,fun x hx=>?_⟩
      row_cond go
      rw [awb hx (azk hW ht (hpf t))]
      exact ⟨rfl,rfl⟩
     ·row_cond go
      rw [show es.map (fun t:Int × Int=>z3D (pf t,t))=(es.map fun t=>((pf t,t):Z3)).map z3D by rw [List.map_map];rfl]
      refine ap9 (fun e=>?_) fun z hz hm=>?_
      ·have:=congrArg List.length e
       simp at this
       rw [this] at hlen
       simp at hlen
       row_cond lo
      ·repeat (first | (refine R (z3D z) ?_) | row_cond st)
       refine .inr ⟨z,⟨_,fun t ht=>⟨pf t,List.mem_map.mpr ⟨t,ht,rfl⟩⟩,fun y hy=>?_,hz,hm⟩,rfl⟩
       obtain ⟨t,ht,rfl⟩:=List.mem_map.mp hy
       exact ⟨ht,hpf t⟩
    ·refine aed ?_
     exact R _ (.inl ⟨List.length_eq_zero_iff.mp (by row_cond lo),rfl⟩)
   case L2 =>
    intro D hD
    obtain ⟨o1,o2,o3,o4⟩:=hD.ok
    row_cond go
    refine ⟨n,es,rfl,hn,by row_cond lo,hin,by row_cond lo,⟨hlen,hJ⟩,fun E hE=>?_⟩
    obtain rfl:=hE.uniq hD
    row_cond go
    refine ⟨E,rfl,o1,o2,o3,o4,?_⟩
    row_cond go
    refine ahe (webP n es) (webP n es) (azj n es) ?_
    rw [akm (webP n es)]
    row_cond go
    refine ⟨n,es,rfl,hn,by row_cond lo,hin,by row_cond lo,⟨hlen,hJ⟩,fun E' hE'=>?_⟩
    obtain rfl:=hE'.uniq hD
    row_cond go
    refine ahe o1 o1 o3 ?_
    rw [akm o1]
    row_cond go
    exact ⟨_,_,_,_,_,rfl⟩
 ·rintro e q0_
  refine exE5 e q0_ fun v1 v2 v3 v4 v5=>?_
  clear q0_
  row_cond go
  exact kk
theorem ayp (T:Txt K mg) {f:Addr} {fd:FuncData} (D:DefAt K mg "law" s_law ["script"] f fd):FnOk P w K mg base CX0 10 f fd ["script"] (aoq K):=(awc T D).imp fun _ _ _ _ h=>asv h
end
theorem len0 {α:Type} {us:List α} (h:us.length=0):us=[]:=List.eq_nil_of_length_eq_zero h
theorem len1 {α:Type} {us:List α} (h:us.length=1):∃ a0,us=[a0]:=by
 cases us with
 | nil=>cases h
 | cons a us=>exact ⟨a,by rw [len0 (Nat.succ.inj h)]⟩
theorem len2 {α:Type} {us:List α} (h:us.length=2):∃ a0 a1,us=[a0,a1]:=by
 cases us with
 | nil=>cases h
 | cons a us=>obtain ⟨a1,e⟩:=len1 (Nat.succ.inj h);exact ⟨a,a1,by rw [e]⟩
theorem len3 {α:Type} {us:List α} (h:us.length=3):∃ a0 a1 a2,us=[a0,a1,a2]:=by
 cases us with
 | nil=>cases h
 | cons a us=>obtain ⟨a1,a2,e⟩:=len2 (Nat.succ.inj h);exact ⟨a,a1,a2,by rw [e]⟩
theorem txt_mk {K:PySem.W.Frag} {h:Heap} {mg:Str->Option Value} (X:K.In h) (G:h.Ns mainGlobals mg)
  {f0:Addr} {od0 an0:Option Addr} {sl0:Array (Option Value)} {oc0 kV0 dc0 pm0 cd0 ct0:Value}
  {f1:Addr} {od1 an1:Option Addr} {sl1:Array (Option Value)} {oc1 kV1 dc1 pm1 cd1 ct1:Value}
  {f2:Addr} {od2 an2:Option Addr} {sl2:Array (Option Value)} {oc2 kV2 dc2 pm2 cd2 ct2:Value}
  {f3:Addr} {od3 an3:Option Addr} {sl3:Array (Option Value)} {oc3 kV3 dc3 pm3 cd3 ct3:Value}
  {f4:Addr} {od4 an4:Option Addr} {sl4:Array (Option Value)} {oc4 kV4 dc4 pm4 cd4 ct4:Value}
  {f5:Addr} {od5 an5:Option Addr} {sl5:Array (Option Value)} {oc5 kV5 dc5 pm5 cd5 ct5:Value}
  {f6:Addr} {od6 an6:Option Addr} {sl6:Array (Option Value)} {oc6 kV6 dc6 pm6 cd6 ct6:Value}
  {f7:Addr} {od7 an7:Option Addr} {sl7:Array (Option Value)} {oc7 kV7 dc7 pm7 cd7 ct7:Value}
  {f8:Addr} {od8 an8:Option Addr} {sl8:Array (Option Value)} {oc8 kV8 dc8 pm8 cd8 ct8:Value}
  {f9:Addr} {od9 an9:Option Addr} {sl9:Array (Option Value)} {oc9 kV9 dc9 pm9 cd9 ct9:Value}
  {f10:Addr} {od10 an10:Option Addr} {sl10:Array (Option Value)} {oc10 kV10 dc10 pm10 cd10 ct10:Value}
  {f11:Addr} {od11 an11:Option Addr} {sl11:Array (Option Value)} {oc11 kV11 dc11 pm11 cd11 ct11:Value}
  {f12:Addr} {od12 an12:Option Addr} {sl12:Array (Option Value)} {oc12 kV12 dc12 pm12 cd12 ct12:Value}
  {f13:Addr} {od13 an13:Option Addr} {sl13:Array (Option Value)} {oc13 kV13 dc13 pm13 cd13 ct13:Value}
  {f14:Addr} {od14 an14:Option Addr} {sl14:Array (Option Value)} {oc14 kV14 dc14 pm14 cd14 ct14:Value}
  {f15:Addr} {od15 an15:Option Addr} {sl15:Array (Option Value)} {oc15 kV15 dc15 pm15 cd15 ct15:Value}
  {f16:Addr} {od16 an16:Option Addr} {sl16:Array (Option Value)} {oc16 kV16 dc16 pm16 cd16 ct16:Value}
  {f17:Addr} {od17 an17:Option Addr} {sl17:Array (Option Value)} {oc17 kV17 dc17 pm17 cd17 ct17:Value}
  {f18:Addr} {od18 an18:Option Addr} {sl18:Array (Option Value)} {oc18 kV18 dc18 pm18 cd18 ct18:Value}
  {f19:Addr} {od19 an19:Option Addr} {sl19:Array (Option Value)} {oc19 kV19 dc19 pm19 cd19 ct19:Value}
  {f20:Addr} {od20 an20:Option Addr} {sl20:Array (Option Value)} {oc20 kV20 dc20 pm20 cd20 ct20:Value}
  {f21:Addr} {od21 an21:Option Addr} {sl21:Array (Option Value)} {oc21 kV21 dc21 pm21 cd21 ct21:Value}
  {f22:Addr} {od22 an22:Option Addr} {sl22:Array (Option Value)} {oc22 kV22 dc22 pm22 cd22 ct22:Value}
  {f23:Addr} {od23 an23:Option Addr} {sl23:Array (Option Value)} {oc23 kV23 dc23 pm23 cd23 ct23:Value}
  (a0:PySem.W.nsIn K mainGlobals "is_whole" = some (some (.ref f0))) (l0:K.lookup f0=some ⟨oc0,od0,.func (PySem.W.fnOf "is_whole" "is_whole" (aaq s_is_whole) (aap s_is_whole) (aaf s_is_whole) .none kV0 dc0 pm0 an0 cd0 ct0),sl0⟩) (c0:PySem.W.codeIn K cd0 "is_whole" = true) (k0:PySem.W.keepIn K (.ref f0)=true)
  (a1:PySem.W.nsIn K mainGlobals "is_between" = some (some (.ref f1))) (l1:K.lookup f1=some ⟨oc1,od1,.func (PySem.W.fnOf "is_between" "is_between" (aaq s_is_between) (aap s_is_between) (aaf s_is_between) .none kV1 dc1 pm1 an1 cd1 ct1),sl1⟩) (c1:PySem.W.codeIn K cd1 "is_between" = true) (k1:PySem.W.keepIn K (.ref f1)=true)
  (a2:PySem.W.nsIn K mainGlobals "is_place" = some (some (.ref f2))) (l2:K.lookup f2=some ⟨oc2,od2,.func (PySem.W.fnOf "is_place" "is_place" (aaq s_is_place) (aap s_is_place) (aaf s_is_place) .none kV2 dc2 pm2 an2 cd2 ct2),sl2⟩) (c2:PySem.W.codeIn K cd2 "is_place" = true) (k2:PySem.W.keepIn K (.ref f2)=true)
  (a3:PySem.W.nsIn K mainGlobals "tied_places" = some (some (.ref f3))) (l3:K.lookup f3=some ⟨oc3,od3,.func (PySem.W.fnOf "tied_places" "tied_places" (aaq s_tied_places) (aap s_tied_places) (aaf s_tied_places) .none kV3 dc3 pm3 an3 cd3 ct3),sl3⟩) (c3:PySem.W.codeIn K cd3 "tied_places" = true) (k3:PySem.W.keepIn K (.ref f3)=true)
  (a4:PySem.W.nsIn K mainGlobals "far_from" = some (some (.ref f4))) (l4:K.lookup f4=some ⟨oc4,od4,.func (PySem.W.fnOf "far_from" "far_from" (aaq s_far_from) (aap s_far_from) (aaf s_far_from) .none kV4 dc4 pm4 an4 cd4 ct4),sl4⟩) (c4:PySem.W.codeIn K cd4 "far_from" = true) (k4:PySem.W.keepIn K (.ref f4)=true)
  (a5:PySem.W.nsIn K mainGlobals "need_place" = some (some (.ref f5))) (l5:K.lookup f5=some ⟨oc5,od5,.func (PySem.W.fnOf "need_place" "need_place" (aaq s_need_place) (aap s_need_place) (aaf s_need_place) .none kV5 dc5 pm5 an5 cd5 ct5),sl5⟩) (c5:PySem.W.codeIn K cd5 "need_place" = true) (k5:PySem.W.keepIn K (.ref f5)=true)
  (a6:PySem.W.nsIn K mainGlobals "all_far" = some (some (.ref f6))) (l6:K.lookup f6=some ⟨oc6,od6,.func (PySem.W.fnOf "all_far" "all_far" (aaq s_all_far) (aap s_all_far) (aaf s_all_far) .none kV6 dc6 pm6 an6 cd6 ct6),sl6⟩) (c6:PySem.W.codeIn K cd6 "all_far" = true) (k6:PySem.W.keepIn K (.ref f6)=true)
  (a7:PySem.W.nsIn K mainGlobals "is_joined" = some (some (.ref f7))) (l7:K.lookup f7=some ⟨oc7,od7,.func (PySem.W.fnOf "is_joined" "is_joined" (aaq s_is_joined) (aap s_is_joined) (aaf s_is_joined) .none kV7 dc7 pm7 an7 cd7 ct7),sl7⟩) (c7:PySem.W.codeIn K cd7 "is_joined" = true) (k7:PySem.W.keepIn K (.ref f7)=true)
  (a8:PySem.W.nsIn K mainGlobals "need_joined" = some (some (.ref f8))) (l8:K.lookup f8=some ⟨oc8,od8,.func (PySem.W.fnOf "need_joined" "need_joined" (aaq s_need_joined) (aap s_need_joined) (aaf s_need_joined) .none kV8 dc8 pm8 an8 cd8 ct8),sl8⟩) (c8:PySem.W.codeIn K cd8 "need_joined" = true) (k8:PySem.W.keepIn K (.ref f8)=true)
  (a9:PySem.W.nsIn K mainGlobals "far_rows" = some (some (.ref f9))) (l9:K.lookup f9=some ⟨oc9,od9,.func (PySem.W.fnOf "far_rows" "far_rows" (aaq s_far_rows) (aap s_far_rows) (aaf s_far_rows) .none kV9 dc9 pm9 an9 cd9 ct9),sl9⟩) (c9:PySem.W.codeIn K cd9 "far_rows" = true) (k9:PySem.W.keepIn K (.ref f9)=true)
  (a10:PySem.W.nsIn K mainGlobals "is_tree" = some (some (.ref f10))) (l10:K.lookup f10=some ⟨oc10,od10,.func (PySem.W.fnOf "is_tree" "is_tree" (aaq s_is_tree) (aap s_is_tree) (aaf s_is_tree) .none kV10 dc10 pm10 an10 cd10 ct10),sl10⟩) (c10:PySem.W.codeIn K cd10 "is_tree" = true) (k10:PySem.W.keepIn K (.ref f10)=true)
  (a11:PySem.W.nsIn K mainGlobals "need_tree" = some (some (.ref f11))) (l11:K.lookup f11=some ⟨oc11,od11,.func (PySem.W.fnOf "need_tree" "need_tree" (aaq s_need_tree) (aap s_need_tree) (aaf s_need_tree) .none kV11 dc11 pm11 an11 cd11 ct11),sl11⟩) (c11:PySem.W.codeIn K cd11 "need_tree" = true) (k11:PySem.W.keepIn K (.ref f11)=true)
  (a12:PySem.W.nsIn K mainGlobals "parting_tie" = some (some (.ref f12))) (l12:K.lookup f12=some ⟨oc12,od12,.func (PySem.W.fnOf "parting_tie" "parting_tie" (aaq s_parting_tie) (aap s_parting_tie) (aaf s_parting_tie) .none kV12 dc12 pm12 an12 cd12 ct12),sl12⟩) (c12:PySem.W.codeIn K cd12 "parting_tie" = true) (k12:PySem.W.keepIn K (.ref f12)=true)
  (a13:PySem.W.nsIn K mainGlobals "parted_far" = some (some (.ref f13))) (l13:K.lookup f13=some ⟨oc13,od13,.func (PySem.W.fnOf "parted_far" "parted_far" (aaq s_parted_far) (aap s_parted_far) (aaf s_parted_far) .none kV13 dc13 pm13 an13 cd13 ct13),sl13⟩) (c13:PySem.W.codeIn K cd13 "parted_far" = true) (k13:PySem.W.keepIn K (.ref f13)=true)
  (a14:PySem.W.nsIn K mainGlobals "_law_cell" = some (some (.ref f14))) (l14:K.lookup f14=some ⟨oc14,od14,.func (PySem.W.fnOf "_law_cell" "_law_cell" (aaq s_law_cell) (aap s_law_cell) (aaf s_law_cell) .none kV14 dc14 pm14 an14 cd14 ct14),sl14⟩) (c14:PySem.W.codeIn K cd14 "_law_cell" = true) (k14:PySem.W.keepIn K (.ref f14)=true)
  (a15:PySem.W.nsIn K mainGlobals "_law_store" = some (some (.ref f15))) (l15:K.lookup f15=some ⟨oc15,od15,.func (PySem.W.fnOf "_law_store" "_law_store" (aaq s_law_store) (aap s_law_store) (aaf s_law_store) .none kV15 dc15 pm15 an15 cd15 ct15),sl15⟩) (c15:PySem.W.codeIn K cd15 "_law_store" = true) (k15:PySem.W.keepIn K (.ref f15)=true)
  (a16:PySem.W.nsIn K mainGlobals "_law_take" = some (some (.ref f16))) (l16:K.lookup f16=some ⟨oc16,od16,.func (PySem.W.fnOf "_law_take" "_law_take" (aaq s_law_take) (aap s_law_take) (aaf s_law_take) .none kV16 dc16 pm16 an16 cd16 ct16),sl16⟩) (c16:PySem.W.codeIn K cd16 "_law_take" = true) (k16:PySem.W.keepIn K (.ref f16)=true)
  (a17:PySem.W.nsIn K mainGlobals "_law_tree_ties" = some (some (.ref f17))) (l17:K.lookup f17=some ⟨oc17,od17,.func (PySem.W.fnOf "_law_tree_ties" "_law_tree_ties" (aaq s_law_tree_ties) (aap s_law_tree_ties) (aaf s_law_tree_ties) .none kV17 dc17 pm17 an17 cd17 ct17),sl17⟩) (c17:PySem.W.codeIn K cd17 "_law_tree_ties" = true) (k17:PySem.W.keepIn K (.ref f17)=true)
  (a18:PySem.W.nsIn K mainGlobals "_law_renumbered" = some (some (.ref f18))) (l18:K.lookup f18=some ⟨oc18,od18,.func (PySem.W.fnOf "_law_renumbered" "_law_renumbered" (aaq s_law_renumbered) (aap s_law_renumbered) (aaf s_law_renumbered) .none kV18 dc18 pm18 an18 cd18 ct18),sl18⟩) (c18:PySem.W.codeIn K cd18 "_law_renumbered" = true) (k18:PySem.W.keepIn K (.ref f18)=true)
  (a19:PySem.W.nsIn K mainGlobals "_law_tree" = some (some (.ref f19))) (l19:K.lookup f19=some ⟨oc19,od19,.func (PySem.W.fnOf "_law_tree" "_law_tree" (aaq s_law_tree) (aap s_law_tree) (aaf s_law_tree) .none kV19 dc19 pm19 an19 cd19 ct19),sl19⟩) (c19:PySem.W.codeIn K cd19 "_law_tree" = true) (k19:PySem.W.keepIn K (.ref f19)=true)
  (a20:PySem.W.nsIn K mainGlobals "_law_far_from" = some (some (.ref f20))) (l20:K.lookup f20=some ⟨oc20,od20,.func (PySem.W.fnOf "_law_far_from" "_law_far_from" (aaq s_law_far_from) (aap s_law_far_from) (aaf s_law_far_from) .none kV20 dc20 pm20 an20 cd20 ct20),sl20⟩) (c20:PySem.W.codeIn K cd20 "_law_far_from" = true) (k20:PySem.W.keepIn K (.ref f20)=true)
  (a21:PySem.W.nsIn K mainGlobals "_law_same" = some (some (.ref f21))) (l21:K.lookup f21=some ⟨oc21,od21,.func (PySem.W.fnOf "_law_same" "_law_same" (aaq s_law_same) (aap s_law_same) (aaf s_law_same) .none kV21 dc21 pm21 an21 cd21 ct21),sl21⟩) (c21:PySem.W.codeIn K cd21 "_law_same" = true) (k21:PySem.W.keepIn K (.ref f21)=true)
  (a22:PySem.W.nsIn K mainGlobals "_law_parted" = some (some (.ref f22))) (l22:K.lookup f22=some ⟨oc22,od22,.func (PySem.W.fnOf "_law_parted" "_law_parted" (aaq s_law_parted) (aap s_law_parted) (aaf s_law_parted) .none kV22 dc22 pm22 an22 cd22 ct22),sl22⟩) (c22:PySem.W.codeIn K cd22 "_law_parted" = true) (k22:PySem.W.keepIn K (.ref f22)=true)
  (a23:PySem.W.nsIn K mainGlobals "law" = some (some (.ref f23))) (l23:K.lookup f23=some ⟨oc23,od23,.func (PySem.W.fnOf "law" "law" (aaq s_law) (aap s_law) (aaf s_law) .none kV23 dc23 pm23 an23 cd23 ct23),sl23⟩) (c23:PySem.W.codeIn K cd23 "law" = true) (k23:PySem.W.keepIn K (.ref f23)=true)
  (z_ValueError:PySem.W.nsIn K mainGlobals "ValueError" = some none)
  (z_min:PySem.W.nsIn K mainGlobals "min" = some none)
  (z_max:PySem.W.nsIn K mainGlobals "max" = some none)
  (z_range:PySem.W.nsIn K mainGlobals "range" = some none)
  (z_list:PySem.W.nsIn K mainGlobals "list" = some none)
  (z_sorted:PySem.W.nsIn K mainGlobals "sorted" = some none)
  (z_isinstance:PySem.W.nsIn K mainGlobals "isinstance" = some none)
  (z_str:PySem.W.nsIn K mainGlobals "str" = some none)
  (z_int:PySem.W.nsIn K mainGlobals "int" = some none)
  (z_len:PySem.W.nsIn K mainGlobals "len" = some none)
  (z_set:PySem.W.nsIn K mainGlobals "set" = some none)
  (z_tuple:PySem.W.nsIn K mainGlobals "tuple" = some none)
  (z_bool:PySem.W.nsIn K mainGlobals "bool" = some none)
  (z_zip:PySem.W.nsIn K mainGlobals "zip" = some none)
  : Txt K mg where
  b_ValueError:=PySem.W.mg_none_of X G z_ValueError
  b_min:=PySem.W.mg_none_of X G z_min
  b_max:=PySem.W.mg_none_of X G z_max
  b_range:=PySem.W.mg_none_of X G z_range
  b_list:=PySem.W.mg_none_of X G z_list
  b_sorted:=PySem.W.mg_none_of X G z_sorted
  b_isinstance:=PySem.W.mg_none_of X G z_isinstance
  b_str:=PySem.W.mg_none_of X G z_str
  b_int:=PySem.W.mg_none_of X G z_int
  b_len:=PySem.W.mg_none_of X G z_len
  b_set:=PySem.W.mg_none_of X G z_set
  b_tuple:=PySem.W.mg_none_of X G z_tuple
  b_bool:=PySem.W.mg_none_of X G z_bool
  b_zip:=PySem.W.mg_none_of X G z_zip
  d_is_whole:=⟨_,_,have F:=aa0 (st:=s_is_whole) l0 c0 k0;⟨F,PySem.W.mg_of X G a0,F.binds (ps:=["thing"]) fun _ _ _ _ _ _ us hl=>by obtain ⟨_,rfl⟩:=len1 hl;rfl⟩⟩
  d_is_between:=⟨_,_,have F:=aa0 (st:=s_is_between) l1 c1 k1;⟨F,PySem.W.mg_of X G a1,F.binds (ps:=["least","most","thing"]) fun _ _ _ _ _ _ us hl=>by obtain ⟨_,_,_,rfl⟩:=len3 hl;rfl⟩⟩
  d_is_place:=⟨_,_,have F:=aa0 (st:=s_is_place) l2 c2 k2;⟨F,PySem.W.mg_of X G a2,F.binds (ps:=["n","thing"]) fun _ _ _ _ _ _ us hl=>by obtain ⟨_,_,rfl⟩:=len2 hl;rfl⟩⟩
  d_tied_places:=⟨_,_,have F:=aa0 (st:=s_tied_places) l3 c3 k3;⟨F,PySem.W.mg_of X G a3,F.binds (ps:=["web"]) fun _ _ _ _ _ _ us hl=>by obtain ⟨_,rfl⟩:=len1 hl;rfl⟩⟩
  d_far_from:=⟨_,_,have F:=aa0 (st:=s_far_from) l4 c4 k4;⟨F,PySem.W.mg_of X G a4,F.binds (ps:=["tied","start"]) fun _ _ _ _ _ _ us hl=>by obtain ⟨_,_,rfl⟩:=len2 hl;rfl⟩⟩
  d_need_place:=⟨_,_,have F:=aa0 (st:=s_need_place) l5 c5 k5;⟨F,PySem.W.mg_of X G a5,F.binds (ps:=["web","thing"]) fun _ _ _ _ _ _ us hl=>by obtain ⟨_,_,rfl⟩:=len2 hl;rfl⟩⟩
  d_all_far:=⟨_,_,have F:=aa0 (st:=s_all_far) l6 c6 k6;⟨F,PySem.W.mg_of X G a6,F.binds (ps:=["web","a"]) fun _ _ _ _ _ _ us hl=>by obtain ⟨_,_,rfl⟩:=len2 hl;rfl⟩⟩
  d_is_joined:=⟨_,_,have F:=aa0 (st:=s_is_joined) l7 c7 k7;⟨F,PySem.W.mg_of X G a7,F.binds (ps:=["web"]) fun _ _ _ _ _ _ us hl=>by obtain ⟨_,rfl⟩:=len1 hl;rfl⟩⟩
  d_need_joined:=⟨_,_,have F:=aa0 (st:=s_need_joined) l8 c8 k8;⟨F,PySem.W.mg_of X G a8,F.binds (ps:=["web"]) fun _ _ _ _ _ _ us hl=>by obtain ⟨_,rfl⟩:=len1 hl;rfl⟩⟩
  d_far_rows:=⟨_,_,have F:=aa0 (st:=s_far_rows) l9 c9 k9;⟨F,PySem.W.mg_of X G a9,F.binds (ps:=["web"]) fun _ _ _ _ _ _ us hl=>by obtain ⟨_,rfl⟩:=len1 hl;rfl⟩⟩
  d_is_tree:=⟨_,_,have F:=aa0 (st:=s_is_tree) l10 c10 k10;⟨F,PySem.W.mg_of X G a10,F.binds (ps:=["web"]) fun _ _ _ _ _ _ us hl=>by obtain ⟨_,rfl⟩:=len1 hl;rfl⟩⟩
  d_need_tree:=⟨_,_,have F:=aa0 (st:=s_need_tree) l11 c11 k11;⟨F,PySem.W.mg_of X G a11,F.binds (ps:=["web"]) fun _ _ _ _ _ _ us hl=>by obtain ⟨_,rfl⟩:=len1 hl;rfl⟩⟩
  d_parting_tie:=⟨_,_,have F:=aa0 (st:=s_parting_tie) l12 c12 k12;⟨F,PySem.W.mg_of X G a12,F.binds (ps:=["web"]) fun _ _ _ _ _ _ us hl=>by obtain ⟨_,rfl⟩:=len1 hl;rfl⟩⟩
  d_parted_far:=⟨_,_,have F:=aa0 (st:=s_parted_far) l13 c13 k13;⟨F,PySem.W.mg_of X G a13,F.binds (ps:=["rows","tie"]) fun _ _ _ _ _ _ us hl=>by obtain ⟨_,_,rfl⟩:=len2 hl;rfl⟩⟩
  d_law_cell:=⟨_,_,have F:=aa0 (st:=s_law_cell) l14 c14 k14;⟨F,PySem.W.mg_of X G a14,F.binds (ps:=["script","k"]) fun _ _ _ _ _ _ us hl=>by obtain ⟨_,_,rfl⟩:=len2 hl;rfl⟩⟩
  d_law_store:=⟨_,_,have F:=aa0 (st:=s_law_store) l15 c15 k15;⟨F,PySem.W.mg_of X G a15,F.binds (ps:=["cell"]) fun _ _ _ _ _ _ us hl=>by obtain ⟨_,rfl⟩:=len1 hl;rfl⟩⟩
  d_law_take:=⟨_,_,have F:=aa0 (st:=s_law_take) l16 c16 k16;⟨F,PySem.W.mg_of X G a16,F.binds (ps:=["store","many"]) fun _ _ _ _ _ _ us hl=>by obtain ⟨_,_,rfl⟩:=len2 hl;rfl⟩⟩
  d_law_tree_ties:=⟨_,_,have F:=aa0 (st:=s_law_tree_ties) l17 c17 k17;⟨F,PySem.W.mg_of X G a17,F.binds (ps:=["store","n","kind"]) fun _ _ _ _ _ _ us hl=>by obtain ⟨_,_,_,rfl⟩:=len3 hl;rfl⟩⟩
  d_law_renumbered:=⟨_,_,have F:=aa0 (st:=s_law_renumbered) l18 c18 k18;⟨F,PySem.W.mg_of X G a18,F.binds (ps:=["store","n","ties"]) fun _ _ _ _ _ _ us hl=>by obtain ⟨_,_,_,rfl⟩:=len3 hl;rfl⟩⟩
  d_law_tree:=⟨_,_,have F:=aa0 (st:=s_law_tree) l19 c19 k19;⟨F,PySem.W.mg_of X G a19,F.binds (ps:=["store"]) fun _ _ _ _ _ _ us hl=>by obtain ⟨_,rfl⟩:=len1 hl;rfl⟩⟩
  d_law_far_from:=⟨_,_,have F:=aa0 (st:=s_law_far_from) l20 c20 k20;⟨F,PySem.W.mg_of X G a20,F.binds (ps:=["web","a"]) fun _ _ _ _ _ _ us hl=>by obtain ⟨_,_,rfl⟩:=len2 hl;rfl⟩⟩
  d_law_same:=⟨_,_,have F:=aa0 (st:=s_law_same) l21 c21 k21;⟨F,PySem.W.mg_of X G a21,F.binds (ps:=["found","due"]) fun _ _ _ _ _ _ us hl=>by obtain ⟨_,_,rfl⟩:=len2 hl;rfl⟩⟩
  d_law_parted:=⟨_,_,have F:=aa0 (st:=s_law_parted) l22 c22 k22;⟨F,PySem.W.mg_of X G a22,F.binds (ps:=["web","tie"]) fun _ _ _ _ _ _ us hl=>by obtain ⟨_,_,rfl⟩:=len2 hl;rfl⟩⟩
  d_law:=⟨_,_,have F:=aa0 (st:=s_law) l23 c23 k23;⟨F,PySem.W.mg_of X G a23,F.binds (ps:=["script"]) fun _ _ _ _ _ _ us hl=>by obtain ⟨_,rfl⟩:=len1 hl;rfl⟩⟩
theorem walk {l:PySem.W.OpenLaw} {q:Program} {loose:List Str} {XP:(Str->Option Value)->Heap->Prop} {YP:World->Heap->Prop} {d:DefRec} {K:Params->PySem.W.Frag} (hn:l.most=some 63) (hdf:d.params.defaults=[]) (hnm:d.name = "law")
  (hY:∀ (w:World) (h:Heap),YP w h->(K w.params).In h)
  (F:∀ (w:World) (mg:Str->Option Value) (h:Heap),(K w.params).In h->h.Ns mainGlobals mg->Txt (K w.params) mg) :
  PySem.W.WalkO q loose XP YP l.row.toRowW d [] (fun f vs=>PySem.call f vs):=by
 refine L2.walk_of (n:=63) (k:=10) (x:="script") (CX:=fun _=>CX0) (sp:=fun w=>aoq (K w.params)) hn (by decide) hdf ⟨rfl,by decide,by decide⟩ hY (fun w mg fa h X G e=>?_) (fun _ _ a ns hl _ hS=>⟨a,ns,rfl,hS,hl,fun _=>rfl⟩) fun _ _ _ _ _ z=>z
 have T:=F w mg h X G
 rw [hnm] at e
 obtain ⟨f1,fd1,D⟩:=T.d_law
 have e1:=e.symm.trans D.mgx
 cases e1
 refine ⟨fd1,fun s u=>?_,fun base _ _=>?_⟩
 ·obtain ⟨oc,od,kV,doc,pm,an,cdv,ct,osl,rfl,lk,hcd⟩:=D.fn.ex
  exact .of_eq rfl
 ·exact ayp T D
end G
open PySem PySem.W PyProof.Rows
set_option maxRecDepth 100000 in
set_option maxHeartbeats 0 in
theorem PySem.Challenge.cw_fewties_k39_where_trees_are_parted_holds : PySem.Challenge.rw_fewties_k39_where_trees_are_parted.Holds := by
 w_on;o_law;k_head;(case hw=>w_witness2)
 k_fill
 refine G.walk (l:=PySem.Challenge.rw_fewties_k39_where_trees_are_parted) rfl rfl rfl (fun w h Y=>PySem.W.kIn_of Y) ?F
 case F =>
  intro w mg h KX GG
  refine' G.txt_mk KX GG ?a0 ?l0 ?c0 ?k0 ?a1 ?l1 ?c1 ?k1 ?a2 ?l2 ?c2 ?k2 ?a3 ?l3 ?c3 ?k3 ?a4 ?l4 ?c4 ?k4 ?a5 ?l5 ?c5 ?k5 ?a6 ?l6 ?c6 ?k6 ?a7 ?l7 ?c7 ?k7 ?a8 ?l8 ?c8 ?k8 ?a9 ?l9 ?c9 ?k9 ?a10 ?l10 ?c10 ?k10 ?a11 ?l11 ?c11 ?k11 ?a12 ?l12 ?c12 ?k12 ?a13 ?l13 ?c13 ?k13 ?a14 ?l14 ?c14 ?k14 ?a15 ?l15 ?c15 ?k15 ?a16 ?l16 ?c16 ?k16 ?a17 ?l17 ?c17 ?k17 ?a18 ?l18 ?c18 ?k18 ?a19 ?l19 ?c19 ?k19 ?a20 ?l20 ?c20 ?k20 ?a21 ?l21 ?c21 ?k21 ?a22 ?l22 ?c22 ?k22 ?a23 ?l23 ?c23 ?k23 ?z_ValueError ?z_min ?z_max ?z_range ?z_list ?z_sorted ?z_isinstance ?z_str ?z_int ?z_len ?z_set ?z_tuple ?z_bool ?z_zip
  (case a0=>k_is);(case l0=>k_is);(case c0=>k_is);(case k0=>k_is)
  (case a1=>k_is);(case l1=>k_is);(case c1=>k_is);(case k1=>k_is)
  (case a2=>k_is);(case l2=>k_is);(case c2=>k_is);(case k2=>k_is)
  (case a3=>k_is);(case l3=>k_is);(case c3=>k_is);(case k3=>k_is)
  (case a4=>k_is);(case l4=>k_is);(case c4=>k_is);(case k4=>k_is)
  (case a5=>k_is);(case l5=>k_is);(case c5=>k_is);(case k5=>k_is)
  (case a6=>k_is);(case l6=>k_is);(case c6=>k_is);(case k6=>k_is)
  (case a7=>k_is);(case l7=>k_is);(case c7=>k_is);(case k7=>k_is)
  (case a8=>k_is);(case l8=>k_is);(case c8=>k_is);(case k8=>k_is)
  (case a9=>k_is);(case l9=>k_is);(case c9=>k_is);(case k9=>k_is)
  (case a10=>k_is);(case l10=>k_is);(case c10=>k_is);(case k10=>k_is)
  (case a11=>k_is);(case l11=>k_is);(case c11=>k_is);(case k11=>k_is)
  (case a12=>k_is);(case l12=>k_is);(case c12=>k_is);(case k12=>k_is)
  (case a13=>k_is);(case l13=>k_is);(case c13=>k_is);(case k13=>k_is)
  (case a14=>k_is);(case l14=>k_is);(case c14=>k_is);(case k14=>k_is)
  (case a15=>k_is);(case l15=>k_is);(case c15=>k_is);(case k15=>k_is)
  (case a16=>k_is);(case l16=>k_is);(case c16=>k_is);(case k16=>k_is)
  (case a17=>k_is);(case l17=>k_is);(case c17=>k_is);(case k17=>k_is)
  (case a18=>k_is);(case l18=>k_is);(case c18=>k_is);(case k18=>k_is)
  (case a19=>k_is);(case l19=>k_is);(case c19=>k_is);(case k19=>k_is)
  (case a20=>k_is);(case l20=>k_is);(case c20=>k_is);(case k20=>k_is)
  (case a21=>k_is);(case l21=>k_is);(case c21=>k_is);(case k21=>k_is)
  (case a22=>k_is);(case l22=>k_is);(case c22=>k_is);(case k22=>k_is)
  (case a23=>k_is);(case l23=>k_is);(case c23=>k_is);(case k23=>k_is)
  (case z_ValueError=>k_is)
  (case z_min=>k_is)
  (case z_max=>k_is)
  (case z_range=>k_is)
  (case z_list=>k_is)
  (case z_sorted=>k_is)
  (case z_isinstance=>k_is)
  (case z_str=>k_is)
  (case z_int=>k_is)
  (case z_len=>k_is)
  (case z_set=>k_is)
  (case z_tuple=>k_is)
  (case z_bool=>k_is)
  (case z_zip=>k_is)
#print axioms PySem.Challenge.cw_fewties_k39_where_trees_are_parted_holds
