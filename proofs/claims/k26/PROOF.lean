import PyProof.Rows.All
import Wide.All
import OpenK.AllK
import Wide.FinOn
import PyProof.EqAt
import PyProof.EqKinds
import PyProof.TupleCall
import PyProof.NeData
import PyProof.P3In
import PyProof.WalkInts
import PyProof.Rows.SortWalk
import PyProof.SumWalkG
import PyProof.Rows.CallKwBuiltin
import KE.KDictList
import PyProof.WalksEnum
import PyProof.ZipIter
import PyProof.ConsumeWalk
import PyProof.ListRange
import PyProof.TupleOfSeq
import PyProof.Rows.RuleN_abs
import KE.KDictOf
import PyProof.AttrMissHeap
import PyProof.Rows.SetFrom
import KE.KDictLaws
import KE.KUnpackStar
import PySem.Challenge.RW_fewties_k26_hub_ties_told
open PySem.W (Frag kitOne mg_of nsIn mg_none_of excIn fnOf mroIn keepIn codeIn)
set_option Elab.async false
set_option linter.all false
set_option compiler.extract_closed false
set_option maxRecDepth 100000
set_option maxHeartbeats 4000000
namespace L2
open PySem PySem.Spec PyProof.Rows
noncomputable abbrev Key:=Sum Int Str
noncomputable def af9:Key->Value->Bool
 | .inl k,v=>Value.isInt k v
 | .inr x,v=>Value.isStrOf x v
noncomputable def keyH (w:World):Key->Int
 | .inl k=>hashInt k
 | .inr x=>hashStr w x
theorem abo:∀ {k:Key} {v:Value},af9 k v=true->(∃ i t,k=Sum.inl i/\v=Value.int i t)\/(∃ x t,k=Sum.inr x/\v=Value.str x t)
 | .inl i,v,h=>by
  obtain ⟨t,e⟩:=Value.isInt_shape (k:=i) (v:=v) h
  exact .inl ⟨i,t,rfl,e⟩
 | .inr x,v,h=>by
  obtain ⟨t,e⟩:=Value.isStrOf_shape (x:=x) (v:=v) h
  exact .inr ⟨x,t,rfl,e⟩
theorem aqg (i:Int) (t:Tok):af9 (.inl i) (.int i t)=true:=by simp [af9,Value.isInt]
theorem aqh (x:Str) (t:Tok):af9 (.inr x) (.str x t)=true:=by simp [af9,Value.isStrOf]
theorem axv (a b:Int):decide ((Sum.inl a:Key)=Sum.inl b)=(a == b):=by
 by_cases e:a=b
 ·subst e;simp
 ·have h:¬ (Sum.inl a:Key)=Sum.inl b:=fun q=>e (Sum.inl.inj q)
  rw [decide_eq_false h]
  exact (beq_eq_false_iff_ne.mpr e).symm
theorem axw (a b:Str):decide ((Sum.inr a:Key)=Sum.inr b)=decide (a=b):=by
 by_cases e:a=b
 ·subst e;simp
 ·have h:¬ (Sum.inr a:Key)=Sum.inr b:=fun q=>e (Sum.inr.inj q)
  rw [decide_eq_false h,decide_eq_false e]
theorem axx (a:Int) (b:Str):decide ((Sum.inl a:Key)=Sum.inr b)=false:=decide_eq_false (fun q=>nomatch q)
theorem axy (a:Str) (b:Int):decide ((Sum.inr a:Key)=Sum.inl b)=false:=decide_eq_false (fun q=>nomatch q)
noncomputable def abg (prog:Program) (w:World):PySem.KeyKind prog w Key where
 is:=af9
 hash:=keyH w
 inj:=fun v a b ha hb=>by
  rcases abo ha with ⟨i,t,rfl,rfl⟩ | ⟨x,t,rfl,rfl⟩
  ·rcases abo hb with ⟨j,u,rfl,e⟩ | ⟨y,u,rfl,e⟩
   ·injection e with e1 _;rw [e1]
   ·exact nomatch e
  ·rcases abo hb with ⟨j,u,rfl,e⟩ | ⟨y,u,rfl,e⟩
   ·exact nomatch e
   ·injection e with e1 _;rw [e1]
 byValue:=fun k v h=>by
  rcases abo h with ⟨i,t,rfl,rfl⟩ | ⟨x,t,rfl,rfl⟩ <;> rfl
 pyHash:=fun hv h=>by
  rcases abo hv with ⟨i,t,rfl,rfl⟩ | ⟨x,t,rfl,rfl⟩
  ·exact wpAny_pyHash_int h
  ·exact wpAny_pyHash_str h
 eqBool:=fun hu hv h=>by
  rcases abo hu with ⟨i,t,rfl,rfl⟩ | ⟨x,t,rfl,rfl⟩
  ·rcases abo hv with ⟨j,u,rfl,rfl⟩ | ⟨y,u,rfl,rfl⟩
   ·rw [axv] at h;exact wpAny_eqBool_int h
   ·rw [axx] at h;exact SeqAt.EqAt.int_str i t y u _ _ _ _ h
  ·rcases abo hv with ⟨j,u,rfl,rfl⟩ | ⟨y,u,rfl,rfl⟩
   ·rw [axy] at h;exact SeqAt.EqAt.str_int x t j u _ _ _ _ h
   ·rw [axw] at h;exact wpAny_eqBool_str h
 «strs»:=fun k x t v h=>by
  rcases abo h with ⟨i,u,rfl,e⟩ | ⟨y,u,rfl,e⟩
  ·exact nomatch e
  ·injection e with e1 _
   subst e1
   cases v <;> rfl
theorem am8 (prog:Program) (w:World) (i:Int) (t:Tok):(abg prog w).is (.inl i) (.int i t)=true:=aqg i t
theorem am9 (prog:Program) (w:World) (x:Str) (t:Tok):(abg prog w).is (.inr x) (.str x t)=true:=aqh x t
inductive V where
 | non | bl (b:Bool) | int (i:Int) | str (x:Str) | byt (b:Array UInt8) | flt (b:UInt64) | ref (a:Addr) | ty (n:String)
 deriving DecidableEq
noncomputable def RelV:V->Value->Prop
 | .non,u=>u=Value.none
 | .bl b,u=>u=Value.bool b
 | .int i,u=>∃ t,u=Value.int i t
 | .str x,u=>∃ t,u=Value.str x t
 | .byt b,u=>∃ t,u=Value.bytes b t
 | .flt b,u=>∃ t,u=Value.float b t
 | .ref a,u=>u=Value.ref a
 | .ty n,u=>u=Value.type n
abbrev Vals:List V->List Value->Prop:=Paired RelV
theorem Vals.length {xs:List V} {us:List Value} (r:Vals xs us):xs.length=us.length:=Paired.length r
theorem Vals.get:∀ {xs:List V} {us:List Value} {i:Nat} {x:V},Vals xs us->xs[i]?=some x->∃ u,us[i]?=some u/\RelV x u
 | _,_,_,_,.nil,e=>by simp at e
 | _,_,0,_,.cons r _,e=>by simp at e;subst e;exact ⟨_,rfl,r⟩
 | _,_,i+1,x,.cons _ t,e=>by
  obtain ⟨u,h1,h2⟩:=Vals.get (i:=i) (x:=x) t (by simpa using e)
  exact ⟨u,by simpa using h1,h2⟩
theorem Vals.set {x:V} {u:Value} (r:RelV x u):∀ {xs:List V} {us:List Value} (i:Nat),Vals xs us->Vals (xs.set i x) (us.set i u)
 | _,_,_,.nil => .nil
 | _,_,0,.cons _ t => .cons r t
 | _,_,i+1,.cons q t => .cons q (Vals.set r i t)
theorem Vals.append:∀ {xs ys:List V} {us ws:List Value},Vals xs us->Vals ys ws->Vals (xs ++ ys) (us ++ ws)
 | _,_,_,_,.nil,s=>s
 | _,_,_,_,.cons r t,s => .cons r (Vals.append t s)
theorem Vals.take:∀ {xs:List V} {us:List Value} (n:Nat),Vals xs us->Vals (xs.take n) (us.take n)
 | _,_,0,_ => .nil
 | _,_,_+1,.nil => .nil
 | _,_,n+1,.cons r t => .cons r (Vals.take n t)
theorem Vals.drop:∀ {xs:List V} {us:List Value} (n:Nat),Vals xs us->Vals (xs.drop n) (us.drop n)
 | _,_,0,r=>r
 | _,_,_+1,.nil => .nil
 | _,_,n+1,.cons _ t=>Vals.drop n t
noncomputable def RelO:Option V->Option Value->Prop
 | some v,some u=>RelV v u
 | none,none=>True
 | _,_=>False
def KV {κ:Type}:List (κ × V)->List (κ × Value)->Prop:=Paired fun (p : κ × V) (q : κ × Value)=>p.1=q.1/\RelV p.2 q.2
noncomputable def kV:Key->V
 | .inl i => .int i
 | .inr x => .str x
inductive HO where
 /-- a list -/
 | lst (xs:List V)
 /-- a tuple (never changes) -/
 | tup (xs:List V)
 /-- a dict whose keys are ints and texts; one whose keys are tuples of ints and texts (the empty one is both) -/
 | dK (kvs:List (Key × V)) | dT (kvs:List (List Key × V))
 /-- a set of ints: its members, its size -/
 | set (S:Int->Bool) (n:Nat)
 /-- an instance of the class at C, its dict at dx, its attributes -/
 | ins (C dx:Addr) (fs:List (Str × V))
 /-- the dict of the instance at x -/
 | own (x:Addr)
 /-- the dict of an exception -/
 | xd (fs:List (Str × V))
 /-- a bound method, f of x -/
 | met (f x:Addr)
 /-- a range object lo, lo + 1, .. below hi -/
 | rng (lo hi:Int)
 /-- a thing that is known to the object (the script; a dict while a loop walks it): read, never written while it is so -/
 | frz (o:Obj) (u:HO)
 /-- a code object's table -/
 | tbl (ps:Array Value)
 /-- any other thing, by what is true of its one object (a def of one's own: SetO a S n:=HO.ext fun h => ..) -/
 | ext (φ:Heap->Prop)
noncomputable abbrev Hp:=Addr->Option HO
noncomputable def upd (H:Hp) (a:Addr) (o:HO):Hp:=fun b=>if b=a then some o else H b
theorem aah {H:Hp} {a:Addr} {o:HO}:upd H a o a=some o:=by unfold upd;rw [if_pos rfl]
theorem aae {H:Hp} {a b:Addr} {o:HO} (h:b ≠ a):upd H a o b=H b:=by unfold upd;rw [if_neg h]
theorem az8 {H:Hp} {a b:Addr} {o u:HO} (h:H a=some o) (h':H b=some u) (d:o ≠ u):a ≠ b:=by
 intro e;subst e;rw [h] at h';exact d (Option.some.inj h')
theorem aaj {H:Hp} {a b:Addr} {o:HO} (h:H a=some o) (h':H b=none):a ≠ b:=by
 intro e;subst e;rw [h] at h';cases h'
section
variable (P:Program) (w:World)
noncomputable def ObjOk (H:Hp) (h:Heap) (a:Addr):HO->Prop
 | .lst xs=>xs.length<=sizeLine/\∃ (its:List Value) (n:Nat),Vals xs its/\h.get? a=some { cls:=.type "list",data:=.seq its.toArray n }
 | .tup xs=>xs.length<=sizeLine/\∃ its:List Value,Vals xs its/\IsTup h a its.toArray
 | .dK kvs=>kvs.length<=sizeLine/\(a == sysModules)=false/\∃ vs,KV kvs vs/\h.DictOf (abg P w) a vs
 | .dT kvs=>kvs.length<=sizeLine/\(a == sysModules)=false/\∃ xs:List (List Key × Addr × Value),
   Paired (fun (p:List Key × V) (q:List Key × Addr × Value)=>p.1=q.1/\H q.2.1=some (.tup (p.1.map kV))/\RelV p.2 q.2.2) kvs xs /\
   ∃ o es ep,h.get? a=some o/\o.ExactDict/\o.data=.dict es ep/\es.toList=xs.map (entryOfKey (tupleKind (abg P w)))/\(xs.map (·.1)).Nodup
 | .set S n=>h.SetOf (intKind P w) a S n
 | .ins C dx fs=>H dx=some (.own a)/\fs.length<=1000/\dx ≠ a/\h.get? a=some (PySem.W.instObj C dx) /\
   ∃ mA,h.Ns1 dx mA/\(∀ f,RelO (fs.lookup f) (mA f))/\PySem.Within mA (fs.map (·.1))
 | .own _=>∃ o,h.get? a=some o
 | .xd fs=>∃ mA,h.Ns1 a mA/\∀ f,RelO (fs.lookup f) (mA f)
 | .rng lo hi=>∃ t u v,h.get? a=some { cls:=.type "range",data:=.fields #[.int lo t,.int hi u,.int 1 v] }
 | .frz o u=>h.get? a=some o/\ObjOk H h a u
 | .tbl ps=>h.get? a=some { cls:=.none,data:=.fields ps }
 | .met f x=>h.get? a=some (PySem.W.methodObj (.ref f) (.ref x))
 | .ext φ => φ h/\(∃ o,h.get? a=some o)/\∀ h1 h2:Heap,φ h1->(∀ o,h1.get? a=some o->h2.get? a=some o)->φ h2
def HOk (H:Hp) (h:Heap):Prop:=∀ a o,H a=some o->ObjOk P w H h a o
end
section
variable {P:Program} {w:World} {H H':Hp} {h h':Heap} {a:Addr} {o:HO}
theorem ObjOk.lt (x:ObjOk P w H h a o):a < h.objs.size:=by
 cases o with
 | lst xs=>obtain ⟨_,_,_,_,e⟩:=x;exact Heap.lt_size e
 | tup xs=>obtain ⟨_,_,_,p⟩:=x;exact p.lt
 | dK kvs=>obtain ⟨_,_,_,_,o,_,_,e,_⟩:=x;exact Heap.lt_size e
 | dT kvs=>obtain ⟨_,_,_,_,o,_,_,e,_⟩:=x;exact Heap.lt_size e
 | set S n=>obtain ⟨o,_,_,_,e,_⟩:=x;exact Heap.lt_size e
 | ins C dx fs=>obtain ⟨_,_,_,e,_⟩:=x;exact Heap.lt_size e
 | own y=>obtain ⟨_,e⟩:=x;exact Heap.lt_size e
 | xd fs=>obtain ⟨_,⟨_,_,_,e,_⟩,_⟩:=x;exact Heap.lt_size e
 | rng lo hi=>obtain ⟨_,_,_,e⟩:=x;exact Heap.lt_size e
 | frz ob u=>obtain ⟨e,_⟩:=x;exact Heap.lt_size e
 | tbl ps=>exact Heap.lt_size (show h.get? a=some _ from x)
 | met f y=>exact Heap.lt_size (show h.get? a=some _ from x)
 | ext φ=>obtain ⟨_,⟨_,e⟩,_⟩:=x;exact Heap.lt_size e
theorem Paired.mapP {α β:Type} {F G : α->β->Prop}:∀ {l₁:List α} {l₂:List β},Paired F l₁ l₂->(∀ a b,F a b->G a b)->Paired G l₁ l₂
 | _,_,.nil,_ => .nil
 | _,_,.cons r t,f => .cons (f _ _ r) (Paired.mapP t f)
theorem ObjOk.stay (x:ObjOk P w H h a o) (k:∀ b u,(b=a\/H b=some (.own a))->h.get? b=some u->h'.get? b=some u)
  (ho:∀ b,H b=some (.own a)->H' b=some (.own a)) (ht:∀ b xs,H b=some (.tup xs)->H' b=some (.tup xs)):ObjOk P w H' h' a o:=by
 induction o with
 | lst xs=>obtain ⟨z,its,n,r,e⟩:=x;exact ⟨z,its,n,r,k _ _ (.inl rfl) e⟩
 | tup xs=>obtain ⟨z,its,r,ob,e,c⟩:=x;exact ⟨z,its,r,ob,k _ _ (.inl rfl) e,c⟩
 | dK kvs=>obtain ⟨z,y,vs,r,ob,es,ep,e,c⟩:=x;exact ⟨z,y,vs,r,ob,es,ep,k _ _ (.inl rfl) e,c⟩
 | dT kvs =>
  obtain ⟨z,y,xs,r,ob,es,ep,e,c⟩:=x
  exact ⟨z,y,xs,Paired.mapP r fun p q z=>⟨z.1,ht _ _ z.2.1,z.2.2⟩,ob,es,ep,k _ _ (.inl rfl) e,c⟩
 | set S n=>obtain ⟨ob,es,ep,t,e,c⟩:=x;exact ⟨ob,es,ep,t,k _ _ (.inl rfl) e,c⟩
 | ins C dx fs =>
  obtain ⟨d,z,ne,e,mA,⟨od,es,ep,e2,c⟩,r⟩:=x
  exact ⟨ho _ d,z,ne,k _ _ (.inl rfl) e,mA,⟨od,es,ep,k _ _ (.inr d) e2,c⟩,r⟩
 | own y=>obtain ⟨ob,e⟩:=x;exact ⟨ob,k _ _ (.inl rfl) e⟩
 | xd fs=>obtain ⟨mA,⟨od,es,ep,e,c⟩,r⟩:=x;exact ⟨mA,⟨od,es,ep,k _ _ (.inl rfl) e,c⟩,r⟩
 | rng lo hi=>obtain ⟨t,u,v,e⟩:=x;exact ⟨t,u,v,k _ _ (.inl rfl) e⟩
 | frz ob u ih=>obtain ⟨e,q⟩:=x;exact ⟨k _ _ (.inl rfl) e,ih q⟩
 | tbl ps =>
  have e:h.get? a=some { cls:=.none,data:=.fields ps }:=x
  show h'.get? a=some { cls:=.none,data:=.fields ps }
  exact k a _ (.inl rfl) e
 | met f y =>
  have e:h.get? a=some (PySem.W.methodObj (.ref f) (.ref y)):=x
  show h'.get? a=some (PySem.W.methodObj (.ref f) (.ref y))
  exact k a _ (.inl rfl) e
 | ext φ=>obtain ⟨p,⟨o,e⟩,st⟩:=x;exact ⟨st _ _ p fun o q=>k _ _ (.inl rfl) q,⟨o,k _ _ (.inl rfl) e⟩,st⟩
theorem HOk.lt (x:HOk P w H h) (e:H a=some o):a < h.objs.size:=(x a o e).lt
theorem HOk.fresh (x:HOk P w H h) (e:h.objs.size<=a):H a=none:=by
 cases q:H a with
 | none=>rfl
 | some u=>exact absurd (Nat.lt_of_lt_of_le (x.lt q) e) (Nat.lt_irrefl _)
theorem HOk.kept (x:HOk P w H h) (k:∀ b u,h.get? b=some u->h'.get? b=some u):HOk P w H h':=fun a o e =>
 (x a o e).stay (fun b u _ q=>k b u q) (fun _ q=>q) fun _ _ q=>q
theorem HOk.laid (x:HOk P w H h) (k:∀ b u,h.get? b=some u->h'.get? b=some u) (hp:h.objs.size<=a) (new:ObjOk P w (upd H a o) h' a o):HOk P w (upd H a o) h':=fun b u e=>by
 have hn:=x.fresh hp
 by_cases hb:b=a
 ·subst hb;rw [aah] at e;cases e;exact new
 ·rw [aae hb] at e
  exact (x b u e).stay (fun c v _ q=>k c v q) (fun c q=>by rw [aae (aaj q hn)];exact q) fun c xs q=>by rw [aae (aaj q hn)];exact q
end
def Rd (H:Hp) (a:Addr) (u:HO):Prop:=H a=some u\/∃ o,H a=some (.frz o u)
theorem Rd.of {H:Hp} {a:Addr} {u:HO} (h:H a=some u):Rd H a u:=.inl h
theorem Rd.ok {P:Program} {w:World} {H:Hp} {h:Heap} {a:Addr} {u:HO} (r:Rd H a u) (x:HOk P w H h):ObjOk P w H h a u:=by
 rcases r with r | ⟨o,r⟩
 ·exact x a u r
 ·obtain ⟨_,q⟩:=x a _ r
  exact q
noncomputable def Mut:Option HO->Prop
 | some (.lst _)=>True
 | some (.dK _)=>True
 | some (.dT _)=>True
 | some (.set _ _)=>True
 | some (.ins _ _ _)=>True
 | some (.ext _)=>True
 | _=>False
section
variable {P:Program} {w:World} {H:Hp} {h h':Heap} {x e:Addr} {o':HO}
theorem HOk.write (ok:HOk P w H h) (mu:Mut (H x)) (he:e=x\/H e=some (.own x)) (k:∀ b u,b ≠ e->h.get? b=some u->h'.get? b=some u) (heo:∃ u,h'.get? e=some u)
  (new:ObjOk P w (upd H x o') h' x o'):HOk P w (upd H x o') h':=fun b u q=>by
 have nown:∀ c y,H c=some (.own y)->c ≠ x:=fun c y r z=>by subst z;rw [r] at mu;exact mu
 have ntup:∀ c xs,H c=some (.tup xs)->c ≠ x:=fun c xs r z=>by subst z;rw [r] at mu;exact mu
 by_cases hb:b=x
 ·subst hb;rw [aah] at q;cases q;exact new
 ·rw [aae hb] at q
  by_cases hbe:b=e
  ·have q':H b=some (.own x):=by
    rcases he with z | z
    ·exact absurd (hbe.trans z) hb
    ·rw [hbe];exact z
   rw [q] at q';cases q'
   obtain ⟨v,hv⟩:=heo
   exact ⟨v,by rw [hbe];exact hv⟩
  ·refine (ok b u q).stay (fun c v hc r=>k c v ?_ r) (fun c r=>by rw [aae (nown c b r)];exact r) fun c xs r=>by rw [aae (ntup c xs r)];exact r
   rcases hc with rfl | hc
   ·exact hbe
   ·rintro rfl
    rcases he with z | z
    ·exact nown c b hc z
    ·rw [hc] at z;cases z;exact hb rfl
end
structure Un (fs ex:List Addr) (H H':Hp) (h h':Heap):Prop where
 keep:∀ b o,h.get? b=some o->H b=none->b ∉ fs->b ∉ ex->h'.get? b=some o
 slot:∀ b o,h.get? b=some o->H b=none->b∈fs->b ∉ ex->∃ sl,h'.get? b=some { o with slots:=sl }
 free:∀ b o,h.get? b=some o->H b=none->b ∉ ex->H' b=none
 there:∀ b o,h.get? b=some o->b ∉ ex->∃ o',h'.get? b=some o'
 tups:∀ b xs,H b=some (.tup xs)->H' b=some (.tup xs)
 frzs:∀ b o u,H b=some (.frz o u)->H' b=some (.frz o u)
 tbls:∀ b ps,H b=some (.tbl ps)->∃ more,H' b=some (.tbl (ps ++ more))
section
variable {fs fs' ex ex':List Addr} {H H1 H2:Hp} {h h1 h2 h':Heap} {a x e:Addr} {o:HO}
theorem Un.any (u:Un fs ex H H1 h h1) {b:Addr} {ob:Obj} (q:h.get? b=some ob) (n:H b=none) (hx:b ∉ ex):∃ sl,h1.get? b=some { ob with slots:=sl }:=by
 by_cases hb:b∈fs
 ·exact u.slot b ob q n hb hx
 ·exact ⟨ob.slots,u.keep b ob q n hb hx⟩
theorem Un.trans (a:Un fs ex H H1 h h1) (b:Un fs ex H1 H2 h1 h2):Un fs ex H H2 h h2 where
 keep:=fun c ob q n hc hx=>b.keep c ob (a.keep c ob q n hc hx) (a.free c ob q n hx) hc hx
 slot:=fun c ob q n hc hx=>by
  obtain ⟨sl,e1⟩:=a.slot c ob q n hc hx
  obtain ⟨sl',e2⟩:=b.slot c _ e1 (a.free c ob q n hx) hc hx
  exact ⟨sl',e2⟩
 free:=fun c ob q n hx=>by
  obtain ⟨o',e1⟩:=a.there c ob q hx
  exact b.free c o' e1 (a.free c ob q n hx) hx
 there:=fun c ob q hx=>by
  obtain ⟨o',e1⟩:=a.there c ob q hx
  exact b.there c o' e1 hx
 tups:=fun c xs q=>b.tups c xs (a.tups c xs q)
 frzs:=fun c ob xs q=>b.frzs c ob xs (a.frzs c ob xs q)
 tbls:=fun c ps q=>by
  obtain ⟨m1,e1⟩:=a.tbls c ps q
  obtain ⟨m2,e2⟩:=b.tbls c _ e1
  exact ⟨m1 ++ m2,by rw [e2,Array.append_assoc]⟩
theorem Un.kept (k:∀ b u,h.get? b=some u->h'.get? b=some u):Un fs ex H H h h' :=
 ⟨fun b ob q _ _ _=>k b ob q,fun b ob q _ _ _=>⟨ob.slots,k b ob q⟩,fun _ _ _ n _=>n,fun b ob q _=>⟨ob,k b ob q⟩,fun _ _ q=>q,fun _ _ _ q=>q,fun _ ps q=>⟨#[],by rw [q];simp⟩⟩
theorem Un.refl:Un fs ex H H h h:=Un.kept fun _ _ q=>q
theorem Un.laid (k:∀ b u,h.get? b=some u->h'.get? b=some u) (hp:h.objs.size<=a) (hn:H a=none):Un fs ex H (upd H a o) h h' where
 keep:=fun b u q _ _ _=>k b u q
 slot:=fun b u q _ _ _=>⟨u.slots,k b u q⟩
 free:=fun b u q n _=>by rw [aae (Nat.ne_of_lt (Nat.lt_of_lt_of_le (Heap.lt_size q) hp))];exact n
 there:=fun b u q _=>⟨u,k b u q⟩
 tups:=fun b xs q=>by rw [aae (aaj q hn)];exact q
 frzs:=fun b u xs q=>by rw [aae (aaj q hn)];exact q
 tbls:=fun b ps q=>⟨#[],by rw [aae (aaj q hn),q];simp⟩
theorem Un.write (mu:Mut (H x)) (he:e=x\/H e=some (.own x)) (k:∀ b u,b ≠ e->h.get? b=some u->h'.get? b=some u) (heo:∃ u,h'.get? e=some u):Un fs ex H (upd H x o) h h':=by
 have hx:∀ b,H b=none->b ≠ x:=fun b n z=>by subst z;rw [n] at mu;exact mu
 have hb:∀ b,H b=none->b ≠ e:=fun b n z=>by
  subst z
  rcases he with r | r
  ·exact hx b n r
  ·rw [n] at r;cases r
 have hm:∀ b u,H b=some u->¬ Mut (some u)->b ≠ x:=fun b u q nm z=>by subst z;rw [q] at mu;exact nm mu
 refine ⟨fun b u q n _ _=>k b u (hb b n) q,fun b u q n _ _=>⟨u.slots,k b u (hb b n) q⟩,fun b u q n _=>by rw [aae (hx b n)];exact n,fun b u q _=>?_,
  fun b xs q=>by rw [aae (hm b _ q fun z=>z)];exact q,fun b u xs q=>by rw [aae (hm b _ q fun z=>z)];exact q,fun b ps q=>⟨#[],by rw [aae (hm b _ q fun z=>z),q];simp⟩⟩
 by_cases hbe:b=e
 ·subst hbe;exact heo
 ·exact ⟨u,k b u hbe q⟩
theorem Un.mono (u:Un fs ex H H1 h h1) (hs:∀ b∈fs,b∈fs') (hx:∀ b∈ex,b∈ex'):Un fs' ex' H H1 h h1 :=
 ⟨fun b ob q n hb he=>u.keep b ob q n (fun z=>hb (hs b z)) fun z=>he (hx b z),fun _ _ q n _ he=>u.any q n fun z=>he (hx _ z),fun b ob q n he=>u.free b ob q n fun z=>he (hx b z),fun b ob q he=>u.there b ob q fun z=>he (hx b z),u.tups,u.frzs,u.tbls⟩
end
noncomputable def trk (h:Heap) (H:Hp):List Addr:=(List.range h.objs.size).filter fun a=>(H a).isSome
noncomputable def hidT (h:Heap) (H:Hp):Heap:=PySem.W.hideAll h (trk h H)
theorem aqi (h:Heap) (H:Hp):(hidT h H).objs.size=h.objs.size:=PySem.W.hideAll_size _ _
theorem asr {h:Heap} {H:Hp} {b:Addr} {o:Obj} (e:h.get? b=some o) (n:H b=none):(hidT h H).get? b=some o :=
 PySem.W.hideAll_get _ e fun hm=>by
  have q:(H b).isSome=true:=(List.mem_filter.mp hm).2
  rw [n] at q;simp at q
theorem avp {h:Heap} {H:Hp} {b:Addr} {o:Obj} (e:(hidT h H).get? b=some o):h.get? b=some o/\H b=none:=by
 have e':h.get? b=some o:=PySem.W.of_hideAll (trk h H) e
 refine ⟨e',?_⟩
 cases q:H b with
 | none=>rfl
 | some x =>
  have hm:b∈trk h H:=List.mem_filter.mpr ⟨List.mem_range.mpr (Heap.lt_size e'),by simp [q]⟩
  have z:(hidT h H).get? b=none:=PySem.W.hideAll_none (trk h H) hm
  rw [z] at e;cases e
noncomputable def avq (g h:Heap) (L:Addr):List (Addr × Obj):=(List.range h.objs.size).filterMap fun a=>if a=L\/(g.get? a).isSome=true then none else (h.get? a).map fun o=>(a,o)
noncomputable def rest (g h:Heap) (L d:Addr):List (Addr × Obj):=(avq g h L).filter fun p=>decide (p.1 ≠ d)
structure Mod (K:Frag) (mg:Str->Option Value) (base:Heap):Prop where
 kin:K.In base
 glob:base.Ns mainGlobals mg
 blt:∃ mb,base.Ns builtinsNs mb/\∀ x:Str,x ≠ "__name__"->mb x=bootBuiltins x
 nolimit:base.NoLimit
/-- the context: a def's body (or a comprehension's block) running. base: fixed through the whole law; s₀, H₀: the entry; outer: the frames whose slots others may change (a def's callers); stack: all frames that run;
  ex: iterators that were made ahead of the entry and are walked here (a comprehension's);fn: the names whose cells were made at the entry (a def: all;a comprehension's block: its own);calm: not within an except suite;pn: pins that every state bears;xe: what is wanted of an exception that leaves the code -/
structure Cx where
 prog:Program
 w:World
 K:Frag
 mg:Str->Option Value
 base:Heap
 A:Around
 N:List Str
 s₀:Shared
 H₀:Hp
 env:Env
 outer:List Env
 stack:List Env
 ex:List Addr
 fn:Str->Bool
 calm:Bool
 pn:List (Addr × Obj)
 xe:Value->Shared->Prop
noncomputable def frs (l:List Env):List Addr:=l.filterMap (·.frame)
noncomputable abbrev Cx.fs (X:Cx):List Addr:=frs X.outer
def Vis (sc:Scope) (x:Str):Prop:=sc.names.lookup x=some .local\/sc.names.lookup x=some .cell\/sc.names.lookup x=some .free
def Loc (sc:Scope) (x:Str):Prop:=sc.names.lookup x=some .local\/sc.names.lookup x=some .cell
def Look (env:Env) (h:Heap) (m:Str->Option Value) (x:Str) (u:Value):Prop :=
 (env.kindOf x=some .local/\m x=some u)\/((env.kindOf x=some .cell\/env.kindOf x=some .free)/\∃ c,env.cells.lookup x=some c/\h.IsCell c (some u))
structure Cx.Ok (X:Cx):Prop where
 mod:Mod X.K X.mg X.base
 kind:X.env.scope.kind=.function
 glob:X.env.globals=mainGlobals
 blt:X.env.builtins=builtinsNs
 above:X.s₀.heap.objs.size<=X.env.locals
 inj:∀ x y c,X.env.cells.lookup x=some c->X.env.cells.lookup y=some c->x=y
 has:∀ x,(X.env.kindOf x=some .cell\/X.env.kindOf x=some .free)->∃ c,X.env.cells.lookup x=some c
 cab:∀ x c,X.fn x=true->X.env.cells.lookup x=some c->X.s₀.heap.objs.size<=c
 hd:X.calm=true->X.A.handled=none
 frames:X.A.frames=some X.stack
 stk:X.stack=X.outer\/(X.stack=X.env :: X.outer/\X.env.frame=some X.env.locals)
 exf:∀ b∈X.ex,b ≠ X.env.locals/\∀ x c,X.env.cells.lookup x=some c->c ≠ b
 bs:∀ b o,X.base.get? b=some o->X.s₀.heap.get? b=some o/\X.H₀ b=none
 bsz:X.base.objs.size<=X.s₀.heap.objs.size
 noex:∀ b o,X.base.get? b=some o->b ∉ X.ex
 exfs:∀ b∈X.ex,b ∉ X.fs
 funs:X.s₀.heap.FunFrames X.base X.outer
 frf:∀ b∈X.fs,X.H₀ b=none
structure Inv (X:Cx) (pins:List (Addr × Obj)) (σ:List (Option V)) (H:Hp) (s:Shared):Prop where
 ok:X.Ok
 os:s.os=X.s₀.os
 bare:AllBare s.gens
 base:Un X.fs X.ex X.H₀ H X.s₀.heap s.heap
 loc:∃ m,s.heap.Ns X.env.locals m/\∀ (i:Nat) (x:Str) (v:V),X.N[i]?=some x->σ[i]?=some (some v)->Vis X.env.scope x->∃ u,RelV v u/\Look X.env s.heap m x u
 cell:∀ x c,X.env.cells.lookup x=some c->∃ v,s.heap.IsCell c v
 free:H X.env.locals=none
 freeC:∀ x c,X.env.cells.lookup x=some c->H c=none
 pin:∀ p∈X.pn ++ pins,s.heap.get? p.1=some p.2/\H p.1=none/\p.1 ≠ X.env.locals/\p.1 ∉ X.fs/\∀ v,p.2.data ≠ .cell v
 hok:HOk X.prog X.w H s.heap
 len : σ.length=X.N.length
section
variable {X:Cx} {pins:List (Addr × Obj)} {σ:List (Option V)} {H H':Hp} {s:Shared} {h':Heap}
theorem Cx.Ok.nofr (ok:X.Ok) {b:Addr} {o:Obj} (e:X.base.get? b=some o):b ∉ X.fs:=fun hb=>by
 have:=(ok.funs.mem hb).1
 rw [e] at this;cases this
theorem Inv.bs (I:Inv X pins σ H s):∀ b o,X.base.get? b=some o->s.heap.get? b=some o/\H b=none:=fun b o e =>
 ⟨I.base.keep b o (I.ok.bs b o e).1 (I.ok.bs b o e).2 (I.ok.nofr e) (I.ok.noex b o e),I.base.free b o (I.ok.bs b o e).1 (I.ok.bs b o e).2 (I.ok.noex b o e)⟩
theorem Inv.bk (I:Inv X pins σ H s):∀ b o,X.base.get? b=some o->s.heap.get? b=some o:=fun b o e=>(I.bs b o e).1
theorem Inv.mod (I:Inv X pins σ H s):Mod X.K X.mg X.base:=I.ok.mod
theorem Inv.kIn (I:Inv X pins σ H s):X.K.In s.heap:=I.ok.mod.kin.keeps I.bk
theorem Inv.fr (I:Inv X pins σ H s):∃ m,Fr X.base X.env.locals s.heap m :=
 let ⟨m,hn,_⟩:=I.loc
 ⟨m,hn,I.bk,Nat.le_trans I.ok.bsz I.ok.above⟩
theorem Inv.lt (I:Inv X pins σ H s):X.env.locals < s.heap.objs.size:=let ⟨_,hn,_⟩:=I.loc;hn.lt
theorem Inv.sz (I:Inv X pins σ H s):X.s₀.heap.objs.size<=s.heap.objs.size:=Nat.le_trans I.ok.above (Nat.le_of_lt I.lt)
theorem Inv.nofs (I:Inv X pins σ H s) {a:Addr} (h:s.heap.objs.size<=a):a ∉ X.fs:=fun hb=>by
 obtain ⟨_,o,ho,_⟩:=I.ok.funs.mem hb
 exact absurd (Nat.lt_of_lt_of_le (Heap.lt_size ho) (Nat.le_trans I.sz h)) (Nat.lt_irrefl _)
theorem Inv.cne (I:Inv X pins σ H s):∀ x c,X.env.cells.lookup x=some c->c ≠ X.env.locals:=fun x c e z=>by
 obtain ⟨v,o,ho,hd⟩:=I.cell x c e
 obtain ⟨m,⟨o',es,ep,ho',hd',_⟩,_⟩:=I.loc
 rw [z,ho'] at ho;cases ho;rw [hd'] at hd;cases hd
theorem Inv.funs (I:Inv X pins σ H s):s.heap.FunFrames X.base X.outer:=by
 have all:∀ (l:List Env),(∀ b∈frs l,b∈X.fs)->X.s₀.heap.FunFrames X.base l->s.heap.FunFrames X.base l:=by
  intro l
  induction l with
  | nil=>intro _ _;trivial
  | cons env r ih =>
   intro hs hl
   obtain ⟨hk,⟨L,o,hf,hn,ho,hd⟩,hr⟩:=hl
   have hL:L∈X.fs:=hs L (by unfold frs;rw [List.filterMap_cons,hf];exact List.mem_cons_self)
   obtain ⟨sl,e⟩:=I.base.slot L o ho (I.ok.frf L hL) hL fun z=>I.ok.exfs L z hL
   exact ⟨hk,⟨L,_,hf,hn,e,hd⟩,ih (fun b hb=>hs b (by unfold frs;rw [List.filterMap_cons,hf];exact List.mem_cons_of_mem _ hb)) hr⟩
 exact all X.outer (fun _ hb=>hb) I.ok.funs
theorem Inv.stack (I:Inv X pins σ H s):s.heap.FunFrames X.base X.stack:=by
 rcases I.ok.stk with e | ⟨e,hf⟩
 ·rw [e];exact I.funs
 ·rw [e]
  obtain ⟨m,hn,_⟩:=I.loc
  refine .cons (by rw [I.ok.kind];decide) hf hn ?_ I.funs
  exact Heap.get?_none_of_le (Nat.le_trans I.ok.bsz I.ok.above)
theorem Inv.stkSub (I:Inv X pins σ H s):∀ b∈frs X.stack,b∈X.env.locals :: X.fs:=fun b hb=>by
 rcases I.ok.stk with e | ⟨e,hf⟩
 ·rw [e] at hb;exact List.mem_cons_of_mem _ hb
 ·rw [e] at hb
  unfold frs at hb
  rw [List.filterMap_cons,hf] at hb
  exact hb
theorem Inv.stkFree (I:Inv X pins σ H s):∀ b∈frs X.stack,H b=none:=fun b hb=>by
 rcases List.mem_cons.mp (I.stkSub b hb) with e | hb
 ·rw [e];exact I.free
 ·obtain ⟨_,o,ho,_⟩:=I.ok.funs.mem hb
  exact I.base.free b o ho (I.ok.frf b hb) fun z=>I.ok.exfs b z hb
theorem Inv.step {g':Array GenState} {t':Nat} {d':Drawn} {ch:List Addr} (I:Inv X pins σ H s)
  (hch:∀ b∈ch,(b∈X.ex\/X.s₀.heap.objs.size<=b)/\b ≠ X.env.locals/\(∀ x c,X.env.cells.lookup x=some c->c ≠ b)/\∀ p∈X.pn ++ pins,p.1 ≠ b)
  (keep:∀ b o,b ≠ X.env.locals->b ∉ X.fs->b ∉ ch->s.heap.get? b=some o->H b=none->h'.get? b=some o)
  (slot:∀ b o,b ≠ X.env.locals->b∈X.fs->b ∉ ch->s.heap.get? b=some o->H b=none->∃ sl,h'.get? b=some { o with slots:=sl }) (free:∀ b o,b ∉ ch->s.heap.get? b=some o->H b=none->H' b=none)
  (there:∀ b o,b ∉ ch->s.heap.get? b=some o->∃ o',h'.get? b=some o')
  (tups:∀ b xs,H b=some (.tup xs)->H' b=some (.tup xs)) (frzs:∀ b o u,H b=some (.frz o u)->H' b=some (.frz o u)) (tbls:∀ b ps,H b=some (.tbl ps)->∃ more,H' b=some (.tbl (ps ++ more)))
  (ns:∀ m,s.heap.Ns X.env.locals m->h'.Ns X.env.locals m) (hok:HOk X.prog X.w H' h') (hg:AllBare g') :
  Inv X pins σ H' { s with heap:=h',gens:=g',drawn:=d',toks:=t' }:=by
 have neL:∀ b o,X.s₀.heap.get? b=some o->b ≠ X.env.locals:=fun b o e=>Nat.ne_of_lt (Nat.lt_of_lt_of_le (Heap.lt_size e) I.ok.above)
 have neC:∀ b o,X.s₀.heap.get? b=some o->b ∉ X.ex->b ∉ ch:=fun b o e hx hb=>by
  rcases (hch b hb).1 with z | z
  ·exact hx z
  ·exact absurd (Nat.lt_of_lt_of_le (Heap.lt_size e) z) (Nat.lt_irrefl _)
 have cellK:∀ x c,X.env.cells.lookup x=some c->∀ v,s.heap.IsCell c v->h'.IsCell c v:=fun x c e v z_=>by
  obtain ⟨o,ho,hd⟩:=z_
  have nch:c ∉ ch:=fun z=>(hch c z).2.2.1 x c e rfl
  by_cases hc:c∈X.fs
  ·obtain ⟨sl,q⟩:=slot c o (I.cne x c e) hc nch ho (I.freeC x c e)
   exact ⟨_,q,hd⟩
  ·exact ⟨o,keep c o (I.cne x c e) hc nch ho (I.freeC x c e),hd⟩
 refine ⟨I.ok,I.os,hg,⟨fun b o e n hb hx=>?_,fun b o e n hb hx=>?_,fun b o e n hx=>?_,fun b o e hx=>?_,fun b xs e=>tups b xs (I.base.tups b xs e),fun b o xs e=>frzs b o xs (I.base.frzs b o xs e),fun b ps e=>?_⟩,?_,fun x c e=>?_,?_,fun x c e=>?_,fun p hp=>?_,hok,I.len⟩
 ·exact keep b o (neL b o e) hb (neC b o e hx) (I.base.keep b o e n hb hx) (I.base.free b o e n hx)
 ·obtain ⟨sl,e1⟩:=I.base.slot b o e n hb hx
  obtain ⟨sl',e2⟩:=slot b _ (neL b o e) hb (neC b o e hx) e1 (I.base.free b o e n hx)
  exact ⟨sl',e2⟩
 ·obtain ⟨o',e1⟩:=I.base.there b o e hx
  exact free b o' (neC b o e hx) e1 (I.base.free b o e n hx)
 ·obtain ⟨o',e1⟩:=I.base.there b o e hx
  exact there b o' (neC b o e hx) e1
 ·obtain ⟨m1,e1⟩:=I.base.tbls b ps e
  obtain ⟨m2,e2⟩:=tbls b _ e1
  exact ⟨m1 ++ m2,by rw [e2,Array.append_assoc]⟩
 ·obtain ⟨m,hn,hl⟩:=I.loc
  refine ⟨m,ns m hn,fun i x v e1 e2 e3=>?_⟩
  obtain ⟨u,r,l⟩:=hl i x v e1 e2 e3
  refine ⟨u,r,?_⟩
  rcases l with l | ⟨k,c,e,z⟩
  ·exact .inl l
  ·exact .inr ⟨k,c,e,cellK x c e _ z⟩
 ·obtain ⟨v,z⟩:=I.cell x c e
  exact ⟨v,cellK x c e v z⟩
 ·obtain ⟨m,⟨o,_,_,ho,_⟩,_⟩:=I.loc
  exact free _ o (fun z=>(hch _ z).2.1 rfl) ho I.free
 ·obtain ⟨v,o,ho,hd⟩:=I.cell x c e
  exact free c o (fun z=>(hch c z).2.2.1 x c e rfl) ho (I.freeC x c e)
 ·obtain ⟨e,n,ne,nf,d⟩:=I.pin p hp
  have nch:p.1 ∉ ch:=fun z=>(hch p.1 z).2.2.2 p hp rfl
  exact ⟨keep p.1 p.2 ne nf nch e n,free p.1 p.2 nch e n,ne,nf,d⟩
theorem Inv.un {t':Nat} (I:Inv X pins σ H s) (u:Un X.fs [] H H' s.heap h') (hok:HOk X.prog X.w H' h'):Inv X pins σ H' { s with heap:=h',toks:=t' }:=by
 obtain ⟨m,⟨o,es,ep,ho,r⟩,_⟩:=id I.loc
 obtain ⟨sl,hL⟩:=u.any ho I.free (by simp)
 exact I.step (g':=s.gens) (d':=s.drawn) (ch:=[]) (fun _ z=>nomatch z) (fun b o _ hb _ e n=>u.keep b o e n hb (by simp)) (fun b o _ hb _ e n=>u.slot b o e n hb (by simp)) (fun b o _ e n=>u.free b o e n (by simp)) (fun b o _ e=>u.there b o e (by simp)) u.tups u.frzs u.tbls (fun m' hm=>by
  obtain ⟨o',es',ep',ho',r'⟩:=hm
  rw [ho] at ho';cases ho'
  exact ⟨_,es',ep',hL,r'⟩) hok I.bare
theorem Inv.call {g':Array GenState} {t':Nat} {d':Drawn} {ch:List Addr} (I:Inv X pins σ H s) (u:Un (frs X.stack) ch H H' s.heap h') (hok:HOk X.prog X.w H' h') (hg:AllBare g')
  (hch:∀ b∈ch,(b∈X.ex\/X.s₀.heap.objs.size<=b)/\b ≠ X.env.locals/\(∀ x c,X.env.cells.lookup x=some c->c ≠ b)/\∀ p∈X.pn ++ pins,p.1 ≠ b) :
  Inv X pins σ H' { s with heap:=h',gens:=g',drawn:=d',toks:=t' }:=by
 obtain ⟨m,⟨o,es,ep,ho,r⟩,_⟩:=id I.loc
 obtain ⟨sl,hL⟩:=u.any ho I.free fun z=>(hch _ z).2.1 rfl
 exact I.step (ch:=ch) hch (fun b o hL hb hc e n=>u.keep b o e n (fun z=>(List.mem_cons.mp (I.stkSub b z)).elim hL hb) hc) (fun b o _ _ hc e n=>u.any e n hc) (fun b o hc e n=>u.free b o e n hc) (fun b o hc e=>u.there b o e hc) u.tups u.frzs u.tbls (fun m' hm=>by
  obtain ⟨o',es',ep',ho',r'⟩:=hm
  rw [ho] at ho';cases ho'
  exact ⟨_,es',ep',hL,r'⟩) hok hg
theorem Inv.turned {t':Nat} {it:Addr} (I:Inv X pins σ H s) (k:∀ b o,b ≠ it->s.heap.get? b=some o->h'.get? b=some o) (hn:H it=none) (hL:it ≠ X.env.locals)
  (h1:it∈X.ex\/X.s₀.heap.objs.size<=it) (h2:∀ x c,X.env.cells.lookup x=some c->c ≠ it) (h3:∀ p∈X.pn ++ pins,p.1 ≠ it):Inv X pins σ H { s with heap:=h',toks:=t' }:=by
 have nit:∀ b u,H b=some u->b ≠ it:=fun b u e z=>by rw [z,hn] at e;cases e
 refine I.step (g':=s.gens) (d':=s.drawn) (ch:=[it]) (fun b hb=>?_) (fun b o _ _ hc e _=>k b o (fun z=>hc (by simp [z])) e) (fun b o _ _ hc e _=>⟨o.slots,k b o (fun z=>hc (by simp [z])) e⟩) (fun _ _ _ _ n=>n)
  (fun b o hc e=>⟨o,k b o (fun z=>hc (by simp [z])) e⟩) (fun _ _ e=>e) (fun _ _ _ e=>e) (fun b ps e=>⟨#[],by rw [e];simp⟩) (fun m hm=>?_) (fun b u e=>?_) I.bare
 ·have e:b=it:=by simpa using hb
  subst e
  exact ⟨h1,hL,h2,h3⟩
 ·obtain ⟨o,es,ep,ho,r⟩:=hm
  exact ⟨o,es,ep,k _ o (Ne.symm hL) ho,r⟩
 ·refine (I.hok b u e).stay (fun c v hc q=>k c v ?_ q) (fun _ q=>q) fun _ _ q=>q
  rcases hc with z | z
  ·rw [z];exact nit b u e
  ·exact nit c _ z
theorem Inv.tok (I:Inv X pins σ H s) (t:Nat):Inv X pins σ H { s with toks:=t }:=I.un (h':=s.heap) (t':=t) Un.refl I.hok
theorem Inv.kept {t':Nat} (I:Inv X pins σ H s) (k:∀ b u,s.heap.get? b=some u->h'.get? b=some u):Inv X pins σ H { s with heap:=h',toks:=t' }:=I.un (Un.kept k) (I.hok.kept k)
theorem Inv.laid {a:Addr} {o:HO} {t':Nat} (I:Inv X pins σ H s) (k:∀ b u,s.heap.get? b=some u->h'.get? b=some u) (hp:s.heap.objs.size<=a) (new:ObjOk X.prog X.w (upd H a o) h' a o) :
  Inv X pins σ (upd H a o) { s with heap:=h',toks:=t' }:=I.un (Un.laid k hp (I.hok.fresh hp)) (I.hok.laid k hp new)
theorem Inv.write {x e:Addr} {o:HO} {t':Nat} (I:Inv X pins σ H s) (mu:Mut (H x)) (he:e=x\/H e=some (.own x)) (k:∀ b u,b ≠ e->s.heap.get? b=some u->h'.get? b=some u) (heo:∃ u,h'.get? e=some u)
  (new:ObjOk X.prog X.w (upd H x o) h' x o):Inv X pins σ (upd H x o) { s with heap:=h',toks:=t' }:=I.un (Un.write mu he k heo) (I.hok.write mu he k heo new)
theorem Inv.pins_of {pins':List (Addr × Obj)} (I:Inv X pins σ H s) (h:∀ p∈pins',s.heap.get? p.1=some p.2/\H p.1=none/\p.1 ≠ X.env.locals/\p.1 ∉ X.fs/\∀ v,p.2.data ≠ .cell v):Inv X pins' σ H s :=
 ⟨I.ok,I.os,I.bare,I.base,I.loc,I.cell,I.free,I.freeC,fun p hp=>(List.mem_append.mp hp).elim (fun z=>I.pin p (List.mem_append_left _ z)) (h p),I.hok,I.len⟩
theorem nodup_ix {N:List Str} (hN:N.Nodup) {i j:Nat} {x:Str} (a:N[i]?=some x) (b:N[j]?=some x):i=j:=by
 obtain ⟨h1,e1⟩:=List.getElem?_eq_some_iff.mp a
 obtain ⟨h2,e2⟩:=List.getElem?_eq_some_iff.mp b
 exact (List.getElem_inj hN).mp (e1.trans e2.symm)
theorem ai6 {M:Model} {A:Around} {E:Value->Shared->Prop} {i:Nat} {x:Str} {v:V} {u:Value} {Q:Unit->Shared->Prop} (I:Inv X pins σ H s) (hN:X.N.Nodup) (hi:X.N[i]?=some x) (hx:Loc X.env.scope x) (r:RelV v u)
  (h:∀ s',Inv X pins (σ.set i (some v)) H s'->(∃ a,Heap.SameBut a s.heap s'.heap/\(a=X.env.locals\/X.env.cells.lookup x=some a))->Q () s') (hf:X.fn x=true\/X.env.scope.names.lookup x=some .local:=by first | exact .inl rfl | exact .inr rfl | assumption):wpAny M A (storeName X.env x u) Q E s:=by
 obtain ⟨m,hn,hl⟩:=id I.loc
 have hcls:(X.env.scope.kind == .class || (X.env.scope.kind == .module && X.env.locals != X.env.globals))=false:=by rw [I.ok.kind];rfl
 have hiσ:i < σ.length:=by rw [I.len];exact (List.getElem?_eq_some_iff.mp hi).1
 have cne:=I.cne
 have tracked:∀ {a:Addr} {h':Heap},(∃ o,s.heap.get? a=some o/\H a=none)->Heap.SameBut a s.heap h'->HOk X.prog X.w H h':=fun {a h'} ha hs b ob e=>by
  obtain ⟨_,_,hfree⟩:=ha
  refine (I.hok b ob e).stay (fun c w' hc q=>(hs.2 c ?_).trans q) (fun _ q=>q) fun _ _ q=>q
  rintro rfl
  rcases hc with rfl | hc
  ·rw [hfree] at e;cases e
  ·rw [hfree] at hc;cases hc
 rcases hx with hk | hk
 ·refine wpAny_storeName_local hk hn (fun h' hn' hs=>?_) hcls
  obtain ⟨oL,_,_,hoL,_⟩:=id hn
  refine h _ ⟨I.ok,I.os,I.bare,⟨fun b o e n hb hx=>?_,fun b o e n hb hx=>?_,I.base.free,fun b o e hx=>?_,I.base.tups,I.base.frzs,I.base.tbls⟩,⟨_,hn',fun j y v' e1 e2 e3=>?_⟩,fun y c e=>?_,I.free,I.freeC,fun p hp=>?_,tracked ⟨oL,hoL,I.free⟩ hs,by simpa using I.len⟩ ⟨_,hs,.inl rfl⟩
  ·exact (hs.2 b (Nat.ne_of_lt (Nat.lt_of_lt_of_le (Heap.lt_size e) I.ok.above))).trans (I.base.keep b o e n hb hx)
  ·obtain ⟨sl,e1⟩:=I.base.slot b o e n hb hx
   exact ⟨sl,(hs.2 b (Nat.ne_of_lt (Nat.lt_of_lt_of_le (Heap.lt_size e) I.ok.above))).trans e1⟩
  ·obtain ⟨o',e1⟩:=I.base.there b o e hx
   exact ⟨o',(hs.2 b (Nat.ne_of_lt (Nat.lt_of_lt_of_le (Heap.lt_size e) I.ok.above))).trans e1⟩
  ·by_cases hj:j=i
   ·subst hj
    rw [hi] at e1;cases e1
    rw [List.getElem?_set_self hiσ] at e2
    cases e2
    exact ⟨u,r,.inl ⟨hk,by simp⟩⟩
   ·rw [List.getElem?_set_ne (Ne.symm hj)] at e2
    obtain ⟨u',r',q⟩:=hl j y v' e1 e2 e3
    refine ⟨u',r',?_⟩
    rcases q with ⟨k,e⟩ | ⟨k,c,e,z⟩
    ·refine .inl ⟨k,?_⟩
     have:y ≠ x:=fun e=>hj (nodup_ix hN e1 (e ▸ hi))
     simp [this,e]
    ·exact .inr ⟨k,c,e,z.sameBut hs (cne y c e)⟩
  ·obtain ⟨w',z⟩:=I.cell y c e
   exact ⟨w',z.sameBut hs (cne y c e)⟩
  ·obtain ⟨e,n,ne,nf,d⟩:=I.pin p hp
   exact ⟨(hs.2 p.1 ne).trans e,n,ne,nf,d⟩
 ·have hfn:X.fn x=true:=by
   rcases hf with z | z
   ·exact z
   ·rw [z] at hk;cases hk
  obtain ⟨c,hc⟩:=I.ok.has x (.inl hk)
  obtain ⟨w',z⟩:=I.cell x c hc
  refine wpAny_storeName_cell I.ok.kind hk hc z (fun h' hc' hs=>?_)
  obtain ⟨oc,hoc,hocd⟩:=id z
  refine h { s with heap:=h' } ⟨I.ok,I.os,I.bare,⟨fun b o e n hb hx=>?_,fun b o e n hb hx=>?_,I.base.free,fun b o e hx=>?_,I.base.tups,I.base.frzs,I.base.tbls⟩,⟨m,hn.sameBut hs (Ne.symm (cne x c hc)),fun j y v' e1 e2 e3=>?_⟩,fun y c' e=>?_,I.free,I.freeC,fun p hp=>?_,tracked ⟨oc,hoc,I.freeC x c hc⟩ hs,by simpa using I.len⟩ ⟨c,hs,.inr hc⟩
  ·exact (hs.2 b (Nat.ne_of_lt (Nat.lt_of_lt_of_le (Heap.lt_size e) (I.ok.cab x c hfn hc)))).trans (I.base.keep b o e n hb hx)
  ·obtain ⟨sl,e1⟩:=I.base.slot b o e n hb hx
   exact ⟨sl,(hs.2 b (Nat.ne_of_lt (Nat.lt_of_lt_of_le (Heap.lt_size e) (I.ok.cab x c hfn hc)))).trans e1⟩
  ·obtain ⟨o',e1⟩:=I.base.there b o e hx
   exact ⟨o',(hs.2 b (Nat.ne_of_lt (Nat.lt_of_lt_of_le (Heap.lt_size e) (I.ok.cab x c hfn hc)))).trans e1⟩
  ·by_cases hj:j=i
   ·subst hj
    rw [hi] at e1;cases e1
    rw [List.getElem?_set_self hiσ] at e2
    cases e2
    exact ⟨u,r,.inr ⟨.inl hk,c,hc,hc'⟩⟩
   ·rw [List.getElem?_set_ne (Ne.symm hj)] at e2
    obtain ⟨u',r',q⟩:=hl j y v' e1 e2 e3
    refine ⟨u',r',?_⟩
    rcases q with q | ⟨k,c',e,z'⟩
    ·exact .inl q
    ·refine .inr ⟨k,c',e,z'.sameBut hs ?_⟩
     rintro rfl
     exact hj (nodup_ix hN e1 (I.ok.inj _ _ _ e hc ▸ hi))
  ·by_cases hcc:c'=c
   ·subst hcc;exact ⟨_,hc'⟩
   ·obtain ⟨w2,z2⟩:=I.cell y c' e
    exact ⟨w2,z2.sameBut hs hcc⟩
  ·obtain ⟨e,n,ne,nf,d⟩:=I.pin p hp
   refine ⟨(hs.2 p.1 ?_).trans e,n,ne,nf,d⟩
   intro q
   rw [q,hoc] at e
   have q':oc=p.2:=Option.some.inj e
   exact d w' (by rw [← q'];exact hocd)
theorem akx {M:Model} {A:Around} {E:Value->Shared->Prop} {i:Nat} {x:Str} {v:V} {u:Value} {Q:Unit->Shared->Prop} (I:Inv X pins σ H s) (hN:X.N.Nodup) (hi:X.N[i]?=some x) (hx:Loc X.env.scope x) (r:RelV v u)
  (h:∀ s',Inv X pins (σ.set i (some v)) H s'->Q () s') (hf:X.fn x=true\/X.env.scope.names.lookup x=some .local:=by first | exact .inl rfl | exact .inr rfl | assumption):wpAny M A (storeName X.env x u) Q E s :=
 ai6 I hN hi hx r (fun s' I' _=>h s' I') hf
theorem Inv.call' {s':Shared} {ch:List Addr} (I:Inv X pins σ H s) (ho:s'.os=s.os) (u:Un (frs X.stack) ch H H' s.heap s'.heap) (hok:HOk X.prog X.w H' s'.heap) (hg:AllBare s'.gens)
  (hch:∀ b∈ch,(b∈X.ex\/X.s₀.heap.objs.size<=b)/\b ≠ X.env.locals/\(∀ x c,X.env.cells.lookup x=some c->c ≠ b)/\∀ p∈X.pn ++ pins,p.1 ≠ b):Inv X pins σ H' s':=by
 obtain ⟨h',g',d',t',o'⟩:=s'
 have e:o'=s.os:=ho
 subst e
 exact I.call (g':=g') (t':=t') (d':=d') u hok hg hch
end
noncomputable abbrev XK:=Value->Option Addr->Hp->Prop
noncomputable abbrev St:=List (Option V)
noncomputable abbrev VK:=V->Hp->Prop
noncomputable abbrev TE:=St->Hp->VK->Prop
noncomputable abbrev TT:=St->Hp->(Bool->Hp->Prop)->Prop
noncomputable abbrev TA:=St->Hp->(List V->Hp->Prop)->Prop
structure Ends where
 nx:St->Hp->Prop
 rt:VK
 bk:St->Hp->Prop:=fun _ _=>False
 ct:St->Hp->Prop:=fun _ _=>False
noncomputable abbrev TS:=Ends->St->Hp->Prop
def EP (X:Cx) (pins:List (Addr × Obj)) (σ:St) (Q:VK) (u:Value) (s':Shared):Prop:=∃ v H',Inv X pins σ H' s'/\RelV v u/\Q v H'
def TP (X:Cx) (pins:List (Addr × Obj)) (σ:St) (Q:Bool->Hp->Prop) (b:Bool) (s':Shared):Prop:=∃ H',Inv X pins σ H' s'/\Q b H'
def AP (X:Cx) (pins:List (Addr × Obj)) (σ:St) (Q:List V->Hp->Prop) (us:List Value) (s':Shared):Prop:=∃ vs H',Inv X pins σ H' s'/\Vals vs us/\Q vs H'
def SP (X:Cx) (pins:List (Addr × Obj)) (D:Ends) (f:Flow) (s':Shared):Prop :=
 match f with
 | .next=>∃ σ' H',Inv X pins σ' H' s'/\D.nx σ' H'
 | .brk=>∃ σ' H',Inv X pins σ' H' s'/\D.bk σ' H'
 | .cont=>∃ σ' H',Inv X pins σ' H' s'/\D.ct σ' H'
 | .ret u=>∃ v σ' H',Inv X pins σ' H' s'/\RelV v u/\D.rt v H'
def PE (X:Cx) (e:Expr) (t:TE):Prop :=
 ∀ (pins:List (Addr × Obj)) (s:Shared) (σ:St) (H:Hp) (Q:VK),Inv X pins σ H s->t σ H Q->wpAny (model X.prog X.w) X.A (eval e X.env) (EP X pins σ Q) X.xe s
def PT (X:Cx) (e:Expr) (t:TT):Prop :=
 ∀ (pins:List (Addr × Obj)) (s:Shared) (σ:St) (H:Hp) (Q:Bool->Hp->Prop),Inv X pins σ H s->t σ H Q->wpAny (model X.prog X.w) X.A (isTrue e X.env (eval e X.env)) (TP X pins σ Q) X.xe s
def PW (X:Cx) (e:Expr) (t:TT):Prop :=
 ∀ (whole:Sem Value) (pins:List (Addr × Obj)) (s:Shared) (σ:St) (H:Hp) (Q:Bool->Hp->Prop),Inv X pins σ H s->t σ H Q->wpAny (model X.prog X.w) X.A (isTrue e X.env whole) (TP X pins σ Q) X.xe s
theorem PW.pt {X:Cx} {e:Expr} {t:TT} (h:PW X e t):PT X e t:=h _
def PA (X:Cx) (es:List Expr) (t:TA):Prop :=
 ∀ (pos:Pos) (pins:List (Addr × Obj)) (s:Shared) (σ:St) (H:Hp) (Q:List V->Hp->Prop),Inv X pins σ H s->t σ H Q->wpAny (model X.prog X.w) X.A (spliced (backTo pos (starEach es X.env))) (AP X pins σ Q) X.xe s
def PS (X:Cx) (st:Stmt) (t:TS):Prop :=
 ∀ (pins:List (Addr × Obj)) (s:Shared) (σ:St) (H:Hp) (D:Ends),Inv X pins σ H s->t D σ H->wpAny (model X.prog X.w) X.A (exec st X.env) (SP X pins D) X.xe s
def PSs (X:Cx) (st:List Stmt) (t:TS):Prop :=
 ∀ (pins:List (Addr × Obj)) (s:Shared) (σ:St) (H:Hp) (D:Ends),Inv X pins σ H s->t D σ H->wpAny (model X.prog X.w) X.A (execs st X.env) (SP X pins D) X.xe s
theorem thn {α:Type} {t:Sem α} {Q Q' : α->Shared->Prop} {M:Model} {A:Around} {E:Value->Shared->Prop} {s:Shared} (h:wpAny M A t Q E s) (hQ:∀ a s,Q a s->Q' a s):wpAny M A t Q' E s:=wpAny_mono h hQ fun _ _ x=>x
section
variable {X:Cx}
def tVar (i:Nat):TE:=fun σ H Q=>∃ v,σ[i]?=some (some v)/\Q v H
def tC (v:V):TE:=fun _ H Q=>Q v H
theorem axz {i:Nat} {x:Str} {pos:Pos} (hN:X.N[i]?=some x) (hv:Vis X.env.scope x) (hd:(x == ("__debug__" : Str))=false:=by decide) (hcd:(x == ("__classdict__" : Str))=false:=by decide):PE X (.Name x pos) (tVar i):=by
 intro pins s σ H Q I h
 obtain ⟨v,e,h⟩:=h
 obtain ⟨m,hn,hl⟩:=I.loc
 obtain ⟨u,r,l⟩:=hl i x v hN e hv
 have fin:EP X pins σ Q u s:=⟨v,H,I,r,h⟩
 rcases l with ⟨hk,hm⟩ | ⟨hk,c,hc,hcell⟩
 ·exact wpAny_Name (wpAny_loadName_local I.ok.kind hk hn hm fin) hd
 ·rcases hk with hk | hk
  ·exact wpAny_Name (wpAny_loadName_cell I.ok.kind hk hc hcell fin) hd
  ·exact wpAny_Name (wpAny_loadName_free I.ok.kind hk hc hcell fin hcd) hd
theorem aad {i j pos}:PE X (.Constant (.int i) j pos) (tC (.int i)):=fun _ _ _ H _ I h=>wpAny_Constant_int ⟨.int i,H,I.tok _,⟨_,rfl⟩,h⟩
theorem aga {b j pos}:PE X (.Constant (.bool b) j pos) (tC (.bl b)):=fun _ _ _ H _ I h=>Constant_bool ⟨.bl b,H,I,rfl,h⟩
theorem aef {j pos}:PE X (.Constant .none j pos) (tC .non):=fun _ _ _ H _ I h=>Constant_none ⟨.non,H,I,rfl,h⟩
def Gl (X:Cx) (x:Str):Prop:=X.env.kindOf x=some .globalImplicit
theorem anq {E:Value->Shared->Prop} {pins:List (Addr × Obj)} {s:Shared} {σ:St} {H:Hp} {x:Str} {u:Value} {pos:Pos} {Q:Value->Shared->Prop} (I:Inv X pins σ H s) (hg:Gl X x) (hm:X.mg x=some u) (h:Q u s)
  (hd:(x == ("__debug__" : Str))=false:=by decide):wpAny (model X.prog X.w) X.A (eval (.Name x pos) X.env) Q E s :=
 Calls.Name_function_global I.ok.kind hg (Calls.loadGlobal_global (by rw [I.ok.glob];exact I.mod.glob.keeps I.bk) hm h) hd
theorem ady {E:Value->Shared->Prop} {pins:List (Addr × Obj)} {s:Shared} {σ:St} {H:Hp} {x:Str} {u:Value} {pos:Pos} {Q:Value->Shared->Prop} (I:Inv X pins σ H s) (hg:Gl X x) (hm:X.mg x=none) (hv:bootBuiltins x=some u) (h:Q u s)
  (hn:x ≠ "__name__":=by decide) (hd:(x == ("__debug__" : Str))=false:=by decide):wpAny (model X.prog X.w) X.A (eval (.Name x pos) X.env) Q E s:=by
 obtain ⟨mb,h1,h2⟩:=I.mod.blt
 exact Calls.Name_function_global I.ok.kind hg (Calls.loadGlobal_builtin (by rw [I.ok.glob];exact I.mod.glob.keeps I.bk) hm (by rw [I.ok.blt];exact h1.keeps I.bk) ((h2 x hn).trans hv) h) hd
theorem avr {x:Str} {v:V} {u:Value} {pos:Pos} (hg:Gl X x) (hm:X.mg x=some u) (r:RelV v u) (hd:(x == ("__debug__" : Str))=false:=by decide):PE X (.Name x pos) (tC v) :=
 fun _ _ _ H _ I h=>anq I hg hm ⟨v,H,I,r,h⟩ hd
theorem abu {x:Str} {v:V} {u:Value} {pos:Pos} (hg:Gl X x) (hm:X.mg x=none) (hv:bootBuiltins x=some u) (r:RelV v u) (hn:x ≠ "__name__":=by decide) (hd:(x == ("__debug__" : Str))=false:=by decide):PE X (.Name x pos) (tC v) :=
 fun _ _ _ H _ I h=>ady I hg hm hv ⟨v,H,I,r,h⟩ hn hd
variable {a b:Expr} {ta tb:TE} {pos:Pos}
def tB (t:TE):TT:=fun σ H Q=>t σ H fun x H1=>∃ c,x=.bl c/\Q c H1
theorem acw {e:Expr} {t:TE} (h:PE X e t) (he:∀ whole,isTrue e X.env whole=(do let v ← whole;standAt e.pos;holding [v] (truthy v)):=by intro _;rfl):PT X e (tB t):=by
 intro pins s σ H Q I hw
 refine isTrue_plain (thn (h pins s σ H _ I hw) fun v s1 ⟨x,H1,I1,r1,q1⟩=>?_) (he _)
 obtain ⟨d,rfl,q⟩:=q1
 cases r1
 exact wpAny_truthy_bool ⟨H1,I1,q⟩
variable {tA tB':TT} {rest:List Expr}
def tAnd (t u:TT):TT:=fun σ H Q=>t σ H fun c H1=>if c=true then u σ H1 Q else Q false H1
def tOr (t u:TT):TT:=fun σ H Q=>t σ H fun c H1=>if c=true then Q true H1 else u σ H1 Q
def tNot (t:TT):TT:=fun σ H Q=>t σ H fun c H1=>Q (!c) H1
theorem aib (ha:PT X a tA):PW X (.BoolOp .And [a] pos) tA:=by
 intro wh pins s σ H Q I h
 refine isTrue_and (thn (ha pins s σ H Q I h) fun c s1 e=>?_)
 cases c with
 | true=>exact isTrue_and_nil e
 | false=>exact e
theorem ahf (ha:PT X a tA):PW X (.BoolOp .Or [a] pos) tA:=by
 intro wh pins s σ H Q I h
 refine isTrue_or (thn (ha pins s σ H Q I h) fun c s1 e=>?_)
 cases c with
 | false=>exact isTrue_or_nil e
 | true=>exact e
theorem aky (ha:PT X a tA) (hb:PW X (.BoolOp .And (b :: rest) pos) tB'):PW X (.BoolOp .And (a :: b :: rest) pos) (tAnd tA tB'):=by
 intro wh pins s σ H Q I h
 refine isTrue_and (thn (ha pins s σ H _ I h) fun c s1 ⟨H1,I1,q1⟩=>?_)
 cases c with
 | true=>exact hb wh pins s1 σ H1 Q I1 q1
 | false=>exact ⟨H1,I1,q1⟩
theorem akn (ha:PT X a tA) (hb:PW X (.BoolOp .Or (b :: rest) pos) tB'):PW X (.BoolOp .Or (a :: b :: rest) pos) (tOr tA tB'):=by
 intro wh pins s σ H Q I h
 refine isTrue_or (thn (ha pins s σ H _ I h) fun c s1 ⟨H1,I1,q1⟩=>?_)
 cases c with
 | true=>exact ⟨H1,I1,q1⟩
 | false=>exact hb wh pins s1 σ H1 Q I1 q1
theorem adz (ha:PT X a tA):PT X (.UnaryOp .Not a pos) (tNot tA):=by
 intro pins s σ H Q I h
 exact isTrue_not (ha pins s σ H (fun c H1=>Q (!c) H1) I h)
def ao7 (ta tb:TE):TE:=fun σ H Q=>ta σ H fun x H1=>∃ c,x=.bl c/\if c=true then tb σ H1 Q else Q (.bl false) H1
def ao8 (ta:TE):TE:=fun σ H Q=>ta σ H fun x H1=>∃ c,x=.bl c/\Q (.bl (!c)) H1
theorem aey {op} {t:TE} (h:PE X a t):PE X (.BoolOp op [a] pos) t:=fun pins s σ H Q I hw=>BoolOp_one (h pins s σ H Q I hw)
theorem ad0 (ha:PE X a ta) (hb:PE X (.BoolOp .And (b :: rest) pos) tb):PE X (.BoolOp .And (a :: b :: rest) pos) (ao7 ta tb):=by
 intro pins s σ H Q I h
 refine BoolOp_and (thn (ha pins s σ H _ I h) fun v s1 ⟨x,H1,I1,r1,q1⟩=>?_)
 obtain ⟨c,rfl,q1⟩:=q1
 cases r1
 refine wpAny_truthy_bool ?_
 cases c with
 | true=>exact hb pins s1 σ H1 Q I1 q1
 | false=>exact ⟨.bl false,H1,I1,rfl,q1⟩
theorem aqj (ha:PE X a ta):PE X (.UnaryOp .Not a pos) (ao8 ta):=by
 intro pins s σ H Q I h
 refine UnaryOp_ (thn (ha pins s σ H _ I h) fun v s1 ⟨x,H1,I1,r1,q1⟩=>?_)
 obtain ⟨c,rfl,q1⟩:=q1
 cases r1
 exact not_of (wpAny_truthy_bool ⟨.bl (!c),H1,I1,rfl,q1⟩)
end
def SqL (K:Frag) (H:Hp) (a:Addr) (xs:List V):Prop :=
 Rd H a (.lst xs) ∨
  ∃ (o:Obj) (its:Array Value) (n:Nat),K.lookup a=some o/\o.cls=.type "list"/\o.dict=none/\o.data=.seq its n/\its.size<=sizeLine/\Vals xs its.toList
def SqT (K:Frag) (H:Hp) (a:Addr) (xs:List V):Prop :=
 Rd H a (.tup xs) ∨
  ∃ (o:Obj) (its:Array Value) (n:Nat),K.lookup a=some o/\o.cls=.type "tuple"/\o.data=.seq its n/\its.size<=sizeLine/\Vals xs its.toList
noncomputable def absV:Value->Option V
 | .none=>some .non
 | .bool b=>some (.bl b)
 | .int i _=>some (.int i)
 | .str x _=>some (.str x)
 | .bytes b _=>some (.byt b)
 | .float b _=>some (.flt b)
 | .ref a=>some (.ref a)
 | .type n=>some (.ty n)
 | _=>none
theorem RelV.abs {x:V} {u:Value} (r:RelV x u):absV u=some x:=by
 cases x with
 | non=>cases r;rfl
 | bl _=>cases r;rfl
 | int _=>obtain ⟨t,rfl⟩:=r;rfl
 | str _=>obtain ⟨t,rfl⟩:=r;rfl
 | byt _=>obtain ⟨t,rfl⟩:=r;rfl
 | flt _=>obtain ⟨t,rfl⟩:=r;rfl
 | ref _=>cases r;rfl
 | ty _=>cases r;rfl
theorem RelV.inj {x y:V} {u:Value} (r:RelV x u) (q:RelV y u):x=y:=Option.some.inj (r.abs.symm.trans q.abs)
theorem Vals.inj:∀ {xs ys:List V} {us:List Value},Vals xs us->Vals ys us->xs=ys
 | _,_,_,.nil,.nil=>rfl
 | _,_,_,.cons r t,.cons r' t'=>by rw [r.inj r',Vals.inj t t']
section
variable {X:Cx} {pins:List (Addr × Obj)} {σ:St} {H:Hp} {s:Shared} {a:Addr} {xs ys:List V}
theorem SqL.of {K:Frag} (h:H a=some (.lst xs)):SqL K H a xs:=.inl (.inl h)
theorem SqT.of {K:Frag} (h:H a=some (.tup xs)):SqT K H a xs:=.inl (.inl h)
theorem Inv.list (I:Inv X pins σ H s) (h:SqL X.K H a xs):∃ its:List Value,Vals xs its/\PlainL s.heap a its.toArray/\xs.length<=sizeLine:=by
 rcases h with h | ⟨o,its,n,hk,hc,hd,hs,hz,r⟩
 ·obtain ⟨z,its,n,r,e⟩:=h.ok I.hok
  exact ⟨its,r,⟨_,n,e,rfl,rfl,rfl⟩,z⟩
 ·refine ⟨its.toList,r,⟨o,n,I.kIn a o hk,hc,hd,by simpa using hs⟩,?_⟩
  have e:=r.length
  simp only [Array.length_toList] at e
  omega
theorem Inv.tuple (I:Inv X pins σ H s) (h:SqT X.K H a xs):∃ its:List Value,Vals xs its/\IsTup s.heap a its.toArray/\xs.length<=sizeLine:=by
 rcases h with h | ⟨o,its,n,hk,hc,hs,hz,r⟩
 ·obtain ⟨z,its,r,p⟩:=h.ok I.hok
  exact ⟨its,r,p,z⟩
 ·refine ⟨its.toList,r,⟨o,I.kIn a o hk,hc,n,by simpa using hs⟩,?_⟩
  have e:=r.length
  simp only [Array.length_toList] at e
  omega
theorem Inv.list_inj (I:Inv X pins σ H s) (h:SqL X.K H a xs) (h':SqL X.K H a ys):xs=ys:=by
 obtain ⟨its,r,⟨o,n,e,_,_,d⟩,_⟩:=I.list h
 obtain ⟨its',r',⟨o',n',e',_,_,d'⟩,_⟩:=I.list h'
 rw [e] at e';cases e'
 rw [d] at d'
 injection d' with d1 _
 have:its=its':=by simpa using congrArg Array.toList d1
 subst this
 exact r.inj r'
end
noncomputable abbrev Cx.wish (X:Cx) (E:Value->Shared->Prop):Cx:={ X with xe:=E }
noncomputable abbrev Cx.nox (X:Cx):Cx:=X.wish fun _ _=>False
theorem Cx.Ok.wish {X:Cx} (ok:X.Ok) (E:Value->Shared->Prop):(X.wish E).Ok :=
 ⟨ok.mod,ok.kind,ok.glob,ok.blt,ok.above,ok.inj,ok.has,ok.cab,ok.hd,ok.frames,ok.stk,ok.exf,ok.bs,ok.bsz,ok.noex,ok.exfs,ok.funs,ok.frf⟩
theorem Cx.Ok.unwish {X:Cx} {E:Value->Shared->Prop} (ok:(X.wish E).Ok):X.Ok :=
 ⟨ok.mod,ok.kind,ok.glob,ok.blt,ok.above,ok.inj,ok.has,ok.cab,ok.hd,ok.frames,ok.stk,ok.exf,ok.bs,ok.bsz,ok.noex,ok.exfs,ok.funs,ok.frf⟩
section
variable {X:Cx} {pins:List (Addr × Obj)} {σ:St} {H:Hp} {s:Shared} {E:Value->Shared->Prop}
theorem Inv.wish (I:Inv X pins σ H s) (E:Value->Shared->Prop):Inv (X.wish E) pins σ H s:=⟨I.ok.wish E,I.os,I.bare,I.base,I.loc,I.cell,I.free,I.freeC,I.pin,I.hok,I.len⟩
theorem Inv.unwish (I:Inv (X.wish E) pins σ H s):Inv X pins σ H s:=⟨I.ok.unwish,I.os,I.bare,I.base,I.loc,I.cell,I.free,I.freeC,I.pin,I.hok,I.len⟩
theorem SP.unwish {D:Ends} {f:Flow} {s':Shared} (h:SP (X.wish E) pins D f s'):SP X pins D f s':=by
 cases f with
 | next=>obtain ⟨σ',H',I,q⟩:=h;exact ⟨σ',H',I.unwish,q⟩
 | brk=>obtain ⟨σ',H',I,q⟩:=h;exact ⟨σ',H',I.unwish,q⟩
 | cont=>obtain ⟨σ',H',I,q⟩:=h;exact ⟨σ',H',I.unwish,q⟩
 | ret u=>obtain ⟨v,σ',H',I,r,q⟩:=h;exact ⟨v,σ',H',I.unwish,r,q⟩
theorem PSs.nox {st:List Stmt} {t:TS} (h:PSs X.nox st t):PSs X st t:=fun pins s σ H D I hw =>
 wpAny_mono (h pins s σ H D (I.wish _) hw) (fun _ _ q=>q.unwish) fun _ _ z=>False.elim z
end
section
variable {X:Cx} {st:Stmt} {rest:List Stmt} {t u:TS} {e:Expr} {te:TE} {pos:Pos}
def au0:TS:=fun D σ H=>D.nx σ H
def tSeq (t u:TS):TS:=fun D σ H=>t { D with nx:=u D } σ H
theorem aa2:PSs X [] au0:=fun _ _ σ H _ I h=>wpAny_execs_nil ⟨σ,H,I,h⟩
theorem aac (h1:PS X st t) (h2:PSs X rest u):PSs X (st :: rest) (tSeq t u):=by
 intro pins s σ H D I h
 refine wpAny_execs_cons (thn (h1 pins s σ H { D with nx:=u D } I h) fun f s1 q=>?_)
 cases f with
 | next =>
  obtain ⟨σ',H',I',q⟩:=q
  exact h2 pins s1 σ' H' D I' q
 | ret v=>exact q
 | brk=>exact q
 | cont=>exact q
theorem aag (h1:PS X st t):PSs X [st] t:=by
 intro pins s σ H D I h
 refine wpAny_execs_cons (thn (h1 pins s σ H D I h) fun f s1 q=>?_)
 cases f with
 | next=>exact wpAny_execs_nil q
 | ret v=>exact q
 | brk=>exact q
 | cont=>exact q
theorem Inv.quiet {pins:List (Addr × Obj)} {σ:St} {H:Hp} {s:Shared} (I:Inv X pins σ H s):interactive X.env=false:=by simp [interactive,I.ok.kind]
def au1 (te:TE):TS:=fun D σ H=>te σ H fun _ H1=>D.nx σ H1
theorem abh (he:PE X e te) (hs:swapsWith e none pos.line X.env=pure false:=by rfl):PS X (.Expr e pos) (au1 te):=by
 intro pins s σ H D I h
 exact wpAny_Expr_any (thn (he pins s σ H _ I h) fun v s1 ⟨x,H1,I1,r1,q1⟩=>⟨σ,H1,I1,q1⟩) I.quiet hs
def tRet (te:TE):TS:=fun D σ H=>te σ H D.rt
theorem aau (he:PE X e te):PS X (.Return (some e) pos) (tRet te):=by
 intro pins s σ H D I h
 exact wpAny_Return_some (thn (he pins s σ H _ I h) fun v s1 ⟨x,H1,I1,r1,q1⟩=>⟨x,σ,H1,I1,r1,q1⟩)
def tIfS (c:TT) (t u:TS):TS:=fun D σ H=>c σ H fun b H1=>if b=true then t D σ H1 else u D σ H1
theorem abf {c:Expr} {a b:List Stmt} {tc:TT} (hc:PT X c tc) (ha:PSs X a t) (hb:PSs X b u):PS X (.If c a b pos) (tIfS tc t u):=by
 intro pins s σ H D I h
 refine wpAny_If (thn (hc pins s σ H _ I h) fun d s1 ⟨H1,I1,q1⟩=>?_)
 cases d with
 | true=>exact ha pins s1 σ H1 D I1 q1
 | false=>exact hb pins s1 σ H1 D I1 q1
def ax0:TS:=fun _ _ _=>False
theorem aeg:PS X st ax0:=fun _ _ _ _ _ _ h=>h.elim
end
noncomputable abbrev TG:=V->St->Hp->(St->Hp->Prop)->Prop
noncomputable abbrev TGs:=List V->St->Hp->(St->Hp->Prop)->Prop
def PG (X:Cx) (target:Expr) (t:TG):Prop :=
 ∀ (pins:List (Addr × Obj)) (s:Shared) (σ:St) (H:Hp) (v:V) (u:Value) (Q:St->Hp->Prop),Inv X pins σ H s->RelV v u->t v σ H Q ->
  wpAny (model X.prog X.w) X.A (assign target X.env u) (fun _ s'=>∃ σ' H',Inv X pins σ' H' s'/\Q σ' H') X.xe s
def PGs (X:Cx) (ts:List Expr) (t:TGs):Prop :=
 ∀ (pins:List (Addr × Obj)) (s:Shared) (σ:St) (H:Hp) (vs:List V) (us:List Value) (Q:St->Hp->Prop),Inv X pins σ H s->Vals vs us->t vs σ H Q ->
  wpAny (model X.prog X.w) X.A (assignInOrder ((assignEach ts X.env).map (·.2)) us) (fun _ s'=>∃ σ' H',Inv X pins σ' H' s'/\Q σ' H') X.xe s
noncomputable abbrev TSet:=V->V->V->Hp->(Hp->Prop)->Prop
def PSet (X:Cx) (t:TSet):Prop :=
 ∀ (pins:List (Addr × Obj)) (s:Shared) (σ:St) (H:Hp) (o i v:V) (ov iv u:Value) (Q:Hp->Prop),Inv X pins σ H s->RelV o ov->RelV i iv->RelV v u->t o i v H Q ->
  wpAny (model X.prog X.w) X.A (setItem ov iv u) (fun _ s'=>∃ H',Inv X pins σ H' s'/\Q H') X.xe s
section
variable {X:Cx} {pos:Pos}
def aba (i:Nat):TG:=fun v σ H Q=>Q (σ.set i (some v)) H
theorem aao {i:Nat} {x:Str} (hN:X.N.Nodup) (hi:X.N[i]?=some x) (hx:Loc X.env.scope x) (hf:X.fn x=true\/X.env.scope.names.lookup x=some .local:=by first | exact .inl rfl | exact .inr rfl | assumption):PG X (.Name x pos) (aba i):=by
 intro pins s σ H v u Q I r h
 exact wpAny_assign_Name (akx I hN hi hx r (fun s' I'=>⟨_,H,I',h⟩) hf)
def gNil:TGs:=fun vs σ H Q=>vs=[]/\Q σ H
def agb (t:TG) (u:TGs):TGs:=fun vs σ H Q=>∃ v r,vs=v :: r/\t v σ H fun σ' H'=>u r σ' H' Q
theorem ac1:PGs X [] gNil:=by
 intro pins s σ H vs us Q I r h
 obtain ⟨e,h⟩:=h
 subst e
 cases r
 exact assignInOrder_nil ⟨σ,H,I,h⟩
theorem aa8 {e:Expr} {es:List Expr} {t:TG} {u:TGs} (h1:PG X e t) (h2:PGs X es u)
  (hs:(assignEach (e :: es) X.env).map (·.2)=assign e X.env :: (assignEach es X.env).map (·.2):=by rfl):PGs X (e :: es) (agb t u):=by
 intro pins s σ H vs us Q I r h
 obtain ⟨v,vr,e1,h⟩:=h
 subst e1
 cases r with
 | cons r rr =>
  rw [hs]
  refine assignInOrder_cons (thn (h1 pins s σ H _ _ _ I r h) fun _ s1 ⟨σ1,H1,I1,q1⟩=>?_)
  exact h2 pins s1 σ1 H1 _ _ Q I1 rr q1
def gTup (K:Frag) (n:Nat) (t:TGs):TG:=fun v σ H Q=>∃ a xs,v=.ref a/\SqT K H a xs/\xs.length=n/\t xs σ H Q
theorem ad1 {es:List Expr} {k:Nat} {t:TGs} {n:Nat} (hc:X.calm=true) (h:PGs X es t)
  (hn:(assignEach es X.env).length=n:=by rfl) (hst:(assignEach es X.env).findIdx? (·.1)=none:=by rfl):PG X (.Tuple es k pos) (gTup X.K n t):=by
 intro pins s σ H v u Q I r hw
 obtain ⟨a,xs,e1,hq,hl,hw⟩:=hw
 subst e1
 cases r
 obtain ⟨its,rv,ht,hz⟩:=I.tuple hq
 refine assign_Tuple_tuple (I.ok.hd hc) ht (by simp [hn,← hl,rv.length]) hst fun h' hx=>?_
 have I1:Inv X pins σ H { s with heap:=h' }:=I.kept (t':=s.toks) fun b o e=>hx b o (Nat.ne_of_lt (Heap.lt_size e)) e
 exact h pins _ σ H xs _ Q I1 (by simpa using rv) hw
def gSub (to ti:TE) (t:TSet):TG:=fun v σ H Q=>to σ H fun o H1=>ti σ H1 fun i H2=>t o i v H2 fun H3=>Q σ H3
theorem aez {o i:Expr} {to ti:TE} {t:TSet} (ho:PE X o to) (hi:PE X i ti) (hs:PSet X t)
  (ha:∀ v,assign (.Subscript o i pos) X.env v=(do
   let ov ← holding [v] (eval o X.env)
   let iv ← holding [v,ov] (eval i X.env)
   standAt pos
   holding [v,ov,iv] (setItem ov iv v)
   release [v,ov,iv] []):=by intro _;rfl):PG X (.Subscript o i pos) (gSub to ti t):=by
 intro pins s σ H v u Q I r h
 rw [ha]
 refine wpAny_bind (wpAny_holding (thn (ho pins s σ H _ I h) fun ov s1 ⟨x,H1,I1,r1,q1⟩=>?_))
 refine wpAny_bind (wpAny_holding (thn (hi pins s1 σ H1 _ I1 q1) fun iv s2 ⟨y,H2,I2,r2,q2⟩=>?_))
 refine wpAny_bind (wpAny_standAt (wpAny_bind (wpAny_holding (thn (hs pins s2 σ H2 x y v ov iv u _ I2 r1 r2 r q2) fun _ s3 ⟨H3,I3,q3⟩=>?_))))
 exact wpAny_release ⟨σ,H3,I3,q3⟩
def tAsg (te:TE) (g:TG):TS:=fun D σ H=>te σ H fun x H1=>g x σ H1 D.nx
theorem acq {tg e:Expr} {te:TE} {g:TG} (he:PE X e te) (hg:PG X tg g) (hs:swapsWithSole [tg] e pos.line X.env=pure false:=by rfl) (hw:swappedStores [tg] e X.env=pure none:=by rfl)
  (h1:(assignEach [tg] X.env).map (·.2)=[assign tg X.env]:=by rfl):PS X (.Assign [tg] e pos) (tAsg te g):=by
 intro pins s σ H D I h
 refine wpAny_Assign_stores (thn (he pins s σ H _ I h) fun v s1 ⟨x,H1,I1,r1,q1⟩=>?_) hs hw
 rw [h1]
 exact thn (hg pins s1 σ H1 x v _ I1 r1 q1) fun _ s2 q=>q
theorem aam {i:Nat} {x:Str} {e:Expr} {te:TE} {pos':Pos} (hN:X.N.Nodup) (hi:X.N[i]?=some x) (hx:Loc X.env.scope x) (he:PE X e te) (hs:swapsWith e (some (.Name x pos')) pos.line X.env=pure false:=by rfl) (hf:X.fn x=true\/X.env.scope.names.lookup x=some .local:=by first | exact .inl rfl | exact .inr rfl | assumption) :
  PS X (.Assign [.Name x pos'] e pos) (tAsg te (aba i)):=by
 intro pins s σ H D I h
 refine wpAny_Assign_Name (thn (he pins s σ H _ I h) fun v s1 ⟨y,H1,I1,r1,q1⟩=>?_) hs
 exact akx I1 hN hi hx r1 (fun s2 I2=>⟨_,H1,I2,q1⟩) hf
end
section
variable {X:Cx} {pos:Pos}
def aqk (c:TT) (tb:TS):TS:=fun D σ H=>∃ W:Nat->St->Hp->Prop,(∃ m,W m σ H)/\∀ m σ H,W m σ H ->
 c σ H fun b H1=>if b=true then ∃ N:St->Hp->Prop,(∀ σ' H',N σ' H'->∃ m',m' < m/\W m' σ' H')/\tb { D with nx:=N,ct:=N,bk:=D.nx } σ H1 else D.nx σ H1
theorem agz {c:Expr} {body:List Stmt} {tc:TT} {tb:TS} (hp:PassesOwn (model X.prog X.w) X.A X.env X.xe) (hc:PT X c tc) (hb:PSs X body tb):PS X (.While c body [] pos) (aqk tc tb):=by
 intro pins s σ H D I h
 obtain ⟨W,⟨m0,w0⟩,turn⟩:=h
 refine wpAny_While (codeAny_whileLoop (fun n s'=>∃ σ' H',Inv X pins σ' H' s'/\W n σ' H') ?_ m0 ⟨σ,H,I,w0⟩)
 rintro n s1 ⟨σ1,H1,I1,w1⟩
 refine wpAny_passesOwn hp (thn (hc pins s1 σ1 H1 _ I1 (turn n σ1 H1 w1)) fun b s2 ⟨H2,I2,q2⟩=>?_)
 cases b with
 | true =>
  obtain ⟨N,hN,q2⟩:=q2
  rw [if_pos rfl]
  refine wpAny_passesOwn hp (thn (hb pins s2 σ1 H2 _ I2 q2) fun f s3 q3=>?_)
  cases f with
  | next =>
   obtain ⟨σ3,H3,I3,n3⟩:=q3
   obtain ⟨m',hm,w3⟩:=hN σ3 H3 n3
   exact ⟨m',hm,σ3,H3,I3,w3⟩
  | cont =>
   obtain ⟨σ3,H3,I3,n3⟩:=q3
   obtain ⟨m',hm,w3⟩:=hN σ3 H3 n3
   exact ⟨m',hm,σ3,H3,I3,w3⟩
  | brk=>exact q3
  | ret v=>exact q3
 | false =>
  rw [if_neg Bool.false_ne_true]
  exact wpAny_execs_nil ⟨σ1,H2,I2,q2⟩
end
structure It where
 go:Nat->Hp->Prop
 yld:Nat->Hp->V->Hp->Prop
 stop:Nat->Hp->Prop
def FpOk (X:Cx) (pins:List (Addr × Obj)) (H:Hp) (b:Addr):Prop :=
 H b=none/\b ≠ X.env.locals/\b ∉ X.fs/\(b∈X.ex\/X.s₀.heap.objs.size<=b)/\(∀ x c,X.env.cells.lookup x=some c->c ≠ b)/\∀ p∈X.pn ++ pins,p.1 ≠ b
theorem Inv.fpOk {X:Cx} {pins:List (Addr × Obj)} {σ:St} {H H':Hp} {s:Shared} {b:Addr} (I:Inv X pins σ H s) (hb:s.heap.objs.size<=b) (hn:H' b=none):FpOk X pins H' b:=by
 refine ⟨hn,Nat.ne_of_gt (Nat.lt_of_lt_of_le I.lt hb),I.nofs hb,.inr (Nat.le_trans I.sz hb),fun x c e z=>?_,fun p hp z=>?_⟩
 ·obtain ⟨v,q⟩:=I.cell x c e
  exact absurd (Nat.lt_of_lt_of_le q.lt (by rw [z];exact hb)) (Nat.lt_irrefl _)
 ·exact absurd (Nat.lt_of_lt_of_le (Heap.lt_size (I.pin p hp).1) (by rw [z];exact hb)) (Nat.lt_irrefl _)
structure Turn (P:Program) (w:World) (K:Frag) (tg:Expr) (J:It) (fp:List Addr) (it:Addr) (tn:Nat->Heap->Prop):Prop where
 mem:it∈fp
 obj:∀ i h,tn i h->∀ b∈fp,∃ o,h.get? b=some o/\∀ v,o.data ≠ .cell v
 keep:∀ i h h',tn i h->(∀ b∈fp,∀ o,h.get? b=some o->h'.get? b=some o)->tn i h'
 item:∀ (X:Cx),X.prog=P->X.w=w->X.K=K->X.calm=true->∀ (i:Nat) (pins:List (Addr × Obj)) (s:Shared) (σ:St) (H:Hp) (E:Value->Shared->Prop),Inv X pins σ H s->(∀ b∈fp,FpOk X pins H b)->tn i s.heap->J.go i H ->
  wpAny (model P w) X.A (pyNext (.ref it)) (fun r s1=>∃ u,r=some u /\
   wpAny (model P w) X.A (letOwnedTupleGo tg (.ref it) u) (fun _ s2=>∃ x H',Inv X pins σ H' s2/\RelV x u/\J.yld i H x H'/\tn (i+1) s2.heap/\∀ b∈fp,H' b=none) E s1) E s
 done:∀ (X:Cx),X.prog=P->X.w=w->X.K=K->X.calm=true->∀ (i:Nat) (pins:List (Addr × Obj)) (s:Shared) (σ:St) (H:Hp) (E:Value->Shared->Prop),Inv X pins σ H s->(∀ b∈fp,FpOk X pins H b)->tn i s.heap->J.stop i H ->
  wpAny (model P w) X.A (pyNext (.ref it)) (fun r s1=>r=none/\Inv X pins σ H s1) E s
 self:∀ (A:Around) (i:Nat) (s:Shared) (Q:Value->Shared->Prop) (E:Value->Shared->Prop),tn i s.heap->Q (.ref it) s->wpAny (model P w) A (pyIter (.ref it)) Q E s
noncomputable abbrev TI:=St->Hp->(It->Hp->Prop)->Prop
def PIE (X:Cx) (pins:List (Addr × Obj)) (σ:St) (tg:Expr) (R:It->Hp->Prop) (itv:Value) (s2:Shared):Prop :=
 ∃ (it:Addr) (fp:List Addr) (tn:Nat->Heap->Prop) (J:It) (H':Hp),itv=.ref it/\Inv X pins σ H' s2/\Turn X.prog X.w X.K tg J fp it tn/\tn 0 s2.heap/\(∀ b∈fp,FpOk X pins H' b)/\R J H'
def PI (X:Cx) (tg iter:Expr) (wi:TI):Prop :=
 ∀ (pins:List (Addr × Obj)) (s:Shared) (σ:St) (H:Hp) (R:It->Hp->Prop),Inv X pins σ H s->wi σ H R ->
  wpAny (model X.prog X.w) X.A (eval iter X.env) (fun v s1=>wpAny (model X.prog X.w) X.A (pyIter v) (PIE X pins σ tg R) X.xe s1) X.xe s
theorem au2 {M:Model} {A:Around} {E:Value->Shared->Prop} {s:Shared} {tg:Expr} {it:Addr} {u:Value} {o:Obj} {n:String} {vs:Array Value} {Q:Unit->Shared->Prop} (ho:s.heap.get? it=some o) (hc:o.cls=.type n) (hd:o.data=.fields vs)
  (hn:["enumerate","zip","dict_itemiterator","dict_reverseitemiterator","odict_iterator","itertools.zip_longest","itertools.pairwise"].contains n=false) (hQ:Q () s):wpAny M A (letOwnedTupleGo tg (.ref it) u) Q E s:=by
 unfold letOwnedTupleGo
 cases tg <;> first
  | exact wpAny_pure hQ
  | (cases u <;> first
    | exact wpAny_pure hQ
    | (refine wpAny_bind (wpAny_load ho ?_)
       rw [hc,hd]
       show wpAny M A (if (["enumerate","zip","dict_itemiterator","dict_reverseitemiterator","odict_iterator","itertools.zip_longest","itertools.pairwise"].contains n && vs[0]? == some (rawInt _))=true then _ else _) Q E s
       rw [if_neg (by intro h;rw [hn,Bool.false_and] at h;cases h)]
       exact wpAny_pure hQ))
noncomputable def Itl (K:Frag) (a:Addr):It :=
 ⟨fun i H=>∃ xs x,SqL K H a xs/\xs[i]?=some x,fun i H x H'=>H'=H/\∀ xs,SqL K H a xs->xs[i]?=some x,fun i H=>∃ xs,SqL K H a xs/\xs.length<=i⟩
noncomputable def Itr (lo:Int) (n:Nat):It:=⟨fun i _=>i < n,fun i H x H'=>H'=H/\x=.int (lo+i),fun i _=>n<=i⟩
theorem aql {P:Program} {w:World} {K:Frag} {tg:Expr} (a it:Addr):Turn P w K tg (Itl K a) [it] it (fun i h=>h.IsListIter it a i) where
 mem:=by simp
 obj:=fun i h st b hb=>by
  have e:b=it:=by simpa using hb
  subst e
  obtain ⟨o,e,c,d⟩:=st
  exact ⟨o,e,fun v z=>by rw [d] at z;cases z⟩
 keep:=fun i h h' st k=>st.at fun o e=>k it (by simp) o e
 item:=by
  intro X hP hw hK hc i pins s σ H E I hf st hg
  subst hP hw hK
  obtain ⟨xs,x,hq,hx⟩:=hg
  obtain ⟨its,rv,p,hz⟩:=I.list hq
  obtain ⟨u,hu,ru⟩:=rv.get hx
  obtain ⟨f0,f1,f2,f3,f4,f5⟩:=hf it (by simp)
  refine wpAny_pyNext_list_item st p.isList (x:=u) (by simpa using hu) fun h' st' sb=>?_
  have I1:Inv X pins σ H { s with heap:=h' }:=I.turned (t':=s.toks) (fun b o hb e=>(sb.2 b hb).trans e) f0 f1 f3 f4 f5
  obtain ⟨o,e,c,d⟩:=id st'
  exact ⟨u,rfl,au2 (s:={ s with heap:=h' }) e c d (by decide) ⟨x,H,I1,ru,⟨rfl,fun ys hy=>by rw [I.list_inj hy hq];exact hx⟩,st',fun b hb=>(hf b hb).1⟩⟩
 done:=by
  intro X hP hw hK hc i pins s σ H E I hf st hg
  subst hP hw hK
  obtain ⟨xs,hq,hx⟩:=hg
  obtain ⟨its,rv,p,hz⟩:=I.list hq
  obtain ⟨f0,f1,f2,f3,f4,f5⟩:=hf it (by simp)
  have hl:=rv.length
  exact wpAny_pyNext_list_end (I.ok.hd hc) st p.isList (by simp;omega) fun h' eb=>⟨rfl,I.turned (t':=s.toks) (fun b o hb e=>eb b o hb e) f0 f1 f3 f4 f5⟩
 self:=fun _ _ _ _ _ st h=>wpAny_pyIter_listiter st h
theorem ao9 {P:Program} {w:World} {K:Frag} {tg:Expr} (it:Addr) (lo:Int) (n:Nat):Turn P w K tg (Itr lo n) [it] it (fun i h=>IsRangeIter h it (lo+(i:Nat) * 1) ((n:Int) - (i:Nat)) 1) where
 mem:=by simp
 obj:=fun i h st b hb=>by
  have e:b=it:=by simpa using hb
  subst e
  exact ⟨_,st,fun v z=>by
   have z':Data.fields _=Data.cell v:=z
   cases z'⟩
 keep:=fun i h h' st k=>k it (by simp) _ st
 item:=by
  intro X hP hw hK hc i pins s σ H E I hf st hg
  subst hP hw hK
  obtain ⟨f0,f1,f2,f3,f4,f5⟩:=hf it (by simp)
  have W:=Walks.range (prog:=X.prog) (w:=X.w) (I.ok.hd hc) it lo 1 n
  refine W.item i s _ _ hg st fun v h' tk hv st' kk=>?_
  obtain ⟨t,rfl⟩:=hv
  have I1:Inv X pins σ H { s with heap:=h',toks:=tk }:=I.turned (fun b o hb e=>kk b o (by simpa using hb) e) f0 f1 f3 f4 f5
  refine ⟨_,rfl,au2 (s:={ s with heap:=h',toks:=tk }) (n:="range_iterator") st' rfl rfl (by decide) ⟨.int (lo+i),H,I1,⟨t,?_⟩,⟨rfl,rfl⟩,st',fun b hb=>(hf b hb).1⟩⟩
  rw [Int.mul_one]
 done:=by
  intro X hP hw hK hc i pins s σ H E I hf st hg
  subst hP hw hK
  obtain ⟨f0,f1,f2,f3,f4,f5⟩:=hf it (by simp)
  exact wpAny_pyNext_range_end (I.ok.hd hc) st (by have:n<=i:=hg;omega) fun h' eb=>⟨rfl,I.turned (t':=s.toks) (fun b o hb e=>eb b o hb e) f0 f1 f3 f4 f5⟩
 self:=fun _ _ _ _ _ st h=>wpAny_pyIter_rangeiter st h
section
variable {X:Cx} {tg:Expr}
def apa (K:Frag) (tl:TE):TI:=fun σ H R=>tl σ H fun x H1=>∃ a,x=.ref a/\(∃ xs,SqL K H1 a xs)/\R (Itl K a) H1
theorem ab4 {l:Expr} {tl:TE} (hl:PE X l tl):PI X tg l (apa X.K tl):=by
 intro pins s σ H R I h
 refine thn (hl pins s σ H _ I h) fun v s1 ⟨x,H1,I1,r1,q1⟩=>?_
 obtain ⟨a,e,⟨xs,hq⟩,q⟩:=q1
 subst e
 cases r1
 obtain ⟨its,rv,p,hz⟩:=I1.list hq
 refine wpAny_pyIter_list p.isList ?_
 refine ⟨s1.heap.objs.size,[s1.heap.objs.size],_,_,H1,rfl,I1.kept (t':=s1.toks) fun b o e=>Heap.get?_push_of_some _ e,aql a _,⟨_,Heap.get?_push_size _ rfl,rfl,rfl⟩,fun b hb=>?_,q⟩
 have e:b=s1.heap.objs.size:=by simpa using hb
 subst e
 exact I1.fpOk (Nat.le_refl _) (I1.hok.fresh (Nat.le_refl _))
theorem akz {pins:List (Addr × Obj)} {σ:St} {H:Hp} {s:Shared} {R:It->Hp->Prop} {E:Value->Shared->Prop} {lo hi:Int} {t u v:Tok} {tk:Nat} (I:Inv X pins σ H s) (h1 : -(2 ^ 62)<=lo) (h2:lo < 2 ^ 62) (h3 : -(2 ^ 62)<=hi) (h4:hi < 2 ^ 62)
  (q:R (Itr lo (hi - lo).toNat) H):wpAny (model X.prog X.w) X.A (pyIter (.ref s.heap.objs.size)) (PIE X pins σ tg R) E { s with heap:=s.heap.push { cls:=.type "range",data:=.fields #[.int lo t,.int hi u,.int 1 v] },toks:=tk }:=by
 refine wpAny_pyIter_range (IsRange.new ..) (small_one h1 h2 h3 h4) ?_
 have I1:Inv X pins σ H { s with heap:=s.heap.push { cls:=.type "range",data:=.fields #[.int lo t,.int hi u,.int 1 v] },toks:=tk }:=I.kept fun b o e=>Heap.get?_push_of_some _ e
 refine ⟨(s.heap.push { cls:=.type "range",data:=.fields #[.int lo t,.int hi u,.int 1 v] }).objs.size,[(s.heap.push { cls:=.type "range",data:=.fields #[.int lo t,.int hi u,.int 1 v] }).objs.size],_,_,H,rfl,
  I1.kept (t':=tk) fun b o e=>Heap.get?_push_of_some _ e,ao9 _ lo (hi - lo).toNat,?_,fun b hb=>?_,q⟩
 ·have e1:lo+((0:Nat):Int) * 1=lo:=by simp
  have e2:(((hi - lo).toNat:Nat):Int) - ((0:Nat):Int)=Builtin.Range.rangeSize lo hi 1:=by rw [rangeSize_one];split <;> omega
  show IsRangeIter _ _ (lo+((0:Nat):Int) * 1) ((((hi - lo).toNat:Nat):Int) - ((0:Nat):Int)) 1
  rw [e1,e2]
  exact Heap.get?_push_size _ rfl
 ·have e:b=(s.heap.push { cls:=.type "range",data:=.fields #[.int lo t,.int hi u,.int 1 v] }).objs.size:=by simpa using hb
  subst e
  exact I1.fpOk (Nat.le_refl _) (I1.hok.fresh (Nat.le_refl _))
def au3 (ta:TA):TI:=fun σ H R=>ta σ H fun vs H1=>∃ j:Int,vs=[.int j]/\-(2 ^ 62)<=j/\j < 2 ^ 62/\R (Itr 0 j.toNat) H1
def au4 (ta:TA):TI:=fun σ H R=>ta σ H fun vs H1=>∃ i j:Int,vs=[.int i,.int j]/\(-(2 ^ 62)<=i/\i < 2 ^ 62/\-(2 ^ 62)<=j/\j < 2 ^ 62)/\R (Itr i (j - i).toNat) H1
theorem abi {a:Expr} {ta:TA} {p pos:Pos} (hg:Gl X "range") (hm:X.mg "range" = none) (ha:PA X [a] ta) (hs:starEach [a] X.env=[(false,eval a X.env)]:=by rfl):PI X tg (.Call (.Name "range" p) [a] [] pos) (au3 ta):=by
 intro pins s σ H R I h
 refine Call_ (ady I hg hm boot_range (PyProof.Rows.callWith_type1 (thn (ha pos pins s σ H _ I h) fun us s1 ⟨vs,H1,I1,r1,q1⟩=>?_) hs rfl))
 obtain ⟨j,e,q1,q2,q⟩:=q1
 subst e
 cases r1 with
 | cons r rr =>
  cases rr
  obtain ⟨t,rfl⟩:=r
  exact call_range_1 (akz I1 (by omega) (by omega) q1 q2 (by simpa using q))
theorem afp {a b:Expr} {ta:TA} {p pos:Pos} (hg:Gl X "range") (hm:X.mg "range" = none) (ha:PA X [a,b] ta) (hs:starEach [a,b] X.env=[(false,eval a X.env),(false,eval b X.env)]:=by rfl) (hs2:starEach [b] X.env=[(false,eval b X.env)]:=by rfl) :
  PI X tg (.Call (.Name "range" p) [a,b] [] pos) (au4 ta):=by
 intro pins s σ H R I h
 refine Call_ (ady I hg hm boot_range (PyProof.Rows.callWith_type1 (thn (ha pos pins s σ H _ I h) fun us s1 ⟨vs,H1,I1,r1,q1⟩=>?_) (by rw [hs,hs2]) (by rw [hs2];rfl)))
 obtain ⟨i,j,e,⟨q1,q2,q3,q4⟩,q⟩:=q1
 subst e
 cases r1 with
 | cons r rr =>
  cases rr with
  | cons r' rr =>
   cases rr
   obtain ⟨t,rfl⟩:=r
   obtain ⟨t',rfl⟩:=r'
   exact call_range_2 (akz I1 q1 q2 q3 q4 q)
def tFor (wi:TI) (g:TG) (tb:TS):TS:=fun D σ H=>wi σ H fun J H1=>∃ W:Nat->Nat->St->Hp->Prop,(∃ m,W 0 m σ H1)/\∀ i m σ H,W i m σ H ->
 (J.stop i H/\D.nx σ H)\/(J.go i H/\∃ N:St->Hp->Prop,(∀ σ' H',N σ' H'->∃ m',m' < m/\W (i+1) m' σ' H')/\∀ x H',J.yld i H x H'->g x σ H' fun σ2 H2=>tb { D with nx:=N,ct:=N,bk:=D.nx } σ2 H2)
noncomputable def afq (fp:List Addr) (h:Heap):List (Addr × Obj):=fp.filterMap fun b=>(h.get? b).map fun o=>(b,o)
theorem ad9 {fp:List Addr} {h:Heap} {b:Addr} {o:Obj} (hb:b∈fp) (e:h.get? b=some o):(b,o)∈afq fp h:=List.mem_filterMap.mpr ⟨b,hb,by rw [e];rfl⟩
theorem aqm {fp:List Addr} {h:Heap} {p:Addr × Obj} (hp:p∈afq fp h):p.1∈fp/\h.get? p.1=some p.2:=by
 obtain ⟨b,hb,e⟩:=List.mem_filterMap.mp hp
 cases q:h.get? b with
 | none=>rw [q] at e;cases e
 | some o =>
  rw [q] at e
  have e':(b,o)=p:=Option.some.inj e
  subst e'
  exact ⟨hb,q⟩
theorem Inv.pinned {pins:List (Addr × Obj)} {σ:St} {H:Hp} {s:Shared} {fp:List Addr} (I:Inv X pins σ H s) (hf:∀ b∈fp,FpOk X pins H b) (ho:∀ b∈fp,∃ o,s.heap.get? b=some o/\∀ v,o.data ≠ .cell v):Inv X (pins ++ afq fp s.heap) σ H s :=
 I.pins_of fun p hp=>(List.mem_append.mp hp).elim (fun z=>I.pin p (List.mem_append_right _ z)) fun z=>by
  obtain ⟨hb,e⟩:=aqm z
  obtain ⟨f0,f1,f2,_⟩:=hf p.1 hb
  obtain ⟨o,e',d⟩:=ho p.1 hb
  rw [e] at e';cases e'
  exact ⟨e,f0,f1,f2,d⟩
theorem Inv.unpinned {pins pl:List (Addr × Obj)} {σ:St} {H:Hp} {s:Shared} (I:Inv X (pins ++ pl) σ H s):Inv X pins σ H s:=I.pins_of fun p hp=>I.pin p (List.mem_append_right _ (List.mem_append_left _ hp))
theorem acd {iter:Expr} {body:List Stmt} {wi:TI} {g:TG} {tb:TS} {pos:Pos} (hp:PassesOwn (model X.prog X.w) X.A X.env X.xe) (hc:X.calm=true) (hi:PI X tg iter wi) (hg:PG X tg g) (hb:PSs X body tb)
  (hs:∀ x,foldedSetIterable iter X.env x=pure x:=by intro _;rfl):PS X (.For tg iter body [] pos) (tFor wi g tb):=by
 intro pins s σ H D I h
 refine wpAny_For (thn (hi pins s σ H _ I h) fun v s1 h1=>thn h1 fun itv s2 h2=>?_) hs
 obtain ⟨it,fp,tn,J,H2,e,I2,T,st2,f2,W,⟨m0,w0⟩,turn⟩:=h2
 subst e
 -- what stays true of the iterator's objects through the loop
 have stat:∀ {H':Hp},(∀ b∈fp,H' b=none)->∀ b∈fp,FpOk X pins H' b:=fun hn b hb=>⟨hn b hb,(f2 b hb).2⟩
 refine codeAny_forLoop_any (fun n s'=>∃ i σ' H',Inv X pins σ' H' s'/\tn i s'.heap/\(∀ b∈fp,H' b=none)/\W i n σ' H') ?_ m0 ⟨0,σ,H2,I2,st2,fun b hb=>(f2 b hb).1,w0⟩
 rintro n s3 ⟨i,σ3,H3,I3,st3,fr3,w3⟩
 rcases turn i n σ3 H3 w3 with ⟨stop,qn⟩ | ⟨go,N,hN,step⟩
 ·refine wpAny_passesOwn hp (thn (T.done X rfl rfl rfl hc i pins s3 σ3 H3 X.xe I3 (stat fr3) st3 stop) fun r s4 ⟨hr,I4⟩=>?_)
  subst hr
  exact wpAny_execs_nil ⟨σ3,H3,I4,qn⟩
 ·refine wpAny_passesOwn hp (thn (T.item X rfl rfl rfl hc i pins s3 σ3 H3 X.xe I3 (stat fr3) st3 go) fun r s4 ⟨u,hr,h4⟩=>?_)
  subst hr
  refine wpAny_passesOwn hp (thn h4 fun _ s5 ⟨x,H5,I5,r5,y5,st5,fr5⟩=>?_)
  have I5':=I5.pinned (stat fr5) (T.obj _ _ st5)
  refine wpAny_passesOwn hp (thn (hg _ s5 σ3 H5 x u _ I5' r5 (step x H5 y5)) fun _ s6 ⟨σ6,H6,I6,q6⟩=>?_)
  refine wpAny_passesOwn hp (thn (hb _ s6 σ6 H6 _ I6 q6) fun f s7 q7=>?_)
  have again:∀ {σ7:St} {H7:Hp},Inv X (pins ++ afq fp s5.heap) σ7 H7 s7->N σ7 H7->∃ m,m < n/\∃ i σ' H',Inv X pins σ' H' s7/\tn i s7.heap/\(∀ b∈fp,H' b=none)/\W i m σ' H':=fun {σ7 H7} I7 n7=>by
   obtain ⟨m',hm,w7⟩:=hN σ7 H7 n7
   refine ⟨m',hm,i+1,σ7,H7,I7.unpinned,T.keep _ _ _ st5 fun b hb o e=>(I7.pin (b,o) (List.mem_append_right _ (List.mem_append_right _ (ad9 hb e)))).1,fun b hb=>?_,w7⟩
   obtain ⟨o,e,d⟩:=T.obj _ _ st5 b hb
   exact (I7.pin (b,o) (List.mem_append_right _ (List.mem_append_right _ (ad9 hb e)))).2.1
  cases f with
  | next=>obtain ⟨σ7,H7,I7,n7⟩:=q7;exact again I7 n7
  | cont=>obtain ⟨σ7,H7,I7,n7⟩:=q7;exact again I7 n7
  | brk=>obtain ⟨σ7,H7,I7,q7⟩:=q7;exact ⟨σ7,H7,I7.unpinned,q7⟩
  | ret v=>obtain ⟨x7,σ7,H7,I7,r7,q7⟩:=q7;exact ⟨x7,σ7,H7,I7.unpinned,r7,q7⟩
end
noncomputable abbrev R2:=V->V->Hp->VK->Prop
def OpR (X:Cx) (f:Value->Value->Sem Value) (r:R2):Prop :=
 ∀ (pins:List (Addr × Obj)) (s:Shared) (σ:St) (H:Hp) (x y:V) (v u:Value) (Q:VK),Inv X pins σ H s->RelV x v->RelV y u->r x y H Q ->
  wpAny (model X.prog X.w) X.A (f v u) (EP X pins σ Q) X.xe s
def UnR (X:Cx) (f:Value->Sem Value) (r:V->Hp->VK->Prop):Prop :=
 ∀ (pins:List (Addr × Obj)) (s:Shared) (σ:St) (H:Hp) (x:V) (v:Value) (Q:VK),Inv X pins σ H s->RelV x v->r x H Q ->
  wpAny (model X.prog X.w) X.A (f v) (EP X pins σ Q) X.xe s
def abe (X:Cx) (f:Value) (r:List V->Hp->VK->Prop):Prop :=
 ∀ (pins:List (Addr × Obj)) (s:Shared) (σ:St) (H:Hp) (xs:List V) (us:List Value) (Q:VK),Inv X pins σ H s->Vals xs us->r xs H Q ->
  wpAny (model X.prog X.w) X.A (call f us) (EP X pins σ Q) X.xe s
def TruR (X:Cx) (r:V->Hp->(Bool->Hp->Prop)->Prop):Prop :=
 ∀ (pins:List (Addr × Obj)) (s:Shared) (σ:St) (H:Hp) (x:V) (v:Value) (Q:Bool->Hp->Prop),Inv X pins σ H s->RelV x v->r x H Q ->
  wpAny (model X.prog X.w) X.A (truthy v) (TP X pins σ Q) X.xe s
def tOp (r:R2) (ta tb:TE):TE:=fun σ H Q=>ta σ H fun x H1=>tb σ H1 fun y H2=>r x y H2 Q
def tUn (r:V->Hp->VK->Prop) (ta:TE):TE:=fun σ H Q=>ta σ H fun x H1=>r x H1 Q
def rI (C:Int->Int->Prop) (g:Int->Int->V):R2:=fun x y H Q=>∃ i j,x=.int i/\y=.int j/\C i j/\Q (g i j) H
def rI0 (g:Int->Int->V):R2:=fun x y H Q=>∃ i j,x=.int i/\y=.int j/\Q (g i j) H
def rU (g:Int->V):V->Hp->VK->Prop:=fun x H Q=>∃ i,x=.int i/\Q (g i) H
section
variable {X:Cx} {a b c:Expr} {ta tb tc:TE} {pos:Pos}
theorem binT (ha:PE X a ta) (hb:PE X b tb) {pins:List (Addr × Obj)} {s:Shared} {σ:St} {H:Hp} {R:V->V->Hp->Prop} (I:Inv X pins σ H s)
  (h:ta σ H fun x H1=>tb σ H1 fun y H2=>R x y H2) {Q:Value->Shared->Prop} {f:Value->Value->Sem Value}
  (hf:∀ v u s2 x y H2,Inv X pins σ H2 s2->RelV x v->RelV y u->R x y H2->wpAny (model X.prog X.w) X.A (f v u) Q X.xe s2) :
  wpAny (model X.prog X.w) X.A (eval a X.env) (fun v s₁=>wpAny (model X.prog X.w) X.A (eval b X.env) (fun u s₂=>wpAny (model X.prog X.w) X.A (f v u) Q X.xe s₂) X.xe s₁) X.xe s:=by
 refine thn (ha pins s σ H _ I h) fun v s1 ⟨x,H1,I1,r1,q1⟩=>?_
 refine thn (hb pins s1 σ H1 _ I1 q1) fun u s2 ⟨y,H2,I2,r2,q2⟩=>?_
 exact hf v u s2 x y H2 I2 r1 r2 q2
theorem aaq {op:Operator} {r:R2} (ho:OpR X (binaryOp op) r) (ha:PE X a ta) (hb:PE X b tb):PE X (.BinOp a op b pos) (tOp r ta tb):=by
 intro pins s σ H Q I h
 exact wpAny_BinOp (binT ha hb I h fun v u s2 x y H2 I2 rx ry q=>ho pins s2 σ H2 x y v u Q I2 rx ry q)
theorem az9 {op:UnaryOp} {r:V->Hp->VK->Prop} (ho:UnR X (unaryOp op) r) (ha:PE X a ta):PE X (.UnaryOp op a pos) (tUn r ta):=by
 intro pins s σ H Q I h
 exact UnaryOp_ (thn (ha pins s σ H _ I h) fun v s1 ⟨x,H1,I1,r1,q1⟩=>ho pins s1 σ H1 x v Q I1 r1 q1)
theorem opI {f:Value->Value->Sem Value} {C:Int->Int->Prop} {g:Int->Int->Int}
  (rule:∀ (i j:Int) (t u:Tok) (s:Shared) (Q:Value->Shared->Prop) (E:Value->Shared->Prop),C i j->Q (.int (g i j) s.toks) { s with toks:=s.toks+1 }->wpAny (model X.prog X.w) X.A (f (.int i t) (.int j u)) Q E s) :
  OpR X f (rI C fun i j => .int (g i j)):=by
 intro pins s σ H x y v u Q I rx ry h
 obtain ⟨i,j,rfl,rfl,hc,q⟩:=h
 obtain ⟨t,rfl⟩:=rx
 obtain ⟨t',rfl⟩:=ry
 exact rule i j t t' s _ _ hc ⟨.int (g i j),H,I.tok _,⟨_,rfl⟩,q⟩
theorem opI0 {f:Value->Value->Sem Value} {g:Int->Int->Int}
  (rule:∀ (i j:Int) (t u:Tok) (s:Shared) (Q:Value->Shared->Prop) (E:Value->Shared->Prop),Q (.int (g i j) s.toks) { s with toks:=s.toks+1 }->wpAny (model X.prog X.w) X.A (f (.int i t) (.int j u)) Q E s) :
  OpR X f (rI0 fun i j => .int (g i j)):=by
 intro pins s σ H x y v u Q I rx ry h
 obtain ⟨i,j,rfl,rfl,q⟩:=h
 obtain ⟨t,rfl⟩:=rx
 obtain ⟨t',rfl⟩:=ry
 exact rule i j t t' s _ _ ⟨.int (g i j),H,I.tok _,⟨_,rfl⟩,q⟩
theorem opB0 {f:Value->Value->Sem Value} {g:Int->Int->Bool}
  (rule:∀ (i j:Int) (t u:Tok) (s:Shared) (Q:Value->Shared->Prop) (E:Value->Shared->Prop),Q (.bool (g i j)) s->wpAny (model X.prog X.w) X.A (f (.int i t) (.int j u)) Q E s) :
  OpR X f (rI0 fun i j => .bl (g i j)):=by
 intro pins s σ H x y v u Q I rx ry h
 obtain ⟨i,j,rfl,rfl,q⟩:=h
 obtain ⟨t,rfl⟩:=rx
 obtain ⟨t',rfl⟩:=ry
 exact rule i j t t' s _ _ ⟨.bl (g i j),H,I,rfl,q⟩
def CDiv (i j:Int):Prop:=0 < j/\j < 1073741824
def CPow (i j:Int):Prop:=0<=j/\j<=1000000/\i.natAbs < 2 ^ 64
def CMul (i j:Int):Prop:=(-(2 ^ 64) < i/\i < 2 ^ 64)\/(-(2 ^ 64) < j/\j < 2 ^ 64)
theorem CMul.ok {i j:Int} (h:CMul i j):IntMulOk i j:=by
 rcases h with ⟨h1,h2⟩ | ⟨h1,h2⟩
 ·exact .of_left (intBits_le_64 h1 h2)
 ·exact .of_right (intBits_le_64 h1 h2)
theorem abl:OpR X (binaryOp .Add) (rI0 fun i j => .int (i+j)):=opI0 fun _ _ _ _ _ _ _ q=>add_int q
theorem ace:OpR X (binaryOp .Sub) (rI0 fun i j => .int (i - j)):=opI0 fun _ _ _ _ _ _ _ q=>sub_int q
theorem adc:OpR X (binaryOp .Mult) (rI CMul fun i j => .int (i * j)):=opI fun _ _ _ _ _ _ _ hc q=>mul_int q hc.ok
theorem anr:OpR X (binaryOp .FloorDiv) (rI CDiv fun i j => .int (i / j)):=opI fun i j _ _ _ _ _ hc q=>by
 have h1:(0:Int) < j:=hc.1
 have h2:j < 1073741824:=hc.2
 exact floordiv_int (by omega) (by rw [Int.fdiv_eq_ediv_of_nonneg i (by omega)];exact q) (.inl (PyProof.noPylong_small (by omega)))
theorem ae0:OpR X (binaryOp .Mod) (rI (fun _ j=>0 < j) fun i j => .int (i % j)):=opI fun i j _ _ _ _ _ hc q=>by
 have h1:(0:Int) < j:=hc
 exact mod_int' (by omega) (by rw [Int.fmod_eq_emod_of_nonneg i (by omega)];exact q)
theorem ax1:OpR X (binaryOp .Pow) (rI CPow fun i j => .int (i ^ j.toNat)):=opI fun _ _ _ _ _ _ _ hc q=>pow_int_small hc.1 hc.2.1 hc.2.2 q
theorem unI {f:Value->Sem Value} {g:Int->Int}
  (rule:∀ (i:Int) (t:Tok) (s:Shared) (Q:Value->Shared->Prop) (E:Value->Shared->Prop),Q (.int (g i) s.toks) { s with toks:=s.toks+1 }->wpAny (model X.prog X.w) X.A (f (.int i t)) Q E s) :
  UnR X f (rU fun i => .int (g i)):=by
 intro pins s σ H x v Q I rx h
 obtain ⟨i,rfl,q⟩:=h
 obtain ⟨t,rfl⟩:=rx
 exact rule i t s _ _ ⟨.int (g i),H,I.tok _,⟨_,rfl⟩,q⟩
theorem ax2:UnR X (unaryOp .USub) (rU fun i => .int (-i)):=unI fun _ _ _ _ _ q=>neg_int q
end
noncomputable def scal:V->V->Bool
 | .non,.non=>true | .non,.int _=>true | .int _,.non=>true | .non,.bl _=>true | .bl _,.non=>true | .non,.str _=>true | .str _,.non=>true
 | .int _,.int _=>true | .bl _,.bl _=>true | .str _,.str _=>true | .byt _,.byt _=>true
 | .int _,.str _=>true | .str _,.int _=>true | .bl _,.str _=>true | .str _,.bl _=>true
 | _,_=>false
def rEq:R2:=fun x y H Q=>scal x y=true/\Q (.bl (decide (x=y))) H
def rNe:R2:=fun x y H Q=>scal x y=true/\Q (.bl (!decide (x=y))) H
theorem agc {i j:Int}:decide (V.int i=V.int j)=(i == j):=by
 rw [Bool.eq_iff_iff]
 simp
theorem aqn {i j:Bool}:decide (V.bl i=V.bl j)=(i == j):=by
 rw [Bool.eq_iff_iff]
 simp
theorem ans {i j:Str}:decide (V.str i=V.str j)=(i == j):=by
 rw [Bool.eq_iff_iff]
 simp
theorem ant {i j:Array UInt8}:decide (V.byt i=V.byt j)=(i.toList == j.toList):=by
 rw [Bool.eq_iff_iff]
 cases i
 cases j
 simp
section
variable {X:Cx} {a b c:Expr} {ta tb tc:TE} {pos:Pos}
theorem aaw {pins:List (Addr × Obj)} {σ:St} {H:Hp} {s:Shared} {Q:VK} {k k':Bool} (I:Inv X pins σ H s) (q:Q (.bl k) H) (e:k=k'):EP X pins σ Q (.bool k') s:=by
 subst e
 exact ⟨.bl k,H,I,rfl,q⟩
theorem au5:OpR X (compareOp .Eq) rEq:=by
 intro pins s σ H x y v u Q I rx ry h
 obtain ⟨hs,q⟩:=h
 cases x with
 | non =>
  cases rx
  cases y with
  | non=>cases ry;exact PySem.EqNone.eq_none_none (aaw I q (by simp))
  | bl j=>cases ry;exact PySem.EqNone.eq_none_bool (aaw I q (by simp))
  | int j=>obtain ⟨t',rfl⟩:=ry;exact PySem.EqNone.eq_none_int (aaw I q (by simp))
  | str j=>obtain ⟨t',rfl⟩:=ry;exact PySem.EqNone.eq_none_str (aaw I q (by simp))
  | _=>exact absurd (show false=true from hs) Bool.false_ne_true
 | bl i =>
  cases rx
  cases y with
  | non=>cases ry;exact PySem.EqNone.eq_bool_none (aaw I q (by simp))
  | bl j=>cases ry;exact eq_bool (aaw I q aqn)
  | str j=>obtain ⟨t',rfl⟩:=ry;exact PySem.EqMixed.eq_bool_str (aaw I q (by simp))
  | _=>exact absurd (show false=true from hs) Bool.false_ne_true
 | int i =>
  obtain ⟨t,rfl⟩:=rx
  cases y with
  | non=>cases ry;exact PySem.EqNone.eq_int_none (aaw I q (by simp))
  | int j=>obtain ⟨t',rfl⟩:=ry;exact eq_int (aaw I q agc)
  | str j=>obtain ⟨t',rfl⟩:=ry;exact PySem.EqMixed.eq_int_str (aaw I q (by simp))
  | _=>exact absurd (show false=true from hs) Bool.false_ne_true
 | str i =>
  obtain ⟨t,rfl⟩:=rx
  cases y with
  | non=>cases ry;exact PySem.EqNone.eq_str_none (aaw I q (by simp))
  | bl j=>cases ry;exact PySem.EqMixed.eq_str_bool (aaw I q (by simp))
  | int j=>obtain ⟨t',rfl⟩:=ry;exact PySem.EqMixed.eq_str_int (aaw I q (by simp))
  | str j=>obtain ⟨t',rfl⟩:=ry;exact eq_str (aaw I q ans)
  | _=>exact absurd (show false=true from hs) Bool.false_ne_true
 | byt i =>
  obtain ⟨t,rfl⟩:=rx
  cases y with
  | byt j=>obtain ⟨t',rfl⟩:=ry;exact PySem.W.eq_bytes (aaw I q ant)
  | _=>exact absurd (show false=true from hs) Bool.false_ne_true
 | _=>cases y <;> exact absurd (show false=true from hs) Bool.false_ne_true
theorem ako:OpR X (compareOp .NotEq) rNe:=by
 intro pins s σ H x y v u Q I rx ry h
 obtain ⟨hs,q⟩:=h
 cases x with
 | non =>
  cases rx
  cases y with
  | non=>cases ry;exact PySem.EqNone.ne_none_none (aaw I q (by simp))
  | bl j=>cases ry;exact PySem.EqNone.ne_none_bool (aaw I q (by simp))
  | int j=>obtain ⟨t',rfl⟩:=ry;exact PySem.EqNone.ne_none_int (aaw I q (by simp))
  | str j=>obtain ⟨t',rfl⟩:=ry;exact PySem.EqNone.ne_none_str (aaw I q (by simp))
  | _=>exact absurd (show false=true from hs) Bool.false_ne_true
 | bl i =>
  cases rx
  cases y with
  | non=>cases ry;exact PySem.EqNone.ne_bool_none (aaw I q (by simp))
  | bl j=>cases ry;exact ne_bool (aaw I q (congrArg not aqn))
  | str j=>obtain ⟨t',rfl⟩:=ry;exact PySem.EqMixed.ne_bool_str (aaw I q (by simp))
  | _=>exact absurd (show false=true from hs) Bool.false_ne_true
 | int i =>
  obtain ⟨t,rfl⟩:=rx
  cases y with
  | non=>cases ry;exact PySem.EqNone.ne_int_none (aaw I q (by simp))
  | int j=>obtain ⟨t',rfl⟩:=ry;exact ne_int (aaw I q (congrArg not agc))
  | str j=>obtain ⟨t',rfl⟩:=ry;exact PySem.EqMixed.ne_int_str (aaw I q (by simp))
  | _=>exact absurd (show false=true from hs) Bool.false_ne_true
 | str i =>
  obtain ⟨t,rfl⟩:=rx
  cases y with
  | non=>cases ry;exact PySem.EqNone.ne_str_none (aaw I q (by simp))
  | bl j=>cases ry;exact PySem.EqMixed.ne_str_bool (aaw I q (by simp))
  | int j=>obtain ⟨t',rfl⟩:=ry;exact PySem.EqMixed.ne_str_int (aaw I q (by simp))
  | str j=>obtain ⟨t',rfl⟩:=ry;exact ne_str (aaw I q (congrArg not ans))
  | _=>exact absurd (show false=true from hs) Bool.false_ne_true
 | byt i =>
  obtain ⟨t,rfl⟩:=rx
  cases y with
  | byt j=>obtain ⟨t',rfl⟩:=ry;exact PySem.W.ne_bytes (aaw I q (congrArg not ant))
  | _=>exact absurd (show false=true from hs) Bool.false_ne_true
 | _=>cases y <;> exact absurd (show false=true from hs) Bool.false_ne_true
theorem apb:OpR X (compareOp .Lt) (rI0 fun i j => .bl (decide (i < j))):=opB0 fun _ _ _ _ _ _ _ q=>lt_int q
theorem apc:OpR X (compareOp .LtE) (rI0 fun i j => .bl (decide (i<=j))):=opB0 fun _ _ _ _ _ _ _ q=>le_int q
theorem afa:OpR X (compareOp .Gt) (rI0 fun i j => .bl (decide (j < i))):=opB0 fun _ _ _ _ _ _ _ q=>gt_int q
theorem a0a:OpR X (compareOp .GtE) (rI0 fun i j => .bl (decide (j<=i))):=opB0 fun _ _ _ _ _ _ _ q=>ge_int q
theorem ax3:OpR X (compareOp .Is) (fun x y H Q=>y=.non/\Q (.bl (decide (x=.non))) H):=by
 intro pins s σ H x y v u Q I rx ry h
 obtain ⟨rfl,q⟩:=h
 cases ry
 refine is_none_gen (aaw I q ?_)
 cases x <;> first
  | (cases rx;rfl)
  | (obtain ⟨t,rfl⟩:=rx;rfl)
theorem aa1 (b:Expr) {op:CmpOp} (h:op ≠ .In:=by decide) (h2:op ≠ .NotIn:=by decide):behindInMarks op b=false:=by
 have e1:(op == CmpOp.In)=false:=by cases op <;> first | rfl | exact absurd rfl h
 have e2:(op == CmpOp.NotIn)=false:=by cases op <;> first | rfl | exact absurd rfl h2
 cases b <;> simp [behindInMarks,e1,e2]
theorem ac5 {op:CmpOp} {r:R2} (ho:OpR X (compareOp op) r) (ha:PE X a ta) (hb:PE X b tb) (hm:behindInMarks op b=false):PE X (.Compare a [op] [b] pos) (tOp r ta tb):=by
 intro pins s σ H Q I h
 exact wpAny_Compare1 (binT ha hb I h fun v u s2 x y H2 I2 rx ry q=>ho pins s2 σ H2 x y v u Q I2 rx ry q) hm
def au6 (t:TE):TT:=fun σ H Q=>t σ H fun x H'=>∃ k,x=.bl k/\Q k H'
theorem aaz {op:CmpOp} {r:R2} (ho:OpR X (compareOp op) r) (ha:PE X a ta) (hb:PE X b tb) (hm:behindInMarks op b=false):PT X (.Compare a [op] [b] pos) (au6 (tOp r ta tb)):=by
 intro pins s σ H Q I h
 refine wpAny_isTrue_Compare1 (thn (ha pins s σ H _ I h) fun v s1 ⟨x,H1,I1,r1,q1⟩=>thn (hb pins s1 σ H1 _ I1 q1) fun u s2 ⟨y,H2,I2,r2,q2⟩ =>
  thn (ho pins s2 σ H2 x y v u _ I2 r1 r2 q2) fun c s3 ⟨z,H3,I3,r3,k,e,q3⟩=>?_) hm
 subst e
 cases r3
 exact wpAny_truthy_bool ⟨H3,I3,q3⟩
def ak0 (r r':R2) (ta tb tc:TE):TE:=fun σ H Q=>ta σ H fun x H1=>tb σ H1 fun y H2=>r x y H2 fun z H3=>∃ k,z=.bl k /\
 (if k=true then tc σ H3 fun w' H4=>r' y w' H4 Q else Q (.bl false) H3)
theorem ass {op op':CmpOp} {r r':R2} (ho:OpR X (compareOp op) r) (ho':OpR X (compareOp op') r') (ha:PE X a ta) (hb:PE X b tb) (hc:PE X c tc)
  (hm:lastMarks [op,op'] [b,c]=false:=by with_unfolding_all rfl):PE X (.Compare a [op,op'] [b,c] pos) (ak0 r r' ta tb tc):=by
 intro pins s σ H Q I h
 refine Compare_chain (thn (ha pins s σ H _ I h) fun v s1 ⟨x,H1,I1,r1,q1⟩=>chain_link (thn (hb pins s1 σ H1 _ I1 q1) fun u s2 ⟨y,H2,I2,r2,q2⟩ =>
  thn (ho pins s2 σ H2 x y v u _ I2 r1 r2 q2) fun d s3 ⟨z,H3,I3,r3,k,e,q3⟩=>?_)) hm
 subst e
 cases r3
 refine wpAny_truthy_bool ?_
 cases k with
 | false=>exact ite_ff ⟨.bl false,H3,I3,rfl,q3⟩
 | true=>exact ite_tt (chain_last (thn (hc pins s3 σ H3 _ I3 q3) fun w' s4 ⟨z',H4,I4,r4,q4⟩=>ho' pins s4 σ H4 y z' u w' Q I4 r2 r4 q4))
def TruV (K:Frag) (x:V) (H:Hp) (k:Bool):Prop :=
 match x with
 | .non=>k=false
 | .bl b=>k=b
 | .int i=>k=(i != 0)
 | .str y=>y.length<=sizeLine/\k=((y.length:Int) != 0)
 | .byt y=>y.size<=sizeLine/\k=((y.size:Int) != 0)
 | .ref p=>(∃ xs,SqL K H p xs/\k = !xs.isEmpty)\/(∃ xs,SqT K H p xs/\k = !xs.isEmpty)\/∃ kvs,H p=some (.dK kvs)/\k = !kvs.isEmpty
 | _=>False
theorem apd {κ:Type} {kvs:List (κ × V)} {vs:List (κ × Value)} (r:KV kvs vs):(!vs.isEmpty) = !kvs.isEmpty:=by
 cases r <;> rfl
theorem ahg {xs:List V} {its:List Value} (r:Vals xs its):(!its.toArray.isEmpty) = !xs.isEmpty:=by
 cases r <;> simp
theorem afr:(sizeLine:Nat) < 2 ^ 63:=by rw [sizeLine_eq];decide
theorem ax4:TruR X (fun x H Q=>∃ k,TruV X.K x H k/\Q k H):=by
 intro pins s σ H x v Q I rx h
 obtain ⟨k,e,q⟩:=h
 have hl:=afr
 have hs:sizeLine=16777216:=sizeLine_eq
 cases x with
 | non =>
  cases rx
  have e':k=false:=e
  subst e'
  exact truthy_none ⟨H,I,q⟩
 | bl b =>
  cases rx
  have e':k=b:=e
  subst e'
  exact wpAny_truthy_bool ⟨H,I,q⟩
 | int i =>
  obtain ⟨t,rfl⟩:=rx
  have e':k=(i != 0):=e
  subst e'
  exact PySem.P.truthy_int ⟨H,I,q⟩
 | str y =>
  obtain ⟨t,rfl⟩:=rx
  obtain ⟨hy,e'⟩:y.length<=sizeLine/\k=((y.length:Int) != 0):=e
  subst e'
  exact PySem.P.truthy_str (by omega) ⟨H,I.tok _,q⟩
 | byt y =>
  obtain ⟨t,rfl⟩:=rx
  obtain ⟨hy,e'⟩:y.size<=sizeLine/\k=((y.size:Int) != 0):=e
  subst e'
  exact PySem.W.truthy_bytes (by omega) ⟨H,I.tok _,q⟩
 | ref p =>
  cases rx
  have e':(∃ xs,SqL X.K H p xs/\k = !xs.isEmpty)\/(∃ xs,SqT X.K H p xs/\k = !xs.isEmpty)\/∃ kvs,H p=some (.dK kvs)/\k = !kvs.isEmpty:=e
  rcases e' with ⟨xs,hx,e'⟩ | ⟨xs,hx,e'⟩ | ⟨kvs,hx,e'⟩
  ·subst e'
   obtain ⟨its,r,pl,hz⟩:=I.list hx
   have hlen:=r.length
   exact wpAny_truthy_list pl.isList (by simp only [List.size_toArray];omega) ⟨H,I.tok _,by rw [ahg r];exact q⟩
  ·subst e'
   obtain ⟨its,r,pl,hz⟩:=I.tuple hx
   have hlen:=r.length
   exact truthy_tuple pl (by simp only [List.size_toArray];omega) ⟨H,I.tok _,by rw [ahg r];exact q⟩
  ·subst e'
   obtain ⟨hz,hS,vs,r,m⟩:kvs.length<=sizeLine/\(p == sysModules)=false/\∃ vs,KV kvs vs/\s.heap.DictOf (abg X.prog X.w) p vs:=I.hok p _ hx
   have hlen:kvs.length=vs.length:=Paired.length r
   exact wpAny_truthy_dict hS m (by omega) ⟨H,I.tok _,by rw [apd r];exact q⟩
 | _=>exact (show False from e).elim
theorem ast (ha:PE X a ta) (he:∀ whole,isTrue a X.env whole=(do let v ← whole;standAt a.pos;holding [v] (truthy v))) :
  PT X a (fun σ H Q=>ta σ H fun x H'=>∃ k,TruV X.K x H' k/\Q k H'):=by
 intro pins s σ H Q I h
 exact isTrue_plain (thn (ha pins s σ H _ I h) fun v s1 ⟨x,H1,I1,r1,q1⟩=>ax4 pins s1 σ H1 x v Q I1 r1 q1) (he _)
theorem ade {x:V} {us:List Value} (r:Vals [x] us):∃ u,us=[u]/\RelV x u:=by
 cases r with
 | cons r1 r2=>cases r2;exact ⟨_,rfl,r1⟩
theorem ahh {x y:V} {us:List Value} (r:Vals [x,y] us):∃ u w',us=[u,w']/\RelV x u/\RelV y w':=by
 cases r with
 | cons r1 r2 =>
  cases r2 with
  | cons r3 r4=>cases r4;exact ⟨_,_,rfl,r1,r3⟩
theorem aqo (hc:X.calm=true):abe X (.builtin "max") (fun xs H Q=>∃ i j,xs=[.int i,.int j]/\Q (.int (if j > i then j else i)) H):=by
 intro pins s σ H xs us Q I r h
 obtain ⟨i,j,rfl,q⟩:=h
 obtain ⟨u,w',rfl,⟨t,rfl⟩,⟨t',rfl⟩⟩:=ahh r
 refine max_two_ints (I.ok.hd hc) fun h' tk k=>⟨_,H,I.kept k,?_,q⟩
 by_cases hj:j > i
 ·rw [if_pos hj,if_pos hj];exact ⟨_,rfl⟩
 ·rw [if_neg hj,if_neg hj];exact ⟨_,rfl⟩
theorem aqp (hc:X.calm=true):abe X (.builtin "min") (fun xs H Q=>∃ i j,xs=[.int i,.int j]/\Q (.int (if j < i then j else i)) H):=by
 intro pins s σ H xs us Q I r h
 obtain ⟨i,j,rfl,q⟩:=h
 obtain ⟨u,w',rfl,⟨t,rfl⟩,⟨t',rfl⟩⟩:=ahh r
 refine min_two_ints (I.ok.hd hc) fun h' tk k=>⟨_,H,I.kept k,?_,q⟩
 by_cases hj:j < i
 ·rw [if_pos hj,if_pos hj];exact ⟨_,rfl⟩
 ·rw [if_neg hj,if_neg hj];exact ⟨_,rfl⟩
theorem aqq:abe X (.type "int") (fun xs H Q=>(∃ i,xs=[.int i]/\Q (.int i) H)\/∃ k,xs=[.bl k]/\Q (.int (if k then 1 else 0)) H):=by
 intro pins s σ H xs us Q I r h
 rcases h with ⟨i,rfl,q⟩ | ⟨k,rfl,q⟩
 ·obtain ⟨u,rfl,t,rfl⟩:=ade r
  exact call_int_int ⟨.int i,H,I,⟨_,rfl⟩,q⟩
 ·obtain ⟨u,rfl,r1⟩:=ade r
  cases r1
  exact call_int_bool ⟨.int (if k then 1 else 0),H,I.tok _,⟨_,rfl⟩,q⟩
end
structure ObjM (h:Heap) (x dx C:Addr) (mA:Str->Option Value):Prop where
 obj:h.get? x=some (PySem.W.instObj C dx)
 ns:h.Ns1 dx mA
 ne:dx ≠ x
theorem aqr {h:Heap} {dx:Addr} {mA:Str->Option Value} (n:h.Ns1 dx mA):∃ od,h.get? dx=some od/\∀ name,PySem.W.lookIn name od=some (mA name):=by
 obtain ⟨o,es,ep,ho,hd,hk,_,hm⟩:=n
 refine ⟨o,ho,fun name=>?_⟩
 have e:=hm name
 unfold nsFind findBy at e
 rw [← Array.find?_toList] at e
 unfold PySem.W.lookIn
 rw [hd]
 dsimp only
 split
 ·rename_i y q
  rw [q] at e
  exact congrArg some e
 ·rename_i q
  rw [q] at e
  have a:es.toList.any (·.refKey)=false:=by
   rw [List.any_eq_false]
   intro y hy
   obtain ⟨z,t,hkey⟩:=hk y (Array.mem_toList_iff.mp hy)
   simp [DictEntry.refKey,hkey]
  have a':¬ es.toList.any (·.refKey)=true:=by rw [a];exact Bool.false_ne_true
  rw [if_neg a']
  exact congrArg some e
theorem ObjM.look {h:Heap} {x dx C:Addr} {mA:Str->Option Value} (I:ObjM h x dx C mA):∃ od,PySem.W.InstAt h x (PySem.W.instObj C dx) C (some od)/\∀ name,PySem.W.lookIn name od=some (mA name) :=
 let ⟨od,ho,hl⟩:=aqr I.ns
 ⟨od,⟨I.obj,rfl,rfl,ho⟩,hl⟩
section
variable {prog:Program} {w:World} {A:Around} {E:Value->Shared->Prop} {s:Shared} {K:Frag} {x dx C f:Addr} {mA:Str->Option Value} {name:Str} {v:Value}
end
noncomputable def putF (f:Str) (v:V):List (Str × V)->List (Str × V)
 | []=>[(f,v)]
 | (g,x) :: r=>if g=f then (g,v) :: r else (g,x) :: putF f v r
section
variable {P:Program} {w:World} {H H':Hp} {h h':Heap} {a C dx:Addr} {fs fs':List (Str × V)}
theorem ins_get (hok:HOk P w H h) (e:H a=some (.ins C dx fs)):∃ mA,ObjM h a dx C mA/\(∀ f,RelO (fs.lookup f) (mA f))/\PySem.Within mA (fs.map (·.1))/\fs.length<=1000/\H dx=some (.own a):=by
 obtain ⟨d,z,ne,ob,mA,n,r,q⟩:=(show ObjOk P w H h a (.ins C dx fs) from hok a _ e)
 exact ⟨mA,⟨ob,n,ne⟩,r,q,z,d⟩
end
structure Cls (K:Frag) (C:Addr):Prop where
 pg:PySem.W.plainGet K C Str.empty=true
 hd:PySem.W.hasDictIn K C=true
 po:PySem.W.plainOver K C=true
 sa:PySem.W.findIn K (.ref C) "__setattr__" = some (some (.builtin "object.__setattr__"))
theorem Cls.get {K:Frag} {C:Addr} (c:Cls K C) (f:Str):PySem.W.plainGet K C f=true:=c.pg
section
variable {X:Cx} {pins:List (Addr × Obj)} {σ:St} {H:Hp} {s:Shared} {a C dx:Addr} {fs:List (Str × V)} {f:Str} {v:V} {A:Around} {E:Value->Shared->Prop}
end
section
variable {X:Cx} {o e value:Expr} {f:Str} {pos pos' tpos:Pos} {ta tv:TE}
end
section
variable {X:Cx} {pins:List (Addr × Obj)} {σ:St} {H:Hp} {s:Shared} {A:Around} {E:Value->Shared->Prop} {Q:Value->Shared->Prop} {c:Value} {b:Bool}
inductive TyOf (K:Frag) (H:Hp):V->Value->Prop where
 | non:TyOf K H .non (.type "NoneType")
 | bl (x:Bool):TyOf K H (.bl x) (.type "bool")
 | int (i:Int):TyOf K H (.int i) (.type "int")
 | str (x:Str):TyOf K H (.str x) (.type "str")
 | flt (x:UInt64):TyOf K H (.flt x) (.type "float")
 | lst {a:Addr} {xs:List V} (e:H a=some (.lst xs)):TyOf K H (.ref a) (.type "list")
 | frz {a:Addr} {o:Obj} {xs:List V} (e:H a=some (.frz o (.lst xs))):TyOf K H (.ref a) (.type "list")
 | tup {a:Addr} {xs:List V} (e:H a=some (.tup xs)):TyOf K H (.ref a) (.type "tuple")
 | dK {a:Addr} {kvs:List (Key × V)} (e:H a=some (.dK kvs)):TyOf K H (.ref a) (.type "dict")
 | dT {a:Addr} {kvs:List (List Key × V)} (e:H a=some (.dT kvs)):TyOf K H (.ref a) (.type "dict")
 | ins {a C dx:Addr} {fs:List (Str × V)} (e:H a=some (.ins C dx fs)) (cl:Cls K C) (ha:PySem.W.findIn K (.ref C) "__class__" = some (some (.builtin "object.__class__")))
   (hn:PySem.W.specialIn K (.builtin "object.__class__") "__get__" = some (some (.builtin "getset_descriptor.__get__"))) (htk:PySem.W.takesIn K (.builtin "object.__class__")=some true)
   (hm:mroIn K C (.type "object")=some true):TyOf K H (.ref a) (.ref C)
theorem aqs {x:V} {u t:Value} (I:Inv X pins σ H s) (rx:RelV x u) (ty:TyOf X.K H x t) (e:kitOne X.K t c=some b) (h:∀ tk,Q (.bool b) { s with toks:=tk }) :
  wpAny (model X.prog X.w) A (call (.builtin "isinstance") [u,c]) Q E s:=by
 cases ty with
 | non=>cases (show u=Value.none from rx);exact PySem.W.kia_one PySem.W.kitx_none I.kIn True.intro e (fun z=>nomatch z) h
 | bl y=>cases (show u=Value.bool y from rx);exact PySem.W.kia_one PySem.W.kitx_bool I.kIn True.intro e (fun z=>nomatch z) h
 | int i=>obtain ⟨t,q⟩:=(show ∃ t,u=Value.int i t from rx);cases q;exact PySem.W.kia_one PySem.W.kitx_int I.kIn True.intro e (fun z=>nomatch z) h
 | str y=>obtain ⟨t,q⟩:=(show ∃ t,u=Value.str y t from rx);cases q;exact PySem.W.kia_one PySem.W.kitx_str I.kIn True.intro e (fun z=>nomatch z) h
 | flt y=>obtain ⟨t,q⟩:=(show ∃ t,u=Value.float y t from rx);cases q;exact PySem.W.kia_one PySem.W.kitx_float I.kIn True.intro e (fun z=>nomatch z) h
 | @lst a xs ea =>
  cases (show u=Value.ref a from rx)
  obtain ⟨_,_,n,_,h1⟩:=(show ObjOk X.prog X.w H s.heap a (.lst xs) from I.hok a _ ea)
  exact PySem.W.kia_one PySem.W.kitx_list I.kIn ⟨_,h1,rfl⟩ e (fun z=>nomatch z) h
 | @frz a ob xs ea =>
  cases (show u=Value.ref a from rx)
  obtain ⟨_,_,_,n,_,h1⟩:=(show ObjOk X.prog X.w H s.heap a (.frz ob (.lst xs)) from I.hok a _ ea)
  exact PySem.W.kia_one PySem.W.kitx_list I.kIn ⟨_,h1,rfl⟩ e (fun z=>nomatch z) h
 | @tup a xs ea =>
  cases (show u=Value.ref a from rx)
  obtain ⟨_,_,_,p⟩:=(show ObjOk X.prog X.w H s.heap a (.tup xs) from I.hok a _ ea)
  obtain ⟨o,h1,h2,_⟩:=p
  exact PySem.W.kia_one PySem.W.kitx_tuple I.kIn ⟨o,h1,h2⟩ e (fun z=>nomatch z) h
 | @dK a kvs ea =>
  cases (show u=Value.ref a from rx)
  obtain ⟨_,_,vs,_,p⟩:=(show ObjOk X.prog X.w H s.heap a (.dK kvs) from I.hok a _ ea)
  obtain ⟨o,es,ep,h1,h2,_⟩:=p
  exact PySem.W.kia_one PySem.W.kitx_dict I.kIn ⟨o,h1,h2.1⟩ e (fun z=>nomatch z) h
 | @dT a kvs ea =>
  cases (show u=Value.ref a from rx)
  obtain ⟨_,_,xs,_,o,es,ep,h1,h2,_⟩:=(show ObjOk X.prog X.w H s.heap a (.dT kvs) from I.hok a _ ea)
  exact PySem.W.kia_one PySem.W.kitx_dict I.kIn ⟨o,h1,h2.1⟩ e (fun z=>nomatch z) h
 | @ins a C dx fs ea cl ha hn htk hm =>
  cases (show u=Value.ref a from rx)
  obtain ⟨mA,O,_⟩:=ins_get I.hok ea
  obtain ⟨od,J,_⟩:=O.look
  exact PySem.W.kia_one (PySem.W.kitx_own (cl.get _) cl.hd ha hn htk hm) I.kIn J e (fun z=>nomatch z) h
end
structure Room (k:Nat) (A:Around):Prop where
 hd:A.handled=none
 dp:A.depth+3 * k+5 < recursionLimit
 un:A.units+16 * k+200 < cLine
theorem Room.mono {j k:Nat} {A:Around} (r:Room k A) (h:j<=k):Room j A:=⟨r.hd,by have:=r.dp;omega,by have:=r.un;omega⟩
theorem Room.deeper {k:Nat} {A:Around} (r:Room (k+1) A) (env:Env):Room k (A.deeper env) :=
 ⟨r.hd,by have:=r.dp;show A.depth+1+3 * k+5 < _;omega,by have:=r.un;show A.units+3+16 * k+200 < _;omega⟩
theorem Room.in1 {k:Nat} {A:Around} (r:Room (k+1) A):Room k A.in1 :=
 ⟨r.hd,by have:=r.dp;show A.depth+3 * k+5 < _;omega,by have:=r.un;show A.units+1+16 * k+200 < _;omega⟩
theorem Room.depth {k:Nat} {A:Around} (r:Room k A):A.depth < recursionLimit:=by have:=r.dp;omega
theorem Room.units {k:Nat} {A:Around} (r:Room k A):A.units+64 < cLine:=by have:=r.un;omega
theorem Room.units0 {k:Nat} {A:Around} (r:Room k A):A.units < cLine:=by have:=r.un;omega
def tNil:TA:=fun _ H Q=>Q [] H
def aay (ta:TE) (tr:TA):TA:=fun σ H Q=>ta σ H fun x H1=>tr σ H1 fun xs H2=>Q (x :: xs) H2
section
variable {X:Cx} {e:Expr} {es:List Expr} {te:TE} {t:TA} {pos:Pos}
theorem aab:PA X [] tNil:=fun _ _ _ _ H Q I h=>Calls.spliced_nil ⟨[],H,I,.nil,h⟩
theorem aaa (ha:PE X e te) (hr:PA X es t) (hs:starEach (e :: es) X.env=(false,eval e X.env) :: starEach es X.env:=by rfl):PA X (e :: es) (aay te t):=by
 intro pos pins s σ H Q I h
 rw [hs]
 show wpAny _ _ (spliced ((false,eval e X.env) :: backTo pos (starEach es X.env))) _ _ s
 refine Calls.spliced_cons (thn (ha pins s σ H _ I h) fun u s1 ⟨x,H1,I1,r1,q1⟩=>?_)
 exact thn (hr pos pins s1 σ H1 _ I1 q1) fun us s2 ⟨xs,H2,I2,r2,q2⟩=>⟨x :: xs,H2,I2,.cons r1 r2,q2⟩
def tTup (t:TA):TE:=fun σ H Q=>t σ H fun xs H1=>xs.length<=sizeLine/\∀ p,H1 p=none->Q (.ref p) (upd H1 p (.tup xs))
def tLst (t:TA):TE:=fun σ H Q=>t σ H fun xs H1=>xs.length<=sizeLine/\∀ p,H1 p=none->Q (.ref p) (upd H1 p (.lst xs))
theorem aa3 {x1} (h:PA X es t):PE X (.Tuple es x1 pos) (tTup t):=by
 intro pins s σ H Q I hq
 refine wpAny_Tuple_spliced (thn (h pos pins s σ H _ I hq) fun us s1 ⟨xs,H1,I1,r,z,q⟩=>⟨by rw [← r.length];exact z,?_⟩)
 have hf:H1 s1.heap.objs.size=none:=I1.hok.fresh (Nat.le_refl _)
 refine ⟨.ref s1.heap.objs.size,upd H1 s1.heap.objs.size (.tup xs),I1.laid (t':=s1.toks) (fun b u e=>Heap.get?_push_of_some _ e) (Nat.le_refl _) ?_,rfl,q _ hf⟩
 exact ⟨z,us,r,⟨_,Heap.get?_push_size _ rfl,rfl,_,rfl⟩⟩
theorem aa5 (h:PA X es t):PE X (.List es pos) (tLst t):=by
 intro pins s σ H Q I hq
 refine wpAny_List_spliced (thn (h pos pins s σ H _ I hq) fun us s1 ⟨xs,H1,I1,r,z,q⟩=>⟨by rw [← r.length];exact z,?_⟩)
 have hf:H1 s1.heap.objs.size=none:=I1.hok.fresh (Nat.le_refl _)
 refine ⟨.ref s1.heap.objs.size,upd H1 s1.heap.objs.size (.lst xs),I1.laid (t':=s1.toks) (fun b u e=>Heap.get?_push_of_some _ e) (Nat.le_refl _) ?_,rfl,q _ hf⟩
 exact ⟨z,us,0,r,Heap.get?_push_size _ rfl⟩
end
noncomputable abbrev Sp:=List V->Hp->VK->XK->Prop
noncomputable abbrev CXT:=List Env->Hp->Shared->XK->Value->Shared->Prop
structure Env0 (P:Program) (w:World) (K:Frag) (mg:Str->Option Value) (base:Heap) (A:Around) (outer:List Env) (s:Shared) (H:Hp):Prop where
 frames:A.frames=some outer
 mod:Mod K mg base
 bs:∀ b o,base.get? b=some o->s.heap.get? b=some o/\H b=none
 bsz:base.objs.size<=s.heap.objs.size
 funs:s.heap.FunFrames base outer
 frf:∀ b∈frs outer,H b=none
 hok:HOk P w H s.heap
 bare:AllBare s.gens
def CE (outer:List Env) (P:Program) (w:World) (H:Hp) (s:Shared) (Q:VK) (u:Value) (s':Shared):Prop :=
 ∃ v H',s'.os=s.os/\AllBare s'.gens/\Un (frs outer) [] H H' s.heap s'.heap/\HOk P w H' s'.heap/\RelV v u/\Q v H'
def CR (CX:CXT) (outer:List Env) (P:Program) (w:World) (H:Hp) (s:Shared) (Q:VK) (E:XK) (r:Result) (s':Shared):Prop :=
 match r with
 | .ok (.ret u)=>CE outer P w H s Q u s'
 | .ok _=>False
 | .error e=>CX outer H s E e s'
structure FnOk (P:Program) (w:World) (K:Frag) (mg:Str->Option Value) (base:Heap) (CX:CXT) (k:Nat) (f:Addr) (fd:FuncData) (ps:List Str) (sp:Sp):Prop where
 len:∀ vs H Q E,sp vs H Q E->vs.length=ps.length
 run:∀ (A:Around) (outer:List Env) (s:Shared) (H:Hp) (args:Args) (us:List Value) (vs:List V) (Q:VK) (E:XK),Room k A->Env0 P w K mg base A outer s H->BindsTo s fd args (ps.zip us)->Vals vs us->sp vs H Q E ->
  codeAny (model P w) A (.call (.ref f) args) (CR CX outer P w H s Q E) s
theorem FnOk.mono {P:Program} {w:World} {K:Frag} {mg:Str->Option Value} {base:Heap} {CX:CXT} {j k:Nat} {f:Addr} {fd:FuncData} {ps:List Str} {sp:Sp} (F:FnOk P w K mg base CX j f fd ps sp) (h:j<=k) :
  FnOk P w K mg base CX k f fd ps sp:=⟨F.len,fun A outer s H args us vs Q E hr=>F.run A outer s H args us vs Q E (hr.mono h)⟩
theorem FnOk.imp {P:Program} {w:World} {K:Frag} {mg:Str->Option Value} {base:Heap} {CX:CXT} {k:Nat} {f:Addr} {fd:FuncData} {ps:List Str} {sp sp':Sp} (F:FnOk P w K mg base CX k f fd ps sp)
  (h:∀ vs H Q E,sp' vs H Q E->sp vs H Q E):FnOk P w K mg base CX k f fd ps sp' :=
 ⟨fun vs H Q E q=>F.len vs H Q E (h _ _ _ _ q),fun A outer s H args us vs Q E hr he hb hv hs=>F.run A outer s H args us vs Q E hr he hb hv (h _ _ _ _ hs)⟩
theorem Env0.in1 {P:Program} {w:World} {K:Frag} {mg:Str->Option Value} {base:Heap} {A:Around} {outer:List Env} {s:Shared} {H:Hp} (e:Env0 P w K mg base A outer s H) :
  Env0 P w K mg base A.in1 outer s H:=⟨e.frames,e.mod,e.bs,e.bsz,e.funs,e.frf,e.hok,e.bare⟩
section
variable {X:Cx} {pins:List (Addr × Obj)} {σ:St} {H:Hp} {s s':Shared}
theorem Inv.env0 (I:Inv X pins σ H s):Env0 X.prog X.w X.K X.mg X.base X.A X.stack s H :=
 ⟨I.ok.frames,I.ok.mod,I.bs,Nat.le_trans I.ok.bsz I.sz,I.stack,I.stkFree,I.hok,I.bare⟩
theorem Inv.after {Q:VK} {u:Value} (I:Inv X pins σ H s) (h:CE X.stack X.prog X.w H s Q u s'):EP X pins σ Q u s':=by
 obtain ⟨v,H',os,bare,un,hok,r,q⟩:=h
 obtain ⟨hh,g,d,t,os'⟩:=s'
 obtain rfl:os'=s.os:=os
 exact ⟨v,H',I.call (h':=hh) (g':=g) (d':=d) (t':=t) (ch:=[]) un hok bare (fun b z=>absurd z (by simp)),r,q⟩
end
def acb (sp:Sp) (dvs:List V) (E:XK) (t:TA):TE:=fun σ H Q=>t σ H fun vs H1=>sp (vs ++ dvs) H1 Q E
def Binds (K:Frag) (fd:FuncData) (ps:List Str) (ds:List Value):Prop :=
 ∀ (s:Shared) (us:List Value),K.In s.heap->(us ++ ds).length=ps.length->BindsTo s fd ⟨us,[]⟩ (ps.zip (us ++ ds))
theorem Binds.all {K:Frag} {fd:FuncData} {ps:List Str} (h:∀ us:List Value,us.length=ps.length->bindArgs fd ⟨us,[]⟩=pure (ps.zip us)):Binds K fd ps []:=fun s us _ hl=>by
 rw [List.append_nil] at hl ⊢
 exact .of_eq (h us hl)
def ak1 (CX:CXT) (X:Cx) (E:XK):Prop:=∀ (pins:List (Addr × Obj)) (σ:St) (H:Hp) (s:Shared) (e:Value) (s':Shared),Inv X pins σ H s->CX X.stack H s E e s'->X.xe e s'
section
variable {X:Cx} {CX:CXT} {k:Nat} {f C:Addr} {fd:FuncData} {ps:List Str} {sp:Sp} {dvs:List V} {ds:List Value} {E:XK} {x m:Str} {p pos apos:Pos} {e o:Expr} {es:List Expr} {ta:TE} {t:TA}
theorem ax5 {pins:List (Addr × Obj)} {σ:St} {H:Hp} {s:Shared} {Q:VK} {us:List Value} {vs:List V} (F:FnOk X.prog X.w X.K X.mg X.base CX k f fd ps sp) (hr:Room k X.A) (hb:Binds X.K fd ps ds) (hd:Vals dvs ds) (hx:ak1 CX X E)
  (I:Inv X pins σ H s) (r:Vals vs us) (h:sp (vs ++ dvs) H Q E):wpAny (model X.prog X.w) X.A (call (.ref f) us) (EP X pins σ Q) X.xe s:=by
 have r2:Vals (vs ++ dvs) (us ++ ds):=r.append hd
 have hl:(us ++ ds).length=ps.length:=by rw [← r2.length];exact F.len _ _ _ _ h
 refine wpAny_call (codeAny_mono (F.run X.A X.stack s H ⟨us,[]⟩ (us ++ ds) (vs ++ dvs) Q E hr I.env0 (hb s us I.kIn hl) r2 h) fun r s' hq=>?_)
 cases r with
 | error e=>exact hx pins σ H s e s' I hq
 | ok fl =>
  cases fl with
  | ret u=>exact I.after hq
  | next=>exact False.elim hq
  | brk=>exact False.elim hq
  | cont=>exact False.elim hq
theorem avs (F:FnOk X.prog X.w X.K X.mg X.base CX k f fd ps sp) (hr:Room k X.A) (hg:Gl X x) (hm:X.mg x=some (.ref f)) (hk:keepIn X.K (.ref f)=true) (hb:Binds X.K fd ps ds) (hd:Vals dvs ds) (hx:ak1 CX X E)
  (ha:PA X (e :: es) t) (hdb:(x == ("__debug__" : Str))=false:=by decide) (he:starEach (e :: es) X.env=(false,eval e X.env) :: starEach es X.env:=by rfl) (hpl:(backTo pos (starEach es X.env)).any (·.1)=false:=by rfl) :
  PE X (.Call (.Name x p) (e :: es) [] pos) (acb sp dvs E t):=by
 intro pins s σ H Q I h
 refine wpAny_Call_Name_kw (anq I hg hm ?_ hdb)
 refine PySem.W.callWith_K (h₀:=X.base) I.ok.mod.kin hk (thn (ha pos pins s σ H _ I h) fun us s1 ⟨vs,H1,I1,r,q⟩=>⟨I1.kIn,?_⟩) he hpl
 exact ax5 F hr hb hd hx I1 r q
end
section
variable {X:Cx} {CX:CXT} {k:Nat} {f C:Addr} {fd:FuncData} {ps ks:List Str} {sp:Sp} {E:XK} {x m:Str} {p pos apos kpos:Pos} {e o:Expr} {es:List Expr} {kws:List Keyword} {te ta:TE} {t tk:TA} {nm:Option Str}
variable {g:List Value->List Value->List Value} {gV:List V->List V->List V}
end
structure FnScope (N P:List Str) (sc:Scope):Prop where
 kind:sc.kind=.function
 co:sc.isCoroutine=false
 gen:sc.isGenerator=false
 nd:N.Nodup
 pre:N.take P.length=P
 par:∀ x∈P,sc.names.lookup x=some .local\/sc.names.lookup x=some .cell
 nofree:∀ y∈sc.names,y.2 ≠ .free
theorem ai7 {kindOf:Str->Option NameKind} {x:Str}:∀ {binds:List (Str × Value)} {m:Str->Option Value},(∀ v,(x,v) ∉ binds)->bindL kindOf binds m x=m x
 | [],_,_=>rfl
 | (n,v) :: r,m,h=>by
  unfold bindL
  rw [ai7 fun w hw=>h w (List.mem_cons_of_mem _ hw)]
  split
  ·have:x ≠ n:=by rintro rfl;exact h v List.mem_cons_self
   simp [this]
  ·rfl
theorem ai8 {kindOf:Str->Option NameKind} {x:Str}:∀ {binds:List (Str × Value)} {m:Str->Option Value},(∀ v,(x,v) ∉ binds)->bindC kindOf binds m x=m x
 | [],_,_=>rfl
 | (n,v) :: r,m,h=>by
  unfold bindC
  rw [ai8 fun w hw=>h w (List.mem_cons_of_mem _ hw)]
  split
  ·rfl
  ·have:x ≠ n:=by rintro rfl;exact h v List.mem_cons_self
   simp [this]
theorem ai9 {kindOf:Str->Option NameKind} {x:Str} {v:Value}:∀ {P:List Str} {vs:List Value} {i:Nat} {m:Str->Option Value},P.Nodup->P[i]?=some x->vs[i]?=some v->kindOf x=some .local ->
  bindL kindOf (P.zip vs) m x=some v
 | [],_,_,_,_,h,_,_=>by simp at h
 | _ :: _,[],_,_,_,_,h,_=>by simp at h
 | p :: P,w :: vs,0,m,nd,h1,h2,hk=>by
  simp at h1 h2;subst h1;subst h2
  show bindL kindOf ((p,w) :: P.zip vs) m p=_
  unfold bindL
  rw [ai7 fun v hv=>(List.nodup_cons.mp nd).1 (List.of_mem_zip hv).1,if_pos hk]
  simp
 | p :: P,w :: vs,i+1,m,nd,h1,h2,hk=>by
  show bindL kindOf ((p,w) :: P.zip vs) m x=_
  unfold bindL
  exact ai9 (i:=i) (List.nodup_cons.mp nd).2 (by simpa using h1) (by simpa using h2) hk
theorem aja {kindOf:Str->Option NameKind} {x:Str} {v:Value}:∀ {P:List Str} {vs:List Value} {i:Nat} {m:Str->Option Value},P.Nodup->P[i]?=some x->vs[i]?=some v->kindOf x ≠ some .local ->
  bindC kindOf (P.zip vs) m x=some v
 | [],_,_,_,_,h,_,_=>by simp at h
 | _ :: _,[],_,_,_,_,h,_=>by simp at h
 | p :: P,w :: vs,0,m,nd,h1,h2,hk=>by
  simp at h1 h2;subst h1;subst h2
  show bindC kindOf ((p,w) :: P.zip vs) m p=_
  unfold bindC
  rw [ai8 fun v hv=>(List.nodup_cons.mp nd).1 (List.of_mem_zip hv).1,if_neg hk]
  simp
 | p :: P,w :: vs,i+1,m,nd,h1,h2,hk=>by
  show bindC kindOf ((p,w) :: P.zip vs) m x=_
  unfold bindC
  exact aja (i:=i) (List.nodup_cons.mp nd).2 (by simpa using h1) (by simpa using h2) hk
noncomputable def start (N:List Str) (vs:List V):St:=vs.map some ++ List.replicate (N.length - vs.length) none
noncomputable def cxOf (CX:CXT) (P:Program) (w:World) (K:Frag) (mg:Str->Option Value) (base:Heap) (N:List Str) (qual:Str) (scope:Scope) (f:Addr) (cd:Value) (A:Around) (outer:List Env) (s:Shared) (H:Hp) (E:XK):Cx where
 prog:=P
 w:=w
 K:=K
 mg:=mg
 base:=base
 A:=A.deeper (envOfC qual scope s.heap.objs.size f cd)
 N:=N
 s₀:=s
 H₀:=H
 env:=envOfC qual scope s.heap.objs.size f cd
 outer:=outer
 stack:=envOfC qual scope s.heap.objs.size f cd :: outer
 ex:=[]
 calm:=true
 fn:=fun _=>true
 pn:=[]
 xe:=fun e s'=>wpAny (model P w) (A.deeper (envOfC qual scope s.heap.objs.size f cd)) (leaving (envOfC qual scope s.heap.objs.size f cd) e) (fun _ s''=>CX outer H s E e s'') (fun e' s''=>CX outer H s E e' s'') s'
theorem ak2 {sc:Scope} {n:Nat} {x:Str} (h:sc.names.lookup x=some .cell):∃ c,(cellsFrom n sc.names []).lookup x=some c:=by
 have q:=PySem.W.cellsFrom_some sc.names n [] (.inl h)
 exact Option.isSome_iff_exists.mp q
theorem aqt {CX:CXT} {P:Program} {w:World} {K:Frag} {mg:Str->Option Value} {base:Heap} {N ps:List Str} {qual:Str} {scope:Scope} {f:Addr} {cd:Value} {A:Around} {outer:List Env} {s s1:Shared} {H:Hp} {E:XK} {us:List Value} {vs:List V}
  (S:FnScope N ps scope) (hd:A.handled=none) (e0:Env0 P w K mg base A outer s H) (hl:vs.length=ps.length) (r:Vals vs us)
  (x:InCallC s s.heap.objs.size (bindL (envOfC qual scope s.heap.objs.size f cd).kindOf (ps.zip us) fun _=>none) (cellsFrom (s.heap.objs.size+1) scope.names []) (bindC (envOfC qual scope s.heap.objs.size f cd).kindOf (ps.zip us) fun _=>none) s1) :
  Inv (cxOf CX P w K mg base N qual scope f cd A outer s H E) [] (start N vs) H s1:=by
 have hpl:ps.length<=N.length:=by have:=congrArg List.length S.pre;rw [List.length_take] at this;omega
 obtain ⟨h1,tk,rfl,hk⟩:=x.done
 have noA:∀ b:Addr,b ∉ (cxOf CX P w K mg base N qual scope f cd A outer s H E).ex:=fun b z=>absurd (show b∈([]:List Addr) from z) (by simp)
 refine ⟨⟨e0.mod,S.kind,rfl,rfl,Nat.le_refl _,fun y z c h1 h2=>?_,fun y hy=>?_,fun y c _ h=>?_,fun _=>hd,Around.frames_deeper e0.frames,.inr ⟨rfl,rfl⟩,fun b z=>absurd z (noA b),e0.bs,e0.bsz,fun b _ _=>noA b,fun b z=>absurd z (noA b),e0.funs,e0.frf⟩,
  rfl,e0.bare,Un.kept hk,⟨_,x.toInCall.ns,fun i y v h1 h2 h3=>?_⟩,fun y c h=>⟨_,x.cell y c h⟩,e0.hok.fresh (Nat.le_refl _),fun y c h=>?_,fun p hp=>absurd (show p∈([]:List (Addr × Obj)) from hp) (by simp),e0.hok.kept hk,?_⟩
 ·exact name_of_addr x.apart (PySem.mem_of_lookup h1) (PySem.mem_of_lookup h2)
 ·have hy:scope.names.lookup y=some .cell\/scope.names.lookup y=some .free:=hy
  rcases hy with hy | hy
  ·exact ak2 hy
  ·exact absurd rfl (S.nofree _ (PySem.mem_of_lookup hy))
 ·exact Nat.le_of_lt (x.above y c (PySem.mem_of_lookup h))
 ·have hi:i < vs.length:=by
   unfold start at h2
   by_cases hi:i < vs.length
   ·exact hi
   ·rw [List.getElem?_append_right (by simpa using hi)] at h2
    rw [List.getElem?_replicate] at h2
    split at h2 <;> cases h2
  have ha:vs[i]?=some v:=by
   unfold start at h2
   rw [List.getElem?_append_left (by simpa using hi),List.getElem?_map] at h2
   cases e:vs[i]? with
   | none=>rw [e] at h2;cases h2
   | some a=>rw [e] at h2;cases h2;rfl
  obtain ⟨u,hu,rv⟩:=r.get ha
  have hp:ps[i]?=some y:=by
   rw [← S.pre,List.getElem?_take_of_lt (by omega)];exact h1
  have ndP:ps.Nodup:=by rw [← S.pre];exact S.nd.sublist (List.take_sublist _ _)
  refine ⟨u,rv,?_⟩
  rcases S.par y (List.mem_of_getElem? hp) with k | k
  ·exact .inl ⟨k,ai9 ndP hp hu k⟩
  ·obtain ⟨c,e⟩:=ak2 (n:=s.heap.objs.size+1) k
   refine .inr ⟨.inl k,c,e,?_⟩
   have q:=x.cell y c e
   rw [aja ndP hp hu (by show scope.names.lookup y ≠ _;rw [k];decide)] at q
   exact q
 ·exact e0.hok.fresh (Nat.le_of_lt (x.above y c (PySem.mem_of_lookup h)))
 ·unfold start
  show _=N.length
  rw [List.length_append,List.length_map,List.length_replicate]
  omega
theorem a0b {CX:CXT} {P:Program} {w:World} {K:Frag} {mg:Str->Option Value} {base:Heap} {k:Nat} {f:Addr} {name qual:Str} {params:Arguments} {body:List Stmt} {scope:Scope} {dV kV doc pm cdv ct oc:Value} {an od:Option Addr}
  {osl:Array (Option Value)} {N ps:List Str} {sp:Sp} (lk:K.lookup f=some ⟨oc,od,.func (fnOf name qual params body scope dV kV doc pm an cdv ct),osl⟩) (hcd:codeIn K cdv qual=true) (S:FnScope N ps scope)
  (len:∀ vs H Q E,sp vs H Q E->vs.length=ps.length)
  (hbody:∀ (A:Around) (outer:List Env) (s:Shared) (H:Hp) (vs:List V) (Q:VK) (E:XK),Room k (A.deeper (envOfC qual scope s.heap.objs.size f cdv))->sp vs H Q E ->
   ∃ t,PSs (cxOf CX P w K mg base N qual scope f cdv A outer s H E) body t/\t { nx:=fun _ H'=>Q .non H',rt:=Q } (start N vs) H) :
  FnOk P w K mg base CX (k+1) f (fnOf name qual params body scope dV kV doc pm an cdv ct) ps sp:=by
 refine ⟨len,fun A outer s H args us vs Q E hr e0 hb r hsp=>?_⟩
 have hl:=len _ _ _ _ hsp
 have KX:K.In s.heap:=e0.mod.kin.keeps fun b o e=>(e0.bs b o e).1
 have lim:s.heap.NoLimit:=e0.mod.nolimit.keeps fun b o e=>(e0.bs b o e).1
 have hkind:∀ y∈ps.zip us,scope.names.lookup y.1=some .local\/(scope.names.lookup y.1=some .cell/\((cellsFrom (s.heap.objs.size+1) scope.names []).lookup y.1).isSome=true):=fun ⟨n,v⟩ hy=>by
  rcases S.par n (List.of_mem_zip hy).1 with q | q
  ·exact .inl q
  ·exact .inr ⟨q,PySem.W.cellsFrom_some _ _ _ (.inl q)⟩
 refine codeAny_call_function hr.depth (KX _ _ lk) rfl S.co S.gen rfl (PySem.W.codeRec_of KX hcd) (hb _ _ _ _ ?_)
 refine wpAny_newFunctionEnv_cells S.kind hkind fun env he s1 x=>?_
 subst he
 refine ⟨lim.keeps x.toInCall.keep,codeAny_func ?_⟩
 obtain ⟨t,ht,hq⟩:=hbody A outer s H vs Q E (hr.deeper _) hsp
 have I:Inv (cxOf CX P w K mg base N qual scope f cdv A outer s H E) [] (start N vs) H s1:=aqt S hr.hd e0 hl r x
 refine wpAny_mono (ht [] s1 (start N vs) H _ I hq) (fun fl s' hs=>?_) fun e s' hs=>hs
 have fin:∀ {σ':St} {H':Hp} {v:V} {u:Value},Inv (cxOf CX P w K mg base N qual scope f cdv A outer s H E) [] σ' H' s'->RelV v u->Q v H'->CE outer P w H s Q u s' :=
  fun {σ' H' v u} J rv q=>⟨v,H',J.os,J.bare,J.base,J.hok,rv,q⟩
 cases fl with
 | ret u =>
  obtain ⟨v,σ',H',J,rv,q⟩:=hs
  exact fin J rv q
 | next =>
  obtain ⟨σ',H',J,q⟩:=hs
  exact fin (v:=V.non) (u:=Value.none) J rfl q
 | brk =>
  obtain ⟨_,_,_,q⟩:=hs
  exact False.elim q
 | cont =>
  obtain ⟨_,_,_,q⟩:=hs
  exact False.elim q
section
variable {X:Cx} {x:Str} {p pos:Pos} {e:Expr} {es:List Expr} {t:TA} {id T:String} {r:List V->Hp->VK->Prop}
def tCB (r:List V->Hp->VK->Prop) (t:TA):TE:=fun σ H Q=>t σ H fun vs H1=>r vs H1 Q
theorem aai (hc:abe X (.builtin id) r) (hg:Gl X x) (hm:X.mg x=none) (hv:bootBuiltins x=some (.builtin id)) (ha:PA X (e :: es) t) (hn:x ≠ "__name__":=by decide) (hdb:(x == ("__debug__" : Str))=false:=by decide)
  (he:starEach (e :: es) X.env=(false,eval e X.env) :: starEach es X.env:=by rfl) (hpl:(backTo pos (starEach es X.env)).any (·.1)=false:=by rfl):PE X (.Call (.Name x p) (e :: es) [] pos) (tCB r t):=by
 intro pins s σ H Q I h
 refine wpAny_Call_Name_kw (ady I hg hm hv ?_ hn hdb)
 exact PyProof.Rows.callWith_builtin1 (thn (ha pos pins s σ H _ I h) fun us s1 ⟨vs,H1,I1,r1,q1⟩=>hc pins s1 σ H1 vs us Q I1 r1 q1) he hpl
theorem afs (hc:abe X (.type T) r) (hg:Gl X x) (hm:X.mg x=none) (hv:bootBuiltins x=some (.type T)) (ha:PA X (e :: es) t) (hn:x ≠ "__name__":=by decide) (hdb:(x == ("__debug__" : Str))=false:=by decide)
  (he:starEach (e :: es) X.env=(false,eval e X.env) :: starEach es X.env:=by rfl) (hpl:(backTo pos (starEach es X.env)).any (·.1)=false:=by rfl):PE X (.Call (.Name x p) (e :: es) [] pos) (tCB r t):=by
 intro pins s σ H Q I h
 refine wpAny_Call_Name_kw (ady I hg hm hv ?_ hn hdb)
 exact PyProof.Rows.callWith_type1 (thn (ha pos pins s σ H _ I h) fun us s1 ⟨vs,H1,I1,r1,q1⟩=>hc pins s1 σ H1 vs us Q I1 r1 q1) he hpl
end
end L2
namespace HT
open PySem PyProof.Rows
noncomputable def lexLt:List Int->List Int->Bool
 | [],[]=>false
 | [],_ :: _=>true
 | _ :: _,[]=>false
 | x :: xs,y :: ys=>if x=y then lexLt xs ys else decide (x < y)
theorem aea (x y:Int) (xs ys:List Int):lexLt (x :: xs) (y :: ys)=if x=y then lexLt xs ys else decide (x < y):=rfl
theorem ajz:lexLt [] []=false:=rfl
theorem aic (y:Int) (ys:List Int):lexLt [] (y :: ys)=true:=rfl
theorem aid (x:Int) (xs:List Int):lexLt (x :: xs) []=false:=rfl
theorem asu (A:Around) (s:Shared) (a:Int) (t:Tok) (c:Int) (u:Tok):∃ e,SeqAt.EqAt A s (.int a t) (.int c u) e/\(e=true ↔ a=c) :=
 ⟨(a == c),SeqAt.EqAt.int_int a t c u,by simp⟩
theorem asv (A:Around) (s:Shared) (a:Int) (t:Tok) (c:Int) (u:Tok) (prog:Program) (w:World) (E:Value->Shared->Prop) (Q:Value->Shared->Prop) (h:Q (.bool (decide (a < c))) s) :
  wpAny (model prog w) A (richCompare .Lt (.int a t) (.int c u)) Q E s :=
 (PyProof.Rows.lt_int h:wpAny (model prog w) A (compareOp .Lt (.int a t) (.int c u)) Q E s)
section
open PySem.SeqAt
open PySem.AutoSeq1 (wpAny_loadPart')
open PySem.MeetsSeq PySem.MeetsSeq2 PySem.MeetsSeq3
theorem aj0 (l b:Addr) (items items2:Array Value) (n n2:Nat) (dd dd2:Option Addr) (sl sl2:Array (Option Value)) (ns ms:List Int) (hi:IntsAre items.toList ns) (hj:IntsAre items2.toList ms) :
  Meets (Builtin.«tuple.__lt__» ⟨[.ref l,.ref b],[]⟩)
   (fun _ R s=>s.heap.get? l=some { cls:=.type "tuple",dict:=dd,data:=.seq items n,slots:=sl }/\s.heap.get? b=some { cls:=.type "tuple",dict:=dd2,data:=.seq items2 n2,slots:=sl2 } /\
    R (.ok (.ret (.bool (lexLt ns ms)))) s) :=
 .of_wp fun prog w A R s h=>by
  obtain ⟨hp,g,d,tk,os⟩:=s;obtain ⟨hl,hb,h⟩:=h
  have f2:=AutoSeq1.sub_tuple_tuple
  have z1:items.size=ns.length:=by rw [← hi.length];simp
  have z2:items2.size=ms.length:=by rw [← hj.length];simp
  wp_walk using wpAny_loadPart' hl,wpAny_loadPart' hb,wpAny_forIn_list _ (fun rest b s'=>b.1=none/\s'=⟨hp,g,d,tk,os⟩/\∃ (vs ws:List Value) (ns' ms':List Int),rest=vs.zip ws /\
   IntsAre vs ns'/\IntsAre ws ms'/\ns'.length+items2.size=ms'.length+items.size/\R (.ok (.ret (.bool (lexLt ns' ms')))) ⟨hp,g,d,tk,os⟩) _
  case turn =>
   rintro ⟨y,x⟩ rest b s' ⟨hb',rfl,vs,ws,ns',ms',hz,hvi,hwi,hlen,hR⟩
   cases hvi with
   | nil=>rw [List.zip_nil_left] at hz;cases hz
   | cons a t hvi' =>
    cases hwi with
    | nil=>rw [List.zip_nil_right] at hz;cases hz
    | cons c u hwi' =>
     rw [List.zip_cons_cons] at hz
     injection hz with hyx hrest
     injection hyx with hy hx
     subst hy hx
     rw [aea] at hR
     simp only [List.length_cons] at hlen
     obtain ⟨e,he,hiff⟩:=asu A.in1 ⟨hp,g,d,tk,os⟩ a t c u
     refine wpAny_bind (he prog w _ _ ?_)
     cases e with
     | true =>
      rw [if_pos (hiff.mp rfl)] at hR
      wp_walk
      exact ⟨rfl,rfl,_,_,_,_,hrest,hvi',hwi',by omega,hR⟩
     | false =>
      rw [if_neg (fun q=>absurd (hiff.mpr q) Bool.false_ne_true)] at hR
      have hri:=asv A.in1 ⟨hp,g,d,tk,os⟩ a t c u prog w
      wp_walk using hri
      exact ⟨_,rfl,by simpa using hR⟩
  case fin =>
   rintro ⟨b1,b2⟩ s' ⟨hb',rfl,vs,ws,ns',ms',hz,hvi,hwi,hlen,hR⟩
   simp only at hb'
   subst hb'
   have hv:lexLt ns' ms'=decide (items.size < items2.size):=by
    cases hvi with
    | nil =>
     cases hwi with
     | nil =>
      simp only [List.length_nil] at hlen
      rw [ajz]
      exact (decide_eq_false (by omega)).symm
     | cons c u hw =>
      simp only [List.length_nil,List.length_cons] at hlen
      rw [aic]
      exact (decide_eq_true (by omega)).symm
    | cons a t hv =>
     cases hwi with
     | nil =>
      simp only [List.length_nil,List.length_cons] at hlen
      rw [aid]
      exact (decide_eq_false (by omega)).symm
     | cons c u hw =>
      rw [List.zip_cons_cons] at hz
      cases hz
   rw [hv] at hR
   wp_walk
   exact ⟨_,rfl,by simpa [Builtin.Tuple.tupleCompareSizes] using hR⟩
  case h =>
   exact ⟨rfl,rfl,items.toList,items2.toList,ns,ms,rfl,hi,hj,by omega,h⟩
end
section
variable {prog:Program} {w:World} {A:Around} {E:Value->Shared->Prop} {s:Shared}
theorem lt_tupInts {l b:Addr} {items items2:Array Value} {ns ms:List Int} {Q:Value->Shared->Prop} (hl:IsTup s.heap l items) (hb:IsTup s.heap b items2) (hi:IntsAre items.toList ns) (hj:IntsAre items2.toList ms)
  (hu:A.units < cLine) (h:Q (.bool (lexLt ns ms)) s):wpAny (model prog w) A (compareOp .Lt (.ref l) (.ref b)) Q E s:=by
 obtain ⟨⟨cls,dd,data,sl⟩,ho,hc,n,hd⟩:=id hl
 obtain ⟨⟨cls2,dd2,data2,sl2⟩,ho2,hc2,n2,hd2⟩:=id hb
 simp only at hc hd hc2 hd2
 subst hc hd hc2 hd2
 exact richCompare_meets_room (op:=.Lt) ⟨_,ho,rfl⟩ ⟨_,ho2,rfl⟩ PySem.F.slot_tuple_lt PySem.F.entry_tuple_lt (PySem.F.args_tuple_lt_2 _ _) (aj0 l b items items2 n n2 dd dd2 sl sl2 ns ms hi hj)
  ⟨ho,ho2,show Value.bool (lexLt ns ms) ≠ Value.notImplemented/\Q (.bool (lexLt ns ms)) s from ⟨(fun x=>nomatch x),h⟩⟩ hu
end
end HT
namespace L2
open PySem PySem.Spec PyProof.Rows
noncomputable abbrev TO:=St->Hp->(Option Int->Hp->Prop)->Prop
theorem acj {ns:List Int}:∀ {us:List Value},Vals (ns.map V.int) us->IntsAre us ns:=by
 induction ns with
 | nil=>intro us r;rw [List.map_nil] at r;cases r;exact .nil
 | cons n ns ih =>
  intro us r
  rw [List.map_cons] at r
  cases r with
  | cons r1 r2 =>
   obtain ⟨t,e⟩:=r1
   subst e
   exact .cons n t (ih r2)
section
variable {X:Cx} {e:Expr} {te:TE} {lo hi:Option Expr} {tl th:TO} {pos p2:Pos}
def SlR (X:Cx) (r:V->Option Int->Option Int->Hp->VK->Prop):Prop :=
 ∀ (pins:List (Addr × Obj)) (s:Shared) (σ:St) (H:Hp) (x:V) (v vl vu:Value) (lo hi:Option Int) (sl:Addr) (Q:VK),Inv X pins σ H s->RelV x v->s.heap.IsSliceOf sl vl vu .none->IsPart vl lo->IsPart vu hi->r x lo hi H Q ->
  ∃ T id,typeLookup (.type T) "__getitem__" = pure (some (.builtin id))/\s.TypeIs v T/\wpAny (model X.prog X.w) X.A (getItem v (.ref sl)) (EP X pins σ Q) X.xe s
def rLtT (K:Frag):R2:=fun x y H Q=>∃ a b ns ms,x=.ref a/\y=.ref b/\SqT K H a (ns.map V.int)/\SqT K H b (ms.map V.int)/\Q (.bl (HT.lexLt ns ms)) H
theorem ax6 (hu:X.A.units < cLine):OpR X (compareOp .Lt) (rLtT X.K):=by
 intro pins s σ H x y v u Q I rx ry h
 obtain ⟨a,b,ns,ms,rfl,rfl,ha,hb,q⟩:=h
 cases rx
 cases ry
 obtain ⟨its,r1,p1,_⟩:=I.tuple ha
 obtain ⟨its2,r2,p2,_⟩:=I.tuple hb
 have i1:IntsAre its.toArray.toList ns:=acj r1
 have i2:IntsAre its2.toArray.toList ms:=acj r2
 exact HT.lt_tupInts p1 p2 i1 i2 hu ⟨.bl (HT.lexLt ns ms),H,I,rfl,q⟩
end
noncomputable def ixN (n:Nat) (i:Int):Option Nat:=if 0<=i then (if i < n then some i.toNat else none) else if -(n:Int)<=i then some (i+n).toNat else none
noncomputable def atI {α:Type} (xs:List α) (i:Int):Option α:=(ixN xs.length i).bind fun j=>xs[j]?
theorem anu {n:Nat} {i:Int} {j:Nat} (h:ixN n i=some j):seqIndex? i n=some j/\j < n/\-(n:Int)<=i/\i < n:=by
 unfold ixN at h
 by_cases h0:0<=i
 ·rw [if_pos h0] at h
  by_cases h1:i < n
  ·rw [if_pos h1] at h
   have e:i.toNat=j:=Option.some.inj h
   exact ⟨by rw [seqIndex_of h0 h1,e],by omega,by omega,h1⟩
  ·rw [if_neg h1] at h;cases h
 ·rw [if_neg h0] at h
  by_cases h1 : -(n:Int)<=i
  ·rw [if_pos h1] at h
   have e:(i+n).toNat=j:=Option.some.inj h
   exact ⟨by rw [seqIndex_neg (by omega) h1,e],by omega,h1,by omega⟩
  ·rw [if_neg h1] at h;cases h
theorem anv {α:Type} {xs:List α} {i:Int} {v : α} (h:atI xs i=some v):∃ j,seqIndex? i xs.length=some j/\xs[j]?=some v/\j < xs.length/\-(xs.length:Int)<=i/\i < xs.length:=by
 unfold atI at h
 cases e:ixN xs.length i with
 | none=>rw [e] at h;cases h
 | some j =>
  rw [e] at h
  obtain ⟨h1,h2,h3,h4⟩:=anu e
  exact ⟨j,h1,h,h2,h3,h4⟩
theorem ac6 {α:Type} {xs:List α} {j:Nat} {v : α} (h:xs[j]?=some v):atI xs (j:Int)=some v:=by
 have hj:j < xs.length:=(List.getElem?_eq_some_iff.mp h).1
 have e:ixN xs.length (j:Int)=some j:=by
  unfold ixN
  rw [if_pos (by omega),if_pos (by omega)];simp
 unfold atI;rw [e];exact h
def avt (b:Expr):Prop:=∀ o i,subscripted b false o i=operate [o,i] (getItem o i)
def IxR (X:Cx) (r:R2):Prop :=
 ∀ (value slice:Expr) (pins:List (Addr × Obj)) (s:Shared) (σ:St) (H:Hp) (x y:V) (v u:Value) (Q:VK),Inv X pins σ H s->RelV x v->RelV y u->r x y H Q ->
  subscripted slice false v u=operate [v,u] (getItem v u)->wpAny (model X.prog X.w) X.A (subscriptTail value slice v u) (EP X pins σ Q) X.xe s
def MtR (X:Cx) (id:String) (r:V->List V->Hp->VK->Prop):Prop :=
 ∀ (pins:List (Addr × Obj)) (s:Shared) (σ:St) (H:Hp) (x:V) (xs:List V) (v:Value) (us:List Value) (Q:VK),Inv X pins σ H s->RelV x v->Vals xs us->r x xs H Q ->
  wpAny (model X.prog X.w) X.A (call (.builtin id) (v :: us)) (EP X pins σ Q) X.xe s
section
variable {X:Cx} {a b:Expr} {ta tb:TE} {pos:Pos}
theorem IxR.or {r r':R2} (h:IxR X r) (h':IxR X r'):IxR X (fun x y H Q=>r x y H Q\/r' x y H Q):=by
 intro value slice pins s σ H x y v u Q I rx ry q hs
 rcases q with q | q
 ·exact h value slice pins s σ H x y v u Q I rx ry q hs
 ·exact h' value slice pins s σ H x y v u Q I rx ry q hs
theorem aar {r:R2} (hr:IxR X r) (ha:PE X a ta) (hb:PE X b tb) (hs:avt b):PE X (.Subscript a b pos) (tOp r ta tb):=by
 intro pins s σ H Q I h
 exact Subscript_ (binT ha hb I h fun v u s2 x y H2 I2 rx ry q=>hr a b pins s2 σ H2 x y v u Q I2 rx ry q (hs _ _))
def rIxL (K:Frag):R2:=fun x y H Q=>∃ p xs i v,x=.ref p/\y=.int i/\SqL K H p xs/\atI xs i=some v/\Q v H
def rIxT (K:Frag):R2:=fun x y H Q=>∃ p xs i v,x=.ref p/\y=.int i/\SqT K H p xs/\atI xs i=some v/\Q v H
theorem ix_list:IxR X (rIxL X.K):=by
 intro value slice pins s σ H x y v u Q I rx ry h hs
 obtain ⟨p,xs,i,z,rfl,rfl,hq,he,q⟩:=h
 cases rx
 obtain ⟨t,rfl⟩:=ry
 obtain ⟨its,r,pl,hz⟩:=I.list hq
 obtain ⟨j,h1,h2,h3,h4,h5⟩:=anv he
 obtain ⟨w,ew,rw'⟩:=r.get h2
 have hl:=r.length
 have hn:=afr
 have fin:EP X pins σ Q w s:=⟨z,H,I,rw',q⟩
 by_cases h0:0<=i
 ·have hj:i.toNat=j:=by
   rw [seqIndex_of h0 h5] at h1
   exact Option.some.inj h1
  exact item_listR pl.isList h0 (by omega) (by rw [hj];simpa using ew) fin hs
 ·have hj:(i+(its.toArray.size:Int)).toNat=j:=by
   rw [seqIndex_neg (by omega) h4] at h1
   rw [List.size_toArray,← hl]
   exact Option.some.inj h1
  exact subscriptTail_builtinR (x:=w) pl.isList.typeIs slot_list_getitem.lookup
   (wpAny_getItem_list_neg (Q:=fun r s'=>r=w/\EP X pins σ Q r s') pl.isList (by omega) (by rw [List.size_toArray] <;> omega) (by omega) (by rw [hj];simpa using ew) ⟨rfl,fin⟩) hs
theorem ax7:IxR X (rIxT X.K):=by
 intro value slice pins s σ H x y v u Q I rx ry h hs
 obtain ⟨p,xs,i,z,rfl,rfl,hq,he,q⟩:=h
 cases rx
 obtain ⟨t,rfl⟩:=ry
 obtain ⟨its,r,pl,hz⟩:=I.tuple hq
 obtain ⟨j,h1,h2,h3,h4,h5⟩:=anv he
 obtain ⟨w,ew,rw'⟩:=r.get h2
 have hl:=r.length
 have hn:=afr
 have fin:EP X pins σ Q w s:=⟨z,H,I,rw',q⟩
 exact subscriptTail_builtinR (x:=w) pl.typeIs slot_tuple_getitem.lookup
  (getItem_tuple (j:=j) (Q:=fun r s'=>r=w/\EP X pins σ Q r s') pl (by omega) (by omega) (by rw [List.size_toArray,← hl];exact h1) (by simpa using ew) ⟨rfl,fin⟩) hs
theorem ape (its:List Value) (n j:Nat) (u:Value):Obj.mapSeq (·.setIfInBounds j u) { cls:=.type "list",data:=.seq its.toArray n }={ cls:=.type "list",data:=.seq (its.set j u).toArray n }:=by
 simp [Obj.mapSeq]
theorem Inv.lst {pins:List (Addr × Obj)} {σ:St} {H:Hp} {s:Shared} {p:Addr} {xs:List V} (I:Inv X pins σ H s) (h:H p=some (.lst xs)) :
  ∃ (its:List Value) (n:Nat),Vals xs its/\s.heap.get? p=some { cls:=.type "list",data:=.seq its.toArray n }/\xs.length<=sizeLine:=by
 obtain ⟨z,its,n,r,e⟩:=I.hok p _ h
 exact ⟨its,n,r,e,z⟩
theorem Inv.lstUpd {pins:List (Addr × Obj)} {σ:St} {H:Hp} {s:Shared} {p:Addr} {xs ys:List V} {its its':List Value} {n n':Nat} {f:Obj->Obj} (I:Inv X pins σ H s) (h:H p=some (.lst xs))
  (ho:s.heap.get? p=some { cls:=.type "list",data:=.seq its.toArray n }) (hf:f { cls:=.type "list",data:=.seq its.toArray n }={ cls:=.type "list",data:=.seq its'.toArray n' }) (r:Vals ys its') (hz:ys.length<=sizeLine) (t:Nat) :
  Inv X pins σ (upd H p (.lst ys)) { s with heap:=s.heap.update p f,toks:=t }:=by
 have e:(s.heap.update p f).get? p=some { cls:=.type "list",data:=.seq its'.toArray n' }:=by
  rw [Heap.get?_update_self f ho (by rw [hf] <;> rfl),hf]
 refine I.write (x:=p) (e:=p) (by rw [h];trivial) (.inl rfl) (fun b u hb q=>(Heap.get?_update_other _ _ (Ne.symm hb)).trans q) ⟨_,e⟩ ?_
 exact ⟨hz,its',n',r,e⟩
def apf:V->V->V->Hp->(Hp->Prop)->Prop:=fun o i v H Q=>∃ p xs k j,o=.ref p/\i=.int k/\H p=some (.lst xs)/\ixN xs.length k=some j/\Q (upd H p (.lst (xs.set j v)))
theorem adj:PSet X apf:=by
 intro pins s σ H o i v ov iv u Q I ro ri rv h
 obtain ⟨p,xs,k,j,rfl,rfl,hp,hj,q⟩:=h
 cases ro
 obtain ⟨t,rfl⟩:=ri
 obtain ⟨its,n,r,ho,hz⟩:=I.lst hp
 obtain ⟨h1,h2,h3,h4⟩:=anu hj
 have hl:=r.length
 have hn:=afr
 have I':Inv X pins σ (upd H p (.lst (xs.set j v))) { s with heap:=s.heap.update p (Obj.mapSeq (·.setIfInBounds j u)) } :=
  I.lstUpd hp ho (ape its n j u) (r.set rv j) (by rw [List.length_set];exact hz) s.toks
 by_cases h0:0<=k
 ·have hk:k.toNat=j:=by
   rw [seqIndex_of h0 h4] at h1
   exact Option.some.inj h1
  exact PySem.W.ki_setAt ho h0 (by omega) (by rw [List.size_toArray,← hl];exact h4) (by rw [hk];exact ⟨_,I',q⟩)
 ·have hk:(k+(its.toArray.size:Int)).toNat=j:=by
   rw [seqIndex_neg (by omega) h3] at h1
   rw [List.size_toArray,← hl]
   exact Option.some.inj h1
  exact PySem.W.ki_setBack ho (by omega) (by rw [List.size_toArray,← hl];exact h3) (by omega) (by rw [hk];exact ⟨_,I',q⟩)
theorem ak3:abe X (.builtin "len") (fun xs H Q=>∃ p ys,xs=[.ref p]/\(SqL X.K H p ys\/SqT X.K H p ys)/\Q (.int ys.length) H):=by
 intro pins s σ H xs us Q I r h
 obtain ⟨p,ys,rfl,hq,q⟩:=h
 obtain ⟨u,rfl,rx⟩:=ade r
 cases rx
 have hn:=afr
 rcases hq with hq | hq
 ·obtain ⟨its,r',pl,hz⟩:=I.list hq
  have hlen:=r'.length
  exact Calls.call_len_list pl.isList (by simp only [List.size_toArray] <;> omega) ⟨.int ys.length,H,I.tok _,⟨s.toks+1,by rw [List.size_toArray,hlen]⟩,q⟩
 ·obtain ⟨its,r',pl,hz⟩:=I.tuple hq
  have hlen:=r'.length
  exact len_tuple pl (by simp only [List.size_toArray] <;> omega) ⟨.int ys.length,H,I.tok _,⟨s.toks+1,by rw [List.size_toArray,hlen]⟩,q⟩
theorem ak4:abe X (.type "list") (fun xs H Q=>∃ p ys,xs=[.ref p]/\(SqL X.K H p ys\/SqT X.K H p ys)/\∀ l,H l=none->Q (.ref l) (upd H l (.lst ys))):=by
 intro pins s σ H xs us Q I r h
 obtain ⟨p,ys,rfl,hq,q⟩:=h
 obtain ⟨u,rfl,rx⟩:=ade r
 cases rx
 have fin:∀ (its:List Value),Vals ys its->ys.length<=sizeLine->∀ (h':Heap) (c':Nat),(∀ b o',s.heap.get? b=some o'->h'.get? b=some o') ->
   h'.get? s.heap.objs.size=some { cls:=.type "list",dict:=none,data:=.seq its.toArray c',slots:=#[] }->EP X pins σ Q (.ref s.heap.objs.size) { s with heap:=h' }:=fun its r' hz h' c' kp e =>
  ⟨.ref s.heap.objs.size,_,I.laid (t':=s.toks) kp (Nat.le_refl _) (show ObjOk X.prog X.w _ h' _ (.lst ys) from ⟨hz,its,c',r',e⟩),rfl,q _ (I.hok.fresh (Nat.le_refl _))⟩
 rcases hq with hq | hq
 ·obtain ⟨its,r',pl,hz⟩:=I.list hq
  have hlen:=r'.length
  obtain ⟨o,ho,hc,n,hd⟩:=pl.isList
  exact call_list_seq p (.inl rfl) ho hc hd (fun h' c' kp e=>fin its r' hz h' c' kp e) (by simp only [List.size_toArray] <;> omega)
 ·obtain ⟨its,r',pl,hz⟩:=I.tuple hq
  have hlen:=r'.length
  obtain ⟨o,ho,hc,n,hd⟩:=pl
  exact call_list_seq p (.inr rfl) ho hc hd (fun h' c' kp e=>fin its r' hz h' c' kp e) (by simp only [List.size_toArray] <;> omega)
def tyV (K:Frag) (T:String) (x:V) (H:Hp):Prop:=match x with
 | .str _=>T = "str"
 | .int _=>T = "int"
 | .ref p=>(T = "list"/\∃ xs,SqL K H p xs)\/(T = "tuple"/\∃ o,K.lookup p=some o/\o.cls=.type "tuple"/\o.dict=none) ∨
   (T = "dict"/\((∃ kvs,H p=some (.dK kvs))\/∃ kvs,H p=some (.dT kvs)))\/(T = "set"/\∃ S n,H p=some (.set S n))
 | _=>False
theorem ax8 {pins:List (Addr × Obj)} {σ:St} {H:Hp} {s:Shared} {T:String} {x:V} {v:Value} (I:Inv X pins σ H s) (r:RelV x v) (ty:tyV X.K T x H) :
  s.TypeIs v T/\∀ a,v=.ref a->∃ ob,s.heap.get? a=some ob/\ob.dict=none:=by
 cases x with
 | str z =>
  obtain ⟨t,rfl⟩:=r
  cases (show T = "str" from ty)
  exact ⟨typeIs_str s z t,fun _ e=>nomatch e⟩
 | int i =>
  obtain ⟨t,rfl⟩:=r
  cases (show T = "int" from ty)
  exact ⟨typeIs_int s i t,fun _ e=>nomatch e⟩
 | ref p =>
  cases r
  rcases ty with ⟨rfl,xs,hq⟩ | ⟨rfl,o,hk,hc,hd⟩ | ⟨rfl,hk⟩ | ⟨rfl,S,n,hk⟩
  ·obtain ⟨its,_,pl,_⟩:=I.list hq
   refine ⟨pl.isList.typeIs,fun a e=>?_⟩
   cases e
   obtain ⟨o,n,e,c,hd,_⟩:=pl
   exact ⟨o,e,hd⟩
  ·refine ⟨⟨o,I.kIn p o hk,hc⟩,fun a e=>?_⟩
   cases e
   exact ⟨o,I.kIn _ o hk,hd⟩
  ·have z:∃ o,s.heap.get? p=some o/\o.ExactDict:=by
    rcases hk with ⟨kvs,hk⟩ | ⟨kvs,hk⟩
    ·obtain ⟨_,_,_,_,o,_,_,e,ex,_⟩:=I.hok p _ hk
     exact ⟨o,e,ex⟩
    ·obtain ⟨_,_,_,_,o,_,_,e,ex,_⟩:=I.hok p _ hk
     exact ⟨o,e,ex⟩
   obtain ⟨o,e,ex⟩:=z
   refine ⟨⟨o,e,ex.1⟩,fun a e2=>?_⟩
   cases e2
   exact ⟨o,e,ex.2.1⟩
  ·obtain ⟨o,_,_,_,e,ex,_⟩:=I.hok p _ hk
   refine ⟨⟨o,e,ex.1⟩,fun a e2=>?_⟩
   cases e2
   exact ⟨o,e,ex.2.1⟩
 | _=>exact False.elim ty
def tBM (K:Frag) (T:String) (r:V->List V->Hp->VK->Prop) (to:TE) (t:TA):TE:=fun σ H Q=>to σ H fun x H1=>tyV K T x H1/\t σ H1 fun xs H2=>r x xs H2 Q
variable {o e:Expr} {es:List Expr} {to:TE} {t:TA} {name:Str} {apos cpos:Pos} {T id:String} {r:V->List V->Hp->VK->Prop}
theorem ab2 (pa:PlainAttrs T) (slot:Slot T name id) (hty:typeOf (.builtin id)=pure (.type "method_descriptor")) (hm:MtR X id r) (ho:PE X o to) (ha:PA X (e :: es) t)
  (hbase:attributeBase o name X.env (eval o X.env)=eval o X.env:=by rfl)
  (hfew:((backTo cpos (starEach (e :: es) X.env)).all (fun x => !x.1) && (backToKw cpos (keywordEach [] X.env)).all (fun x=>x.1.isSome)
   && decide ((e :: es).length+([]:List Keyword).length+(if ([]:List Keyword).isEmpty then 0 else 1) < 30))=true:=by rfl)
  (hline:(apos.endLine == cpos.line)=true:=by rfl) (hs:starEach (e :: es) X.env=(false,eval e X.env) :: starEach es X.env:=by rfl) (hplain:(backTo cpos (starEach es X.env)).any (·.1)=false:=by rfl) :
  PE X (.Call (.Attribute o name apos) (e :: es) [] cpos) (tBM X.K T r to t):=by
 intro pins s σ H Q I h
 refine wpAny_Call_method_late hbase hfew hline rfl (thn (ho pins s σ H _ I h) fun v s1 ⟨x,H1,I1,r1,ty,q1⟩=>?_)
 obtain ⟨h1,h2⟩:=ax8 I1 r1 ty
 refine ⟨T,id,pa,slot,hty,h1,h2,?_⟩
 have hA:=ha cpos pins s1 σ H1 _ I1 q1
 rw [hs] at hA ⊢
 refine Calls.callWith_builtin (by show (false || (backTo cpos (starEach es X.env)).any (·.1))=false;rw [hplain] <;> rfl) (Calls.evalArgs_plain ?_)
 exact thn hA fun us s2 ⟨vs,H2,I2,r2,q2⟩=>hm pins s2 σ H2 x vs v us Q I2 r1 r2 q2
/- xs.append(e), list.index on a module's tuple .. are MtR facts of 06m -/
end
def MtM (X:Cx) (id:String) (r:V->List V->Hp->VK->Prop):Prop :=
 ∀ (pins:List (Addr × Obj)) (s:Shared) (σ:St) (H:Hp) (x:V) (xs:List V) (v:Value) (us:List Value) (Q:VK),Inv X pins σ H s->RelV x v->Vals xs us->r x xs H Q ->
  wpAny (model X.prog X.w) X.A (call (.builtin id) (v :: us)) (EP X pins σ Q) X.xe s
theorem Vals.one:∀ {x:V} {us:List Value},Vals [x] us->∃ u,us=[u]/\RelV x u
 | _,_,.cons r .nil=>⟨_,rfl,r⟩
theorem Vals.eraseIdx:∀ {xs:List V} {us:List Value} (i:Nat),Vals xs us->Vals (xs.eraseIdx i) (us.eraseIdx i)
 | _,_,_,.nil => .nil
 | _,_,0,.cons _ t=>t
 | _,_,i+1,.cons r t => .cons r (Vals.eraseIdx i t)
theorem Vals.rep {xs:List V} {us:List Value} (h:Vals xs us):∀ k:Nat,Vals (List.replicate k xs).flatten (List.replicate k us).flatten
 | 0 => .nil
 | k+1=>by
  rw [List.replicate_succ,List.replicate_succ,List.flatten_cons,List.flatten_cons]
  exact Vals.append h (Vals.rep h k)
theorem ajb {α:Type}:∀ (l:List α) (i:Nat),(l.eraseIdx i).length<=l.length
 | [],_=>Nat.le_refl _
 | _ :: _,0=>Nat.le_succ _
 | _ :: r,i+1=>Nat.succ_le_succ (ajb r i)
theorem ajc (its:List Value):∀ (k:Nat) (acc:List Value),
  List.foldl (fun x1 x2=>x1 ++ x2) acc.toArray (List.replicate k its.toArray)=(acc ++ (List.replicate k its).flatten).toArray
 | 0,acc=>by simp
 | k+1,acc=>by
  have e:acc.toArray ++ its.toArray=(acc ++ its).toArray:=by simp
  have e2:(acc ++ its) ++ (List.replicate k its).flatten=acc ++ (List.replicate (k+1) its).flatten:=by
   rw [List.replicate_succ,List.flatten_cons,List.append_assoc]
  rw [← e2,← ajc its k (acc ++ its),← e,List.replicate_succ,List.foldl_cons]
section
variable {X:Cx} {pins:List (Addr × Obj)} {σ:St} {H:Hp} {s:Shared} {l b:Addr} {xs ys zs:List V}
theorem Inv.lset {its its':List Value} {n:Nat} {f:Array Value->Array Value} {t':Nat} (I:Inv X pins σ H s) (hH:H l=some (.lst xs))
  (e:s.heap.get? l=some { cls:=.type "list",data:=.seq its.toArray n }) (hf:f its.toArray=its'.toArray) (hv:Vals ys its') (hz:ys.length<=sizeLine) :
  Inv X pins σ (upd H l (.lst ys)) { s with heap:=s.heap.update l (Obj.mapSeq f),toks:=t' }:=by
 have q:=PySem.IsL.update e f
 rw [hf] at q
 refine I.write (x:=l) (e:=l) (by rw [hH];exact trivial) (.inl rfl) (fun b' u hb hu=>(Heap.get?_update_other s.heap (Obj.mapSeq f) (Ne.symm hb)).trans hu) ⟨_,q⟩ ?_
 exact ⟨hz,its',_,hv,q⟩
theorem Inv.lnew {its:List Value} {t':Nat} (I:Inv X pins σ H s) (hv:Vals ys its) (hz:ys.length<=sizeLine) :
  Inv X pins σ (upd H s.heap.objs.size (.lst ys)) { s with heap:=s.heap.push { cls:=.type "list",data:=.seq its.toArray },toks:=t' } :=
 I.laid (fun _ _ q=>Heap.get?_push_of_some _ q) (Nat.le_refl _) ⟨hz,its,0,hv,Heap.get?_push_size _ rfl⟩
theorem Inv.fresh (I:Inv X pins σ H s):H s.heap.objs.size=none:=I.hok.fresh (Nat.le_refl _)
theorem Inv.lstM (I:Inv X pins σ H s) (hH:H l=some (.lst xs)):xs.length<=sizeLine/\∃ (its:List Value) (n:Nat),Vals xs its/\xs.length=its.length/\s.heap.get? l=some { cls:=.type "list",data:=.seq its.toArray n }:=by
 obtain ⟨z,its,n,r,e⟩:=I.hok l _ hH
 exact ⟨z,its,n,r,r.length,e⟩
theorem ak5 {n:Nat} (h:n<=sizeLine):Builtin.List.listTooLong n=false:=by
 unfold Builtin.List.listTooLong
 exact decide_eq_false (by omega)
end
section
variable {X:Cx}
def ac7:V->List V->Hp->VK->Prop:=fun x vs H Q=>∃ l xs y,x=.ref l/\vs=[y]/\H l=some (.lst xs)/\xs.length < sizeLine/\Q .non (upd H l (.lst (xs ++ [y])))
theorem abc:MtM X "list.append" ac7:=by
 intro pins s σ H x vs v us Q I rx rv h
 obtain ⟨l,xs,y,rfl,rfl,hH,hz,q⟩:=h
 cases rx
 obtain ⟨u,rfl,ru⟩:=rv.one
 obtain ⟨z,its,n,r,hl,e⟩:=I.lstM hH
 refine call_meets F.slot_list_append ⟨_,e,rfl⟩ F.entry_list_append (F.args_list_append_2 _ _) (PySem.list_append l its.toArray n u (by rw [List.size_toArray];omega)) ⟨e,?_⟩
 refine ⟨.non,_,I.lset (its':=its ++ [u]) hH e (by simp) (r.append (.cons ru .nil)) ?_,rfl,q⟩
 rw [List.length_append,List.length_singleton]
 omega
def aie:V->List V->Hp->VK->Prop:=fun x vs H Q=>∃ l b xs zs,x=.ref l/\vs=[.ref b]/\H l=some (.lst xs)/\H b=some (.lst zs)/\xs.length+zs.length<=sizeLine/\Q .non (upd H l (.lst (xs ++ zs)))
theorem aqu:MtM X "list.extend" aie:=by
 intro pins s σ H x vs v us Q I rx rv h
 obtain ⟨l,b,xs,zs,rfl,rfl,hH,hB,hz,q⟩:=h
 cases rx
 obtain ⟨u,rfl,ru⟩:=rv.one
 cases ru
 obtain ⟨z,its,n,r,hl,e⟩:=I.lstM hH
 obtain ⟨z2,its2,n2,r2,hl2,e2⟩:=I.lstM hB
 have hsz:its.toArray.size+its2.toArray.size<=sizeLine:=by rw [List.size_toArray,List.size_toArray];omega
 have hlong:¬ (!its.toArray.isEmpty && Builtin.List.listTooLong (its.toArray.size+its2.toArray.size))=true:=by
  rw [ak5 hsz,Bool.and_false]
  exact Bool.false_ne_true
 refine call_meets F.slot_list_extend ⟨_,e,rfl⟩ F.entry_list_extend (F.args_list_extend_2 _ _)
  (AutoSeq1.list_extend_list_list_0 l its.toArray n b its2.toArray n2 hlong (by rw [List.size_toArray];omega) (by omega)) ⟨e,e2,?_⟩
 refine ⟨.non,_,I.lset (its':=its ++ its2) hH e (by simp) (r.append r2) ?_,rfl,q⟩
 rw [List.length_append]
 omega
def ahi:V->List V->Hp->VK->Prop:=fun x vs H Q=>∃ l xs i k y,x=.ref l/\vs=[.int i]/\H l=some (.lst xs)/\-(2 ^ 63)<=i/\i < 2 ^ 63/\seqIndex? i xs.length=some k/\xs[k]?=some y/\Q y (upd H l (.lst (xs.eraseIdx k)))
theorem asw:MtM X "list.pop" ahi:=by
 intro pins s σ H x vs v us Q I rx rv h
 obtain ⟨l,xs,i,k,y,rfl,rfl,hH,h1,h2,hk,hy,q⟩:=h
 cases rx
 obtain ⟨u,rfl,ru⟩:=rv.one
 obtain ⟨t,rfl⟩:=ru
 obtain ⟨z,its,n,r,hl,e⟩:=I.lstM hH
 obtain ⟨w,hw,rw'⟩:=r.get hy
 refine call_meets F.slot_list_pop ⟨_,e,rfl⟩ F.entry_list_pop (F.args_list_pop_2 _ _)
  (MeetsSeq.list_pop_at l its.toArray n i t k w (fitsIndex_both h1 h2) (by rw [List.size_toArray,← hl];exact hk) (by rw [← Array.getElem?_toList];exact hw) (by rw [List.size_toArray];omega)) ⟨e,?_⟩
 refine ⟨y,_,I.lset (its':=its.eraseIdx k) hH e ?_ (r.eraseIdx k) ?_,rw',q⟩
 ·show its.toArray.eraseIdxIfInBounds k=(its.eraseIdx k).toArray
  rw [List.eraseIdxIfInBounds_toArray]
 ·have:=ajb xs k
  omega
def rCat:R2:=fun x y H Q=>∃ l b xs zs,x=.ref l/\y=.ref b/\H l=some (.lst xs)/\H b=some (.lst zs)/\xs.length+zs.length<=sizeLine/\∀ p,H p=none->Q (.ref p) (upd H p (.lst (xs ++ zs)))
theorem ahj:OpR X (binaryOp .Add) rCat:=by
 intro pins s σ H x y v u Q I rx ry h
 obtain ⟨l,b,xs,zs,rfl,rfl,hH,hB,hz,q⟩:=h
 cases rx
 cases ry
 obtain ⟨z,its,n,r,hl,e⟩:=I.lstM hH
 obtain ⟨z2,its2,n2,r2,hl2,e2⟩:=I.lstM hB
 refine PySem.P.add_list e e2 ?_ (by rw [List.size_toArray,List.size_toArray];omega)
 have ea:its.toArray ++ its2.toArray=(its ++ its2).toArray:=by simp
 rw [ea]
 exact ⟨.ref _,_,I.lnew (t':=s.toks) (r.append r2) (by rw [List.length_append];omega),rfl,q _ I.fresh⟩
def rRep:R2:=fun x y H Q=>∃ l k xs,x=.ref l/\y=.int k/\H l=some (.lst xs)/\-(2 ^ 63)<=k/\k < 2 ^ 63/\xs.length * k.toNat<=sizeLine /\
 ∀ p,H p=none->Q (.ref p) (upd H p (.lst (List.replicate k.toNat xs).flatten))
theorem anw {α:Type} (xs:List α) (k:Nat):(List.replicate k xs).flatten.length=k * xs.length:=by
 induction k with
 | zero=>simp
 | succ k ih=>rw [List.replicate_succ,List.flatten_cons,List.length_append,ih,Nat.succ_mul,Nat.add_comm]
theorem aqv:OpR X (binaryOp .Mult) rRep:=by
 intro pins s σ H x y v u Q I rx ry h
 obtain ⟨l,k,xs,rfl,rfl,hH,h1,h2,hz,q⟩:=h
 cases rx
 obtain ⟨t,rfl⟩:=ry
 obtain ⟨z,its,n,r,hl,e⟩:=I.lstM hH
 have hlen:its.toArray.size * k.toNat<=sizeLine:=by rw [List.size_toArray,← hl];exact hz
 have hcap:¬ its.toArray.size * k.toNat > (2 ^ 63 - 1) / 8:=by
  have:(sizeLine:Nat)<=(2 ^ 63 - 1) / 8:=by decide
  omega
 have hfit:¬ (!Builtin.List.listFitsIndex k)=true:=by
  rw [fitsIndex_both h1 h2]
  exact Bool.false_ne_true
 have hlong:¬ Builtin.List.listTooLong (its.toArray.size * k.toNat)=true:=by
  rw [ak5 hlen]
  exact Bool.false_ne_true
 have hnew:List.foldl (fun x1 x2=>x1 ++ x2) #[] (List.replicate (if its.toArray.isEmpty=true then 0 else k.toNat) its.toArray)=(List.replicate k.toNat its).flatten.toArray:=by
  have f0:∀ m:Nat,List.foldl (fun x1 x2=>x1 ++ x2) #[] (List.replicate m its.toArray)=(List.replicate m its).flatten.toArray:=fun m=>by
   have:=ajc its m []
   rw [List.nil_append] at this
   exact this
  rw [f0]
  cases its with
  | nil=>simp
  | cons a r'=>rw [if_neg (by simp)]
 refine wpAny_binaryOp_repeat_ref (T:="list") (U:="int") (by decide) ⟨_,e,rfl⟩ (fun s'=>typeIs_int s' k t) noFill_list_mul F.fills_int_mul F.slot_int_rmul repeat_list F.slot_int_index.lookup
  (call_meets F.slot_int_rmul (typeIs_int s k t) F.entry_int_rmul (F.args_int_rmul_2 _ _) (int___rmul___int_list k t l its.toArray n)
   ⟨e,rfl,⟨_,e,rfl⟩,call_meets F.slot_list_mul ⟨_,e,rfl⟩ F.entry_list_mul (F.args_list_mul_2 _ _) (AutoListH.list___mul___list_int_3 l its.toArray n k t hfit hcap hlong) ⟨e,?_⟩⟩)
 rw [hnew]
 exact ⟨.ref _,_,I.lnew (t':=s.toks) (r.rep k.toNat) (by rw [anw,Nat.mul_comm];exact hz),rfl,q _ I.fresh⟩
end
section
variable {prog:Program} {w:World} {A:Around} {E:Value->Shared->Prop} {s:Shared}
end
section
variable {X:Cx}
end
section
variable {κ:Type} [DecidableEq κ]
noncomputable def valV (kvs:List (κ × V)) (k : κ):Option V:=(kvs.find? fun kv=>decide (kv.1=k)).map (·.2)
noncomputable def putK (kvs:List (κ × V)) (k : κ) (v:V):List (κ × V) :=
 if (kvs.any fun kv=>decide (kv.1=k))=true then kvs.map (fun kv=>if kv.1=k then (kv.1,v) else kv) else kvs ++ [(k,v)]
noncomputable def au7 (kvs:List (κ × V)) (k : κ):List (κ × V):=kvs.filter fun kv=>decide (kv.1 ≠ k)
theorem afb {p : κ × V} {r:List (κ × V)} {k : κ} (e:p.1=k):valV (p :: r) k=some p.2:=by simp [valV,List.find?_cons,e]
theorem aeh {p : κ × V} {r:List (κ × V)} {k : κ} (e:¬ p.1=k):valV (p :: r) k=valV r k:=by simp [valV,List.find?_cons,e]
theorem ag0 (k : κ):∀ kvs:List (κ × V),(kvs.any fun kv=>decide (kv.1=k))=(valV kvs k).isSome
 | []=>rfl
 | p :: r=>by
  rw [List.any_cons]
  by_cases e:p.1=k
  ·simp only [afb e,decide_eq_true e,Bool.true_or,Option.isSome_some]
  ·rw [aeh e,decide_eq_false e,Bool.false_or];exact ag0 k r
theorem RelO.getD {o:Option V} {u:Option Value} {d:V} {d':Value} (r:RelO o u) (rd:RelV d d'):RelV (o.getD d) (u.getD d'):=by
 cases o with
 | none=>cases u with
  | none=>exact rd
  | some _=>exact (show False from r).elim
 | some _=>cases u with
  | none=>exact (show False from r).elim
  | some _=>exact r
theorem KV.val {kvs:List (κ × V)} {vs:List (κ × Value)} (r:KV kvs vs) (k : κ):RelO (valV kvs k) (valueAt vs k):=by
 unfold KV at r
 induction r with
 | nil=>exact True.intro
 | @cons p q ps qs h t ih =>
  obtain ⟨h1,h2⟩:=h
  by_cases e:p.1=k
  ·have e':q.1=k:=h1.symm.trans e
   have b:valueAt (q :: qs) k=some q.2:=by simp [valueAt,List.find?_cons,e']
   rw [afb e,b];exact h2
  ·have e':¬ q.1=k:=fun z=>e (h1.trans z)
   have b:valueAt (q :: qs) k=valueAt qs k:=by simp [valueAt,List.find?_cons,e']
   rw [aeh e,b];exact ih
theorem KV.any {kvs:List (κ × V)} {vs:List (κ × Value)} (r:KV kvs vs) (k : κ):(kvs.any fun kv=>decide (kv.1=k))=vs.any fun kv=>decide (kv.1=k):=by
 unfold KV at r
 induction r with
 | nil=>rfl
 | cons h t ih=>rw [List.any_cons,List.any_cons,ih,h.1]
theorem KV.drop {kvs:List (κ × V)} {vs:List (κ × Value)} (r:KV kvs vs) (k : κ):KV (au7 kvs k) (without vs k):=by
 unfold KV at r ⊢
 unfold au7 without
 induction r with
 | nil=>exact .nil
 | @cons p q ps qs h t ih =>
  obtain ⟨h1,h2⟩:=h
  rw [List.filter_cons,List.filter_cons]
  by_cases e:p.1=k
  ·have a:¬ decide (p.1 ≠ k)=true:=by simp [e]
   have b:¬ decide (q.1 ≠ k)=true:=by simp [h1.symm.trans e]
   rw [if_neg a,if_neg b];exact ih
  ·have e':¬ q.1=k:=fun z=>e (h1.trans z)
   have a:decide (p.1 ≠ k)=true:=by simp [e]
   have b:decide (q.1 ≠ k)=true:=by simp [e']
   rw [if_pos a,if_pos b];exact .cons ⟨h1,h2⟩ ih
theorem KV.length {kvs:List (κ × V)} {vs:List (κ × Value)} (r:KV kvs vs):kvs.length=vs.length:=Paired.length r
end
theorem apg {P:Program} {w:World} {k:Key} {u:Value} (r:RelV (kV k) u):(abg P w).is k u=true:=by
 cases k with
 | inl i=>obtain ⟨t,e⟩:=(show ∃ t,u=Value.int i t from r);subst e;exact am8 P w i t
 | inr x=>obtain ⟨t,e⟩:=(show ∃ t,u=Value.str x t from r);subst e;exact am9 P w x t
theorem ajd {P:Program} {w:World}:∀ {ks:List Key} {us:List Value},Vals (ks.map kV) us->ItemsAre (abg P w) ks us
 | [],_,r=>by rw [List.map_nil] at r;cases r;exact .nil
 | k :: ks,_,r=>by
  rw [List.map_cons] at r
  cases r with
  | cons h t=>exact .cons (apg h) (ajd t)
abbrev KT (H:Hp):List (List Key × V)->List (List Key × Addr × Value)->Prop:=Paired fun p q=>p.1=q.1/\H q.2.1=some (.tup (p.1.map kV))/\RelV p.2 q.2.2
theorem KT.val {H:Hp} {kvs:List (List Key × V)} {xs:List (List Key × Addr × Value)} (r:KT H kvs xs) (k:List Key):RelO (valV kvs k) ((atKey xs k).map (·.2)):=by
 induction r with
 | nil=>exact True.intro
 | @cons p q ps qs h t ih =>
  obtain ⟨h1,_,h2⟩:=h
  by_cases e:p.1=k
  ·have e':q.1=k:=h1.symm.trans e
   have b:atKey (q :: qs) k=some q.2:=by simp [atKey,List.find?_cons,e']
   rw [afb e,b];exact h2
  ·have e':¬ q.1=k:=fun z=>e (h1.trans z)
   have b:atKey (q :: qs) k=atKey qs k:=by simp [atKey,List.find?_cons,e']
   rw [aeh e,b];exact ih
theorem KT.keeps {H H':Hp} {kvs:List (List Key × V)} {xs:List (List Key × Addr × Value)} (r:KT H kvs xs) (ht:∀ b ys,H b=some (.tup ys)->H' b=some (.tup ys)):KT H' kvs xs :=
 Paired.mapP r fun _ _ z=>⟨z.1,ht _ _ z.2.1,z.2.2⟩
section
variable {P:Program} {w:World} {H:Hp} {h:Heap} {a:Addr}
theorem au8 {u:HO} (ok:HOk P w H h) (e:Rd H a u):ObjOk P w H h a u:=e.ok ok
theorem aph {kvs:List (Key × V)} (ok:HOk P w H h) (e:Rd H a (.dK kvs)):kvs.length<=sizeLine/\(a == sysModules)=false/\∃ vs,KV kvs vs/\h.DictOf (abg P w) a vs :=
 show ObjOk P w H h a (.dK kvs) from au8 ok e
theorem a0c {kvs:List (Key × V)} (ok:HOk P w H h) (e:H a=some (.dK kvs)):kvs.length<=sizeLine/\(a == sysModules)=false/\∃ vs,KV kvs vs/\h.DictOf (abg P w) a vs:=aph ok (.inl e)
theorem aqw {ks:List Key} (ok:HOk P w H h) (e:H a=some (.tup (ks.map kV))):(tupleKind (abg P w)).is h ks a:=by
 obtain ⟨_,its,r,o,h1,h2,n,h3⟩:=(show ObjOk P w H h a (.tup (ks.map kV)) from ok a _ e)
 exact ⟨o,its.toArray,n,h1,h2,h3,by simpa using ajd r⟩
theorem au9 {kvs:List (List Key × V)} (ok:HOk P w H h) (e:Rd H a (.dT kvs)):kvs.length<=sizeLine/\(a == sysModules)=false /\
  ∃ xs,KT H kvs xs/\h.DictOfH (tupleKind (abg P w)) a xs:=by
 obtain ⟨z,y,xs,r,o,es,ep,h1,h2,h3,h4,h5⟩:=(show ObjOk P w H h a (.dT kvs) from au8 ok e)
 refine ⟨z,y,xs,r,o,es,ep,h1,h2,h3,h4,fun x hx=>?_,h5⟩
 have all:∀ {l:List (List Key × V)} {m:List (List Key × Addr × Value)},KT H l m->∀ x∈m,(tupleKind (abg P w)).is h x.1 x.2.1:=by
  intro l m q
  induction q with
  | nil=>intro x hx;exact nomatch hx
  | @cons p q ps qs hq t ih =>
   intro x hx
   rcases List.mem_cons.mp hx with e | hx
   ·subst e
    exact aqw ok (by rw [← hq.1];exact hq.2.1)
   ·exact ih x hx
 exact all r x hx
end
def DGet (H:Hp) (a:Addr) (y:V) (r:Option V):Prop :=
 (∃ kvs k,Rd H a (.dK kvs)/\y=kV k/\r=valV kvs k)\/∃ kvs k b,Rd H a (.dT kvs)/\y=.ref b/\H b=some (.tup (k.map kV))/\r=valV kvs k
def DPut (H:Hp) (a:Addr) (y v:V) (H':Hp):Prop :=
 (∃ kvs k,H a=some (.dK kvs)/\y=kV k/\kvs.length < sizeLine/\H'=upd H a (.dK (putK kvs k v))) ∨
 ∃ kvs k b,H a=some (.dT kvs)/\y=.ref b/\H b=some (.tup (k.map kV))/\kvs.length < sizeLine/\H'=upd H a (.dT (putK kvs k v))
theorem DGet.k {H:Hp} {a:Addr} {kvs:List (Key × V)} {k:Key} (e:H a=some (.dK kvs)):DGet H a (kV k) (valV kvs k):=.inl ⟨kvs,k,.inl e,rfl,rfl⟩
theorem DPut.k {H:Hp} {a:Addr} {kvs:List (Key × V)} {k:Key} {v:V} (e:H a=some (.dK kvs)) (hl:kvs.length < sizeLine):DPut H a (kV k) v (upd H a (.dK (putK kvs k v))):=.inl ⟨kvs,k,e,rfl,hl,rfl⟩
section
variable {X:Cx} {pins:List (Addr × Obj)} {σ:St} {H:Hp} {s:Shared} {a:Addr} {y v:V} {u r:Value} {o:Option V} {A:Around} {E:Value->Shared->Prop}
theorem Inv.big (I:Inv X pins σ H s):sysModules < s.heap.objs.size:=by
 have h:mainGlobals < s.heap.objs.size:=(I.mod.glob.keeps I.bk).lt
 exact Nat.lt_trans (by decide) h
theorem avu {h':Heap} {t':Nat} {ob:HO} (I:Inv X pins σ H s) (mu:Mut (H a)) (hs:Heap.SameBut a s.heap h') (he:∃ q,h'.get? a=some q) (new:ObjOk X.prog X.w (upd H a ob) h' a ob) :
  Inv X pins σ (upd H a ob) { s with heap:=h',toks:=t' } :=
 I.write (x:=a) (e:=a) mu (.inl rfl) (fun b q hb z=>(hs.2 b hb).trans z) he new
theorem ax9 {P:Program} {w:World} {H':Hp} {h':Heap} {kvs:List (Key × V)} {vs:List (Key × Value)} (z:kvs.length<=sizeLine) (hd:(a == sysModules)=false) (rel:KV kvs vs) (dd:h'.DictOf (abg P w) a vs) :
  ObjOk P w H' h' a (.dK kvs):=⟨z,hd,vs,rel,dd⟩
end
section
variable {X:Cx} {pins:List (Addr × Obj)} {σ:St} {H:Hp} {s:Shared} {a:Addr} {kvs:List (Key × V)} {k:Key} {u:Value} {A:Around} {E:Value->Shared->Prop}
end
section
variable {X:Cx} {o i e value:Expr} {pos pos' tpos:Pos} {td ty tv:TE}
end
theorem asx {P:Program} {w:World} {H:Hp} (h:Heap) (hb:sysModules < h.objs.size):ObjOk P w H (h.push { cls:=.type "dict",data:=.dict #[] }) h.objs.size (.dK []) :=
 ⟨Nat.zero_le _,beq_eq_false_iff_ne.mpr (Ne.symm (Nat.ne_of_lt hb)),[],.nil,Heap.DictOf.new h⟩
def aqx:TE:=fun _ H Q=>∀ p,H p=none->Q (.ref p) (upd H p (.dK []))
section
variable {X:Cx} {pos:Pos}
theorem asz:PE X (.Dict [] [] pos) aqx:=fun pins s σ H Q I h =>
 wpAny_Dict_empty ⟨.ref s.heap.objs.size,_,I.laid (a:=s.heap.objs.size) (o:=.dK []) (t':=s.toks) (fun _ _ q=>Heap.get?_push_of_some _ q) (Nat.le_refl _) (asx s.heap I.big),rfl,h _ (I.hok.fresh (Nat.le_refl _))⟩
end
structure M1 (X:Cx) (o:Expr) (m:Str) (apos:Pos) (e:Expr) (cpos:Pos):Prop where
 base:attributeBase o m X.env (eval o X.env)=eval o X.env
 few:((backTo cpos (starEach [e] X.env)).all (fun x => !x.1) && (backToKw cpos (keywordEach [] X.env)).all (fun x=>x.1.isSome)
  && decide (([e]:List Expr).length+([]:List Keyword).length+(if ([]:List Keyword).isEmpty then 0 else 1) < 30))=true
 line:(apos.endLine == cpos.line)=true
 trees:backTo cpos (starEach [e] X.env)=[(false,eval e X.env)]
structure M2 (X:Cx) (o:Expr) (m:Str) (apos:Pos) (e f:Expr) (cpos:Pos):Prop where
 base:attributeBase o m X.env (eval o X.env)=eval o X.env
 few:((backTo cpos (starEach [e,f] X.env)).all (fun x => !x.1) && (backToKw cpos (keywordEach [] X.env)).all (fun x=>x.1.isSome)
  && decide (([e,f]:List Expr).length+([]:List Keyword).length+(if ([]:List Keyword).isEmpty then 0 else 1) < 30))=true
 line:(apos.endLine == cpos.line)=true
 trees:backTo cpos (starEach [e,f] X.env)=[(false,eval e X.env),(false,eval f X.env)]
def IsD (H:Hp) (a:Addr):Prop:=(∃ kvs,Rd H a (.dK kvs))\/∃ kvs,Rd H a (.dT kvs)
theorem aqy {X:Cx} {pins:List (Addr × Obj)} {σ:St} {H:Hp} {s:Shared} {a:Addr} (I:Inv X pins σ H s) (d:IsD H a) :
  s.TypeIs (.ref a) "dict"/\(∀ b,Value.ref a=.ref b->∃ ob,s.heap.get? b=some ob/\ob.dict=none)/\(a == sysModules)=false:=by
 rcases d with ⟨kvs,e⟩ | ⟨kvs,e⟩
 ·obtain ⟨_,hd,vs,_,dd⟩:=aph I.hok e
  refine ⟨dd.typeIs,fun b q=>?_,hd⟩
  cases q
  obtain ⟨ob,_,_,h1,h2,_⟩:=dd
  exact ⟨ob,h1,h2.2.1⟩
 ·obtain ⟨_,hd,xs,_,dd⟩:=au9 I.hok e
  refine ⟨dd.typeIs,fun b q=>?_,hd⟩
  cases q
  obtain ⟨ob,_,_,h1,h2,_⟩:=dd
  exact ⟨ob,h1,h2.2.1⟩
section
variable {X:Cx} {pins:List (Addr × Obj)} {σ:St} {H:Hp} {s:Shared} {a:Addr} {y d:V} {u r:Value} {o:Option V} {A:Around} {E:Value->Shared->Prop}
theorem aya {Q:Value->Shared->Prop} (hu:A.units+1 < cLine) (I:Inv X pins σ H s) (g:DGet H a y o) (ry:RelV y u) (rd:RelV d r) (h:∀ w' s',Inv X pins σ H s'->RelV (o.getD d) w'->Q w' s') :
  wpAny (model X.prog X.w) A (call (.builtin "dict.get") [.ref a,u,r]) Q E s:=by
 rcases g with ⟨kvs,k,e,ey,l⟩ | ⟨kvs,k,b,e,ey,eb,l⟩
 ·subst ey
  obtain ⟨z,hd,vs,rel,dd⟩:=aph I.hok e
  refine call_meetsIn PySem.F.slot_dict_get dd.typeIs PySem.F.entry_dict_get (PySem.F.args_dict_get_3 _ _ _) (meets_dict_get_default (abg X.prog X.w) a (apg ry) hd r) ⟨_,dd.mapOf,h _ _ (I.tok _) ?_⟩
  rw [l]
  exact (rel.val k).getD rd
 ·subst ey
  cases (show u=Value.ref b from ry)
  obtain ⟨z,hd,xs,rel,dd⟩:=au9 I.hok e
  refine call_meetsIn PySem.F.slot_dict_get dd.typeIs PySem.F.entry_dict_get (PySem.F.args_dict_get_3 _ _ _) (meetsH_dict_get_default (tupleKind (abg X.prog X.w)) a b hd r) ⟨tupleKind_room_in1 hu,k,xs,aqw I.hok eb,dd,h _ _ (I.tok _) ?_⟩
  rw [l]
  exact (rel.val k).getD rd
end
def ahk (td ty tx:TE):TE:=fun σ H Q=>td σ H fun x H1=>∃ a,x=.ref a/\IsD H1 a/\ty σ H1 fun y H2=>tx σ H2 fun z H3=>∃ o,DGet H3 a y o/\Q (o.getD z) H3
section
variable {X:Cx} {o e f:Expr} {apos cpos:Pos} {td ty tx:TE}
theorem as0 (hu:X.A.units+1 < cLine) (ho:PE X o td) (he:PE X e ty) (hf:PE X f tx) (m:M2 X o "get" apos e f cpos):PE X (.Call (.Attribute o "get" apos) [e,f] [] cpos) (ahk td ty tx):=by
 intro pins s σ H Q I h
 refine wpAny_Call_method m.base m.few m.line PySem.F.plainAttrs_dict PySem.F.slot_dict_get PySem.F.type_dict_get (thn (ho pins s σ H _ I h) fun u s1 ⟨x,H1,I1,rx,a,ex,d,q1⟩=>?_)
 subst ex
 obtain rfl:u=Value.ref a:=rx
 obtain ⟨t1,t2,_⟩:=aqy I1 d
 refine ⟨t1,t2,?_⟩
 rw [m.trees]
 refine Calls.callWith_builtin rfl (Calls.evalArgs_plain (Calls.spliced_cons (thn (he pins s1 σ H1 _ I1 q1) fun iv s2 ⟨y,H2,I2,ry,q2⟩ =>
  Calls.spliced_cons (thn (hf pins s2 σ H2 _ I2 q2) fun fv s3 ⟨z,H3,I3,rz,ov,g,q3⟩=>Calls.spliced_nil ?_))))
 exact aya hu I3 g ry rz fun w' s4 I4 rw'=>⟨_,H3,I4,rw',q3⟩
end
section
variable {X:Cx} {pins:List (Addr × Obj)} {σ:St} {H:Hp} {s:Shared} {a:Addr} {kvs:List (Key × V)} {A:Around} {E:Value->Shared->Prop}
end
section
variable {X:Cx} {pins:List (Addr × Obj)} {σ:St} {H:Hp} {s:Shared} {a:Addr} {y:V} {u:Value} {A:Around} {E:Value->Shared->Prop}
end
end L2
namespace Att
open PySem PySem.W PySem.Calls PyProof.Rows
theorem ahl {P:Params} {h:Heap}:∀ (ns:List Int) (vs:List Value),WellAll P h vs (ns.map WData.int)->IntsAre vs ns:=by
 intro ns
 induction ns with
 | nil =>
  intro vs w
  rw [List.map_nil] at w
  cases w
  exact .nil
 | cons n ns ih =>
  intro vs w
  rw [List.map_cons] at w
  cases w with
  | cons a b =>
   cases a
   exact .cons _ _ (ih _ b)
theorem aqz {l:OpenLaw} {n:Nat} (hn:l.most=some n) {P:Params} {h:Heap} {args:List WData} {vals:List Value}
  (hpre:l.row.toRowW.claim.pre args=true) (hwl:WellAll P h vals args) :
  ∃ a vs ns,vals=[Value.ref a]/\args=[WData.list (ns.map WData.int)]/\h.get? a=some { cls:=.type "list",data:=.seq vs.toArray }/\IntsAre vs ns/\ns.length<=n:=by
 have hsh:WShape.hasAll [] args [.list .int]=true:=(pre_splitW hpre).1
 have hc:l.pre.holds [] { args:=args }=true:=(pre_splitW hpre).2
 obtain ⟨d,r,rfl,h1,h2⟩:=hasAllW_cons hsh
 obtain rfl:=hasAllW_nil h2
 obtain ⟨xs,rfl,h3⟩:=hasW_list h1
 obtain ⟨ns,rfl⟩:=items_int h3
 have hlen:ns.length<=n:=by
  unfold OpenLaw.pre at hc
  have h4:(WTm.not (.lt (.lit (.int (n:Int))) (.len (.arg 0)))).holds [] { args:=[.list (ns.map .int)] }=true:=by
   have h4:=(holds_andW hc).1
   rw [hn] at h4
   exact h4
  have h5:=condW_of h4 (w_not (w_lt w_lit (w_len_list (w_arg rfl))))
  rw [List.length_map] at h5
  refine Nat.le_of_not_lt fun q=>?_
  have q':(n:Int) < ((ns.length:Nat):Int):=by omega
  first
   | (rw [decide_eq_true q'] at h5;exact absurd h5 (by decide))
   | (simp at h5;omega)
 cases hwl with
 | cons w1 w2 =>
  cases w2
  cases w1 with
  | list ho hall=>exact ⟨_,_,ns,rfl,rfl,ho,ahl ns _ hall,hlen⟩
theorem aq0 (l:OpenLaw) (args:List WData):l.row.toRowW.claim.post args (.bool true) args=true :=
 postW_of (r:=l.row.toRowW) (X:=(true == true))
  (show WShape.has [] (.bool true) .bool=true by first | rfl | decide | simp [WShape.has,WShape.arms,WShape.armsAll])
  (show (WTm.eq .res (.lit (.bool true))).value [] { args:=args,res:=some (.bool true),after:=args }=some (.bool (true == true)) from w_eq_bool (w_res rfl) w_lit) rfl
theorem attach_call {l:OpenLaw} {n:Nat} {q:Program} {loose:List Str} {XP:(Str->Option Value)->Heap->Prop} {YP:World->Heap->Prop} {d:DefRec}
  (hn:l.most=some n) (hdf:d.params.defaults=[])
  (call:∀ (w:World) (s₀ s₁:Shared) (mg mb:Str->Option Value) (fa:Addr) (o:Obj) (pm cd doc:Value) (a:Addr) (vs:List Value) (ns:List Int),
   Ground q loose [] XP w s₀ mg mb s₁.heap->YP w s₁.heap ->
   s₁.heap.get? fa=some o->o.data=.func (docDef d.name d.params d.body d.scope pm cd doc)->s₁.heap.CodeRec cd d.name->mg d.name=some (.ref fa) ->
   s₁.heap.get? a=some { cls:=.type "list",data:=.seq vs.toArray }->IntsAre vs ns->ns.length<=n->s₁.gens = #[] ->
   codeAny (model l.prog w) callerA (.call (.ref fa) ⟨[.ref a],[]⟩) (fun r s'=>r=.ok (.ret (.bool true))/\OldK s₁.heap s'.heap/\s'.os=s₁.os/\AllBare s'.gens) s₁) :
  WalkO q loose XP YP l.row.toRowW d [] (fun f vs=>PySem.call f vs):=by
 intro w s₀ s₁ mg mb G Y fa o pm cd doc dV kV ho hd hcd hD hmg hg args vals as hpre hlay hrd hwl hlo
 obtain rfl:dV=.none:=Dflts.none hD hdf
 obtain rfl:kV=.none:=Dflts.noKw hD
 obtain ⟨a,vs,ns,rfl,rfl,hobj,hints,hlen⟩:=aqz hn hpre hwl
 refine enter_call (codeAny_mono (call w s₀ s₁ mg mb fa o pm cd doc a vs ns G Y ho (fd_plain hd) hcd hmg hobj hints hlen hg) fun r s' hq=>?_)
 obtain ⟨rfl,h2,h3,h4⟩:=hq
 exact ⟨.inl ⟨.bool true,.bool true,[],rfl,fun _=>rfl,.bool true,aq0 l _,fun _=>⟨List.Pairwise.nil,fun _ hm=>(nomatch hm)⟩⟩,h2,h3,h4⟩
section
variable {prog:Program} {w:World} {A:Around} {E:Value->Shared->Prop} {s:Shared} {K:Frag}
end
end Att
namespace L2
open PySem PySem.Spec PyProof.Rows
theorem aft:∀ {vs:List Value} {ns:List Int},IntsAre vs ns->Vals (ns.map V.int) vs
 | _,_,.nil => .nil
 | _,_,.cons n t h => .cons ⟨t,rfl⟩ (aft h)
def Only (H:Hp):Prop:=∀ b,H b=none\/∃ o xs,H b=some (.frz o (.lst xs))
theorem as4 {P:Program} {w:World} {K:Frag} {mg mb:Str->Option Value} {CX:CXT} {k:Nat} {fa a:Addr} {fd:FuncData} {x:Str} {sp:Sp} {s₁:Shared} {vs:List Value} {ns:List Int}
  (KX:K.In s₁.heap) (hns:s₁.heap.Ns mainGlobals mg) (hb:s₁.heap.Ns builtinsNs mb) (hbb:∀ x:Str,x ≠ "__name__"->mb x=bootBuiltins x) (hlim:s₁.heap.NoLimit) (hg:s₁.gens = #[])
  (ha:s₁.heap.get? a=some { cls:=.type "list",data:=.seq vs.toArray }) (hi:IntsAre vs ns) (hl:ns.length<=sizeLine) (hr:Room k callerA)
  (F:∀ base:Heap,K.In base->base.Ns mainGlobals mg->FnOk P w K mg base CX k fa fd [x] sp) (hbind:∀ (s:Shared) (u:Value),BindsTo s fd ⟨[u],[]⟩ [(x,u)])
  (hsp:∀ H:Hp,Only H->SqL K H a (ns.map V.int)->sp [.ref a] H (fun v _=>v=.bl true) fun _ _ _=>False)
  (hCX:∀ H e s',CX [] H s₁ (fun _ _ _=>False) e s'->False) :
  codeAny (model P w) callerA (.call (.ref fa) ⟨[.ref a],[]⟩) (fun r s'=>r=.ok (.ret (.bool true))/\OldK s₁.heap s'.heap/\s'.os=s₁.os/\AllBare s'.gens) s₁:=by
 have rv:=aft hi
 have lenV:=hi.length
 -- from an abstract heap in which nothing but the script may be tracked
 have core:∀ H:Hp,Only H->SqL K H a (ns.map V.int)->HOk P w H s₁.heap->(∀ b,H b ≠ none->b=a)->(H a ≠ none->K.lookup a=none) ->
   codeAny (model P w) callerA (.call (.ref fa) ⟨[.ref a],[]⟩) (fun r s'=>r=.ok (.ret (.bool true))/\OldK s₁.heap s'.heap/\s'.os=s₁.os/\AllBare s'.gens) s₁:=by
  intro H hO hS hok hA hK
  have base_of:∀ {b:Addr} {o:Obj},s₁.heap.get? b=some o->H b=none->(hidT s₁.heap H).get? b=some o:=fun e n=>asr e n
  have noA:∀ {b:Addr} {o:Obj} {es:Array DictEntry} {ep:Nat},s₁.heap.get? b=some o->o.data=.dict es ep->H b=none:=fun {b o es ep} e d=>by
   cases q:H b with
   | none=>rfl
   | some u =>
    have e':b=a:=hA b (by rw [q];simp)
    subst e'
    rw [ha] at e;cases e
    have d':Data.seq vs.toArray _=Data.dict es ep:=d
    cases d'
  have nsK:∀ {b:Addr} {m:Str->Option Value},s₁.heap.Ns b m->(hidT s₁.heap H).Ns b m:=fun {b m} ⟨o,es,ep,e,d,r⟩=>⟨o,es,ep,base_of e (noA e d),d,r⟩
  have hKb:K.In (hidT s₁.heap H):=fun b o e=>base_of (KX b o e) (by
   cases q:H b with
   | none=>rfl
   | some u =>
    have e':b=a:=hA b (by rw [q];simp)
    subst e'
    rw [hK (by rw [q];simp)] at e;cases e)
  have hM:Mod K mg (hidT s₁.heap H):=⟨hKb,nsK hns,⟨mb,nsK hb,hbb⟩,let ⟨mc,h1,h2⟩:=hlim;⟨mc,nsK h1,h2⟩⟩
  have e0:Env0 P w K mg (hidT s₁.heap H) callerA [] s₁ H:=⟨rfl,hM,fun b o e=>avp e,Nat.le_of_eq (aqi _ _),trivial,fun b hb=>absurd (show b∈([]:List Addr) from hb) (by simp),hok,.of_eq hg⟩
  refine codeAny_mono ((F _ hKb (nsK hns)).run callerA [] s₁ H ⟨[.ref a],[]⟩ [.ref a] [.ref a] _ _ hr e0 (hbind s₁ (.ref a)) (.cons rfl .nil) (hsp H hO hS)) fun r s' h=>?_
  cases r with
  | error e=>exact (hCX H e s' h).elim
  | ok fl =>
   cases fl with
   | next=>exact False.elim h
   | brk=>exact False.elim h
   | cont=>exact False.elim h
   | ret u =>
    obtain ⟨v,H',os,bare,un,hok',r',q⟩:=h
    have q':v=.bl true:=q
    subst q'
    obtain rfl:u=Value.bool true:=r'
    refine ⟨rfl,OldK.of_keep fun b o e=>?_,os,bare⟩
    cases q:H b with
    | none=>exact un.keep b o e q (by intro z;exact absurd (show b∈([]:List Addr) from z) (by simp)) (by simp)
    | some u =>
     rcases hO b with z | ⟨ob,xs,z⟩
     ·rw [q] at z;cases z
     ·have z2:=un.frzs b ob _ z
      obtain ⟨e1,_⟩:=hok b _ z
      obtain ⟨e2,_⟩:=hok' b _ z2
      rw [e] at e1;cases e1
      exact e2
 cases hk:K.lookup a with
 | some o =>
  -- the script is one of the module's own objects
  have e:=KX a o hk
  rw [ha] at e
  cases e
  refine core (fun _=>none) (fun _ => .inl rfl) (.inr ⟨_,vs.toArray,_,hk,rfl,rfl,rfl,by rw [List.size_toArray,lenV];exact hl,by simpa using rv⟩) (fun b u z=>by have z':(none:Option HO)=some u:=z;cases z') (fun b z=>absurd rfl z) fun z=>absurd rfl z
 | none =>
  refine core (fun b=>if b=a then some (.frz { cls:=.type "list",data:=.seq vs.toArray } (.lst (ns.map V.int))) else none) (fun b=>?_) (.inl (.inr ⟨{ cls:=.type "list",data:=.seq vs.toArray },if_pos rfl⟩)) (fun b u z=>?_) (fun b z=>?_) fun _=>hk
  ·by_cases hb:b=a
   ·exact .inr ⟨_,_,if_pos hb⟩
   ·exact .inl (if_neg hb)
  ·by_cases hb:b=a
   ·have z':=(if_pos hb).symm.trans z
    cases z'
    subst hb
    exact ⟨ha,by rw [List.length_map];exact hl,vs,_,rv,ha⟩
   ·have z':=(if_neg hb).symm.trans z
    cases z'
  ·by_cases hb:b=a
   ·exact hb
   ·exact absurd (if_neg hb) z
noncomputable abbrev KOf {K:Frag} {h:Heap} (_:K.In h):Frag:=K
theorem walk_of {l:PySem.W.OpenLaw} {n k:Nat} {q:Program} {loose:List Str} {XP:(Str->Option Value)->Heap->Prop} {YP:World->Heap->Prop} {d:DefRec} {K:Params->Frag} {CX:World->CXT} {sp:World->Sp} {x:Str}
  (hn:l.most=some n) (hn2:n<=sizeLine) (hdf:d.params.defaults=[]) (hr:Room k callerA)
  (hY:∀ (w:World) (h:Heap),YP w h->(K w.params).In h)
  (F:∀ (w:World) (mg:Str->Option Value) (fa:Addr) (h:Heap),(K w.params).In h->h.Ns mainGlobals mg->mg d.name=some (.ref fa) ->
   ∃ fd:FuncData,(∀ (s:Shared) (u:Value),BindsTo s fd ⟨[u],[]⟩ [(x,u)]) /\
    ∀ base:Heap,(K w.params).In base->base.Ns mainGlobals mg->FnOk l.prog w (K w.params) mg base (CX w) k fa fd [x] (sp w))
  (hsp:∀ (w:World) (H:Hp) (a:Addr) (ns:List Int),ns.length<=n->Only H->SqL (K w.params) H a (ns.map V.int)->sp w [.ref a] H (fun v _=>v=.bl true) fun _ _ _=>False)
  (hCX:∀ (w:World) (H:Hp) (s:Shared) (e:Value) (s':Shared),CX w [] H s (fun _ _ _=>False) e s'->False) :
  PySem.W.WalkO q loose XP YP l.row.toRowW d [] (fun f vs=>PySem.call f vs):=by
 refine Att.attach_call hn hdf fun w s₀ s₁ mg mb fa o pm cd doc a vs ns G Y ho hd hcd hmg hobj hints hlen hg=>?_
 have KX:=hY w _ Y
 obtain ⟨fd,hb,hF⟩:=F w mg fa _ KX G.T.g hmg
 exact as4 KX G.T.g G.T.b G.T.builtins G.T.nolimit hg hobj hints (Nat.le_trans hlen hn2) hr hF hb (fun H hO hS=>hsp w H a ns hlen hO hS) fun H e s'=>hCX w H s₁ e s'
end L2
/- THE LAST THEOREM (shape; LID, My.* are yours):
  My.Adr: a structure of the addresses that your layer names (classes,functions);My.Txt K t: a structure (Prop) of the equations over K;
  My.txt_mk:{K} {implicit addresses ..} (e1:nsIn K mainGlobals "law" = some (some (.ref f))) (e2:K.lookup f=some ⟨oc,od,.func (fnOf "law" "law" params body scope dV kV doc pm an cdv ct),sl⟩) (e3:codeIn K cdv "law" = true) .. : ∃ t,My.Txt K t
set_option maxRecDepth 100000 in
set_option maxHeartbeats 0 in
theorem PySem.Challenge.cw_LID_holds : PySem.Challenge.rw_LID.Holds := by
 w_on;o_law;k_head;(case hw=>w_witness2)
 k_fill
 refine L2.walk_of (l:=PySem.Challenge.rw_LID) (n:=63) (k:=40) (x:="script") (CX:=fun w => ..) (sp:=fun _=>My.sp_law) rfl (by decide) rfl ⟨rfl,by decide,by decide⟩ (fun w h Y=>PySem.W.kIn_of Y) ?F ?S ?C
 case F =>
  intro w mg fa h KX G hmg
  have T:∃ t,My.Txt (L2.KOf KX) t:=by
   dsimp only [L2.KOf]                          -- K must stand as «<heap const> w.params» for k_is
   refine' My.txt_mk ?e1 ?e2 ?e3 ..
   (case e1=>PySem.W.k_is)                    -- in the order: a name -> its address -> its object -> its parts
   (case e2=>PySem.W.k_is)
   ..
  obtain ⟨t,T⟩:=T
  have e0:=hmg.symm.trans (mg_of KX G T.law)
  cases e0                                       -- fa is the law's own address
  exact ⟨_,fun s u => .of_eq rfl,fun base kb nb=>My.law_fn T kb nb⟩     -- if «.of_eq rfl» comes too early: refine' ⟨_,?b,fun base kb nb=>My.law_fn T kb nb⟩;exact fun s u => .of_eq rfl
 case S=>exact fun w H a ns hl hO hS => ..
 case C=>exact ..
(the tactic k_is has no namespace: write k_is) -/
namespace L2
open PySem PySem.Spec PyProof.Rows
noncomputable def aco (s:Stmt):Arguments:=match s with
 | .FunctionDef _ a _ _ _ _ _ _ _ _=>a
 | _=>{ posonlyargs:=[],args:=[],vararg:=none,kwonlyargs:=[],kw_defaults:=[],kwarg:=none,defaults:=[] }
noncomputable def acf (s:Stmt):List Stmt:=match s with
 | .FunctionDef _ _ b _ _ _ _ _ _ _=>b
 | _=>[]
noncomputable def aak (s:Stmt):Scope:=match s with
 | .FunctionDef _ _ _ _ _ _ sc _ _ _=>sc
 | _=>{ kind:=.function,names:=[],isGenerator:=false,isCoroutine:=false }
noncomputable abbrev CX0:CXT:=fun _ _ _ _ _ _=>False
noncomputable abbrev E0:XK:=fun _ _ _=>False
theorem a0d {X:Cx}:ak1 CX0 X E0:=fun _ _ _ _ _ _ _ h=>h.elim
structure Fun (K:Frag) (x qual:Str) (st:Stmt) (f:Addr) (fd:FuncData):Prop where
 ex:∃ (oc:Value) (od:Option Addr) (kV doc pm:Value) (an:Option Addr) (cdv ct:Value) (osl:Array (Option Value)),
  fd=fnOf x qual (aco st) (acf st) (aak st) .none kV doc pm an cdv ct/\K.lookup f=some ⟨oc,od,.func fd,osl⟩/\codeIn K cdv qual=true
 kp:keepIn K (.ref f)=true
section
variable {P:Program} {w:World} {K:Frag} {mg:Str->Option Value} {base:Heap}
theorem Fun.ok {x qual:Str} {st:Stmt} {f:Addr} {fd:FuncData} {N ps:List Str} {k:Nat} {sp:Sp} (F:Fun K x qual st f fd) (S:FnScope N ps (aak st)) (len:∀ vs H Q E,sp vs H Q E->vs.length=ps.length)
  (hbody:∀ (cdv:Value) (A:Around) (outer:List Env) (s:Shared) (H:Hp) (vs:List V) (Q:VK) (E:XK),Room k (A.deeper (envOfC qual (aak st) s.heap.objs.size f cdv))->sp vs H Q E ->
   ∃ t,PSs (cxOf CX0 P w K mg base N qual (aak st) f cdv A outer s H E).nox (acf st) t/\t { nx:=fun _ H'=>Q .non H',rt:=Q } (start N vs) H):FnOk P w K mg base CX0 (k+1) f fd ps sp:=by
 obtain ⟨oc,od,kV,doc,pm,an,cdv,ct,osl,rfl,lk,hcd⟩:=F.ex
 refine a0b lk hcd S len fun A outer s H vs Q E hr hsp=>?_
 obtain ⟨t,h,q⟩:=hbody cdv A outer s H vs Q E hr hsp
 exact ⟨t,h.nox,q⟩
theorem Fun.binds {x qual:Str} {st:Stmt} {f:Addr} {fd:FuncData} {ps:List Str} (F:Fun K x qual st f fd)
  (h:∀ (kV doc pm:Value) (an:Option Addr) (cdv ct:Value) (us:List Value),us.length=ps.length->bindArgs (fnOf x qual (aco st) (acf st) (aak st) .none kV doc pm an cdv ct) ⟨us,[]⟩=pure (ps.zip us)):Binds K fd ps []:=by
 obtain ⟨oc,od,kV,doc,pm,an,cdv,ct,osl,rfl,lk,hcd⟩:=F.ex
 exact .all (h kV doc pm an cdv ct)
theorem ayb {x qual:Str} {st:Stmt} {f:Addr} {oc:Value} {od an:Option Addr} {osl:Array (Option Value)} {kV doc pm cdv ct:Value} (l:K.lookup f=some ⟨oc,od,.func (fnOf x qual (aco st) (acf st) (aak st) .none kV doc pm an cdv ct),osl⟩)
  (c:codeIn K cdv qual=true) (k:keepIn K (.ref f)=true):Fun K x qual st f (fnOf x qual (aco st) (acf st) (aak st) .none kV doc pm an cdv ct):=⟨⟨oc,od,kV,doc,pm,an,cdv,ct,osl,rfl,l,c⟩,k⟩
end
theorem a0e {A:Around} {k:Nat} (hr:Room k A):A.units+1 < cLine:=Nat.lt_of_le_of_lt (Nat.add_le_add_left (by decide:1<=64) _) hr.units
theorem aem {n:Nat} (h:n<=1000):n < sizeLine:=Nat.lt_of_le_of_lt h (by decide)
section
variable {X:Cx}
theorem pv (i:Nat) {x:Str} {pos:Pos} (hN:X.N[i]?=some x:=by rfl) (hv:Vis X.env.scope x:=by first | exact Or.inl rfl | exact Or.inr (Or.inl rfl) | exact Or.inr (Or.inr rfl)) (hd:(x == ("__debug__" : Str))=false:=by decide)
  (hcd:(x == ("__classdict__" : Str))=false:=by decide):PE X (.Name x pos) (tVar i):=axz hN hv hd hcd
end
theorem iteF {A B:Prop} (h:B):if false=true then A else B:=by
 rw [if_neg Bool.false_ne_true]
 exact h
theorem iteT {A B:Prop} (h:A):if true=true then A else B:=by
 rw [if_pos rfl]
 exact h
def Same (H H':Hp):Prop:=∀ b o,H b=some o->H' b=some o
theorem Same.refl (H:Hp):Same H H:=fun _ _ h=>h
theorem Same.trans {H H1 H2:Hp} (a:Same H H1) (b:Same H1 H2):Same H H2:=fun c o h=>b c o (a c o h)
theorem Same.free {H H':Hp} (e:Same H H') {l:Addr} (h:H' l=Option.none):H l=Option.none:=by
 cases q:H l with
 | none=>rfl
 | some o =>
  rw [e l o q] at h
  cases h
theorem Same.seq {K:Frag} {H H':Hp} {a:Addr} {xs:List V} (e:Same H H') (h:SqL K H a xs):SqL K H' a xs:=by
 rcases h with (h | ⟨o,h⟩) | h
 ·exact .inl (.inl (e _ _ h))
 ·exact .inl (.inr ⟨o,e _ _ h⟩)
 ·exact .inr h
section
variable {X:Cx}
end
section
variable {κ:Type} [DecidableEq κ]
end
noncomputable def clos (env:Env):List (Str × NameKind)->List (Str × Addr)->List (Str × Addr)
 | [],cs=>cs
 | (n,k) :: r,cs=>if k == NameKind.free then (match env.cells.lookup n with | some a=>clos env r ((n,a) :: cs) | none=>clos env r cs) else clos env r cs
theorem ahm {env:Env} {sc:Scope} (h:∀ n,(n,NameKind.free)∈sc.names->∃ a,env.cells.lookup n=some a):closureFor sc env=pure (clos env sc.names []):=by
 have all:∀ (l:List (Str × NameKind)) (cs:List (Str × Addr)),(∀ n,(n,NameKind.free)∈l->∃ a,env.cells.lookup n=some a) ->
   (forIn l cs fun (x:Str × NameKind) (cs:List (Str × Addr))=>match x with | (name,kind)=>if kind == NameKind.free then (do let a ← cellOf env name;pure (ForInStep.yield ((name,a) :: cs))) else pure (ForInStep.yield cs))=(pure (clos env l cs):Sem _):=by
  intro l
  induction l with
  | nil=>intro cs _;rfl
  | cons p r ih =>
   intro cs hl
   obtain ⟨n,k⟩:=p
   rw [List.forIn_cons]
   unfold clos
   dsimp only
   cases hk:(k == NameKind.free) with
   | false =>
    simp only [Bool.false_eq_true,if_false,pure_bind]
    exact ih cs fun m hm=>hl m (List.mem_cons_of_mem _ hm)
   | true =>
    have ek:k=NameKind.free:=by simpa using hk
    subst ek
    obtain ⟨a,ha⟩:=hl n List.mem_cons_self
    have ec:cellOf env n=pure a:=by unfold cellOf;rw [ha]
    simp only [if_true,ec,pure_bind,ha]
    exact ih _ fun m hm=>hl m (List.mem_cons_of_mem _ hm)
 have e:=all sc.names [] h
 unfold closureFor
 refine Eq.trans (b:=(pure (clos env sc.names []):Sem _) >>= fun cs=>pure cs) ?_ (pure_bind _ _)
 exact congrArg (fun z:Sem (List (Str × Addr))=>z >>= fun cs=>pure cs) e
theorem aen {env:Env} {x:Str} {c:Addr}:∀ {l:List (Str × NameKind)} {cs:List (Str × Addr)},(clos env l cs).lookup x=some c->env.cells.lookup x=some c\/cs.lookup x=some c
 | [],cs,h => .inr h
 | (n,k) :: r,cs,h=>by
  unfold clos at h
  by_cases hk:(k == NameKind.free)=true
  ·rw [if_pos hk] at h
   cases ha:env.cells.lookup n with
   | none=>rw [ha] at h;exact aen h
   | some a =>
    rw [ha] at h
    rcases aen h with e | e
    ·exact .inl e
    ·rw [List.lookup_cons] at e
     cases hx:(x == n) with
     | true =>
      rw [hx] at e
      have:x=n:=by simpa using hx
      subst this
      cases e
      exact .inl ha
     | false=>rw [hx] at e;exact .inr e
  ·rw [if_neg hk] at h
   exact aen h
theorem aeo {env:Env} {x:Str}:∀ {l:List (Str × NameKind)} {cs:List (Str × Addr)},(∃ c,cs.lookup x=some c)->∃ c,(clos env l cs).lookup x=some c
 | [],cs,h=>h
 | (n,k) :: r,cs,h=>by
  unfold clos
  by_cases hk:(k == NameKind.free)=true
  ·rw [if_pos hk]
   cases ha:env.cells.lookup n with
   | none=>exact aeo h
   | some a =>
    refine aeo ?_
    rw [List.lookup_cons]
    cases hx:(x == n) with
    | true=>exact ⟨_,rfl⟩
    | false=>exact h
  ·rw [if_neg hk]
   exact aeo h
theorem aei {env:Env} {x:Str} (h:∃ a,env.cells.lookup x=some a):∀ {l:List (Str × NameKind)} {cs:List (Str × Addr)},(x,NameKind.free)∈l->∃ c,(clos env l cs).lookup x=some c
 | [],_,hm=>absurd hm (by simp)
 | (n,k) :: r,cs,hm=>by
  rcases List.mem_cons.mp hm with e | hm
  ·cases e
   obtain ⟨a,ha⟩:=h
   unfold clos
   rw [if_pos (by rfl),ha]
   refine aeo ⟨a,?_⟩
   rw [List.lookup_cons]
   simp
  ·unfold clos
   by_cases hk:(k == NameKind.free)=true
   ·rw [if_pos hk]
    cases ha:env.cells.lookup n with
    | none=>exact aei h hm
    | some a=>exact aei h hm
   ·rw [if_neg hk]
    exact aei h hm
theorem afu {env:Env} {x:Str}:∀ {names:List (Str × NameKind)},(∀ y∈names,y.2 ≠ .cell) ->
  ((names.map fun (n,k)=>if (k == NameKind.free && env.scope.kind == .function && env.kindOf n == some .cell) then (n,NameKind.cell) else (n,k)).lookup x=some .cell ∨
   (names.map fun (n,k)=>if (k == NameKind.free && env.scope.kind == .function && env.kindOf n == some .cell) then (n,NameKind.cell) else (n,k)).lookup x=some .free)->names.lookup x=some .free
 | [],_,h=>by rcases h with h | h <;> simp at h
 | (n,k) :: r,hc,h=>by
  have ih:=@afu env x r fun y hy=>hc y (List.mem_cons_of_mem _ hy)
  rw [List.lookup_cons]
  simp only [List.map_cons] at h
  by_cases hq:(k == NameKind.free && env.scope.kind == .function && env.kindOf n == some .cell)=true
  ·rw [if_pos hq] at h
   have ek:k=NameKind.free:=by
    have:=hq;simp only [Bool.and_eq_true] at this;simpa using this.1.1
   subst ek
   cases hx:(x == n) with
   | true=>rfl
   | false=>simp only [List.lookup_cons,hx] at h;exact ih h
  ·rw [if_neg hq] at h
   cases hx:(x == n) with
   | true =>
    simp only [List.lookup_cons,hx] at h
    rcases h with h | h
    ·cases h;exact absurd rfl (hc (n,NameKind.cell) List.mem_cons_self)
    ·exact h
   | false=>simp only [List.lookup_cons,hx] at h;exact ih h
theorem aep {env:Env} {x:Str}:∀ {names:List (Str × NameKind)},names.lookup x=some .free ->
  ((names.map fun (n,k)=>if (k == NameKind.free && env.scope.kind == .function && env.kindOf n == some .cell) then (n,NameKind.cell) else (n,k)).lookup x=some .cell ∨
   (names.map fun (n,k)=>if (k == NameKind.free && env.scope.kind == .function && env.kindOf n == some .cell) then (n,NameKind.cell) else (n,k)).lookup x=some .free)
 | [],h=>by simp at h
 | (n,k) :: r,h=>by
  have ih:=@aep env x r
  rw [List.lookup_cons] at h
  simp only [List.map_cons]
  by_cases hq:(k == NameKind.free && env.scope.kind == .function && env.kindOf n == some .cell)=true
  ·rw [if_pos hq]
   cases hx:(x == n) with
   | true=>left;simp [List.lookup_cons,hx]
   | false=>rw [hx] at h;simp only [List.lookup_cons,hx];exact ih h
  ·rw [if_neg hq]
   cases hx:(x == n) with
   | true=>rw [hx] at h;right;simp only [List.lookup_cons,hx];exact h
   | false=>rw [hx] at h;simp only [List.lookup_cons,hx];exact ih h
noncomputable def Cx.comp (X:Cx) (N:List Str) (sc:Scope) (C:Addr) (s0:Shared) (H0:Hp) (ex:List Addr):Cx where
 prog:=X.prog
 w:=X.w
 K:=X.K
 mg:=X.mg
 base:=X.base
 A:=X.A
 N:=N
 s₀:=s0
 H₀:=H0
 env:=compEnvC sc (clos X.env sc.names []) C X.env
 outer:=X.stack
 stack:=X.stack
 ex:=ex
 fn:=fun _=>false
 calm:=X.calm
 pn:=[]
 xe:=fun _ _=>False
noncomputable def pick (src:List (Option Nat)) (σ:St):St:=src.map fun o=>match o with | some j=>(σ[j]?).getD none | none=>none
structure LcOk (X:Cx) (N:List Str) (sc:Scope) (src:List (Option Nat)):Prop where
 kind:sc.kind=.function
 nocell:∀ y∈sc.names,y.2 ≠ .cell
 own:∀ y∈sc.names,y.2=.local->sc.names.lookup y.1=some .local
 outs:∀ y∈sc.names,y.2=.free->X.env.kindOf y.1=some .cell\/X.env.kindOf y.1=some .free
 len:src.length=N.length
 from':∀ (i j:Nat),src[i]?=some (some j)->∃ x,N[i]?=some x/\X.N[j]?=some x/\sc.names.lookup x=some .free
theorem LcOk.clo {X:Cx} {N:List Str} {sc:Scope} {src:List (Option Nat)} (L:LcOk X N sc src) (ok:X.Ok):closureFor sc X.env=pure (clos X.env sc.names []) :=
 ahm fun n hn=>ok.has n (L.outs (n,.free) hn rfl)
theorem as6 {X:Cx} {pins:List (Addr × Obj)} {σ:St} {H:Hp} {s:Shared} {N:List Str} {sc:Scope} {src:List (Option Nat)} {fp:List Addr} {h1:Heap} {t':Nat}
  (L:LcOk X N sc src) (I:Inv X pins σ H s) (hf:∀ b∈fp,FpOk X pins H b) (ho:∀ b∈fp,b < s.heap.objs.size)
  (hn:h1.Ns s.heap.objs.size fun _=>none) (hk:∀ b o,s.heap.get? b=some o->h1.get? b=some o) :
  Inv (X.comp N sc s.heap.objs.size s H fp) [] (pick src σ) H { s with heap:=h1,toks:=t' }:=by
 have look:∀ {x c},(clos X.env sc.names []).lookup x=some c->X.env.cells.lookup x=some c:=fun {x c} e=>by
  rcases aen e with z | z
  ·exact z
  ·simp at z
 refine ⟨⟨I.ok.mod,L.kind,I.ok.glob,I.ok.blt,Nat.le_refl _,fun x y c e1 e2=>?_,fun x hx=>?_,fun x c z _=>?_,I.ok.hd,I.ok.frames,.inl rfl,fun b hb=>⟨?_,fun x c e=>?_⟩,I.bs,Nat.le_trans I.ok.bsz I.sz,fun b o e hb=>?_,fun b hb z=>?_,I.stack,I.stkFree⟩,
  rfl,I.bare,Un.kept hk,⟨_,hn,fun i x v e1 e2 e3=>?_⟩,fun x c e=>?_,I.hok.fresh (Nat.le_refl _),fun x c e=>I.freeC x c (look e),fun p hp=>?_,I.hok.kept hk,?_⟩
 ·exact I.ok.inj x y c (look e1) (look e2)
 ·have q:=afu (env:=X.env) (x:=x) L.nocell hx
  exact aei (I.ok.has x (L.outs (x,.free) (PySem.mem_of_lookup q) rfl)) (PySem.mem_of_lookup q)
 ·exact Bool.noConfusion z
 ·exact Nat.ne_of_lt (ho b hb)
 ·exact (hf b hb).2.2.2.2.1 x c (look e)
 ·rcases (hf b hb).2.2.2.1 with z | z
  ·exact I.ok.noex b o e z
  ·exact absurd (Nat.lt_of_lt_of_le (Heap.lt_size e) (Nat.le_trans I.ok.bsz z)) (Nat.lt_irrefl _)
 ·rcases List.mem_cons.mp (I.stkSub b z) with q | q
  ·exact (hf b hb).2.1 q
  ·exact (hf b hb).2.2.1 q
 ·unfold pick at e2
  rw [List.getElem?_map] at e2
  cases q:src[i]? with
  | none=>rw [q] at e2;cases e2
  | some o =>
   rw [q] at e2
   cases o with
   | none=>cases e2
   | some j =>
    obtain ⟨y,n1,n2,n3⟩:=L.from' i j q
    have e1':N[i]?=some x:=e1
    rw [e1'] at n1
    cases n1
    have ej : σ[j]?=some (some v):=by
     cases q2 : σ[j]? with
     | none=>simp [q2] at e2
     | some z=>simp [q2] at e2;rw [e2]
    have ho:=L.outs (x,.free) (PySem.mem_of_lookup n3) rfl
    have vis:Vis X.env.scope x:=by
     rcases ho with z | z
     ·exact .inr (.inl z)
     ·exact .inr (.inr z)
    obtain ⟨m,_,hl⟩:=I.loc
    obtain ⟨u,r,l⟩:=hl j x v n2 ej vis
    refine ⟨u,r,.inr ⟨?_,?_⟩⟩
    ·exact aep (env:=X.env) n3
    ·rcases l with ⟨z,_⟩ | ⟨_,c,hc,oc,hoc,hd⟩
     ·rcases ho with z' | z' <;> (rw [z'] at z;cases z)
     ·obtain ⟨c',e'⟩:=aei (env:=X.env) ⟨c,hc⟩ (PySem.mem_of_lookup n3) (cs:=[])
      have:=look e'
      rw [hc] at this;cases this
      exact ⟨c,e',oc,hk c oc hoc,hd⟩
 ·obtain ⟨v,oc,hoc,hd⟩:=I.cell x c (look e)
  exact ⟨v,oc,hk c oc hoc,hd⟩
 ·exact absurd (show p∈([]:List (Addr × Obj)) from hp) (by simp)
 ·show (pick src σ).length=N.length
  unfold pick
  rw [List.length_map]
  exact L.len
def PIf (X:Cx) (ifs:List Expr) (t:TT):Prop :=
 ∀ (pins:List (Addr × Obj)) (s:Shared) (σ:St) (H:Hp) (Q:Bool->Hp->Prop),Inv X pins σ H s->t σ H Q ->
  wpAny (model X.prog X.w) X.A (forIn ifs true fun c r=>if r=true then do let ok ← isTrue c X.env (eval c X.env);pure (ForInStep.yield ok) else pure (ForInStep.yield r)) (TP X pins σ Q) X.xe s
def tYes:TT:=fun _ H Q=>Q true H
theorem ab5 {X:Cx}:PIf X [] tYes:=fun _ _ _ H _ I h=>wpAny_tests_nil ⟨H,I,h⟩
theorem aif {X:Cx} {c:Expr} {t:TT} (h:PT X c t):PIf X [c] t:=fun pins s σ H Q I q=>wpAny_tests_one (h pins s σ H Q I q)
noncomputable abbrev LW:=Nat->Nat->List V->St->Hp->Prop
def ak6 (J:It) (g:TG) (tif:TT) (te:TE) (acc:Addr) (Qd:List V->Hp->Prop) (W:LW):Prop:=∀ (i m:Nat) (ys:List V) (σ:St) (H:Hp),W i m ys σ H->H acc=some (.lst ys)/\((J.stop i H/\Qd ys H)\/(J.go i H /\
 ∃ Nx:List V->St->Hp->Prop,(∀ ys' σ' H',Nx ys' σ' H'->∃ m',m' < m/\W (i+1) m' ys' σ' H')/\∀ x H2,J.yld i H x H2 ->
 g x σ H2 fun σ3 H3=>tif σ3 H3 fun b H4=>if b=true then te σ3 H4 fun y H5=>H5 acc=some (.lst ys)/\ys.length < sizeLine/\Nx (ys ++ [y]) σ3 (upd H5 acc (.lst (ys ++ [y]))) else Nx ys σ3 H4))
theorem aq1 {X:Cx} {tg iter elt:Expr} {ifs:List Expr} {sc:Scope} {pos:Pos} {J:It} {fp:List Addr} {it:Addr} {tn:Nat->Heap->Prop} {g:TG} {tif:TT} {te:TE} {acc:Addr} {Qd:List V->Hp->Prop} {W:LW} {R:Result->Shared->Prop}
  (T:Turn X.prog X.w X.K tg J fp it tn) (hc:X.calm=true) (hxe:∀ e s,¬ X.xe e s) (hg:PG X tg g) (hif:PIf X ifs tif) (he:PE X elt te)
  (turn:ak6 J g tif te acc Qd W) (hR:∀ ys σ H s,Inv X [] σ H s->Qd ys H->R (.ok .next) s)
  {i m:Nat} {ys:List V} {σ:St} {H:Hp} {s:Shared} (I:Inv X [] σ H s) (st:tn i s.heap) (hf:∀ b∈fp,FpOk X [] H b) (w:W i m ys σ H) :
  codeAny (model X.prog X.w) X.A (.compLoop (.ListComp elt [⟨tg,iter,ifs,0⟩] sc pos) 0 (.ref it) (.ref acc) X.env) R s:=by
 have stat:∀ {H':Hp},(∀ b∈fp,H' b=none)->∀ b∈fp,FpOk X [] H' b:=fun hn b hb=>⟨hn b hb,(hf b hb).2⟩
 refine codeAny_loop rfl (fun n s'=>∃ i ys σ' H',Inv X [] σ' H' s'/\tn i s'.heap/\(∀ b∈fp,H' b=none)/\W i n ys σ' H') ?_ m ⟨i,ys,σ,H,I,st,fun b hb=>(hf b hb).1,w⟩
 rintro n s1 ⟨i,ys,σ1,H1,I1,st1,fr1,w1⟩
 show wpAny _ X.A ((compTurn (.ListComp elt [⟨tg,iter,ifs,0⟩] sc pos) 0 (.ref it) (.ref acc) X.env).onRaise (fun x=>do noteFrame x X.env;theTreesLotGoes x)) _ _ s1
 refine wpAny_noted ?_
 rw [compTurn_list]
 refine wpAny_bind (wpAny_standAt (wpAny_bind ?_))
 obtain ⟨hacc,⟨stop,qd⟩ | ⟨go,Nx,hNx,step⟩⟩:=turn i n ys σ1 H1 w1
 ·refine thn (T.done X rfl rfl rfl hc i [] s1 σ1 H1 _ I1 (stat fr1) st1 stop) fun r s2 ⟨hr,I2⟩=>?_
  subst hr
  exact wpAny_pure (hR ys σ1 H1 s2 I2 qd)
 ·refine thn (T.item X rfl rfl rfl hc i [] s1 σ1 H1 _ I1 (stat fr1) st1 go) fun r s2 ⟨u,hr,h2⟩=>?_
  subst hr
  refine wpAny_bind (thn h2 fun _ s3 ⟨x,H3,I3,r3,y3,st3,fr3⟩=>?_)
  have I3':=I3.pinned (stat fr3) (T.obj _ _ st3)
  refine wpAny_bind (wpAny_mono (hg _ s3 σ1 H3 x u _ I3' r3 (step x H3 y3)) (fun _ s4 ⟨σ4,H4,I4,q4⟩=>?_) fun e s' z=>(hxe e s' z).elim)
  have back:∀ {σ7:St} {H7:Hp} {s7:Shared} {zs:List V},Inv X ([] ++ afq fp s3.heap) σ7 H7 s7->(∃ m',m' < n/\W (i+1) m' zs σ7 H7)->∃ m,m < n/\∃ i ys σ' H',Inv X [] σ' H' s7/\tn i s7.heap/\(∀ b∈fp,H' b=none)/\W i m ys σ' H':=fun {σ7 H7 s7 zs} I7 w7=>by
   obtain ⟨m',hm,w7⟩:=w7
   refine ⟨m',hm,i+1,zs,σ7,H7,I7.unpinned,T.keep _ _ _ st3 fun b hb o e=>(I7.pin (b,o) (List.mem_append_right _ (List.mem_append_right _ (ad9 hb e)))).1,fun b hb=>?_,w7⟩
   obtain ⟨o,e,d⟩:=T.obj _ _ st3 b hb
   exact (I7.pin (b,o) (List.mem_append_right _ (List.mem_append_right _ (ad9 hb e)))).2.1
  refine wpAny_bind (wpAny_mono (hif _ s4 σ4 H4 _ I4 q4) (fun b s5 ⟨H5,I5,q5⟩=>?_) fun e s' z=>(hxe e s' z).elim)
  cases b with
  | false =>
   rw [if_neg Bool.false_ne_true] at q5
   exact wpAny_pure ⟨rfl,back I5 (hNx _ _ _ q5)⟩
  | true =>
   rw [if_pos rfl] at q5
   refine wpAny_bind (wpAny_bind (wpAny_mono (he _ s5 σ4 H5 _ I5 q5) (fun yv s6 ⟨y,H6,I6,r6,a6,l6,w6⟩=>?_) fun e s' z=>(hxe e s' z).elim))
   have ap:=abc (X:=X) _ s6 σ4 H6 (.ref acc) [y] (.ref acc) [yv] (fun _ H'=>H'=upd H6 acc (.lst (ys ++ [y]))) I6 rfl (.cons r6 .nil) ⟨acc,ys,y,rfl,rfl,a6,l6,rfl⟩
   refine wpAny_bind (wpAny_mono ap (fun _ s7 ⟨v7,H7,I7,_,e7⟩=>?_) fun e s' z=>(hxe e s' z).elim)
   subst e7
   exact wpAny_pure (wpAny_pure ⟨rfl,back I7 (hNx _ _ _ w6)⟩)
def tLC (src:List (Option Nat)) (wi:TI) (g:TG) (tif:TT) (te:TE):TE:=fun σ H Q=>wi σ H fun J H1=>∀ acc,H1 acc=none->∃ W:LW,(∃ m,W 0 m [] (pick src σ) (upd H1 acc (.lst [])))/\ak6 J g tif te acc (fun _ H'=>Q (.ref acc) H') W
section
variable {X:Cx} {N:List Str} {tg iter elt:Expr} {ifs:List Expr} {sc:Scope} {src:List (Option Nat)} {wi:TI} {g:TG} {tif:TT} {te:TE} {pos:Pos}
theorem avv (hc:X.calm=true) (L:LcOk X N sc src) (hg:∀ C s0 H0 ex,PG (X.comp N sc C s0 H0 ex) tg g) (hif:∀ C s0 H0 ex,PIf (X.comp N sc C s0 H0 ex) ifs tif) (he:∀ C s0 H0 ex,PE (X.comp N sc C s0 H0 ex) elt te)
  {pins:List (Addr × Obj)} {s3:Shared} {σ:St} {H3:Hp} {Q:VK} (I3:Inv X pins σ H3 s3) {it acc:Addr} {fp:List Addr} {J:It} {tn:Nat->Heap->Prop} (T:Turn X.prog X.w X.K tg J fp it tn) (st3:tn 0 s3.heap) (f3:∀ b∈fp,FpOk X pins H3 b)
  {W:LW} {m0:Nat} (w0:W 0 m0 [] (pick src σ) H3) (turn:ak6 J g tif te acc (fun _ H'=>Q (.ref acc) H') W) (use:Option (Value->Sem Unit)) (P:Value->Shared->Prop)
  (hP:∀ C H' s' m,Inv X pins σ H' s'->Q (.ref acc) H'->s'.heap.Ns C m->H' C=none->C ≠ X.env.locals->(C∈X.ex\/X.s₀.heap.objs.size<=C)->(∀ x c,X.env.cells.lookup x=some c->c ≠ C)->(∀ p∈X.pn ++ pins,p.1 ≠ C) ->
   compPost (model X.prog X.w) X.A X.xe use P (.ref acc) C (.ok .next) s') :
  wpAny (model X.prog X.w) X.A (newFunctionEnv sc X.env.globals (clos X.env sc.names []) [] X.env.qual none .none (some X.env)) (fun cenv s₄ =>
    codeAny (model X.prog X.w) X.A (.compStart (.ListComp elt [⟨tg,iter,ifs,0⟩] sc pos) 0 (.ref it) (.ref acc) { cenv with scope:=relabel sc X.env }) (compPost (model X.prog X.w) X.A X.xe use P (.ref acc) cenv.locals) s₄) X.xe s3:=by
 refine wpAny_newFunctionEnv L.nocell (by intro y hy;simp at hy) (fun h4 hns4 hsb4=>?_) L.kind
 have szf:∀ b∈fp,b < s3.heap.objs.size:=fun b hb=>by
  obtain ⟨o,ho,_⟩:=T.obj _ _ st3 b hb
  exact Heap.lt_size ho
 have k34:∀ b o,s3.heap.get? b=some o->h4.get? b=some o:=fun b o e=>hsb4.extBut b o (Nat.ne_of_lt (Heap.lt_size e)) (Heap.get?_push_of_some _ e)
 have I4:=as6 (t':=s3.toks+([]:List (Str × Value)).length) L I3 f3 szf (by simpa using hns4) k34
 have st4:tn 0 h4:=T.keep _ _ _ st3 fun b _ o e=>k34 b o e
 have f4:∀ b∈fp,FpOk (X.comp N sc s3.heap.objs.size s3 H3 fp) [] H3 b:=fun b hb =>
  ⟨(f3 b hb).1,(I4.ok.exf b hb).1,I4.ok.exfs b hb,.inl hb,(I4.ok.exf b hb).2,fun p hp=>absurd (show p∈([]:List (Addr × Obj)) from hp) (by simp)⟩
 have fin:∀ (ys:List V) σ' H' s',Inv (X.comp N sc s3.heap.objs.size s3 H3 fp) [] σ' H' s'->Q (.ref acc) H'->compPost (model X.prog X.w) X.A X.xe use P (.ref acc) s3.heap.objs.size (.ok .next) s':=fun ys σ' H' s' J' q'=>by
  have Jo:Inv X pins σ H' s':=I3.call' (ch:=fp) J'.os J'.base J'.hok J'.bare fun b hb=>⟨(f3 b hb).2.2.2.1,(f3 b hb).2.1,(f3 b hb).2.2.2.2.1,(f3 b hb).2.2.2.2.2⟩
  obtain ⟨m,hn,_⟩:=J'.loc
  refine hP _ H' s' m Jo q' hn J'.free (Nat.ne_of_gt I3.lt) (.inr I3.sz) (fun x c e z=>?_) fun p hp z=>?_
  ·obtain ⟨v,o,ho,_⟩:=I3.cell x c e
   exact absurd (Heap.lt_size ho) (by rw [z];exact Nat.lt_irrefl _)
  ·exact absurd (Heap.lt_size (I3.pin p hp).1) (by rw [z];exact Nat.lt_irrefl _)
 have loop:codeAny (model X.prog X.w) X.A (.compLoop (.ListComp elt [⟨tg,iter,ifs,0⟩] sc pos) 0 (.ref it) (.ref acc) (X.comp N sc s3.heap.objs.size s3 H3 fp).env)
   (compPost (model X.prog X.w) X.A X.xe use P (.ref acc) s3.heap.objs.size) { s3 with heap:=h4,toks:=s3.toks+([]:List (Str × Value)).length } :=
  aq1 (X:=X.comp N sc s3.heap.objs.size s3 H3 fp) T hc (fun _ _ z=>z) (hg _ _ _ _) (hif _ _ _ _) (he _ _ _ _) turn fin I4 st4 f4 w0
 exact codeAny_compStart_list loop (T.self _ 0 _ _ _ st4 loop)
theorem ak7 (hc:X.calm=true) (L:LcOk X N sc src) (hi:PI X tg iter wi) (hg:∀ C s0 H0 ex,PG (X.comp N sc C s0 H0 ex) tg g) (hif:∀ C s0 H0 ex,PIf (X.comp N sc C s0 H0 ex) ifs tif) (he:∀ C s0 H0 ex,PE (X.comp N sc C s0 H0 ex) elt te)
  {pins:List (Addr × Obj)} {s:Shared} {σ:St} {H:Hp} {Q:VK} (I:Inv X pins σ H s) (h:tLC src wi g tif te σ H Q) (use:Option (Value->Sem Unit)) (P:Value->Shared->Prop)
  (hP:∀ acc C H' s' m,Inv X pins σ H' s'->Q (.ref acc) H'->s'.heap.Ns C m->H' C=none->C ≠ X.env.locals->(C∈X.ex\/X.s₀.heap.objs.size<=C)->(∀ x c,X.env.cells.lookup x=some c->c ≠ C)->(∀ p∈X.pn ++ pins,p.1 ≠ C) ->
   compPost (model X.prog X.w) X.A X.xe use P (.ref acc) C (.ok .next) s')
  (hs:∀ x,foldedSetIterable iter X.env x=pure x) :
  wpAny (model X.prog X.w) X.A (comprehension (.ListComp elt [⟨tg,iter,ifs,0⟩] sc pos) sc X.env (firstIterPos [⟨tg,iter,ifs,0⟩] pos) (newList []) false (eval iter X.env) use) P X.xe s:=by
 refine wpAny_comprehension_free rfl hs (L.clo I.ok) L.kind L.own (thn (hi pins s σ H _ I h) fun v s1 h1=>thn h1 fun itv s2 h2=>?_)
 obtain ⟨it,fp,tn,J,H2,e,I2,T,st2,f2,q2⟩:=h2
 subst e
 have hacc:H2 s2.heap.objs.size=none:=I2.hok.fresh (Nat.le_refl _)
 obtain ⟨W,⟨m0,w0⟩,turn⟩:=q2 s2.heap.objs.size hacc
 have szf:∀ b∈fp,b < s2.heap.objs.size:=fun b hb=>by
  obtain ⟨o,ho,_⟩:=T.obj _ _ st2 b hb
  exact Heap.lt_size ho
 refine wpAny_newObj_type ?_
 refine avv hc L hg hif he (H3:=upd H2 s2.heap.objs.size (.lst [])) ?_ T ?_ ?_ w0 turn use P (hP _)
 ·exact I2.laid (t':=s2.toks) (fun b u e=>Heap.get?_push_of_some _ e) (Nat.le_refl _) ⟨Nat.zero_le _,[],0,.nil,Heap.get?_push_size _ rfl⟩
 ·exact T.keep _ _ _ st2 fun b _ o e=>Heap.get?_push_of_some _ e
 ·exact fun b hb=>⟨by rw [aae (Nat.ne_of_lt (szf b hb))];exact (f2 b hb).1,(f2 b hb).2⟩
theorem adf (hc:X.calm=true) (L:LcOk X N sc src) (hi:PI X tg iter wi) (hg:∀ C s0 H0 ex,PG (X.comp N sc C s0 H0 ex) tg g) (hif:∀ C s0 H0 ex,PIf (X.comp N sc C s0 H0 ex) ifs tif) (he:∀ C s0 H0 ex,PE (X.comp N sc C s0 H0 ex) elt te)
  (hs:∀ x,foldedSetIterable iter X.env x=pure x:=by intro _;rfl):PE X (.ListComp elt [⟨tg,iter,ifs,0⟩] sc pos) (tLC src wi g tif te):=by
 intro pins s σ H Q I h
 rw [eval_ListComp]
 refine ak7 hc L hi hg hif he I h none _ (fun acc C H' s' m J q hn hC hL hx hcl hp=>?_) hs
 refine ⟨m,hn,fun h' sb=>⟨.ref acc,H',?_,rfl,q⟩⟩
 exact J.turned (t':=s'.toks) (fun b o hb e=>sb.extBut b o hb e) hC hL hx hcl hp
end
section
variable {X:Cx} {N:List Str} {tg iter elt:Expr} {ifs:List Expr} {sc:Scope} {src:List (Option Nat)} {wi:TI} {g:TG} {tif:TT} {te:TE} {pos spos px:Pos}
theorem afc {i:Nat} {x:Str} (hN:X.N.Nodup) (hi':X.N[i]?=some x) (hx:Loc X.env.scope x) (hc:X.calm=true) (L:LcOk X N sc src) (hi:PI X tg iter wi) (hg:∀ C s0 H0 ex,PG (X.comp N sc C s0 H0 ex) tg g)
  (hif:∀ C s0 H0 ex,PIf (X.comp N sc C s0 H0 ex) ifs tif) (he:∀ C s0 H0 ex,PE (X.comp N sc C s0 H0 ex) elt te)
  (hsw:swapsWith (.ListComp elt [⟨tg,iter,ifs,0⟩] sc pos) (some (.Name x px)) spos.line X.env=pure true:=by rfl)
  (hf:X.fn x=true\/X.env.scope.names.lookup x=some .local:=by first | exact .inl rfl | exact .inr rfl | assumption)
  (hs:∀ x,foldedSetIterable iter X.env x=pure x:=by intro _;rfl):PS X (.Assign [.Name x px] (.ListComp elt [⟨tg,iter,ifs,0⟩] sc pos) spos) (tAsg (tLC src wi g tif te) (aba i)):=by
 intro pins s σ H D I h
 rw [exec_Assign_Name_used _ _ _ _ hsw]
 refine wpAny_bind (wpAny_standAt (wpAny_bind ?_))
 show wpAny _ X.A (do let _ ← comprehension (.ListComp elt [⟨tg,iter,ifs,0⟩] sc pos) sc X.env _ (newList []) false (eval iter X.env) (some (assign (.Name x px) X.env))) _ _ s
 refine wpAny_bind (wpAny_mono (ak7 hc L hi hg hif he I h (some (assign (.Name x px) X.env)) (fun _ s'=>SP X pins D .next s') (fun acc C H' s' m J q hn hC hL hx' hcl hp=>?_) hs) (fun _ s' hq=>wpAny_pure (wpAny_pure hq)) fun _ _ e=>e)
 show wpAny _ X.A (assign (.Name x px) X.env (.ref acc)) _ _ _
 refine wpAny_assign_Name (ai6 J hN hi' hx (v:=.ref acc) rfl (fun s2 J2 ⟨a,sb,ha⟩=>?_) hf)
 have hne:C ≠ a:=by
  rcases ha with z | z
  ·rw [z];exact hL
  ·exact (hcl x a z).symm
 refine ⟨m,hn.sameBut sb hne,fun h' sb'=>⟨_,H',?_,q⟩⟩
 exact J2.turned (t':=s2.toks) (fun b o hb e=>sb'.extBut b o hb e) hC hL hx' hcl hp
end
section
variable {g:TG} {tif:TT} {te:TE} {acc:Addr} {Qd:List V->Hp->Prop} {σ0:St} {H0:Hp}
end
section
variable {X:Cx} {N:List Str} {t1 i1 t2 i2 elt:Expr} {f1 f2:List Expr} {sc:Scope} {src:List (Option Nat)} {wi wi2:TI} {g g2:TG} {tif tif2:TT} {te:TE} {pos:Pos}
end
def rLen (K:Frag):List V->Hp->VK->Prop:=fun xs H Q=>∃ p ys,xs=[.ref p]/\(SqL K H p ys\/SqT K H p ys)/\Q (.int ys.length) H
theorem abj {X:Cx}:abe X (.builtin "len") (rLen X.K):=ak3
def akp:List V->Hp->VK->Prop:=fun xs H Q=>∃ i j,xs=[.int i,.int j]/\Q (.int (if j > i then j else i)) H
def akq:List V->Hp->VK->Prop:=fun xs H Q=>∃ i j,xs=[.int i,.int j]/\Q (.int (if j < i then j else i)) H
theorem ahn {X:Cx} (hc:X.calm=true):abe X (.builtin "max") akp:=aqo hc
theorem acu {X:Cx} (hc:X.calm=true):abe X (.builtin "min") akq:=aqp hc
def akr:List V->Hp->VK->Prop:=fun xs H Q=>(∃ i,xs=[.int i]/\Q (.int i) H)\/∃ k,xs=[.bl k]/\Q (.int (if k then 1 else 0)) H
theorem api {X:Cx}:abe X (.type "int") akr:=aqq
section
variable {σ:St} {H:Hp} {D:Ends} {K:Frag}
theorem anx {i:Nat} {v:V} {Q:St->Hp->Prop} (h:Q (σ.set i (some v)) H):aba i v σ H Q:=h
theorem aq2 {Q:List V->Hp->Prop} (h:Q [] H):tNil σ H Q:=h
theorem ayc {t:TA} {Q:VK} (h:t σ H fun xs H1=>xs.length<=sizeLine/\∀ p,H1 p=none->Q (.ref p) (upd H1 p (.lst xs))):tLst t σ H Q:=h
theorem aq3 {i j:Int} {Q:VK} (h:Q (.bl (decide (i=j))) H):rEq (.int i) (.int j) H Q:=by
 have e:decide (V.int i=V.int j)=decide (i=j):=by rw [agc];exact Bool.beq_eq_decide_eq i j
 exact ⟨rfl,by rw [e];exact h⟩
theorem ayd {i j:Int} {Q:VK} (h:Q (.bl (!decide (i=j))) H):rNe (.int i) (.int j) H Q:=by
 have e:decide (V.int i=V.int j)=decide (i=j):=by rw [agc];exact Bool.beq_eq_decide_eq i j
 exact ⟨rfl,by rw [e];exact h⟩
theorem aye {a:Addr} {xs:List V} {i:Int} {v:V} {Q:VK} (ha:H a=some (.lst xs)) (hv:atI xs i=some v) (h:Q v H):rIxL K (.ref a) (.int i) H Q:=⟨a,xs,i,v,rfl,rfl,SqL.of ha,hv,h⟩
theorem ayf {a:Addr} {xs:List V} {i:Int} {v:V} {Q:VK} (ha:H a=some (.tup xs)) (hv:atI xs i=some v) (h:Q v H):rIxT K (.ref a) (.int i) H Q:=⟨a,xs,i,v,rfl,rfl,SqT.of ha,hv,h⟩
theorem anz {a:Addr} {xs:List V} {k:Int} {j:Nat} {v:V} {Q:Hp->Prop} (ha:H a=some (.lst xs)) (hj:ixN xs.length k=some j) (h:Q (upd H a (.lst (xs.set j v)))):apf (.ref a) (.int k) v H Q:=⟨a,xs,k,j,rfl,rfl,ha,hj,h⟩
theorem ac8 {a:Addr} {xs:List V} {y:V} {Q:VK} (ha:H a=some (.lst xs)) (hl:xs.length < sizeLine) (h:Q .non (upd H a (.lst (xs ++ [y])))):ac7 (.ref a) [y] H Q:=⟨a,xs,y,rfl,rfl,ha,hl,h⟩
theorem aq4 {a b:Addr} {xs zs:List V} {Q:VK} (ha:H a=some (.lst xs)) (hb:H b=some (.lst zs)) (hl:xs.length+zs.length<=sizeLine) (h:Q .non (upd H a (.lst (xs ++ zs)))):aie (.ref a) [.ref b] H Q:=⟨a,b,xs,zs,rfl,rfl,ha,hb,hl,h⟩
theorem ayg {a b:Addr} {xs zs:List V} {Q:VK} (ha:H a=some (.lst xs)) (hb:H b=some (.lst zs)) (hl:xs.length+zs.length<=sizeLine) (h:∀ p,H p=none->Q (.ref p) (upd H p (.lst (xs ++ zs)))):rCat (.ref a) (.ref b) H Q:=⟨a,b,xs,zs,rfl,rfl,ha,hb,hl,h⟩
theorem an0 {a:Addr} {xs:List V} {Q:VK} (ha:H a=some (.lst xs)) (h:Q (.int xs.length) H):rLen K [.ref a] H Q:=⟨a,xs,rfl,.inl (SqL.of ha),h⟩
theorem avw {a:Addr} {xs:List V} {Q:VK} (ha:H a=some (.tup xs)) (h:Q (.int xs.length) H):rLen K [.ref a] H Q:=⟨a,xs,rfl,.inr (SqT.of ha),h⟩
theorem an1 {i j:Int} {Q:VK} (h:Q (.int (if j > i then j else i)) H):akp [.int i,.int j] H Q:=⟨i,j,rfl,h⟩
theorem an2 {i j:Int} {Q:VK} (h:Q (.int (if j < i then j else i)) H):akq [.int i,.int j] H Q:=⟨i,j,rfl,h⟩
theorem an3 {k:Bool} {Q:VK} (h:Q (.int (if k then 1 else 0)) H):akr [.bl k] H Q:=.inr ⟨k,rfl,h⟩
theorem aig {c:Prop} [Decidable c] {A B:Prop} (hc:c) (h:A):if decide c=true then A else B:=by rw [decide_eq_true hc];exact iteT h
theorem aih {c:Prop} [Decidable c] {A B:Prop} (hc:¬ c) (h:B):if decide c=true then A else B:=by rw [decide_eq_false hc];exact iteF h
theorem acm {c:Prop} [Decidable c] {A B:Prop} (h1:c->A) (h2:¬ c->B):if decide c=true then A else B:=by
 by_cases hc:c
 ·exact aig hc (h1 hc)
 ·exact aih hc (h2 hc)
theorem at0 {x:V} {xs:List V}:atI (x :: xs) 0=some x:=ac6 (j:=0) rfl
theorem ixN0 {n:Nat}:ixN (n+1) 0=some 0:=by unfold ixN;rw [if_pos (by decide),if_pos (by omega)];rfl
theorem ixN2 {n:Nat}:ixN (n+3) 2=some 2:=by unfold ixN;rw [if_pos (by decide),if_pos (by omega)];rfl
end
structure CallOk (P:Program) (w:World) (K:Frag) (mg:Str->Option Value) (base:Heap) (x:Str) (k:Nat) (ps:List Str) (sp:Sp) (f:Addr) (fd:FuncData):Prop where
 ok:FnOk P w K mg base CX0 k f fd ps sp
 mgx:mg x=some (.ref f)
 kp:keepIn K (.ref f)=true
 bd:Binds K fd ps []
def Can (P:Program) (w:World) (K:Frag) (mg:Str->Option Value) (base:Heap) (x:Str) (k:Nat) (ps:List Str) (sp:Sp):Prop:=∃ f fd,CallOk P w K mg base x k ps sp f fd
structure DefAt (K:Frag) (mg:Str->Option Value) (x:Str) (st:Stmt) (ps:List Str) (f:Addr) (fd:FuncData):Prop where
 fn:Fun K x x st f fd
 mgx:mg x=some (.ref f)
 bd:Binds K fd ps []
theorem DefAt.can {P:Program} {w:World} {K:Frag} {mg:Str->Option Value} {base:Heap} {x:Str} {st:Stmt} {k:Nat} {ps:List Str} {sp:Sp} {f:Addr} {fd:FuncData} (D:DefAt K mg x st ps f fd) (ok:FnOk P w K mg base CX0 k f fd ps sp):Can P w K mg base x k ps sp :=
 ⟨f,fd,ok,D.mgx,D.fn.kp,D.bd⟩
section
variable {X:Cx} {k j:Nat} {ps:List Str} {sp:Sp} {x:Str} {p pos:Pos} {e:Expr} {es:List Expr} {t:TA}
theorem aaf (F:Can X.prog X.w X.K X.mg X.base x k ps sp) (hr:Room j X.A) (ha:PA X (e :: es) t) (hj:k<=j:=by decide) (hg:Gl X x:=by rfl) (hdb:(x == ("__debug__" : Str))=false:=by decide)
  (he:starEach (e :: es) X.env=(false,eval e X.env) :: starEach es X.env:=by rfl) (hpl:(backTo pos (starEach es X.env)).any (·.1)=false:=by rfl) :
  PE X (.Call (.Name x p) (e :: es) [] pos) (acb sp [] E0 t):=by
 obtain ⟨f,fd,C⟩:=F
 exact avs C.ok (hr.mono hj) hg C.mgx C.kp C.bd .nil a0d ha hdb he hpl
end
theorem abm {X:Cx} {N:List Str} {sc:Scope} {src:List (Option Nat)} (h1:sc.kind=.function) (h2:sc.names.all (fun y=>y.2 != .cell)=true) (h3:sc.names.all (fun y=>y.2 != .local || sc.names.lookup y.1 == some .local)=true)
  (h4:sc.names.all (fun y=>y.2 != .free || X.env.kindOf y.1 == some .cell || X.env.kindOf y.1 == some .free)=true) (h5:src.length=N.length)
  (h6:(List.range src.length).all (fun i=>match src[i]? with | some (some j)=>(match N[i]?,X.N[j]? with | some x,some y=>x == y && sc.names.lookup x == some .free | _,_=>false) | _=>true)=true):LcOk X N sc src:=by
 refine ⟨h1,fun y hy e=>?_,fun y hy e=>?_,fun y hy e=>?_,h5,fun i j e=>?_⟩
 ·have:=List.all_eq_true.mp h2 y hy
  rw [e] at this
  exact absurd this (by decide)
 ·have:=List.all_eq_true.mp h3 y hy
  rw [e] at this
  simpa using this
 ·have:=List.all_eq_true.mp h4 y hy
  rw [e] at this
  simpa using this
 ·have hi:i < src.length:=(List.getElem?_eq_some_iff.mp e).1
  have:=List.all_eq_true.mp h6 i (List.mem_range.mpr hi)
  rw [e] at this
  dsimp only at this
  cases h7:N[i]? with
  | none=>rw [h7] at this;cases this
  | some x =>
   cases h8:X.N[j]? with
   | none=>rw [h7,h8] at this;cases this
   | some y =>
    rw [h7,h8] at this
    simp only [Bool.and_eq_true] at this
    have e1:x=y:=by simpa using this.1
    subst e1
    exact ⟨x,rfl,rfl,by simpa using this.2⟩
section
variable {σ:St} {H:Hp} {D:Ends} {K:Frag}
theorem ayh {a:Addr} {xs:List V} {i:Int} {v:V} {Q:VK} (ha:SqL K H a xs) (hv:atI xs i=some v) (h:Q v H):rIxL K (.ref a) (.int i) H Q:=⟨a,xs,i,v,rfl,rfl,ha,hv,h⟩
theorem avx {a:Addr} {xs:List V} {Q:VK} (ha:SqL K H a xs) (h:Q (.int xs.length) H):rLen K [.ref a] H Q:=⟨a,xs,rfl,.inl ha,h⟩
theorem aq5 {Q:Bool->Hp->Prop} (h:Q true H):tYes σ H Q:=h
theorem as7 {a:Addr} {xs:List V} {i:Int} {k:Nat} {y:V} {Q:VK} (ha:H a=some (.lst xs)) (h1 : -(2 ^ 63)<=i) (h2:i < 2 ^ 63) (h3:seqIndex? i xs.length=some k) (h4:xs[k]?=some y) (h:Q y (upd H a (.lst (xs.eraseIdx k)))):ahi (.ref a) [.int i] H Q :=
 ⟨a,xs,i,k,y,rfl,rfl,ha,h1,h2,h3,h4,h⟩
end
end L2
namespace L2
open PySem
theorem acn:bootBuiltins "len" = some (.builtin "len"):=by decide +kernel
theorem acg:bootBuiltins "max" = some (.builtin "max"):=by decide +kernel
theorem ae1:bootBuiltins "min" = some (.builtin "min"):=by decide +kernel
theorem ac9:bootBuiltins "sorted" = some (.builtin "sorted"):=by decide +kernel
theorem aa0:bootBuiltins "isinstance" = some (.builtin "isinstance"):=by decide +kernel
theorem aq6:bootBuiltins "all" = some (.builtin "all"):=by decide +kernel
theorem ak8:bootBuiltins "int" = some (.type "int"):=by decide +kernel
theorem aec:bootBuiltins "list" = some (.type "list"):=by decide +kernel
theorem ayi:bootBuiltins "set" = some (.type "set"):=by decide +kernel
theorem afd:bootBuiltins "tuple" = some (.type "tuple"):=by decide +kernel
theorem an4:bootBuiltins "bool" = some (.type "bool"):=by decide +kernel
theorem aq7:bootBuiltins "str" = some (.type "str"):=by decide +kernel
theorem ayj:bootBuiltins "zip" = some (.type "zip"):=by decide +kernel
end L2
namespace TS
open PySem PyProof.Rows
noncomputable def aii:Bool->Keyed->Array Keyed->Nat->Nat->Nat->StateT SortSt Sem (Option Nat):=sortPriv% PySem.Builtin.gallop
noncomputable def as8:Array Keyed->Array Keyed->StateT SortSt Sem (Array Keyed):=sortPriv% PySem.Builtin.mergeLo
noncomputable def as9:Array Keyed->Array Keyed->StateT SortSt Sem (Array Keyed):=sortPriv% PySem.Builtin.mergeHi
noncomputable def ak9:Nat->StateT SortSt Sem Bool:=sortPriv% PySem.Builtin.mergeAt
noncomputable def avy:Nat->Nat->StateT SortSt Sem (Option Nat):=sortPriv% PySem.Builtin.countRun
noncomputable def ata:Nat->Nat->Nat->StateT SortSt Sem Bool:=sortPriv% PySem.Builtin.binarySort
noncomputable def a0f:StateT SortSt Sem Unit:=sortPriv% PySem.Builtin.sortRuns
structure Cmp (M:Model) (A:Around) (E:Value->Shared->Prop) (s:Shared) (κ:SortKind) (S:Keyed->Prop) (R:Keyed->Keyed->Bool):Prop where
 ask:∀ x y,S x->S y->∀ (Q:Option Bool->SortSt->Prop) (st:SortSt),kindOf st = κ->Q (some (R x y)) st->wpS M A E s (lt' x y) Q st
 asy:∀ x y,S x->S y->R x y=true->R y x=false
 tr:∀ x y z,S x->S y->S z->R y x=false->R z y=false->R z x=false
section
variable {M:Model} {A:Around} {E:Value->Shared->Prop} {s:Shared} {κ:SortKind} {S:Keyed->Prop} {R:Keyed->Keyed->Bool}
theorem aav {arr:Array Keyed} {i:Nat} {x:Keyed} {Q:Keyed->SortSt->Prop} {st:SortSt} (hx:arr[i]?=some x) (h:Q x st):wpS M A E s (elem' arr i) Q st:=by
 rw [elem'_eq,hx]
 exact wpS_pure h
theorem adk {x:String} {Q:Unit->SortSt->Prop} {st:SortSt} (h:Q () st):wpS M A E s (liftM (PySem.rule x):StateT SortSt Sem Unit) Q st :=
 wpS_lift (wpAny_rule ⟨rfl,h⟩)
noncomputable def bey (left:Bool) (key:Keyed) (arr:Array Keyed) (base i:Nat):StateT SortSt Sem (Option Bool):=do
 let x ← elem' arr (base+i)
 if left=true then lt' x key else do
  let r ← lt' key x
  pure (Option.map (fun b => !b) r)
theorem aje {left:Bool} {key:Keyed} {arr:Array Keyed} {base n hint:Nat} {B:Nat->Bool}
  (hb:∀ i,i < n->∀ (Q:Option Bool->SortSt->Prop) (st:SortSt),kindOf st = κ->Q (some (B i)) st->wpS M A E s (bey left key arr base i) Q st)
  (mono:∀ i j,i < j->j < n->B j=true->B i=true) (hh:hint < n) {Q:Option Nat->SortSt->Prop} {st:SortSt} (hk:kindOf st = κ)
  (h:∀ k,k<=n->(∀ i,i < k->B i=true)->(∀ i,k<=i->i < n->B i=false)->Q (some k) st):wpS M A E s (aii left key arr base n hint) Q st:=by
 have monoF:∀ i j,i < j->j < n->B i=false->B j=false:=fun i j hij hj hi=>by
  cases e:B j with
  | false=>rfl
  | true=>rw [mono i j hij hj e] at hi;cases hi
 -- the last loop
 have last:∀ (lo hi:Nat) (F:Option (Option Nat) × Nat × Nat->StateT SortSt Sem (Option Nat)),lo<=hi->hi<=n->(∀ i,i < lo->B i=true)->(∀ i,hi<=i->i < n->B i=false) ->
   (∀ lo hi,F (none,lo,hi)=pure (some hi)) ->
   wpS M A E s (forIn [:n] ((none,lo,hi):Option (Option Nat) × Nat × Nat) (fun (_:Nat) z=>if z.2.1 ≥ z.2.2 then pure (ForInStep.done (none,z.2.1,z.2.2)) else bey left key arr base (z.2.1+(z.2.2 - z.2.1) / 2) >>= fun r=>match r with
    | some more=>if more=true then pure (ForInStep.yield (none,z.2.1+(z.2.2 - z.2.1) / 2+1,z.2.2)) else pure (ForInStep.yield (none,z.2.1,z.2.1+(z.2.2 - z.2.1) / 2))
    | _=>pure (ForInStep.done (some none,z.2.1,z.2.2))) >>= F) Q st:=by
  intro lo hi F h1 h2 h3 h4 hF
  refine wpS_bind (wpS_forRange (fun t z st'=>st'=st/\z.1=none/\z.2.1<=z.2.2/\z.2.2<=n/\z.2.2 - z.2.1+t<=n/\(∀ i,i < z.2.1->B i=true)/\(∀ i,z.2.2<=i->i < n->B i=false)) ?_ ?_ ⟨rfl,rfl,h1,h2,by dsimp only;omega,h3,h4⟩)
  ·rintro t ⟨o,l,u⟩ st' _ ht ⟨rfl,e,q1,q2,q3,q4,q5⟩
   dsimp only at e q1 q2 q3 q4 q5 ⊢
   subst e
   by_cases hlu:l ≥ u
   ·rw [if_pos hlu]
    have:l=u:=by omega
    subst this
    exact wpS_pure (by dsimp only;rw [hF];exact wpS_pure (h l q2 q4 q5))
   ·rw [if_neg hlu]
    have hm:l+(u - l) / 2 < u:=by omega
    refine wpS_bind (hb _ (by omega) _ _ hk ?_)
    dsimp only
    cases e:B (l+(u - l) / 2) with
    | true =>
     rw [if_pos rfl]
     refine wpS_pure ⟨rfl,rfl,by dsimp only;omega,q2,by dsimp only;omega,fun i hi=>?_,q5⟩
     dsimp only at hi
     by_cases hi2:i=l+(u - l) / 2
     ·rw [hi2];exact e
     ·exact mono i _ (by omega) (by omega) e
    | false =>
     rw [if_neg (by simp)]
     refine wpS_pure ⟨rfl,rfl,by dsimp only;omega,by dsimp only;omega,by dsimp only;omega,q4,fun i hi hn=>?_⟩
     dsimp only at hi
     by_cases hi2:i=l+(u - l) / 2
     ·rw [hi2];exact e
     ·exact monoF _ i (by omega) hn e
  ·rintro ⟨o,l,u⟩ st' ⟨rfl,e,q1,q2,q3,q4,q5⟩
   dsimp only at e q1 q2 q3 q4 q5 ⊢
   subst e
   have : l = u := by have:n ≤ max 0 n := by omega
                      omega
   subst this
   rw [hF]
   exact wpS_pure (h l q2 q4 q5)
 refine wpS_bind (f:=fun __x=>_) (m:=bey left key arr base hint) (hb hint hh _ st hk ?_)
 dsimp only
 cases e0:B hint with
 | true =>
  rw [if_pos rfl]
  refine wpS_bind ?_
  refine wpS_forRange (fun t (z:Option (Option Nat) × Nat × Nat) st'=>st'=st/\z.1=none/\z.2.1 < z.2.2/\hint+z.2.1 < n/\B (hint+z.2.1)=true/\t+1<=z.2.2) ?_ ?_ ⟨rfl,rfl,by decide,by dsimp only;omega,e0,Nat.le_refl _⟩
  ·rintro t ⟨o,l,u⟩ st' _ ht ⟨rfl,e,q1,q2,q3,q4⟩
   dsimp only at e q1 q2 q3 q4 ⊢
   subst e
   by_cases hu:u ≥ n - hint
   ·rw [if_pos hu]
    refine wpS_pure ?_
    dsimp only
    refine last _ _ _ (by omega) (by omega) (fun i hi=>?_) (fun i hi hn=>by omega) (fun _ _=>rfl)
    by_cases hi2:i=hint+l
    ·rw [hi2];exact q3
    ·exact mono i _ (by omega) q2 q3
   ·rw [if_neg hu]
    refine wpS_bind (m:=bey left key arr base (hint+u)) (hb _ (by omega) _ _ hk ?_)
    dsimp only
    cases e1:B (hint+u) with
    | true =>
     rw [if_neg (by decide)]
     exact wpS_pure ⟨rfl,rfl,by dsimp only;omega,by dsimp only;omega,e1,by dsimp only;omega⟩
    | false =>
     rw [if_pos (by decide)]
     refine wpS_pure ?_
     dsimp only
     refine last _ _ _ (by omega) (by omega) (fun i hi=>?_) (fun i hi hn=>?_) (fun _ _=>rfl)
     ·by_cases hi2:i=hint+l
      ·rw [hi2];exact q3
      ·exact mono i _ (by omega) q2 q3
     ·by_cases hi2:i=hint+u
      ·rw [hi2];exact e1
      ·exact monoF _ i (by omega) hn e1
  ·rintro ⟨o,l,u⟩ st' ⟨rfl,e,q1,q2,q3,q4⟩
   dsimp only at e q1 q2 q3 q4 ⊢
   subst e
   dsimp only
   refine last _ _ _ (by omega) (by omega) (fun i hi=>?_) (fun i hi hn=>by omega) (fun _ _=>rfl)
   by_cases hi2:i=hint+l
   ·rw [hi2];exact q3
   ·exact mono i _ (by omega) q2 q3
 | false =>
  rw [if_neg (by decide)]
  refine wpS_bind ?_
  refine wpS_forRange (fun t (z:Option (Option Nat) × Nat × Nat) st'=>st'=st/\z.1=none/\z.2.1 < z.2.2/\z.2.1<=hint/\B (hint - z.2.1)=false/\t+1<=z.2.2) ?_ ?_ ⟨rfl,rfl,by decide,Nat.zero_le _,e0,Nat.le_refl _⟩
  ·rintro t ⟨o,l,u⟩ st' _ ht ⟨rfl,e,q1,q2,q3,q4⟩
   dsimp only at e q1 q2 q3 q4 ⊢
   subst e
   have past:∀ i,hint - l<=i->i < n->B i=false:=fun i hi hn=>by
    by_cases hi2:i=hint - l
    ·rw [hi2];exact q3
    ·exact monoF _ i (by omega) hn q3
   by_cases hu:u ≥ hint+1
   ·rw [if_pos hu]
    refine wpS_pure ?_
    dsimp only
    exact last _ _ _ (by omega) (by omega) (fun i hi=>by omega) past (fun _ _=>rfl)
   ·rw [if_neg hu]
    refine wpS_bind (m:=bey left key arr base (hint - u)) (hb _ (by omega) _ _ hk ?_)
    dsimp only
    cases e1:B (hint - u) with
    | true =>
     rw [if_pos rfl]
     refine wpS_pure ?_
     dsimp only
     refine last _ _ _ (by omega) (by omega) (fun i hi=>?_) past (fun _ _=>rfl)
     by_cases hi2:i=hint - u
     ·rw [hi2];exact e1
     ·exact mono i _ (by omega) (by omega) e1
    | false =>
     rw [if_neg (by decide)]
     exact wpS_pure ⟨rfl,rfl,by dsimp only;omega,by dsimp only;omega,e1,by dsimp only;omega⟩
  ·rintro ⟨o,l,u⟩ st' ⟨rfl,e,q1,q2,q3,q4⟩
   dsimp only at e q1 q2 q3 q4 ⊢
   subst e
   dsimp only
   refine last _ _ _ (by omega) (by omega) (fun i hi=>by omega) (fun i hi hn=>?_) (fun _ _=>rfl)
   by_cases hi2:i=hint - l
   ·rw [hi2];exact q3
   ·exact monoF _ i (by omega) hn q3
end
def Srt (R:Keyed->Keyed->Bool) (l:List Keyed):Prop:=l.Pairwise fun x y=>R y x=false
structure Mid (R:Keyed->Keyed->Bool) (L out a b:List Keyed):Prop where
 perm:(out ++ a ++ b).Perm L
 so:Srt R out
 le:∀ x∈out,∀ y∈a ++ b,R y x=false
 sa:Srt R a
 sb:Srt R b
section
variable {R:Keyed->Keyed->Bool} {L out a b p:List Keyed}
theorem Mid.takeA (m:Mid R L out (p ++ a) b) (h:∀ x∈p,∀ y∈b,R y x=false):Mid R L (out ++ p) a b:=by
 have sp:=List.pairwise_append.mp m.sa
 refine ⟨by have:=m.perm;rw [← List.append_assoc] at this;exact this,List.pairwise_append.mpr ⟨m.so,sp.1,fun x hx y hy=>m.le x hx y (List.mem_append_left _ (List.mem_append_left _ hy))⟩,fun x hx y hy=>?_,sp.2.1,m.sb⟩
 rcases List.mem_append.mp hx with hx | hx
 ·refine m.le x hx y ?_
  rcases List.mem_append.mp hy with hy | hy
  ·exact List.mem_append_left _ (List.mem_append_right _ hy)
  ·exact List.mem_append_right _ hy
 ·rcases List.mem_append.mp hy with hy | hy
  ·exact sp.2.2 x hx y hy
  ·exact h x hx y hy
theorem Mid.takeB (m:Mid R L out a (p ++ b)) (h:∀ x∈p,∀ y∈a,R y x=false):Mid R L (out ++ p) a b:=by
 have sp:=List.pairwise_append.mp m.sb
 refine ⟨List.Perm.trans ?_ m.perm,List.pairwise_append.mpr ⟨m.so,sp.1,fun x hx y hy=>m.le x hx y (List.mem_append_right _ (List.mem_append_left _ hy))⟩,fun x hx y hy=>?_,m.sa,sp.2.1⟩
 ·rw [← List.append_assoc (out ++ a) p b]
  refine List.Perm.append_right b ?_
  rw [List.append_assoc,List.append_assoc]
  exact List.Perm.append_left out List.perm_append_comm
 ·rcases List.mem_append.mp hx with hx | hx
  ·refine m.le x hx y ?_
   rcases List.mem_append.mp hy with hy | hy
   ·exact List.mem_append_left _ hy
   ·exact List.mem_append_right _ (List.mem_append_right _ hy)
  ·rcases List.mem_append.mp hy with hy | hy
   ·exact h x hx y hy
   ·exact sp.2.2 x hx y hy
theorem Mid.done (m:Mid R L out a b) (h:a=[]\/b=[]):(out ++ a ++ b).Perm L/\Srt R (out ++ a ++ b):=by
 refine ⟨m.perm,?_⟩
 rw [List.append_assoc]
 refine List.pairwise_append.mpr ⟨m.so,?_,m.le⟩
 rcases h with h | h
 ·subst h;exact m.sb
 ·subst h;rw [List.append_nil];exact m.sa
theorem Mid.last (m:Mid R L out a b) (h:∀ y∈b,∀ x∈a,R x y=false):(out ++ b ++ a).Perm L/\Srt R (out ++ b ++ a):=by
 refine ⟨List.Perm.trans ?_ m.perm,?_⟩
 ·rw [List.append_assoc,List.append_assoc]
  exact List.Perm.append_left out List.perm_append_comm
 ·rw [List.append_assoc]
  refine List.pairwise_append.mpr ⟨m.so,List.pairwise_append.mpr ⟨m.sb,m.sa,h⟩,fun x hx y hy=>m.le x hx y ?_⟩
  rcases List.mem_append.mp hy with hy | hy
  ·exact List.mem_append_right _ hy
  ·exact List.mem_append_left _ hy
end
structure Eqv (st st':SortSt):Prop where
 k:kindOf st'=kindOf st
 a:arrOf st'=arrOf st
 p:pendingOf st'=pendingOf st
 f:failedOf st'=failedOf st
theorem Eqv.refl (st:SortSt):Eqv st st:=⟨rfl,rfl,rfl,rfl⟩
theorem Eqv.trans {a b c:SortSt} (h:Eqv a b) (g:Eqv b c):Eqv a c:=⟨g.k.trans h.k,g.a.trans h.a,g.p.trans h.p,g.f.trans h.f⟩
theorem agd (a:Array Keyed) (i:Nat):(a.extract i a.size).toList=a.toList.drop i:=by
 rw [Array.toList_extract];simp only [List.extract_eq_take_drop];exact List.take_of_length_le (by simp)
theorem aij (a:Array Keyed) (i k:Nat):(a.extract i (i+k)).toList=(a.toList.drop i).take k:=by
 rw [Array.toList_extract];simp [List.extract]
theorem abn {a:Array Keyed} {i:Nat} (h:i < a.size):a.toList.drop i=a[i] :: a.toList.drop (i+1):=by
 rw [List.drop_eq_getElem_cons (by simpa using h)];simp
section
variable {M:Model} {A:Around} {E:Value->Shared->Prop} {s:Shared} {κ:SortKind} {S:Keyed->Prop} {R:Keyed->Keyed->Bool}
theorem Cmp.irr {x:Keyed} (C:Cmp M A E s κ S R) (hx:S x):R x x=false:=by
 cases e:R x x with
 | false=>rfl
 | true=>have:=C.asy x x hx hx e;rw [e] at this;cases this
theorem afv (C:Cmp M A E s κ S R) {key:Keyed} {arr:Array Keyed} {base n hint:Nat} (hkey:S key) (hS:∀ x∈arr.toList,S x) (hn:base+n<=arr.size) (hs:Srt R ((arr.toList.drop base).take n)) (hh:hint < n)
  {Q:Option Nat->SortSt->Prop} {st:SortSt} (hk:kindOf st = κ)
  (h:∀ k,k<=n->(∀ x∈(arr.toList.drop base).take k,R key x=false)->(∀ x∈((arr.toList.drop base).take n).drop k,R key x=true)->Q (some k) st) :
  wpS M A E s (aii false key arr base n hint) Q st:=by
 have at':∀ i,i < n->∃ x,arr[base+i]?=some x/\S x/\((arr.toList.drop base).take n)[i]?=some x:=fun i hi=>by
  have hlt:base+i < arr.size:=by omega
  refine ⟨arr[base+i],Array.getElem?_eq_getElem hlt,hS _ (by simp),?_⟩
  rw [List.getElem?_take_of_lt hi,List.getElem?_drop]
  simp [hlt]
 have hsort:∀ i j x y,i < j->j < n->arr[base+i]?=some x->arr[base+j]?=some y->R y x=false:=fun i j x y hij hj ex ey=>by
  obtain ⟨x',e1,_,e2⟩:=at' i (by omega)
  obtain ⟨y',e3,_,e4⟩:=at' j hj
  rw [ex] at e1;cases e1
  rw [ey] at e3;cases e3
  obtain ⟨l1,e2⟩:=List.getElem?_eq_some_iff.mp e2
  obtain ⟨l2,e4⟩:=List.getElem?_eq_some_iff.mp e4
  have:=List.pairwise_iff_getElem.mp hs i j l1 l2 hij
  rw [e2,e4] at this
  exact this
 refine aje (κ:=κ) (B:=fun i=>match arr[base+i]? with | some x => !(R key x) | none=>false) (fun i hi Q' st' hk' hq=>?_) (fun i j hij hj hBj=>?_) hh hk fun k hk1 h1 h2=>h k hk1 (fun x hx=>?_) fun x hx=>?_
 ·obtain ⟨x,e1,sx,_⟩:=at' i hi
  unfold bey
  refine wpS_bind (aav e1 ?_)
  rw [if_neg (by decide)]
  refine wpS_bind (C.ask _ _ hkey sx _ _ hk' ?_)
  refine wpS_pure ?_
  simp only [e1] at hq
  exact hq
 ·obtain ⟨x,e1,sx,_⟩:=at' i (by omega)
  obtain ⟨y,e2,sy,_⟩:=at' j hj
  simp only [e1,e2] at hBj ⊢
  have r1:=hsort i j x y hij hj e1 e2
  have r2:R key y=false:=by simpa using hBj
  have:=C.tr x y key sx sy hkey r1 r2
  simp [this]
 ·obtain ⟨i,hi,e⟩:=List.getElem_of_mem hx
  have hi2:i < k:=by rw [List.length_take] at hi;omega
  obtain ⟨y,e1,_,e2⟩:=at' i (by omega)
  have hb:=h1 i hi2
  simp only [e1] at hb
  have ex:x=y:=by
   have:((arr.toList.drop base).take k)[i]?=some x:=by rw [List.getElem?_eq_getElem hi,e]
   rw [List.getElem?_take_of_lt hi2] at this
   rw [List.getElem?_take_of_lt (by omega)] at e2
   rw [this] at e2;exact Option.some.inj e2
  subst ex
  simpa using hb
 ·obtain ⟨i,hi,e⟩:=List.getElem_of_mem hx
  have hi2:k+i < n:=by rw [List.length_drop,List.length_take] at hi;omega
  obtain ⟨y,e1,_,e2⟩:=at' (k+i) hi2
  have hb:=h2 (k+i) (by omega) hi2
  simp only [e1] at hb
  have ex:x=y:=by
   have:(((arr.toList.drop base).take n).drop k)[i]?=some x:=by rw [List.getElem?_eq_getElem hi,e]
   rw [List.getElem?_drop] at this
   rw [this] at e2;exact Option.some.inj e2
  subst ex
  simpa using hb
theorem ag1 (C:Cmp M A E s κ S R) {key:Keyed} {arr:Array Keyed} {base n hint:Nat} (hkey:S key) (hS:∀ x∈arr.toList,S x) (hn:base+n<=arr.size) (hs:Srt R ((arr.toList.drop base).take n)) (hh:hint < n)
  {Q:Option Nat->SortSt->Prop} {st:SortSt} (hk:kindOf st = κ)
  (h:∀ k,k<=n->(∀ x∈(arr.toList.drop base).take k,R x key=true)->(∀ x∈((arr.toList.drop base).take n).drop k,R x key=false)->Q (some k) st) :
  wpS M A E s (aii true key arr base n hint) Q st:=by
 have at':∀ i,i < n->∃ x,arr[base+i]?=some x/\S x/\((arr.toList.drop base).take n)[i]?=some x:=fun i hi=>by
  have hlt:base+i < arr.size:=by omega
  refine ⟨arr[base+i],Array.getElem?_eq_getElem hlt,hS _ (by simp),?_⟩
  rw [List.getElem?_take_of_lt hi,List.getElem?_drop]
  simp [hlt]
 have hsort:∀ i j x y,i < j->j < n->arr[base+i]?=some x->arr[base+j]?=some y->R y x=false:=fun i j x y hij hj ex ey=>by
  obtain ⟨x',e1,_,e2⟩:=at' i (by omega)
  obtain ⟨y',e3,_,e4⟩:=at' j hj
  rw [ex] at e1;cases e1
  rw [ey] at e3;cases e3
  obtain ⟨l1,e2⟩:=List.getElem?_eq_some_iff.mp e2
  obtain ⟨l2,e4⟩:=List.getElem?_eq_some_iff.mp e4
  have:=List.pairwise_iff_getElem.mp hs i j l1 l2 hij
  rw [e2,e4] at this
  exact this
 refine aje (κ:=κ) (B:=fun i=>match arr[base+i]? with | some x=>R x key | none=>false) (fun i hi Q' st' hk' hq=>?_) (fun i j hij hj hBj=>?_) hh hk fun k hk1 h1 h2=>h k hk1 (fun x hx=>?_) fun x hx=>?_
 ·obtain ⟨x,e1,sx,_⟩:=at' i hi
  unfold bey
  refine wpS_bind (aav e1 ?_)
  rw [if_pos rfl]
  simp only [e1] at hq
  exact C.ask _ _ sx hkey _ _ hk' hq
 ·obtain ⟨x,e1,sx,_⟩:=at' i (by omega)
  obtain ⟨y,e2,sy,_⟩:=at' j hj
  simp only [e1,e2] at hBj ⊢
  have r1:=hsort i j x y hij hj e1 e2
  cases e:R x key with
  | true=>rfl
  | false =>
   have:=C.tr key x y hkey sx sy e r1
   rw [this] at hBj;cases hBj
 ·obtain ⟨i,hi,e⟩:=List.getElem_of_mem hx
  have hi2:i < k:=by rw [List.length_take] at hi;omega
  obtain ⟨y,e1,_,e2⟩:=at' i (by omega)
  have hb:=h1 i hi2
  simp only [e1] at hb
  have ex:x=y:=by
   have:((arr.toList.drop base).take k)[i]?=some x:=by rw [List.getElem?_eq_getElem hi,e]
   rw [List.getElem?_take_of_lt hi2] at this
   rw [List.getElem?_take_of_lt (by omega)] at e2
   rw [this] at e2;exact Option.some.inj e2
  subst ex
  exact hb
 ·obtain ⟨i,hi,e⟩:=List.getElem_of_mem hx
  have hi2:k+i < n:=by rw [List.length_drop,List.length_take] at hi;omega
  obtain ⟨y,e1,_,e2⟩:=at' (k+i) hi2
  have hb:=h2 (k+i) (by omega) hi2
  simp only [e1] at hb
  have ex:x=y:=by
   have:(((arr.toList.drop base).take n).drop k)[i]?=some x:=by rw [List.getElem?_eq_getElem hi,e]
   rw [List.getElem?_drop] at this
   rw [this] at e2;exact Option.some.inj e2
  subst ex
  exact hb
end
section
variable {M:Model} {A:Around} {E:Value->Shared->Prop} {s:Shared} {κ:SortKind} {S:Keyed->Prop} {R:Keyed->Keyed->Bool}
structure Two (S:Keyed->Prop) (R:Keyed->Keyed->Bool) (a b:Array Keyed):Prop where
 ha:∀ x∈a.toList,S x
 hb:∀ x∈b.toList,S x
 sa:Srt R a.toList
 sb:Srt R b.toList
 a0:0 < a.size
 b0:0 < b.size
 first:∀ x∈a.toList,∀ y,b[0]?=some y->R x y=false
 last:∀ y∈b.toList,∀ x,a[a.size - 1]?=some x->R x y=false
def Fin2 (R:Keyed->Keyed->Bool) (a b m:Array Keyed):Prop:=m.toList.Perm (a.toList ++ b.toList)/\Srt R m.toList
structure Lo (S:Keyed->Prop) (R:Keyed->Keyed->Bool) (a b out:Array Keyed) (ia ib:Nat):Prop where
 mid:Mid R (a.toList ++ b.toList) out.toList (a.toList.drop ia) (b.toList.drop ib)
 ia:ia<=a.size
 ib:ib<=b.size
theorem Lo.len {a b out:Array Keyed} {ia ib:Nat} (l:Lo S R a b out ia ib):out.size+(a.size - ia)+(b.size - ib)=a.size+b.size:=by
 have:=l.mid.perm.length_eq
 simp at this
 omega
theorem Lo.doneA {a b out:Array Keyed} {ia ib:Nat} (l:Lo S R a b out ia ib) (h:ib=b.size\/ia=a.size):Fin2 R a b (out ++ a.extract ia ++ b.extract ib):=by
 have:=l.mid.done (by
  rcases h with h | h
  ·right;rw [h];simp
  ·left;rw [h];simp)
 unfold Fin2
 rw [Array.toList_append,Array.toList_append,agd,agd]
 exact this
theorem aq8 {a:Array Keyed} {i:Nat} (h:i+1=a.size):a.toList.drop i=[a[a.size - 1]'(by omega)]:=by
 have hi:i < a.size:=by omega
 rw [abn hi]
 have:i=a.size - 1:=by omega
 subst this
 have e:a.toList.drop (a.size - 1+1)=[]:=by
  apply List.drop_eq_nil_of_le
  simp;omega
 rw [e]
theorem Lo.lastA {a b out:Array Keyed} {ia ib:Nat} (T:Two S R a b) (l:Lo S R a b out ia ib) (h:ia+1=a.size):Fin2 R a b (out ++ b.extract ib ++ a.extract ia):=by
 have:=l.mid.last (by
  intro y hy x hx
  rw [aq8 h] at hx
  have ex:x=a[a.size - 1]'(by omega):=by simpa using hx
  refine T.last y (List.mem_of_mem_drop hy) x ?_
  rw [ex]
  exact Array.getElem?_eq_getElem _)
 unfold Fin2
 rw [Array.toList_append,Array.toList_append,agd,agd]
 exact this
theorem aej {x:Keyed} {l:List Keyed} (C:Cmp M A E s κ S R) (h:Srt R (x :: l)) (hx:S x):∀ y∈x :: l,R y x=false:=by
 intro y hy
 rcases List.mem_cons.mp hy with e | hy
 ·rw [e];exact C.irr hx
 ·exact (List.pairwise_cons.mp h).1 y hy
theorem Lo.pushB {a b out:Array Keyed} {ia ib:Nat} (C:Cmp M A E s κ S R) (T:Two S R a b) (l:Lo S R a b out ia ib) (hb:ib < b.size) (h:∀ x∈a.toList.drop ia,R x b[ib]=false):Lo S R a b (out.push b[ib]) ia (ib+1):=by
 refine ⟨?_,l.ia,hb⟩
 have m:=l.mid
 rw [abn hb] at m
 rw [Array.toList_push]
 exact m.takeB (p:=[b[ib]]) (fun x hx y hy=>by
  have:x=b[ib]:=by simpa using hx
  rw [this];exact h y hy)
theorem Lo.pushA {a b out:Array Keyed} {ia ib:Nat} (l:Lo S R a b out ia ib) (ha:ia < a.size) (h:∀ y∈b.toList.drop ib,R y a[ia]=false):Lo S R a b (out.push a[ia]) (ia+1) ib:=by
 refine ⟨?_,ha,l.ib⟩
 have m:=l.mid
 rw [abn ha] at m
 rw [Array.toList_push]
 exact m.takeA (p:=[a[ia]]) (fun x hx y hy=>by
  have:x=a[ia]:=by simpa using hx
  rw [this];exact h y hy)
theorem Lo.runA {a b out:Array Keyed} {ia ib k:Nat} (l:Lo S R a b out ia ib) (hk:ia+k<=a.size) (h:∀ x∈(a.toList.drop ia).take k,∀ y∈b.toList.drop ib,R y x=false):Lo S R a b (out ++ a.extract ia (ia+k)) (ia+k) ib:=by
 refine ⟨?_,hk,l.ib⟩
 have m:=l.mid
 rw [← List.take_append_drop k (a.toList.drop ia)] at m
 rw [Array.toList_append,aij]
 have m2:=m.takeA h
 rw [List.drop_drop] at m2
 exact m2
theorem Lo.runB {a b out:Array Keyed} {ia ib k:Nat} (l:Lo S R a b out ia ib) (hk:ib+k<=b.size) (h:∀ x∈(b.toList.drop ib).take k,∀ y∈a.toList.drop ia,R y x=false):Lo S R a b (out ++ b.extract ib (ib+k)) ia (ib+k):=by
 refine ⟨?_,l.ia,hk⟩
 have m:=l.mid
 rw [← List.take_append_drop k (b.toList.drop ib)] at m
 rw [Array.toList_append,aij]
 have m2:=m.takeB h
 rw [List.drop_drop] at m2
 exact m2
theorem acr {l:List Keyed} {i:Nat} (h:Srt R l):Srt R (l.drop i):=List.Pairwise.sublist (List.drop_sublist i l) h
theorem jpn {α β:Type} {prog : β->StateT SortSt Sem α} {P : β->Prop} {Q : α->SortSt->Prop} {st:SortSt} {G:Prop} (use:(∀ m,P m->wpS M A E s (prog m) Q st)->G) (pf:∀ m,P m->wpS M A E s (prog m) Q st):G:=use pf
theorem jpn2 {α:Type} {prog:Array Keyed->Nat->StateT SortSt Sem α} {P:Array Keyed->Nat->Prop} {Q : α->SortSt->Prop} {st:SortSt} {G:Prop} (use:(∀ o i,P o i->wpS M A E s (prog o i) Q st)->G) (pf:∀ o i,P o i->wpS M A E s (prog o i) Q st):G:=use pf
section
variable {ρ β γ δ ε ζ η:Type}
@[elab_as_elim] theorem un5 {J : β->γ->δ->ε->Prop} {G:Option ρ × β × γ × δ × ε->Prop} (z:Option ρ × β × γ × δ × ε) (h:z.1=none/\J z.2.1 z.2.2.1 z.2.2.2.1 z.2.2.2.2) (k:∀ x y u v,J x y u v->G (none,x,y,u,v)):G z:=by
 have e:z=(none,z.2.1,z.2.2.1,z.2.2.2.1,z.2.2.2.2):=by rw [← h.1]
 rw [e];exact k _ _ _ _ h.2
@[elab_as_elim] theorem un6 {J : β->γ->δ->ε->ζ->Prop} {G:Option ρ × β × γ × δ × ε × ζ->Prop} (z:Option ρ × β × γ × δ × ε × ζ) (h:z.1=none/\J z.2.1 z.2.2.1 z.2.2.2.1 z.2.2.2.2.1 z.2.2.2.2.2) (k:∀ x y u v a,J x y u v a->G (none,x,y,u,v,a)):G z:=by
 have e:z=(none,z.2.1,z.2.2.1,z.2.2.2.1,z.2.2.2.2.1,z.2.2.2.2.2):=by rw [← h.1]
 rw [e];exact k _ _ _ _ _ h.2
@[elab_as_elim] theorem un7 {J : β->γ->δ->ε->ζ->η->Prop} {G:Option ρ × β × γ × δ × ε × ζ × η->Prop} (z:Option ρ × β × γ × δ × ε × ζ × η) (h:z.1=none/\J z.2.1 z.2.2.1 z.2.2.2.1 z.2.2.2.2.1 z.2.2.2.2.2.1 z.2.2.2.2.2.2) (k:∀ x y u v a b,J x y u v a b->G (none,x,y,u,v,a,b)):G z:=by
 have e:z=(none,z.2.1,z.2.2.1,z.2.2.2.1,z.2.2.2.2.1,z.2.2.2.2.2.1,z.2.2.2.2.2.2):=by rw [← h.1]
 rw [e];exact k _ _ _ _ _ _ h.2
@[elab_as_elim] theorem unR {κ:Type} {F : ρ->Prop} {J : κ->Prop} {G:Option ρ × κ->Prop} (z:Option ρ × κ) (h:(∃ r,z.1=some r/\F r)\/(z.1=none/\J z.2)) (k1:∀ r x,F r->G (some r,x)) (k2:z.1=none/\J z.2->G z):G z:=by
 rcases h with ⟨r,e,hr⟩ | h
 ·have e:z=(some r,z.2):=by rw [← e]
  rw [e];exact k1 _ _ hr
 ·exact k2 h
end
theorem aan {c:Prop} [Decidable c] {α:Type} {m1 m2:StateT SortSt Sem α} {Q : α->SortSt->Prop} {st:SortSt} (h1:c->wpS M A E s m1 Q st) (h2:¬ c->wpS M A E s m2 Q st):wpS M A E s (if c then m1 else m2) Q st:=by
 by_cases h:c
 ·rw [if_pos h];exact h1 h
 ·rw [if_neg h];exact h2 h
theorem apj (C:Cmp M A E s κ S R) {a b:Array Keyed} (T:Two S R a b) {Q:Array Keyed->SortSt->Prop} {st:SortSt} (hk:kindOf st = κ)
  (h:∀ m st',Eqv st st'->Fin2 R a b m->Q m st'):wpS M A E s (as8 a b) Q st:=by
 have SA:∀ i (h:i < a.size),S a[i]:=fun i h=>T.ha _ (by simp)
 have SB:∀ i (h:i < b.size),S b[i]:=fun i h=>T.hb _ (by simp)
 have b0:=T.b0
 have a0:=T.a0
 refine wpS_bind (adk ?_)
 refine wpS_bind (aav (x:=b[0]'b0) (Array.getElem?_eq_getElem b0) ?_)
 have l1:Lo S R a b #[b[0]'b0] 0 1:=by
  have l0:Lo S R a b #[] 0 0:=⟨⟨by simp,List.Pairwise.nil,fun x hx=>by simp at hx,T.sa,T.sb⟩,Nat.zero_le _,Nat.zero_le _⟩
  exact l0.pushB C T b0 fun x hx=>T.first x (by simpa using hx) _ (Array.getElem?_eq_getElem b0)
 refine aan (fun e1=>wpS_pure (h _ _ (Eqv.refl _) (l1.doneA (.inl (beq_iff_eq.mp e1))))) (fun e1=>?_)
 refine aan (fun e2=>wpS_pure (h _ _ (Eqv.refl _) (l1.lastA T (beq_iff_eq.mp e2)))) (fun e2=>?_)
 replace e1:1 ≠ b.size:=fun q=>e1 (beq_iff_eq.mpr q)
 replace e2:0+1 ≠ a.size:=fun q=>e2 (beq_iff_eq.mpr q)
 refine wpS_bind (wpS_get ?_)
 refine wpS_bind (wpS_mono (Q:=fun (z:Option (Array Keyed) × Array Keyed × Nat × Nat × Nat) st'=>Eqv st st'/\∃ r,z.1=some r/\Fin2 R a b r) ?_ ?_)
 ·refine wpS_forRange (fun t (z:Option (Array Keyed) × Array Keyed × Nat × Nat × Nat) st'=>Eqv st st'/\z.1=none/\Lo S R a b z.2.1 z.2.2.1 z.2.2.2.1/\z.2.2.1+1 < a.size/\z.2.2.2.1 < b.size/\t+1<=z.2.1.size) ?_ ?_ ⟨Eqv.refl _,rfl,l1,by dsimp only;omega,by dsimp only;omega,by simp⟩
  ·intro t z st1 _ ht hI
   have q1:=hI.1
   refine un5 (J:=fun out ia ib _=>Lo S R a b out ia ib/\ia+1 < a.size/\ib < b.size/\t+1<=out.size) z hI.2 fun out ia ib mg hJ=>?_
   dsimp only
   refine wpS_bind (wpS_mono (Q:=fun (z:Option (Array Keyed) × Array Keyed × Nat × Nat × Nat × Nat) st'=>Eqv st st'/\((∃ r,z.1=some r/\Fin2 R a b r)\/(z.1=none/\Lo S R a b z.2.1 z.2.2.1 z.2.2.2.1/\z.2.2.1+1 < a.size/\z.2.2.2.1 < b.size/\t+2<=z.2.1.size))) ?_ ?_)
   ·refine wpS_forRange (fun i (z:Option (Array Keyed) × Array Keyed × Nat × Nat × Nat × Nat) st'=>Eqv st st'/\z.1=none/\Lo S R a b z.2.1 z.2.2.1 z.2.2.2.1/\z.2.2.1+1 < a.size/\z.2.2.2.1 < b.size/\t+1+min i 1<=z.2.1.size) ?_ ?_ ⟨q1,rfl,hJ.1,hJ.2.1,hJ.2.2.1,hJ.2.2.2⟩
    ·intro i z st2 _ hi hI
     have q:=hI.1
     refine un6 (J:=fun out ia ib _ _=>Lo S R a b out ia ib/\ia+1 < a.size/\ib < b.size/\t+1+min i 1<=out.size) z hI.2 fun out ia ib ac bc hJ=>?_
     have l:=hJ.1
     have hia:=hJ.2.1
     have hib:=hJ.2.2.1
     have hsz:=hJ.2.2.2
     have hia':ia < a.size:=Nat.lt_of_succ_lt hia
     refine wpS_bind (aav (x:=b[ib]) (Array.getElem?_eq_getElem hib) ?_)
     refine wpS_bind (aav (x:=a[ia]) (Array.getElem?_eq_getElem hia') ?_)
     refine wpS_bind (C.ask _ _ (SB ib hib) (SA ia hia') _ _ (q.k.trans hk) ?_)
     dsimp only
     refine aan (fun er=>?_) (fun er=>?_)
     ·refine wpS_bind (aav (x:=b[ib]) (Array.getElem?_eq_getElem hib) ?_)
      have l2:Lo S R a b (out.push b[ib]) ia (ib+1):=l.pushB C T hib fun x hx=>by
       rw [abn hia'] at hx
       have hd:Srt R (a[ia] :: a.toList.drop (ia+1)):=by rw [← abn hia'];exact acr T.sa
       have sx:S x:=T.ha x (List.mem_of_mem_drop (i:=ia) (by rw [abn hia'];exact hx))
       exact C.tr _ _ _ (SB ib hib) (SA ia hia') sx (C.asy _ _ (SB ib hib) (SA ia hia') er) (aej C hd (SA ia hia') x hx)
      refine aan (fun e3=>wpS_pure ⟨q,.inl ⟨_,rfl,l2.doneA (.inl (beq_iff_eq.mp e3))⟩⟩) (fun e3=>?_)
      have hf:ib+1 < b.size/\t+2<=(out.push b[ib]).size:=by
       have e3':ib+1 ≠ b.size:=fun q=>e3 (beq_iff_eq.mpr q)
       rw [Array.size_push];omega
      refine aan (fun _=>wpS_pure ⟨q,.inr ⟨rfl,l2,hia,hf⟩⟩) (fun _=>wpS_pure ⟨q,rfl,l2,hia,hf.1,Nat.le_trans (by omega) hf.2⟩)
     ·refine wpS_bind (aav (x:=a[ia]) (Array.getElem?_eq_getElem hia') ?_)
      have l2:Lo S R a b (out.push a[ia]) (ia+1) ib:=l.pushA hia' fun y hy=>by
       rw [abn hib] at hy
       have hd:Srt R (b[ib] :: b.toList.drop (ib+1)):=by rw [← abn hib];exact acr T.sb
       have sy:S y:=T.hb y (List.mem_of_mem_drop (i:=ib) (by rw [abn hib];exact hy))
       exact C.tr _ _ _ (SA ia hia') (SB ib hib) sy (eq_false_of_ne_true er) (aej C hd (SB ib hib) y hy)
      refine aan (fun e3=>wpS_pure ⟨q,.inl ⟨_,rfl,l2.lastA T (beq_iff_eq.mp e3)⟩⟩) (fun e3=>?_)
      have hf:ia+1+1 < a.size/\ib < b.size/\t+2<=(out.push a[ia]).size:=by
       have e3':ia+1+1 ≠ a.size:=fun q=>e3 (beq_iff_eq.mpr q)
       rw [Array.size_push];omega
      refine aan (fun _=>wpS_pure ⟨q,.inr ⟨rfl,l2,hf⟩⟩) (fun _=>wpS_pure ⟨q,rfl,l2,hf.1,hib,Nat.le_trans (by omega) hf.2.2⟩)
    ·exact fun z st2 hI=>⟨hI.1,.inr ⟨hI.2.1,hI.2.2.1,hI.2.2.2.1,hI.2.2.2.2.1,Nat.le_trans (by omega) hI.2.2.2.2.2⟩⟩
   ·intro z st2 hI
    have q2:=hI.1
    refine unR (J:=fun y:Array Keyed × Nat × Nat × Nat × Nat=>Lo S R a b y.1 y.2.1 y.2.2.1/\y.2.1+1 < a.size/\y.2.2.1 < b.size/\t+2<=y.1.size) z hI.2 (fun r x hr=>wpS_pure ⟨q2,r,rfl,hr⟩) fun hN=>?_
    refine un6 (J:=fun out ia ib _ _=>Lo S R a b out ia ib/\ia+1 < a.size/\ib < b.size/\t+2<=out.size) z hN fun out ia ib ac bc hJ=>?_
    dsimp only
    refine wpS_bind (adk ?_)
    refine wpS_bind (wpS_mono (Q:=fun (z:Option (Array Keyed) × Array Keyed × Nat × Nat × Nat × Nat × Nat) st'=>Eqv st st'/\((∃ r,z.1=some r/\Fin2 R a b r)\/(z.1=none/\Lo S R a b z.2.1 z.2.2.1 z.2.2.2.1/\z.2.2.1+1 < a.size/\z.2.2.2.1 < b.size/\t+2<=z.2.1.size))) ?_ ?_)
    ·refine wpS_forRange (fun i (z:Option (Array Keyed) × Array Keyed × Nat × Nat × Nat × Nat × Nat) st'=>Eqv st st'/\z.1=none/\Lo S R a b z.2.1 z.2.2.1 z.2.2.2.1/\z.2.2.1+1 < a.size/\z.2.2.2.1 < b.size/\t+2<=z.2.1.size) ?_ (fun z st2 hI=>⟨hI.1,.inr hI.2⟩) ⟨q2,rfl,hJ⟩
     intro i z st2 _ hi hI
     have q:=hI.1
     refine un7 (J:=fun out ia ib _ _ _=>Lo S R a b out ia ib/\ia+1 < a.size/\ib < b.size/\t+2<=out.size) z hI.2 fun out ia ib mg ac bc hJ=>?_
     have l:=hJ.1
     have hia:=hJ.2.1
     have hib:=hJ.2.2.1
     have hsz:=hJ.2.2.2
     dsimp only
     refine' jpn (M:=M) (A:=A) (E:=E) (s:=s) (st:=st2) (β:=Nat) (P:=fun _=>True) (prog:=?prog) (fun JP=>?use) (fun mg' _=>?pf)
     case use =>
      refine aan (fun hm=>?_) (fun hm=>?_)
      ·generalize mg - 1=m
       exact JP m trivial
      ·exact JP mg trivial
     refine wpS_bind (wpS_mono (Q:=fun _ st3=>Eqv st2 st3) (wpS_modify ⟨rfl,rfl,rfl,rfl⟩) fun _ st3 q3=>?_)
     replace q3:=q.trans q3
     refine wpS_bind (aav (x:=b[ib]) (Array.getElem?_eq_getElem hib) ?_)
     refine wpS_bind (afv C (SB ib hib) T.ha (by omega) (by rw [List.take_of_length_le (by simp)];exact acr T.sa) (by omega) (q3.k.trans hk) fun k hk1 h1 h2=>?_)
     rw [List.take_of_length_le (by simp),List.drop_drop] at h2
     dsimp only
     refine' jpn2 (M:=M) (A:=A) (E:=E) (s:=s) (st:=st3) (P:=fun out2 ia2=>Lo S R a b out2 ia2 ib/\ia2+1 < a.size/\(∀ x∈a.toList.drop ia2,R x b[ib]=false)/\t+2<=out2.size) (prog:=?prog2) (fun JP=>?use2) (fun out2 ia2 h5=>?pf2)
     case use2 =>
      have hrest:∀ x∈a.toList.drop (ia+k),R x b[ib]=false:=fun x hx=>C.asy _ _ (SB ib hib) (T.ha x (List.mem_of_mem_drop hx)) (h2 x hx)
      refine aan (fun k0=>?_) (fun k0=>?_)
      ·have l2:Lo S R a b (out ++ a.extract ia (ia+k)) (ia+k) ib:=l.runA (by omega) fun x hx y hy=>by
        rw [abn hib] at hy
        have hd:Srt R (b[ib] :: b.toList.drop (ib+1)):=by rw [← abn hib];exact acr T.sb
        have sy:S y:=T.hb y (List.mem_of_mem_drop (i:=ib) (by rw [abn hib];exact hy))
        exact C.tr _ _ _ (T.ha x (List.mem_of_mem_drop (List.mem_of_mem_take hx))) (SB ib hib) sy (h1 x hx) (aej C hd (SB ib hib) y hy)
       refine aan (fun e3=>wpS_pure ⟨q3,.inl ⟨_,rfl,l2.lastA T (beq_iff_eq.mp e3)⟩⟩) (fun e3=>?_)
       refine aan (fun e4=>wpS_pure ⟨q3,.inl ⟨_,rfl,l2.doneA (.inr (beq_iff_eq.mp e4))⟩⟩) (fun e4=>?_)
       have hP:Lo S R a b (out ++ a.extract ia (ia+k)) (ia+k) ib/\ia+k+1 < a.size/\(∀ x∈a.toList.drop (ia+k),R x b[ib]=false)/\t+2<=(out ++ a.extract ia (ia+k)).size:=by
        have e3':ia+k+1 ≠ a.size:=fun q=>e3 (beq_iff_eq.mpr q)
        have e4':ia+k ≠ a.size:=fun q=>e4 (beq_iff_eq.mpr q)
        exact ⟨l2,by omega,hrest,by rw [Array.size_append];omega⟩
       revert hP
       clear e3 e4 l2 hrest
       generalize out ++ a.extract ia (ia+k)=out2
       generalize ia+k=ia2
       intro hP
       exact JP out2 ia2 hP
      ·have:k=0:=by omega
       rw [this] at hrest
       exact JP out ia ⟨l,hia,hrest,hsz⟩
     have l3:=h5.1
     have hia2:=h5.2.1
     have hle:=h5.2.2.1
     have hsz3:=h5.2.2.2
     have hia2':ia2 < a.size:=Nat.lt_of_succ_lt hia2
     refine wpS_bind (aav (x:=b[ib]) (Array.getElem?_eq_getElem hib) ?_)
     have l4:=l3.pushB C T hib hle
     refine aan (fun e5=>wpS_pure ⟨q3,.inl ⟨_,rfl,l4.doneA (.inl (beq_iff_eq.mp e5))⟩⟩) (fun e5=>?_)
     replace e5:ib+1 ≠ b.size:=fun q=>e5 (beq_iff_eq.mpr q)
     refine wpS_bind (aav (x:=a[ia2]) (Array.getElem?_eq_getElem hia2') ?_)
     refine wpS_bind (ag1 C (SA ia2 hia2') T.hb (by omega) (by rw [List.take_of_length_le (by simp)];exact acr T.sb) (by omega) (q3.k.trans hk) fun k2 hk2 h3 h4=>?_)
     rw [List.take_of_length_le (by simp),List.drop_drop] at h4
     dsimp only
     refine' jpn2 (M:=M) (A:=A) (E:=E) (s:=s) (st:=st3) (P:=fun out3 ib3=>Lo S R a b out3 ia2 ib3/\ib3 < b.size/\(∀ y∈b.toList.drop ib3,R y a[ia2]=false)/\t+2<=out3.size) (prog:=?prog3) (fun JP=>?use3) (fun out3 ib3 h6=>?pf3)
     case use3 =>
      refine aan (fun k0=>?_) (fun k0=>?_)
      ·have hd:Srt R (a[ia2] :: a.toList.drop (ia2+1)):=by rw [← abn hia2'];exact acr T.sa
       have l5:Lo S R a b (out2.push b[ib] ++ b.extract (ib+1) (ib+1+k2)) ia2 (ib+1+k2):=l4.runB (by omega) fun x hx y hy=>by
        rw [abn hia2'] at hy
        have sy:S y:=T.ha y (List.mem_of_mem_drop (i:=ia2) (by rw [abn hia2'];exact hy))
        have sx:S x:=T.hb x (List.mem_of_mem_drop (List.mem_of_mem_take hx))
        exact C.tr _ _ _ sx (SA ia2 hia2') sy (C.asy _ _ sx (SA ia2 hia2') (h3 x hx)) (aej C hd (SA ia2 hia2') y hy)
       refine aan (fun e6=>wpS_pure ⟨q3,.inl ⟨_,rfl,l5.doneA (.inl (beq_iff_eq.mp e6))⟩⟩) (fun e6=>?_)
       have hP:Lo S R a b (out2.push b[ib] ++ b.extract (ib+1) (ib+1+k2)) ia2 (ib+1+k2)/\ib+1+k2 < b.size/\(∀ y∈b.toList.drop (ib+1+k2),R y a[ia2]=false)/\t+2<=(out2.push b[ib] ++ b.extract (ib+1) (ib+1+k2)).size:=by
        have e6':ib+1+k2 ≠ b.size:=fun q=>e6 (beq_iff_eq.mpr q)
        exact ⟨l5,by omega,h4,by rw [Array.size_append,Array.size_push];omega⟩
       revert hP
       clear e6 l5 hd
       generalize out2.push b[ib] ++ b.extract (ib+1) (ib+1+k2)=out3
       generalize ib+1+k2=ib3
       intro hP
       exact JP out3 ib3 hP
      ·have:k2=0:=by omega
       rw [this] at h4
       exact JP (out2.push b[ib]) (ib+1) ⟨l4,by omega,h4,by rw [Array.size_push];omega⟩
     refine wpS_bind (aav (x:=a[ia2]) (Array.getElem?_eq_getElem hia2') ?_)
     have l7:=h6.1.pushA hia2' h6.2.2.1
     refine aan (fun e7=>wpS_pure ⟨q3,.inl ⟨_,rfl,l7.lastA T (beq_iff_eq.mp e7)⟩⟩) (fun e7=>?_)
     have hf:ia2+1+1 < a.size/\ib3 < b.size/\t+2<=(out3.push a[ia2]).size:=by
      have e7':ia2+1+1 ≠ a.size:=fun q=>e7 (beq_iff_eq.mpr q)
      have h7:=h6.2.2.2
      exact ⟨by omega,h6.2.1,by rw [Array.size_push];omega⟩
     exact aan (fun _=>wpS_pure ⟨q3,.inr ⟨rfl,l7,hf⟩⟩) (fun _=>wpS_pure ⟨q3,rfl,l7,hf⟩)
    ·intro z st2 hI
     have q2:=hI.1
     refine unR (J:=fun y:Array Keyed × Nat × Nat × Nat × Nat × Nat=>Lo S R a b y.1 y.2.1 y.2.2.1/\y.2.1+1 < a.size/\y.2.2.1 < b.size/\t+2<=y.1.size) z hI.2 (fun r x hr=>wpS_pure ⟨q2,r,rfl,hr⟩) fun hN=>?_
     refine un7 (J:=fun out ia ib _ _ _=>Lo S R a b out ia ib/\ia+1 < a.size/\ib < b.size/\t+2<=out.size) z hN fun out ia ib mg ac bc hJ=>?_
     dsimp only
     refine wpS_bind (wpS_modify ?_)
     exact wpS_pure ⟨q2.trans ⟨rfl,rfl,rfl,rfl⟩,rfl,hJ⟩
  ·intro z st2 hI
   exfalso
   have h1:=hI.2.2.1.len
   have h2:=hI.2.2.2
   have:a.size+b.size<=max 0 (a.size+b.size):=by omega
   omega
 ·intro z st2 hI
  have q2:=hI.1
  exact unR (J:=fun _=>False) z (.inl hI.2) (fun r x hr=>wpS_pure (h r st2 q2 hr)) fun hN=>hN.2.elim
end
structure MidH (R:Keyed->Keyed->Bool) (L a b tl:List Keyed):Prop where
 perm:(a ++ b ++ tl).Perm L
 so:Srt R tl
 le:∀ x∈a ++ b,∀ y∈tl,R y x=false
 sa:Srt R a
 sb:Srt R b
section
variable {R:Keyed->Keyed->Bool} {L tl a b p:List Keyed}
theorem MidH.takeA (m:MidH R L (a ++ p) b tl) (h:∀ x∈b,∀ y∈p,R y x=false):MidH R L a b (p ++ tl):=by
 have sp:=List.pairwise_append.mp m.sa
 refine ⟨List.Perm.trans ?_ m.perm,List.pairwise_append.mpr ⟨sp.2.1,m.so,fun x hx y hy=>m.le x (List.mem_append_left _ (List.mem_append_right _ hx)) y hy⟩,fun x hx y hy=>?_,sp.1,m.sb⟩
 ·rw [← List.append_assoc,List.append_assoc a p b,List.append_assoc a b p]
  exact List.Perm.append_right tl (List.Perm.append_left a List.perm_append_comm)
 ·rcases List.mem_append.mp hy with hy | hy
  ·rcases List.mem_append.mp hx with hx | hx
   ·exact sp.2.2 x hx y hy
   ·exact h x hx y hy
  ·refine m.le x ?_ y hy
   rcases List.mem_append.mp hx with hx | hx
   ·exact List.mem_append_left _ (List.mem_append_left _ hx)
   ·exact List.mem_append_right _ hx
theorem MidH.takeB (m:MidH R L a (b ++ p) tl) (h:∀ x∈a,∀ y∈p,R y x=false):MidH R L a b (p ++ tl):=by
 have sp:=List.pairwise_append.mp m.sb
 refine ⟨by have:=m.perm;simp only [List.append_assoc] at this ⊢;exact this,List.pairwise_append.mpr ⟨sp.2.1,m.so,fun x hx y hy=>m.le x (List.mem_append_right _ (List.mem_append_right _ hx)) y hy⟩,fun x hx y hy=>?_,m.sa,sp.1⟩
 rcases List.mem_append.mp hy with hy | hy
 ·rcases List.mem_append.mp hx with hx | hx
  ·exact h x hx y hy
  ·exact sp.2.2 x hx y hy
 ·refine m.le x ?_ y hy
  rcases List.mem_append.mp hx with hx | hx
  ·exact List.mem_append_left _ hx
  ·exact List.mem_append_right _ (List.mem_append_left _ hx)
theorem MidH.done (m:MidH R L a b tl) (h:a=[]\/b=[]):(a ++ b ++ tl).Perm L/\Srt R (a ++ b ++ tl):=by
 refine ⟨m.perm,List.pairwise_append.mpr ⟨?_,m.so,m.le⟩⟩
 rcases h with h | h
 ·subst h;exact m.sb
 ·subst h;rw [List.append_nil];exact m.sa
theorem MidH.first (m:MidH R L a b tl) (h:∀ y∈b,∀ x∈a,R x y=false):(b ++ a ++ tl).Perm L/\Srt R (b ++ a ++ tl):=by
 refine ⟨List.Perm.trans (List.Perm.append_right tl List.perm_append_comm) m.perm,List.pairwise_append.mpr ⟨List.pairwise_append.mpr ⟨m.sb,m.sa,h⟩,m.so,fun x hx y hy=>m.le x ?_ y hy⟩⟩
 rcases List.mem_append.mp hx with hx | hx
 ·exact List.mem_append_right _ hx
 ·exact List.mem_append_left _ hx
end
theorem ach {a:Array Keyed} {i:Nat} (h0:0 < i) (h:i<=a.size):a.toList.take i=a.toList.take (i - 1) ++ [a[i - 1]'(by omega)]:=by
 obtain ⟨j,rfl⟩:∃ j,i=j+1:=⟨i - 1,by omega⟩
 rw [List.take_succ]
 have hj:j < a.size:=by omega
 simp [hj]
theorem aks (a:Array Keyed) (k:Nat):(a.extract 0 k).toList=a.toList.take k:=by
 rw [Array.toList_extract];simp [List.extract]
theorem ala (a:Array Keyed) (k n:Nat):(a.extract k n).toList=(a.toList.take n).drop k:=by
 rw [Array.toList_extract];simp [List.extract,List.drop_take]
section
variable {M:Model} {A:Around} {E:Value->Shared->Prop} {s:Shared} {κ:SortKind} {S:Keyed->Prop} {R:Keyed->Keyed->Bool}
structure Hi (S:Keyed->Prop) (R:Keyed->Keyed->Bool) (a b out:Array Keyed) (na nb:Nat):Prop where
 mid:MidH R (a.toList ++ b.toList) (a.toList.take na) (b.toList.take nb) out.toList.reverse
 na:na<=a.size
 nb:nb<=b.size
theorem Hi.len {a b out:Array Keyed} {na nb:Nat} (l:Hi S R a b out na nb):out.size+na+nb=a.size+b.size:=by
 have:=l.mid.perm.length_eq
 have h1:=l.na
 have h2:=l.nb
 simp at this
 omega
theorem Hi.doneA {a b out:Array Keyed} {na nb:Nat} (l:Hi S R a b out na nb) (h:na=0\/nb=0):Fin2 R a b (a.extract 0 na ++ b.extract 0 nb ++ out.reverse):=by
 have:=l.mid.done (by
  rcases h with h | h
  ·left;rw [h];simp
  ·right;rw [h];simp)
 unfold Fin2
 rw [Array.toList_append,Array.toList_append,aks,aks,Array.toList_reverse]
 exact this
theorem Hi.firstB {a b out:Array Keyed} {na nb:Nat} (T:Two S R a b) (l:Hi S R a b out na nb) (h:nb=1):Fin2 R a b (b.extract 0 nb ++ a.extract 0 na ++ out.reverse):=by
 subst h
 have:=l.mid.first (by
  intro y hy x hx
  rw [ach (by decide) l.nb] at hy
  have ey:y=b[0]'T.b0:=by simpa using hy
  exact T.first x (List.mem_of_mem_take hx) y (by rw [ey];exact Array.getElem?_eq_getElem _))
 unfold Fin2
 rw [Array.toList_append,Array.toList_append,aks,aks,Array.toList_reverse]
 exact this
theorem ab9 {l:List Keyed} {i:Nat} (h:Srt R l):Srt R (l.take i):=List.Pairwise.sublist (List.take_sublist i l) h
theorem ad2 {x:Keyed} {l:List Keyed} (C:Cmp M A E s κ S R) (h:Srt R (l ++ [x])) (hx:S x):∀ y∈l ++ [x],R x y=false:=by
 intro y hy
 rcases List.mem_append.mp hy with hy | hy
 ·exact (List.pairwise_append.mp h).2.2 y hy x (by simp)
 ·have:y=x:=by simpa using hy
  rw [this];exact C.irr hx
theorem Hi.pushA {a b out:Array Keyed} {na nb:Nat} (l:Hi S R a b out na nb) (h0:0 < na) (h:∀ x∈b.toList.take nb,R (a[na - 1]'(by have:=l.na;omega)) x=false):Hi S R a b (out.push (a[na - 1]'(by have:=l.na;omega))) (na - 1) nb:=by
 refine ⟨?_,by have:=l.na;omega,l.nb⟩
 have m:=l.mid
 rw [ach h0 l.na] at m
 rw [Array.toList_push,List.reverse_append]
 exact m.takeA (p:=[_]) (fun x hx y hy=>by
  rw [List.mem_singleton.mp hy];exact h x hx)
theorem Hi.pushB {a b out:Array Keyed} {na nb:Nat} (l:Hi S R a b out na nb) (h0:0 < nb) (h:∀ x∈a.toList.take na,R (b[nb - 1]'(by have:=l.nb;omega)) x=false):Hi S R a b (out.push (b[nb - 1]'(by have:=l.nb;omega))) na (nb - 1):=by
 refine ⟨?_,l.na,by have:=l.nb;omega⟩
 have m:=l.mid
 rw [ach h0 l.nb] at m
 rw [Array.toList_push,List.reverse_append]
 exact m.takeB (p:=[_]) (fun x hx y hy=>by
  rw [List.mem_singleton.mp hy];exact h x hx)
theorem Hi.runA {a b out:Array Keyed} {na nb k:Nat} (l:Hi S R a b out na nb) (hk:k<=na) (h:∀ x∈b.toList.take nb,∀ y∈(a.toList.take na).drop k,R y x=false):Hi S R a b (out ++ (a.extract k na).reverse) k nb:=by
 refine ⟨?_,by have:=l.na;omega,l.nb⟩
 have m:=l.mid
 rw [← List.take_append_drop k (a.toList.take na)] at m
 rw [Array.toList_append,Array.toList_reverse,ala,List.reverse_append,List.reverse_reverse]
 have m2:=m.takeA h
 rw [List.take_take,Nat.min_eq_left hk] at m2
 exact m2
theorem Hi.runB {a b out:Array Keyed} {na nb k:Nat} (l:Hi S R a b out na nb) (hk:k<=nb) (h:∀ x∈a.toList.take na,∀ y∈(b.toList.take nb).drop k,R y x=false):Hi S R a b (out ++ (b.extract k nb).reverse) na k:=by
 refine ⟨?_,l.na,by have:=l.nb;omega⟩
 have m:=l.mid
 rw [← List.take_append_drop k (b.toList.take nb)] at m
 rw [Array.toList_append,Array.toList_reverse,ala,List.reverse_append,List.reverse_reverse]
 have m2:=m.takeB h
 rw [List.take_take,Nat.min_eq_left hk] at m2
 exact m2
theorem apk (C:Cmp M A E s κ S R) {a b:Array Keyed} (T:Two S R a b) {Q:Array Keyed->SortSt->Prop} {st:SortSt} (hk:kindOf st = κ)
  (h:∀ m st',Eqv st st'->Fin2 R a b m->Q m st'):wpS M A E s (as9 a b) Q st:=by
 have SA:∀ i (h:i < a.size),S a[i]:=fun i h=>T.ha _ (by simp)
 have SB:∀ i (h:i < b.size),S b[i]:=fun i h=>T.hb _ (by simp)
 have b0:=T.b0
 have a0:=T.a0
 have la:a.size - 1 < a.size:=by omega
 refine wpS_bind (adk ?_)
 refine wpS_bind (aav (x:=a[a.size - 1]'la) (Array.getElem?_eq_getElem la) ?_)
 have l1:Hi S R a b #[a[a.size - 1]'la] (a.size - 1) b.size:=by
  have l0:Hi S R a b #[] a.size b.size:=⟨⟨by simp [List.take_of_length_le],List.Pairwise.nil,fun x hx y hy=>by simp at hy,ab9 T.sa,ab9 T.sb⟩,Nat.le_refl _,Nat.le_refl _⟩
  exact l0.pushA a0 fun x hx=>T.last x (List.mem_of_mem_take hx) _ (Array.getElem?_eq_getElem la)
 refine aan (fun e1=>wpS_pure (h _ _ (Eqv.refl _) (l1.doneA (.inl (beq_iff_eq.mp e1))))) (fun e1=>?_)
 refine aan (fun e2=>wpS_pure (h _ _ (Eqv.refl _) (l1.firstB T (beq_iff_eq.mp e2)))) (fun e2=>?_)
 replace e1:a.size - 1 ≠ 0:=fun q=>e1 (beq_iff_eq.mpr q)
 replace e2:b.size ≠ 1:=fun q=>e2 (beq_iff_eq.mpr q)
 refine wpS_bind (wpS_get ?_)
 have upA:∀ {na nb:Nat} (h1:0 < na) (h2:na<=a.size) (h3:0 < nb) (h4:nb<=b.size),R (b[nb - 1]'(by omega)) (a[na - 1]'(by omega))=true->∀ x∈b.toList.take nb,R (a[na - 1]'(by omega)) x=false:=fun {na nb} h1 h2 h3 h4 er x hx=>by
  have sx:S x:=T.hb x (List.mem_of_mem_take hx)
  have hs:Srt R (b.toList.take (nb - 1) ++ [b[nb - 1]'(by omega)]):=by rw [← ach h3 h4];exact ab9 T.sb
  rw [ach h3 h4] at hx
  exact C.tr _ _ _ sx (SB _ _) (SA _ _) (ad2 C hs (SB _ _) x hx) (C.asy _ _ (SB _ _) (SA _ _) er)
 have upB:∀ {na nb:Nat} (h1:0 < na) (h2:na<=a.size) (h3:0 < nb) (h4:nb<=b.size),R (b[nb - 1]'(by omega)) (a[na - 1]'(by omega))=false->∀ x∈a.toList.take na,R (b[nb - 1]'(by omega)) x=false:=fun {na nb} h1 h2 h3 h4 er x hx=>by
  have sx:S x:=T.ha x (List.mem_of_mem_take hx)
  have hs:Srt R (a.toList.take (na - 1) ++ [a[na - 1]'(by omega)]):=by rw [← ach h1 h2];exact ab9 T.sa
  rw [ach h1 h2] at hx
  exact C.tr _ _ _ sx (SA _ _) (SB _ _) (ad2 C hs (SA _ _) x hx) er
 refine wpS_bind (wpS_mono (Q:=fun (z:Option (Array Keyed) × Nat × Nat × Array Keyed × Nat) st'=>Eqv st st'/\∃ r,z.1=some r/\Fin2 R a b r) ?_ ?_)
 ·refine wpS_forRange (fun t (z:Option (Array Keyed) × Nat × Nat × Array Keyed × Nat) st'=>Eqv st st'/\z.1=none/\Hi S R a b z.2.2.2.1 z.2.1 z.2.2.1/\0 < z.2.1/\1 < z.2.2.1/\t+1<=z.2.2.2.1.size) ?_ ?_ ⟨Eqv.refl _,rfl,l1,by dsimp only;omega,by dsimp only;omega,by simp⟩
  ·intro t z st1 _ ht hI
   have q1:=hI.1
   refine un5 (J:=fun na nb out _=>Hi S R a b out na nb/\0 < na/\1 < nb/\t+1<=out.size) z hI.2 fun na nb out mg hJ=>?_
   dsimp only
   refine wpS_bind (wpS_mono (Q:=fun (z:Option (Array Keyed) × Nat × Nat × Array Keyed × Nat × Nat) st'=>Eqv st st'/\((∃ r,z.1=some r/\Fin2 R a b r)\/(z.1=none/\Hi S R a b z.2.2.2.1 z.2.1 z.2.2.1/\0 < z.2.1/\1 < z.2.2.1/\t+2<=z.2.2.2.1.size))) ?_ ?_)
   ·refine wpS_forRange (fun i (z:Option (Array Keyed) × Nat × Nat × Array Keyed × Nat × Nat) st'=>Eqv st st'/\z.1=none/\Hi S R a b z.2.2.2.1 z.2.1 z.2.2.1/\0 < z.2.1/\1 < z.2.2.1/\t+1+min i 1<=z.2.2.2.1.size) ?_ ?_ ⟨q1,rfl,hJ.1,hJ.2.1,hJ.2.2.1,hJ.2.2.2⟩
    ·intro i z st2 _ hi hI
     have q:=hI.1
     refine un6 (J:=fun na nb out _ _=>Hi S R a b out na nb/\0 < na/\1 < nb/\t+1+min i 1<=out.size) z hI.2 fun na nb out ac bc hJ=>?_
     have l:=hJ.1
     have hna:=hJ.2.1
     have hnb:=hJ.2.2.1
     have hsz:=hJ.2.2.2
     have ia:na - 1 < a.size:=by have:=l.na;omega
     have ib:nb - 1 < b.size:=by have:=l.nb;omega
     refine wpS_bind (aav (x:=b[nb - 1]) (Array.getElem?_eq_getElem ib) ?_)
     refine wpS_bind (aav (x:=a[na - 1]) (Array.getElem?_eq_getElem ia) ?_)
     refine wpS_bind (C.ask _ _ (SB _ ib) (SA _ ia) _ _ (q.k.trans hk) ?_)
     dsimp only
     refine aan (fun er=>?_) (fun er=>?_)
     ·refine wpS_bind (aav (x:=a[na - 1]) (Array.getElem?_eq_getElem ia) ?_)
      have l2:=l.pushA hna (upA hna l.na (by omega) l.nb er)
      refine aan (fun e3=>wpS_pure ⟨q,.inl ⟨_,rfl,l2.doneA (.inl (beq_iff_eq.mp e3))⟩⟩) (fun e3=>?_)
      have hf:0 < na - 1/\1 < nb/\t+2<=(out.push a[na - 1]).size:=by
       have e3':na - 1 ≠ 0:=fun q=>e3 (beq_iff_eq.mpr q)
       rw [Array.size_push];omega
      exact aan (fun _=>wpS_pure ⟨q,.inr ⟨rfl,l2,hf⟩⟩) (fun _=>wpS_pure ⟨q,rfl,l2,hf.1,hnb,Nat.le_trans (by omega) hf.2.2⟩)
     ·refine wpS_bind (aav (x:=b[nb - 1]) (Array.getElem?_eq_getElem ib) ?_)
      have l2:=l.pushB (by omega) (upB hna l.na (by omega) l.nb (eq_false_of_ne_true er))
      refine aan (fun e3=>wpS_pure ⟨q,.inl ⟨_,rfl,l2.firstB T (beq_iff_eq.mp e3)⟩⟩) (fun e3=>?_)
      have hf:1 < nb - 1/\t+2<=(out.push b[nb - 1]).size:=by
       have e3':nb - 1 ≠ 1:=fun q=>e3 (beq_iff_eq.mpr q)
       rw [Array.size_push];omega
      exact aan (fun _=>wpS_pure ⟨q,.inr ⟨rfl,l2,hna,hf⟩⟩) (fun _=>wpS_pure ⟨q,rfl,l2,hna,hf.1,Nat.le_trans (by omega) hf.2⟩)
    ·exact fun z st2 hI=>⟨hI.1,.inr ⟨hI.2.1,hI.2.2.1,hI.2.2.2.1,hI.2.2.2.2.1,Nat.le_trans (by omega) hI.2.2.2.2.2⟩⟩
   ·intro z st2 hI
    have q2:=hI.1
    refine unR (J:=fun y:Nat × Nat × Array Keyed × Nat × Nat=>Hi S R a b y.2.2.1 y.1 y.2.1/\0 < y.1/\1 < y.2.1/\t+2<=y.2.2.1.size) z hI.2 (fun r x hr=>wpS_pure ⟨q2,r,rfl,hr⟩) fun hN=>?_
    refine un6 (J:=fun na nb out _ _=>Hi S R a b out na nb/\0 < na/\1 < nb/\t+2<=out.size) z hN fun na nb out ac bc hJ=>?_
    dsimp only
    refine wpS_bind (adk ?_)
    refine wpS_bind (wpS_mono (Q:=fun (z:Option (Array Keyed) × Nat × Nat × Array Keyed × Nat × Nat × Nat) st'=>Eqv st st'/\((∃ r,z.1=some r/\Fin2 R a b r)\/(z.1=none/\Hi S R a b z.2.2.2.1 z.2.1 z.2.2.1/\0 < z.2.1/\1 < z.2.2.1/\t+2<=z.2.2.2.1.size))) ?_ ?_)
    ·refine wpS_forRange (fun i (z:Option (Array Keyed) × Nat × Nat × Array Keyed × Nat × Nat × Nat) st'=>Eqv st st'/\z.1=none/\Hi S R a b z.2.2.2.1 z.2.1 z.2.2.1/\0 < z.2.1/\1 < z.2.2.1/\t+2<=z.2.2.2.1.size) ?_ (fun z st2 hI=>⟨hI.1,.inr hI.2⟩) ⟨q2,rfl,hJ⟩
     intro i z st2 _ hi hI
     have q:=hI.1
     refine un7 (J:=fun na nb out _ _ _=>Hi S R a b out na nb/\0 < na/\1 < nb/\t+2<=out.size) z hI.2 fun na nb out mg ac bc hJ=>?_
     have l:=hJ.1
     have hna:=hJ.2.1
     have hnb:=hJ.2.2.1
     have hsz:=hJ.2.2.2
     have hna':=l.na
     have hnb':=l.nb
     have ib:nb - 1 < b.size:=by omega
     dsimp only
     refine' jpn (M:=M) (A:=A) (E:=E) (s:=s) (st:=st2) (β:=Nat) (P:=fun _=>True) (prog:=?prog) (fun JP=>?use) (fun mg' _=>?pf)
     case use =>
      refine aan (fun hm=>?_) (fun hm=>?_)
      ·generalize mg - 1=m
       exact JP m trivial
      ·exact JP mg trivial
     refine wpS_bind (wpS_mono (Q:=fun _ st3=>Eqv st2 st3) (wpS_modify ⟨rfl,rfl,rfl,rfl⟩) fun _ st3 q3=>?_)
     replace q3:=q.trans q3
     refine wpS_bind (aav (x:=b[nb - 1]) (Array.getElem?_eq_getElem ib) ?_)
     refine wpS_bind (afv C (SB _ ib) T.ha (by omega) (by rw [List.drop_zero];exact ab9 T.sa) (by omega) (q3.k.trans hk) fun k hk1 h1 h2=>?_)
     rw [List.drop_zero] at h1 h2
     dsimp only
     generalize hac:na - k=ac2
     refine' jpn2 (M:=M) (A:=A) (E:=E) (s:=s) (st:=st3) (P:=fun out2 na2=>Hi S R a b out2 na2 nb/\0 < na2/\(∀ x∈a.toList.take na2,R b[nb - 1] x=false)/\t+2<=out2.size) (prog:=?prog2) (fun JP=>?use2) (fun out2 na2 h5=>?pf2)
     case use2 =>
      refine aan (fun k0=>?_) (fun k0=>?_)
      ·have hsB:Srt R (b.toList.take (nb - 1) ++ [b[nb - 1]]):=by rw [← ach (by omega) hnb'];exact ab9 T.sb
       have l2:Hi S R a b (out ++ (a.extract k na).reverse) k nb:=l.runA hk1 fun x hx y hy=>by
        have sx:S x:=T.hb x (List.mem_of_mem_take hx)
        have sy:S y:=T.ha y (List.mem_of_mem_take (List.mem_of_mem_drop hy))
        rw [ach (by omega) hnb'] at hx
        exact C.tr _ _ _ sx (SB _ ib) sy (ad2 C hsB (SB _ ib) x hx) (C.asy _ _ (SB _ ib) sy (h2 y hy))
       refine aan (fun e3=>wpS_pure ⟨q3,.inl ⟨_,rfl,l2.doneA (.inl (beq_iff_eq.mp e3))⟩⟩) (fun e3=>?_)
       have hP:Hi S R a b (out ++ (a.extract k na).reverse) k nb/\0 < k/\(∀ x∈a.toList.take k,R b[nb - 1] x=false)/\t+2<=(out ++ (a.extract k na).reverse).size:=by
        have e3':k ≠ 0:=fun q=>e3 (beq_iff_eq.mpr q)
        exact ⟨l2,by omega,h1,by rw [Array.size_append];omega⟩
       revert hP
       clear e3 l2
       generalize out ++ (a.extract k na).reverse=out2
       generalize k=na2
       intro hP
       exact JP out2 na2 hP
      ·have:k=na:=by omega
       rw [this] at h1
       exact JP out na ⟨l,hna,h1,hsz⟩
     have l3:=h5.1
     have hna2:=h5.2.1
     have hle:=h5.2.2.1
     have hsz3:=h5.2.2.2
     have hna2':=l3.na
     have ia:na2 - 1 < a.size:=by omega
     refine wpS_bind (aav (x:=b[nb - 1]) (Array.getElem?_eq_getElem ib) ?_)
     have l4:=l3.pushB (by omega) hle
     refine aan (fun e5=>wpS_pure ⟨q3,.inl ⟨_,rfl,l4.firstB T (beq_iff_eq.mp e5)⟩⟩) (fun e5=>?_)
     replace e5:nb - 1 ≠ 1:=fun q=>e5 (beq_iff_eq.mpr q)
     refine wpS_bind (aav (x:=a[na2 - 1]) (Array.getElem?_eq_getElem ia) ?_)
     refine wpS_bind (ag1 C (SA _ ia) T.hb (by omega) (by rw [List.drop_zero];exact ab9 T.sb) (by omega) (q3.k.trans hk) fun k2 hk2 h3 h4=>?_)
     rw [List.drop_zero] at h3 h4
     dsimp only
     generalize hbc:nb - 1 - k2=bc2
     refine' jpn2 (M:=M) (A:=A) (E:=E) (s:=s) (st:=st3) (P:=fun out3 nb3=>Hi S R a b out3 na2 nb3/\1 < nb3/\(∀ x∈b.toList.take nb3,R a[na2 - 1] x=false)/\t+2<=out3.size) (prog:=?prog3) (fun JP=>?use3) (fun out3 nb3 h6=>?pf3)
     case use3 =>
      have hlt:∀ x∈b.toList.take k2,R a[na2 - 1] x=false:=fun x hx=>C.asy _ _ (T.hb x (List.mem_of_mem_take hx)) (SA _ ia) (h3 x hx)
      refine aan (fun k0=>?_) (fun k0=>?_)
      ·have hsA:Srt R (a.toList.take (na2 - 1) ++ [a[na2 - 1]]):=by rw [← ach hna2 hna2'];exact ab9 T.sa
       have l5:Hi S R a b (out2.push b[nb - 1] ++ (b.extract k2 (nb - 1)).reverse) na2 k2:=l4.runB hk2 fun x hx y hy=>by
        have sx:S x:=T.ha x (List.mem_of_mem_take hx)
        have sy:S y:=T.hb y (List.mem_of_mem_take (List.mem_of_mem_drop hy))
        rw [ach hna2 hna2'] at hx
        exact C.tr _ _ _ sx (SA _ ia) sy (ad2 C hsA (SA _ ia) x hx) (h4 y hy)
       refine aan (fun e6=>wpS_pure ⟨q3,.inl ⟨_,rfl,l5.firstB T (beq_iff_eq.mp e6)⟩⟩) (fun e6=>?_)
       refine aan (fun e7=>wpS_pure ⟨q3,.inl ⟨_,rfl,l5.doneA (.inr (beq_iff_eq.mp e7))⟩⟩) (fun e7=>?_)
       have hP:Hi S R a b (out2.push b[nb - 1] ++ (b.extract k2 (nb - 1)).reverse) na2 k2/\1 < k2/\(∀ x∈b.toList.take k2,R a[na2 - 1] x=false)/\t+2<=(out2.push b[nb - 1] ++ (b.extract k2 (nb - 1)).reverse).size:=by
        have e6':k2 ≠ 1:=fun q=>e6 (beq_iff_eq.mpr q)
        have e7':k2 ≠ 0:=fun q=>e7 (beq_iff_eq.mpr q)
        exact ⟨l5,by omega,hlt,by rw [Array.size_append,Array.size_push];omega⟩
       revert hP
       clear e6 e7 l5
       generalize out2.push b[nb - 1] ++ (b.extract k2 (nb - 1)).reverse=out3
       generalize k2=nb3
       intro hP
       exact JP out3 nb3 hP
      ·have:k2=nb - 1:=by omega
       rw [this] at hlt
       exact JP (out2.push b[nb - 1]) (nb - 1) ⟨l4,by omega,hlt,by rw [Array.size_push];omega⟩
     refine wpS_bind (aav (x:=a[na2 - 1]) (Array.getElem?_eq_getElem ia) ?_)
     have l7:=h6.1.pushA hna2 h6.2.2.1
     refine aan (fun e7=>wpS_pure ⟨q3,.inl ⟨_,rfl,l7.doneA (.inl (beq_iff_eq.mp e7))⟩⟩) (fun e7=>?_)
     have hf:0 < na2 - 1/\1 < nb3/\t+2<=(out3.push a[na2 - 1]).size:=by
      have e7':na2 - 1 ≠ 0:=fun q=>e7 (beq_iff_eq.mpr q)
      have h7:=h6.2.2.2
      exact ⟨by omega,h6.2.1,by rw [Array.size_push];omega⟩
     exact aan (fun _=>wpS_pure ⟨q3,.inr ⟨rfl,l7,hf⟩⟩) (fun _=>wpS_pure ⟨q3,rfl,l7,hf⟩)
    ·intro z st2 hI
     have q2:=hI.1
     refine unR (J:=fun y:Nat × Nat × Array Keyed × Nat × Nat × Nat=>Hi S R a b y.2.2.1 y.1 y.2.1/\0 < y.1/\1 < y.2.1/\t+2<=y.2.2.1.size) z hI.2 (fun r x hr=>wpS_pure ⟨q2,r,rfl,hr⟩) fun hN=>?_
     refine un7 (J:=fun na nb out _ _ _=>Hi S R a b out na nb/\0 < na/\1 < nb/\t+2<=out.size) z hN fun na nb out mg ac bc hJ=>?_
     dsimp only
     refine wpS_bind (wpS_modify ?_)
     exact wpS_pure ⟨q2.trans ⟨rfl,rfl,rfl,rfl⟩,rfl,hJ⟩
  ·intro z st2 hI
   exfalso
   have h1:=hI.2.2.1.len
   have h2:=hI.2.2.2
   have:a.size+b.size<=max 0 (a.size+b.size):=by omega
   omega
 ·intro z st2 hI
  have q2:=hI.1
  exact unR (J:=fun _=>False) z (.inl hI.2) (fun r x hr=>wpS_pure (h r st2 q2 hr)) fun hN=>hN.2.elim
end
theorem ajf (base:Nat):∀ (ms v u w:List Keyed) (j:Nat) (xs:Array Keyed),xs.toList=u ++ v ++ w->v.length=ms.length->u.length=base+j ->
  ((ms.zipIdx j).foldl (fun a x=>match x with | (p,j)=>a.setIfInBounds (base+j) p) xs).toList=u ++ ms ++ w
 | [],v,u,w,j,xs,h1,h2,h3=>by
  have:v=[]:=List.eq_nil_of_length_eq_zero h2
  subst this
  exact h1
 | m :: ms,v,u,w,j,xs,h1,h2,h3=>by
  cases v with
  | nil=>cases h2
  | cons y v =>
   rw [List.zipIdx_cons,List.foldl_cons]
   have ih:=ajf base ms v (u ++ [m]) w (j+1) (xs.setIfInBounds (base+j) m) (by
    rw [Array.toList_setIfInBounds,h1,← h3]
    simp [List.set_append]) (by simpa using h2) (by simp [h3];omega)
   rw [ih]
   simp
section
variable {M:Model} {A:Around} {E:Value->Shared->Prop} {s:Shared} {κ:SortKind} {S:Keyed->Prop} {R:Keyed->Keyed->Bool}
theorem avz {σ:Type} {st st' : σ} {Q:PUnit->σ->Prop} (h:Q ⟨⟩ st'):wpS M A E s (set st':StateT σ Sem PUnit) Q st:=by
 unfold wpS
 rw [StateT.run_set]
 exact wpAny_pure ⟨rfl,h⟩
theorem apl (C:Cmp M A E s κ S R) {st:SortSt} {i pw pw2:Nat} {pre a b post:List Keyed} (hx:(arrOf st).toList=pre ++ a ++ b ++ post) (hS:∀ x∈(arrOf st).toList,S x)
  (hp1:(pendingOf st)[i]?=some (pre.length,a.length,pw)) (hp2:(pendingOf st)[i+1]?=some (pre.length+a.length,b.length,pw2)) (na:a ≠ []) (nb:b ≠ []) (sA:Srt R a) (sB:Srt R b) (hk:kindOf st = κ) (hf:failedOf st=none)
  {Q:Bool->SortSt->Prop}
  (h:∀ st' m,kindOf st' = κ->failedOf st'=none->pendingOf st'=((pendingOf st).setIfInBounds i (pre.length,a.length+b.length,pw)).eraseIdxIfInBounds (i+1)->(arrOf st').toList=pre ++ m ++ post->m.Perm (a ++ b)->Srt R m->Q true st') :
  wpS M A E s (ak9 i) Q st:=by
 have la:0 < a.length:=List.length_pos_iff.mpr na
 have lb:0 < b.length:=List.length_pos_iff.mpr nb
 have Sa:∀ x∈a,S x:=fun x hx'=>hS x (by rw [hx];simp [hx'])
 have Sb:∀ x∈b,S x:=fun x hx'=>hS x (by rw [hx];simp [hx'])
 have lx:(arrOf st).size=pre.length+a.length+b.length+post.length:=by
  have:=congrArg List.length hx
  simp at this
  omega
 have segA:((arrOf st).toList.drop pre.length).take a.length=a:=by rw [hx];simp [List.append_assoc]
 have segB:((arrOf st).toList.drop (pre.length+a.length)).take b.length=b:=by
  rw [show pre.length+a.length=(pre ++ a).length by simp,hx,List.append_assoc (pre ++ a),List.drop_left,List.take_left]
 refine wpS_bind (wpS_get ?_)
 rw [hp1,hp2]
 refine wpS_bind (wpS_mono (Q:=fun _ st1=>kindOf st1 = κ/\failedOf st1=none/\arrOf st1=arrOf st/\pendingOf st1=((pendingOf st).setIfInBounds i (pre.length,a.length+b.length,pw)).eraseIdxIfInBounds (i+1)) (avz ⟨hk,hf,rfl,rfl⟩) fun _ st1 ⟨k1,f1,a1,p1⟩=>?_)
 obtain ⟨b0,bt,eb⟩:∃ b0 bt,b=b0 :: bt:=by cases b with | nil=>exact absurd rfl nb | cons x r=>exact ⟨x,r,rfl⟩
 have eb0:(arrOf st)[pre.length+a.length]?=some b0:=by
  rw [← Array.getElem?_toList,hx,eb]
  simp [List.getElem?_append]
 have Sb0:S b0:=Sb b0 (by rw [eb];simp)
 have b0le:∀ y∈b,R y b0=false:=fun y hy=>by rw [eb] at hy sB;exact aej C sB Sb0 y hy
 -- nothing is laid together: the two stand in order already
 have plain:(∀ x∈a,∀ y∈b,R y x=false)->∀ st',Eqv st1 st'->Q true st':=fun hc st' q=>by
  refine h st' (a ++ b) (q.k.trans k1) (q.f.trans f1) (q.p.trans p1) ?_ (List.Perm.refl _) (List.pairwise_append.mpr ⟨sA,sB,hc⟩)
  rw [q.a,a1,hx]
  simp [List.append_assoc]
 refine wpS_bind (aav eb0 ?_)
 refine wpS_bind (afv C Sb0 hS (by omega) (by rw [segA];exact sA) la k1 fun k hk1 h1 h2=>?_)
 rw [segA] at h2
 have h1':∀ x∈a.take k,R b0 x=false:=fun x hx'=>h1 x (by
  have:((arrOf st).toList.drop pre.length).take k=a.take k:=by rw [← segA,List.take_take,Nat.min_eq_left hk1]
  rw [this];exact hx')
 dsimp only
 refine aan (fun e=>?_) (fun e=>?_)
 ·have e':a.length - k=0:=by simpa using e
  refine wpS_pure (plain (fun x hx' y hy=>?_) st1 (Eqv.refl _))
  have:a.take k=a:=List.take_of_length_le (by omega)
  rw [this] at h1'
  exact C.tr x b0 y (Sa x hx') Sb0 (Sb y hy) (h1' x hx') (b0le y hy)
 ·have e':a.length - k ≠ 0:=by simpa using e
  -- the last of a
  have hlast:pre.length+k+(a.length - k) - 1=pre.length+(a.length - 1):=by omega
  have lt1:a.length - 1 < a.length:=by omega
  have ela:(arrOf st)[pre.length+k+(a.length - k) - 1]?=some (a[a.length - 1]'lt1):=by
   rw [← Array.getElem?_toList,hx,hlast]
   simp [List.getElem?_append,lt1,List.append_assoc]
  have Sl:S (a[a.length - 1]'lt1):=Sa _ (List.getElem_mem lt1)
  have split_a:a=a.take (a.length - 1) ++ [a[a.length - 1]'lt1]:=by
   have:=List.take_succ (l:=a) (i:=a.length - 1)
   rw [show a.length - 1+1=a.length by omega,List.take_length] at this
   simpa [lt1] using this
  have lele:∀ x∈a,R (a[a.length - 1]'lt1) x=false:=fun x hx'=>by
   have hs:Srt R (a.take (a.length - 1) ++ [a[a.length - 1]'lt1]):=by rw [← split_a];exact sA
   exact ad2 C hs Sl x (by rw [← split_a];exact hx')
  refine wpS_bind (aav ela ?_)
  refine wpS_bind (ag1 C Sl hS (by omega) (by rw [segB];exact sB) (by omega) k1 fun j hj1 h3 h4=>?_)
  rw [segB] at h4
  have tkB:((arrOf st).toList.drop (pre.length+a.length)).take j=b.take j:=by rw [← segB,List.take_take,Nat.min_eq_left hj1]
  rw [tkB] at h3
  dsimp only
  refine aan (fun e2=>?_) (fun e2=>?_)
  ·have e2':j=0:=by simpa using e2
   subst e2'
   refine wpS_pure (plain (fun x hx' y hy=>?_) st1 (Eqv.refl _))
   exact C.tr x _ y (Sa x hx') Sl (Sb y hy) (lele x hx') (h4 y (by simpa using hy))
  ·have e2':j ≠ 0:=by simpa using e2
   have ex:((arrOf st).extract (pre.length+k) (pre.length+a.length)).toList=a.drop k:=by
    rw [ala,hx]
    simp [List.append_assoc,List.take_append,List.drop_append]
   have ey:((arrOf st).extract (pre.length+a.length) (pre.length+a.length+j)).toList=b.take j:=by
    rw [aij,tkB]
   generalize hX:(arrOf st).extract (pre.length+k) (pre.length+a.length)=X at ex
   generalize hY:(arrOf st).extract (pre.length+a.length) (pre.length+a.length+j)=Y at ey
   have sX:X.size=a.length - k:=by have:=congrArg List.length ex;simpa using this
   have sY:Y.size=j:=by have:=congrArg List.length ey;simp at this;omega
   have T:Two S R X Y:=by
    refine ⟨fun x hx'=>Sa x (List.mem_of_mem_drop (by rw [← ex];exact hx')),fun x hx'=>Sb x (List.mem_of_mem_take (by rw [← ey];exact hx')),by rw [ex];exact acr sA,by rw [ey];exact ab9 sB,by omega,by omega,fun x hx' y hy=>?_,fun y hy x hx'=>?_⟩
    ·rw [← Array.getElem?_toList,ey,eb] at hy
     have:y=b0:=by
      obtain ⟨j',rfl⟩:∃ j',j=j'+1:=⟨j - 1,by omega⟩
      simpa using hy.symm
     rw [this]
     rw [ex] at hx'
     exact C.asy _ _ Sb0 (Sa x (List.mem_of_mem_drop hx')) (h2 x hx')
    ·rw [← Array.getElem?_toList,ex,sX] at hx'
     rw [List.getElem?_drop,show k+(a.length - k - 1)=a.length - 1 by omega,List.getElem?_eq_getElem lt1] at hx'
     cases hx'
     rw [ey] at hy
     exact C.asy _ _ (Sb y (List.mem_of_mem_take hy)) Sl (h3 y hy)
   have fin:∀ (m:Array Keyed) (st':SortSt),Eqv st1 st'->Fin2 R X Y m->wpS M A E s (do
     modify fun (z:SortSt)=>setArr z (List.foldl (fun a x=>match x with | (p,j)=>a.setIfInBounds (pre.length+k+j) p) (arrOf z) m.toList.zipIdx)
     let z ← get
     pure (failedOf z).isNone) Q st':=by
    intro m st' q ⟨mp,ms⟩
    rw [ex,ey] at mp
    refine wpS_bind (wpS_modify ?_)
    refine wpS_bind (wpS_get ?_)
    refine wpS_pure ?_
    show Q (failedOf st').isNone _
    rw [q.f,f1]
    have lm:m.toList.length=(a.drop k).length+(b.take j).length:=by rw [mp.length_eq,List.length_append]
    have memM:∀ z∈m.toList,z∈a.drop k\/z∈b.take j:=fun z hz=>List.mem_append.mp (mp.mem_iff.mp hz)
    refine h _ (a.take k ++ m.toList ++ b.drop j) (q.k.trans k1) (q.f.trans f1) (q.p.trans p1) ?_ ?_ ?_
    ·show (List.foldl _ (arrOf st') m.toList.zipIdx).toList=_
     have base:(arrOf st').toList=(pre ++ a.take k) ++ (a.drop k ++ b.take j) ++ (b.drop j ++ post):=by
      rw [q.a,a1,hx]
      have t1:=List.take_append_drop k a
      have t2:=List.take_append_drop j b
      calc pre ++ a ++ b ++ post=pre ++ (a.take k ++ a.drop k) ++ (b.take j ++ b.drop j) ++ post:=by rw [t1,t2]
       _=_:=by simp only [List.append_assoc]
     have:=ajf (pre.length+k) m.toList (a.drop k ++ b.take j) (pre ++ a.take k) (b.drop j ++ post) 0 (arrOf st') base (by rw [List.length_append,lm]) (by rw [List.length_append,List.length_take];omega)
     rw [this]
     simp only [List.append_assoc]
    ·have t1:=List.take_append_drop k a
     have t2:=List.take_append_drop j b
     calc (a.take k ++ m.toList ++ b.drop j).Perm (a.take k ++ (a.drop k ++ b.take j) ++ b.drop j):=List.Perm.append_right _ (List.Perm.append_left _ mp)
      _ = a ++ b:=by
       simp only [List.append_assoc]
       rw [t2,← List.append_assoc,t1]
    ·have sa2:Srt R (a.take k ++ a.drop k):=by rw [List.take_append_drop];exact sA
     have sb2:Srt R (b.take j ++ b.drop j):=by rw [List.take_append_drop];exact sB
     have ca:=(List.pairwise_append.mp sa2).2.2
     have cb:=(List.pairwise_append.mp sb2).2.2
     refine List.pairwise_append.mpr ⟨List.pairwise_append.mpr ⟨ab9 sA,ms,fun x hx' y hy=>?_⟩,acr sB,fun x hx' y hy=>?_⟩
     ·rcases memM y hy with hy | hy
      ·exact ca x hx' y hy
      ·exact C.tr x b0 y (Sa x (List.mem_of_mem_take hx')) Sb0 (Sb y (List.mem_of_mem_take hy)) (h1' x hx') (b0le y (List.mem_of_mem_take hy))
     ·have Sy:=Sb y (List.mem_of_mem_drop hy)
      rcases List.mem_append.mp hx' with hx' | hx'
      ·exact C.tr x b0 y (Sa x (List.mem_of_mem_take hx')) Sb0 Sy (h1' x hx') (b0le y (List.mem_of_mem_drop hy))
      ·rcases memM x hx' with hx' | hx'
       ·exact C.tr x _ y (Sa x (List.mem_of_mem_drop hx')) Sl Sy (lele x (List.mem_of_mem_drop hx')) (h4 y hy)
       ·exact cb x hx' y hy
   refine aan (fun e3=>?_) (fun e3=>?_)
   ·exact wpS_bind (apj C T k1 fun m st' q fm=>fin m st' q fm)
   ·exact wpS_bind (apk C T k1 fun m st' q fm=>fin m st' q fm)
end
noncomputable def e (xs:Array Keyed) (k:Nat):Keyed:=(xs[k]?).getD (.none,.none)
theorem aho {xs:Array Keyed} {k:Nat} (h:k < xs.size):xs[k]?=some (e xs k):=by
 unfold e;rw [Array.getElem?_eq_getElem h];rfl
def Asc (R:Keyed->Keyed->Bool) (xs:Array Keyed) (l h:Nat):Prop:=∀ i j,l<=i->i<=j->j < h->R (e xs j) (e xs i)=false
def Des (R:Keyed->Keyed->Bool) (xs:Array Keyed) (l h:Nat):Prop:=∀ i j,l<=i->i<=j->j < h->R (e xs i) (e xs j)=false
structure Bs (κ:SortKind) (p0:Array (Nat × Nat × Nat)) (a0:Array Keyed) (lo:Nat) (st:SortSt):Prop where
 k:kindOf st = κ
 f:failedOf st=none
 p:pendingOf st=p0
 perm:(arrOf st).toList.Perm a0.toList
 pre:∀ k,k < lo->(arrOf st)[k]?=a0[k]?
theorem atb {xs:Array Keyed} {src d:Nat} (hs:src < xs.size) (hd:d<=src) (k:Nat):e (bubble xs src d) k=if k=src - d then e xs src else if src - d < k/\k<=src then e xs (k - 1) else e xs k:=by
 unfold e
 rw [getElem?_bubble hs d hd]
 repeat' split
 all_goals rfl
theorem acx {xs:Array Keyed} {i j:Nat} (hj:j<=xs.size) (k:Nat):e (mirror xs i j ((j - i) / 2)) k=if i<=k/\k < j then e xs (i+j - 1 - k) else e xs k:=by
 unfold e
 rw [getElem?_mirror_all hj]
 split <;> rfl
section
variable {M:Model} {A:Around} {E:Value->Shared->Prop} {s:Shared} {κ:SortKind} {S:Keyed->Prop} {R:Keyed->Keyed->Bool} {p0:Array (Nat × Nat × Nat)} {a0:Array Keyed} {lo:Nat}
theorem Bs.size {st:SortSt} (B:Bs κ p0 a0 lo st):(arrOf st).size=a0.size:=by
 have:=B.perm.length_eq
 simpa using this
theorem Bs.sat {st:SortSt} (B:Bs κ p0 a0 lo st) (hS:∀ x∈a0.toList,S x) {k:Nat} (hk:k < a0.size):S (e (arrOf st) k):=by
 have h:=aho (xs:=arrOf st) (k:=k) (by rw [B.size];exact hk)
 refine hS _ (B.perm.mem_iff.mp ?_)
 rw [← Array.getElem?_toList] at h
 exact List.mem_of_getElem? h
theorem afw (C:Cmp M A E s κ S R) (hS:∀ x∈a0.toList,S x) {st:SortSt} (B:Bs κ p0 a0 lo st) {i j:Nat} (hi:i < a0.size) (hj:j < a0.size) {Q:Option Bool->SortSt->Prop} (h:Q (some (R (e (arrOf st) i) (e (arrOf st) j))) st) :
  wpS M A E s (ltAt' i j) Q st:=by
 rw [ltAt'_eq]
 refine wpS_bind (wpS_get ?_)
 refine wpS_bind (aav (aho (by rw [B.size];exact hi)) ?_)
 refine wpS_bind (aav (aho (by rw [B.size];exact hj)) ?_)
 exact C.ask _ _ (B.sat hS hi) (B.sat hS hj) _ _ B.k h
theorem atc (C:Cmp M A E s κ S R) {xs:Array Keyed} {l h:Nat} (hS:∀ k,k<=h->S (e xs k)) (hl:l < h) (a:Asc R xs l h) (n:R (e xs h) (e xs (h - 1))=false):Asc R xs l (h+1):=by
 intro i j h1 h2 h3
 by_cases hj:j=h
 ·subst hj
  by_cases hi:i=j
  ·subst hi;exact C.irr (hS _ (Nat.le_refl _))
  ·exact C.tr _ (e xs (j - 1)) _ (hS _ (by omega)) (hS _ (by omega)) (hS _ (by omega)) (a i (j - 1) h1 (by omega) (by omega)) n
 ·exact a i j h1 h2 (by omega)
theorem afe (C:Cmp M A E s κ S R) {xs:Array Keyed} {l h:Nat} (hS:∀ k,k<=h->S (e xs k)) (hl:l < h) (a:Des R xs l h) (n:R (e xs (h - 1)) (e xs h)=false):Des R xs l (h+1):=by
 intro i j h1 h2 h3
 by_cases hj:j=h
 ·subst hj
  by_cases hi:i=j
  ·subst hi;exact C.irr (hS _ (Nat.le_refl _))
  ·exact C.tr _ (e xs (j - 1)) _ (hS _ (by omega)) (hS _ (by omega)) (hS _ (by omega)) n (a i (j - 1) h1 (by omega) (by omega))
 ·exact a i j h1 h2 (by omega)
theorem Bs.set {st:SortSt} (B:Bs κ p0 a0 lo st) {xs:Array Keyed} (hp:xs.Perm (arrOf st)) (hl:∀ k,k < lo->xs[k]?=(arrOf st)[k]?):Bs κ p0 a0 lo (setArr st xs) :=
 ⟨B.k,B.f,B.p,hp.toList.trans B.perm,fun k hk=>(hl k hk).trans (B.pre k hk)⟩
theorem apm (C:Cmp M A E s κ S R) (hS:∀ x∈a0.toList,S x) {st:SortSt} (B:Bs κ p0 a0 lo st) {n ok:Nat} (hn:lo+n<=a0.size) (hok:ok<=n) (h1:1<=n) (hs:Asc R (arrOf st) lo (lo+ok)) {Q:Bool->SortSt->Prop}
  (h:∀ st',Bs κ p0 a0 lo st'->Asc R (arrOf st') lo (lo+n)->Q true st'):wpS M A E s (ata lo n ok) Q st:=by
 refine wpS_bind (wpS_mono (Q:=fun (z:Option Bool × Unit) st'=>z.1=none/\Bs κ p0 a0 lo st'/\Asc R (arrOf st') lo (lo+n)) ?_ ?_)
 ·refine wpS_forRange (fun k (z:Option Bool × Unit) st'=>z.1=none/\Bs κ p0 a0 lo st'/\Asc R (arrOf st') lo (lo+k)) ?_ ?_ ⟨rfl,B,fun i j q1 q2 q3=>?_⟩
  ·rintro k ⟨o,_⟩ st1 hk1 hk2 ⟨rfl,B1,as⟩
   have SE:∀ j,j < lo+n->S (e (arrOf st1) j):=fun j hj=>B1.sat hS (by omega)
   refine wpS_bind (wpS_mono (Q:=fun (z:Option Bool × Nat × Nat) st'=>st'=st1/\z.1=none/\z.2.1<=k/\(∀ i,i < z.2.1->R (e (arrOf st1) (lo+k)) (e (arrOf st1) (lo+i))=false)/\(∀ i,z.2.1<=i->i < k->R (e (arrOf st1) (lo+k)) (e (arrOf st1) (lo+i))=true)) ?_ ?_)
   ·refine wpS_forRange (fun t (z:Option Bool × Nat × Nat) st'=>st'=st1/\z.1=none/\z.2.1<=z.2.2/\z.2.2<=k/\z.2.2 - z.2.1+t<=k/\(∀ i,i < z.2.1->R (e (arrOf st1) (lo+k)) (e (arrOf st1) (lo+i))=false)/\(∀ i,z.2.2<=i->i < k->R (e (arrOf st1) (lo+k)) (e (arrOf st1) (lo+i))=true)) ?_ ?_
     ⟨rfl,rfl,Nat.zero_le _,Nat.le_refl _,by dsimp only;omega,fun i hi=>absurd hi (Nat.not_lt_zero _),fun i q1 q2=>by dsimp only at q1;omega⟩
    ·rintro t ⟨o,l,r⟩ st2 _ ht ⟨rfl,eo,q1,q2,q3,q4,q5⟩
     dsimp only at eo q1 q2 q3 q4 q5 ⊢
     subst eo
     refine aan (fun hlr=>?_) (fun hlr=>?_)
     ·have:l=r:=by omega
      subst this
      exact wpS_pure ⟨rfl,rfl,q2,q4,q5⟩
     ·have hm:(l+r) / 2 < r:=by omega
      have hm2:l<=(l+r) / 2:=by omega
      refine wpS_bind (afw C hS B1 (by omega) (by omega) ?_)
      dsimp only
      cases er:R (e (arrOf st2) (lo+k)) (e (arrOf st2) (lo+(l+r) / 2)) with
      | true =>
       rw [if_pos rfl]
       refine wpS_pure ⟨rfl,rfl,hm2,by dsimp only;omega,by dsimp only;omega,q4,fun i i1 i2=>?_⟩
       dsimp only at i1
       cases e2:R (e (arrOf st2) (lo+k)) (e (arrOf st2) (lo+i)) with
       | true=>rfl
       | false =>
        have:=C.tr _ _ _ (SE _ (by omega)) (SE _ (by omega)) (SE _ (by omega)) (as (lo+(l+r) / 2) (lo+i) (by omega) (by omega) (by omega)) e2
        rw [this] at er;cases er
      | false =>
       rw [if_neg (by decide)]
       refine wpS_pure ⟨rfl,rfl,by dsimp only;omega,q2,by dsimp only;omega,fun i i1=>?_,q5⟩
       dsimp only at i1
       exact C.tr _ _ _ (SE _ (by omega)) (SE _ (by omega)) (SE _ (by omega)) (as (lo+i) (lo+(l+r) / 2) (by omega) (by omega) (by omega)) er
    ·rintro ⟨o,l,r⟩ st2 ⟨rfl,eo,q1,q2,q3,q4,q5⟩
     dsimp only at eo q1 q2 q3 q4 q5 ⊢
     have : l = r := by have:k ≤ max 0 k := by omega
                        omega
     subst this
     exact ⟨rfl,eo,q2,q4,q5⟩
   ·rintro ⟨o,l,r⟩ st2 ⟨rfl,eo,q1,q4,q5⟩
    dsimp only at eo q1 q4 q5 ⊢
    subst eo
    dsimp only
    have hsz:lo+k < (arrOf st2).size:=by rw [B1.size];omega
    have hd:(lo+k) - (lo+l)=k - l:=by omega
    refine wpS_bind (wpS_modify ?_)
    have eb:∀ j,e (bubble (arrOf st2) (lo+k) (lo+k - (lo+l))) j=if j=lo+l then e (arrOf st2) (lo+k) else if lo+l < j/\j<=lo+k then e (arrOf st2) (j - 1) else e (arrOf st2) j:=fun j=>by
     rw [atb hsz (by omega),show lo+k - (lo+k - (lo+l))=lo+l by omega]
    refine wpS_pure ⟨rfl,B1.set (bubble_perm _ _ _) (fun j hj=>?_),fun i j i1 i2 i3=>?_⟩
    ·show (bubble (arrOf st2) (lo+k) (lo+k - (lo+l)))[j]?=_
     rw [getElem?_bubble hsz _ (by omega),if_neg (by omega),if_neg (by omega)]
    ·show R (e (bubble (arrOf st2) (lo+k) (lo+k - (lo+l))) j) (e (bubble (arrOf st2) (lo+k) (lo+k - (lo+l))) i)=false
     rw [eb,eb]
     have SE':∀ j,j < lo+n->S (e (arrOf st2) j):=SE
     by_cases j1:j=lo+l
     ·rw [if_pos j1]
      by_cases i4:i=lo+l
      ·rw [if_pos i4];exact C.irr (SE _ (by omega))
      ·rw [if_neg i4,if_neg (by omega)]
       have:=q4 (i - lo) (by omega)
       rw [show lo+(i - lo)=i by omega] at this
       exact this
     ·rw [if_neg j1]
      by_cases j2:lo+l < j/\j<=lo+k
      ·rw [if_pos j2]
       have gt:=q5 (j - 1 - lo) (by omega) (by omega)
       rw [show lo+(j - 1 - lo)=j - 1 by omega] at gt
       by_cases i4:i=lo+l
       ·rw [if_pos i4];exact C.asy _ _ (SE _ (by omega)) (SE _ (by omega)) gt
       ·rw [if_neg i4]
        by_cases i5:lo+l < i/\i<=lo+k
        ·rw [if_pos i5];exact as (i - 1) (j - 1) (by omega) (by omega) (by omega)
        ·rw [if_neg i5];exact as i (j - 1) (by omega) (by omega) (by omega)
      ·rw [if_neg j2,if_neg (by omega),if_neg (by omega)]
       exact as i j (by omega) (by omega) (by omega)
  ·rintro ⟨o,_⟩ st1 ⟨eo,B1,as⟩
   exact ⟨eo,B1,fun i j i1 i2 i3=>as i j i1 i2 (by omega)⟩
  ·by_cases hj:j < lo+ok
   ·exact hs i j q1 q2 hj
   ·have:i=j:=by omega
    subst this
    exact C.irr (B.sat hS (by omega))
 ·rintro ⟨o,_⟩ st1 ⟨eo,B1,as⟩
  dsimp only at eo ⊢
  subst eo
  exact wpS_pure (h st1 B1 as)
end
def Eqb (R:Keyed->Keyed->Bool) (xs:Array Keyed) (l h:Nat):Prop:=∀ i j,l<=i->i < h->l<=j->j < h->R (e xs i) (e xs j)=false
section
variable {M:Model} {A:Around} {E:Value->Shared->Prop} {s:Shared} {κ:SortKind} {S:Keyed->Prop} {R:Keyed->Keyed->Bool} {p0:Array (Nat × Nat × Nat)} {a0:Array Keyed} {lo:Nat}
theorem an5 {α:Type} {prog:StateT SortSt Sem α} {P:SortSt->Prop} {Q : α->SortSt->Prop} {G:Prop} (use:(∀ st,P st->wpS M A E s prog Q st)->G) (pf:∀ st,P st->wpS M A E s prog Q st):G:=use pf
theorem alb (C:Cmp M A E s κ S R) (hS:∀ x∈a0.toList,S x) {st:SortSt} (B:Bs κ p0 a0 lo st) {a nrem:Nat} (h1:1<=a) (h2:a<=nrem) (hn:lo+nrem<=a0.size) (as:Asc R (arrOf st) lo (lo+a)) {Q:Option (Option Nat) × Nat->SortSt->Prop}
  (h:∀ n,a<=n->n<=nrem->Asc R (arrOf st) lo (lo+n)->(n < nrem->R (e (arrOf st) (lo+n)) (e (arrOf st) (lo+n - 1))=true)->Q (none,n) st) :
  wpS M A E s (forIn [a:nrem] ((none,a):Option (Option Nat) × Nat) (fun (_:Nat) z=>ltAt' (lo+z.2) (lo+z.2 - 1) >>= fun x=>match x with
   | some smaller=>if smaller=true then pure (ForInStep.done (none,z.2)) else pure (ForInStep.yield (none,z.2+1))
   | _=>pure (ForInStep.done (some none,z.2)))) Q st:=by
 refine wpS_forRange (fun t (z:Option (Option Nat) × Nat) st'=>st'=st/\z=(none,t)/\Asc R (arrOf st) lo (lo+t)) ?_ ?_ ⟨rfl,rfl,as⟩
 ·rintro t ⟨o,n⟩ st1 t1 t2 ⟨rfl,ez,as1⟩
  cases ez
  dsimp only
  refine wpS_bind (afw C hS B (by omega) (by omega) ?_)
  dsimp only
  cases er:R (e (arrOf st1) (lo+t)) (e (arrOf st1) (lo+t - 1)) with
  | true =>
   rw [if_pos rfl]
   exact wpS_pure (h t t1 (by omega) as1 fun _=>er)
  | false =>
   rw [if_neg (by decide)]
   exact wpS_pure ⟨rfl,rfl,atc C (h:=lo+t) (fun k hk=>B.sat hS (by omega)) (by omega) as1 er⟩
 ·rintro ⟨o,n⟩ st1 ⟨rfl,ez,as1⟩
  cases ez
  rw [show max a nrem=nrem by omega] at as1 ⊢
  exact h nrem h2 (Nat.le_refl _) as1 fun z=>absurd z (Nat.lt_irrefl _)
theorem atd (C:Cmp M A E s κ S R) {st:SortSt} (B:Bs κ p0 a0 lo st) {n:Nat} (hn:lo+n<=a0.size) (de:Des R (arrOf st) lo (lo+n)) :
  Bs κ p0 a0 lo (setArr st (mirror (arrOf st) lo (lo+n) ((lo+n - lo) / 2)))/\Asc R (mirror (arrOf st) lo (lo+n) ((lo+n - lo) / 2)) lo (lo+n):=by
 have hz:lo+n<=(arrOf st).size:=by rw [B.size];exact hn
 refine ⟨B.set (mirror_perm _ _ _ _) (fun k hk=>by rw [getElem?_mirror_all hz,if_neg (by omega)]),fun i j h1 h2 h3=>?_⟩
 rw [acx hz,acx hz,if_pos (by omega),if_pos (by omega)]
 exact de _ _ (by omega) (by omega) (by omega)
theorem aik (C:Cmp M A E s κ S R) (hS:∀ x∈a0.toList,S x) {st:SortSt} (B:Bs κ p0 a0 lo st) {l h m:Nat} (hl:lo<=l) (hh:h<=a0.size) (hm:h<=m) (hm2:m<=a0.size) (de:Des R (arrOf st) lo m) (eq:Eqb R (arrOf st) l h) :
  Bs κ p0 a0 lo (setArr st (mirror (arrOf st) l h ((h - l) / 2)))/\Des R (mirror (arrOf st) l h ((h - l) / 2)) lo m:=by
 have hz:h<=(arrOf st).size:=by rw [B.size];exact hh
 refine ⟨B.set (mirror_perm _ _ _ _) (fun k hk=>by rw [getElem?_mirror_all hz,if_neg (by omega)]),fun i j h1 h2 h3=>?_⟩
 rw [acx hz,acx hz]
 have SE:∀ k,k < m->S (e (arrOf st) k):=fun k hk=>B.sat hS (by omega)
 by_cases c1:l<=i/\i < h
 ·rw [if_pos c1]
  by_cases c2:l<=j/\j < h
  ·rw [if_pos c2]
   exact eq _ _ (by omega) (by omega) (by omega) (by omega)
  ·rw [if_neg c2]
   exact de _ _ (by omega) (by omega) (by omega)
 ·rw [if_neg c1]
  by_cases c2:l<=j/\j < h
  ·rw [if_pos c2]
   exact de _ _ (by omega) (by omega) (by omega)
  ·rw [if_neg c2]
   exact de _ _ (by omega) (by omega) (by omega)
theorem aq9 (C:Cmp M A E s κ S R) (hS:∀ x∈a0.toList,S x) {st:SortSt} (B:Bs κ p0 a0 lo st) {nrem:Nat} (h1:1<=nrem) (hn:lo+nrem<=a0.size) {Q:Option Nat->SortSt->Prop}
  (h:∀ st' n,Bs κ p0 a0 lo st'->1<=n->n<=nrem->Asc R (arrOf st') lo (lo+n)->Q (some n) st'):wpS M A E s (avy lo nrem) Q st:=by
 refine wpS_bind (alb C hS B (Nat.le_refl 1) h1 hn (fun i j i1 i2 i3=>?_) fun n n1 n2 as br=>?_)
 ·have:i=j:=by omega
  subst this
  exact C.irr (B.sat hS (by omega))
 dsimp only
 refine aan (fun en=>wpS_pure (h st n B n1 n2 as)) (fun en=>?_)
 have en':n ≠ nrem:=by simpa using en
 have hlt:n < nrem:=by omega
 have br':=br hlt
 refine an5 (M:=M) (A:=A) (E:=E) (s:=s) (α:=Option Nat) (Q:=Q) (P:=fun st2=>Bs κ p0 a0 lo st2/\Des R (arrOf st2) lo (lo+n)/\R (e (arrOf st2) (lo+n)) (e (arrOf st2) (lo+n - 1))=true) (prog:=?prog) (fun JP=>?use) (fun st2 ⟨B2,de,br2⟩=>?pf)
 case use =>
  refine aan (fun g1=>?_) (fun g1=>?_)
  ·refine wpS_bind (afw C hS B (by omega) (by omega) ?_)
   dsimp only
   cases er:R (e (arrOf st) lo) (e (arrOf st) (lo+n - 1)) with
   | true=>rw [if_pos rfl];exact wpS_pure (h st n B n1 n2 as)
   | false =>
    rw [if_neg (by decide)]
    -- all of them are equal
    have SE:∀ k,k < lo+n->S (e (arrOf st) k):=fun k hk=>B.sat hS (by omega)
    have all:Eqb R (arrOf st) lo (lo+n):=fun i j i1 i2 j1 j2=>by
     -- j<=last<=first<=i
     have a1:=as j (lo+n - 1) j1 (by omega) (by omega)
     have a2:=as lo i (Nat.le_refl _) i1 i2
     exact C.tr _ _ _ (SE j j2) (SE lo (by omega)) (SE i i2) (C.tr _ _ _ (SE j j2) (SE (lo+n - 1) (by omega)) (SE lo (by omega)) a1 er) a2
    have de:Des R (arrOf st) lo (lo+n):=fun i j i1 i2 i3=>all i j i1 (by omega) (by omega) i3
    have hz:lo+n<=(arrOf st).size:=by rw [B.size];omega
    obtain ⟨B3,de3⟩:=aik C hS B (Nat.le_refl lo) (show lo+n<=a0.size by omega) (Nat.le_refl _) (by omega) de all
    refine wpS_bind (wpS_modify ?_)
    refine JP _ ⟨B3,de3,?_⟩
    show R (e (mirror (arrOf st) lo (lo+n) ((lo+n - lo) / 2)) (lo+n)) (e (mirror (arrOf st) lo (lo+n) ((lo+n - lo) / 2)) (lo+n - 1))=true
    rw [acx hz,acx hz,if_neg (by omega),if_pos (by omega)]
    rw [show lo+(lo+n) - 1 - (lo+n - 1)=lo by omega]
    cases e2:R (e (arrOf st) (lo+n)) (e (arrOf st) lo) with
    | true=>rfl
    | false =>
     have:=C.tr _ _ _ (SE (lo+n - 1) (by omega)) (SE lo (by omega)) (B.sat hS (show lo+n < a0.size by omega)) er e2
     rw [this] at br';cases br'
  ·have:n=1:=by omega
   subst this
   refine JP st ⟨B,fun i j i1 i2 i3=>?_,br'⟩
   have:i=j:=by omega
   subst this
   exact C.irr (B.sat hS (by omega))
 case pf =>
  -- the falling part
  refine wpS_bind (adk ?_)
  refine wpS_bind (wpS_mono (Q:=fun (z:Option (Option Nat) × Nat × Nat) st'=>z.1=none/\Bs κ p0 a0 lo st'/\z.2.1<=nrem/\z.2.2+1<=z.2.1/\Des R (arrOf st') lo (lo+z.2.1)/\Eqb R (arrOf st') (lo+z.2.1 - (z.2.2+1)) (lo+z.2.1)) ?_ ?_)
  ·refine wpS_forRange (fun t (z:Option (Option Nat) × Nat × Nat) st'=>z.1=none/\z.2.1=t/\Bs κ p0 a0 lo st'/\z.2.2+1<=z.2.1/\Des R (arrOf st') lo (lo+z.2.1)/\Eqb R (arrOf st') (lo+z.2.1 - (z.2.2+1)) (lo+z.2.1)) ?_ ?_ ⟨rfl,rfl,B2,by dsimp only;omega,?_,fun i j i1 i2 j1 j2=>?_⟩
   ·rintro t ⟨o,m,neq⟩ st3 t1 t2 ⟨eo,em,B3,hq,de3,eq3⟩
    dsimp only at eo em hq de3 eq3 ⊢
    subst eo em
    have SE:∀ k,k < a0.size->S (e (arrOf st3) k):=fun k hk=>B3.sat hS hk
    refine wpS_bind (afw C hS B3 (by omega) (by omega) ?_)
    dsimp only
    cases er:R (e (arrOf st3) (lo+m)) (e (arrOf st3) (lo+m - 1)) with
    | true =>
     rw [if_pos rfl]
     refine aan (fun g=>?_) (fun g=>?_)
     ·have hz:lo+m<=(arrOf st3).size:=by rw [B3.size];omega
      obtain ⟨B4,de4⟩:=aik C hS B3 (l:=lo+m - (neq+1)) (h:=lo+m) (by omega) (by omega) (Nat.le_refl _) (by omega) de3 eq3
      have em1:∀ k,e (mirror (arrOf st3) (lo+m - (neq+1)) (lo+m) ((lo+m - (lo+m - (neq+1))) / 2)) k=if lo+m - (neq+1)<=k/\k < lo+m then e (arrOf st3) (lo+m - (neq+1)+(lo+m) - 1 - k) else e (arrOf st3) k:=fun k=>acx hz k
      refine wpS_bind (wpS_modify ?_)
      refine wpS_pure ⟨rfl,rfl,B4,by dsimp only;omega,?_,fun i j i1 i2 j1 j2=>?_⟩
      ·show Des R (mirror (arrOf st3) (lo+m - (neq+1)) (lo+m) ((lo+m - (lo+m - (neq+1))) / 2)) lo (lo+(m+1))
       refine afe C (h:=lo+m) (fun k hk=>B4.sat hS (by omega)) (by omega) de4 ?_
       rw [em1,em1,if_pos (by omega),if_neg (by omega)]
       rw [show lo+m - (neq+1)+(lo+m) - 1 - (lo+m - 1)=lo+m - (neq+1) by omega]
       exact C.tr _ _ _ (SE _ (by omega)) (SE (lo+m - 1) (by omega)) (SE _ (by omega)) (C.asy _ _ (SE _ (by omega)) (SE _ (by omega)) er) (de3 _ _ (by omega) (by omega) (by omega))
      ·dsimp only at i1 i2 j1 j2
       have:i=j:=by omega
       subst this
       exact C.irr (B4.sat hS (by omega))
     ·have:neq=0:=by omega
      subst this
      refine wpS_pure ⟨rfl,rfl,B3,by dsimp only;omega,afe C (h:=lo+m) (fun k hk=>SE k (by omega)) (by omega) de3 (C.asy _ _ (SE _ (by omega)) (SE _ (by omega)) er),fun i j i1 i2 j1 j2=>?_⟩
      dsimp only at i1 i2 j1 j2
      have:i=j:=by omega
      subst this
      exact C.irr (SE _ (by omega))
    | false =>
     rw [if_neg (by decide)]
     refine wpS_bind (afw C hS B3 (by omega) (by omega) ?_)
     dsimp only
     cases er2:R (e (arrOf st3) (lo+m - 1)) (e (arrOf st3) (lo+m)) with
     | true =>
      rw [if_pos rfl]
      exact wpS_pure ⟨rfl,B3,by dsimp only;omega,hq,de3,eq3⟩
     | false =>
      rw [if_neg (by decide)]
      refine wpS_pure ⟨rfl,rfl,B3,by dsimp only;omega,afe C (h:=lo+m) (fun k hk=>SE k (by omega)) (by omega) de3 er2,fun i j i1 i2 j1 j2=>?_⟩
      dsimp only at i1 i2 j1 j2
      by_cases ci:i=lo+m
      ·by_cases cj:j=lo+m
       ·rw [ci,cj];exact C.irr (SE _ (by omega))
       ·rw [ci]
        exact C.tr _ _ _ (SE j (by omega)) (SE (lo+m - 1) (by omega)) (SE _ (by omega)) (eq3 (lo+m - 1) j (by omega) (by omega) (by omega) (by omega)) er
      ·by_cases cj:j=lo+m
       ·rw [cj]
        exact C.tr _ _ _ (SE _ (by omega)) (SE (lo+m - 1) (by omega)) (SE i (by omega)) er2 (eq3 i (lo+m - 1) (by omega) (by omega) (by omega) (by omega))
       ·exact eq3 i j (by omega) (by omega) (by omega) (by omega)
   ·rintro ⟨o,m,neq⟩ st3 ⟨eo,em,B3,hq,de3,eq3⟩
    dsimp only at eo em hq de3 eq3 ⊢
    exact ⟨eo,B3,by omega,hq,de3,eq3⟩
   ·exact afe C (h:=lo+n) (fun k hk=>B2.sat hS (by omega)) (by omega) de (C.asy _ _ (B2.sat hS (by omega)) (B2.sat hS (by omega)) br2)
   ·dsimp only at i1 i2 j1 j2
    have:i=j:=by omega
    subst this
    exact C.irr (B2.sat hS (by omega))
  ·rintro ⟨o,m,neq⟩ st3 ⟨eo,B3,hm,hq,de3,eq3⟩
   dsimp only at eo hm hq de3 eq3 ⊢
   subst eo
   dsimp only
   refine an5 (M:=M) (A:=A) (E:=E) (s:=s) (α:=Option Nat) (Q:=Q) (P:=fun st4=>Bs κ p0 a0 lo st4/\Des R (arrOf st4) lo (lo+m)) (prog:=?prog2) (fun JP=>?use2) (fun st4 ⟨B4,de4⟩=>?pf2)
   case use2 =>
    refine aan (fun g=>?_) (fun g=>?_)
    ·obtain ⟨B4,de4⟩:=aik C hS B3 (l:=lo+m - (neq+1)) (h:=lo+m) (by omega) (by omega) (Nat.le_refl _) (by omega) de3 eq3
     refine wpS_bind (wpS_modify ?_)
     exact JP _ ⟨B4,de4⟩
    ·exact JP _ ⟨B3,de3⟩
   case pf2 =>
    obtain ⟨B5,as5⟩:=atd C B4 (n:=m) (by omega) de4
    refine wpS_bind (wpS_modify ?_)
    refine wpS_bind (alb C hS B5 (by omega) hm hn as5 fun n' n1' n2' as' _=>?_)
    exact wpS_pure (h _ n' B5 (by omega) n2' as')
end
noncomputable def flat (rs:List (List Keyed × Nat)):List Keyed:=(rs.map (·.1)).flatten
noncomputable def pend:Nat->List (List Keyed × Nat)->List (Nat × Nat × Nat)
 | _,[]=>[]
 | k,(r,pw) :: t=>(k,r.length,pw) :: pend (k+r.length) t
theorem ag2:flat []=[]:=rfl
theorem abz (r:List Keyed × Nat) (t:List (List Keyed × Nat)):flat (r :: t)=r.1 ++ flat t:=rfl
theorem abp (p q:List (List Keyed × Nat)):flat (p ++ q)=flat p ++ flat q:=by simp [flat]
theorem aca:∀ (k:Nat) (p q:List (List Keyed × Nat)),pend k (p ++ q)=pend k p ++ pend (k+(flat p).length) q
 | k,[],q=>by simp [pend,ag2]
 | k,(r,pw) :: t,q=>by
  simp only [List.cons_append,pend,abz,List.length_append,List.cons.injEq,true_and]
  rw [aca (k+r.length) t q,Nat.add_assoc]
theorem adr:∀ (k:Nat) (p:List (List Keyed × Nat)),(pend k p).length=p.length
 | _,[]=>rfl
 | k,(r,pw) :: t=>by simp [pend,adr _ t]
section
variable {M:Model} {A:Around} {E:Value->Shared->Prop} {s:Shared} {κ:SortKind} {S:Keyed->Prop} {R:Keyed->Keyed->Bool} {a0:Array Keyed}
structure Rn (κ:SortKind) (R:Keyed->Keyed->Bool) (a0:Array Keyed) (rs:List (List Keyed × Nat)) (rest:List Keyed) (st:SortSt):Prop where
 k:kindOf st = κ
 f:failedOf st=none
 arr:(arrOf st).toList=flat rs ++ rest
 pn:(pendingOf st).toList=pend 0 rs
 ok:∀ r∈rs,r.1 ≠ []/\Srt R r.1
 perm:(arrOf st).toList.Perm a0.toList
theorem av0 {α:Type} (l1 l2:List α) (x x' y : α):((l1 ++ x :: y :: l2).set l1.length x').eraseIdx (l1.length+1)=l1 ++ x' :: l2:=by
 rw [List.set_append_right _ _ (Nat.le_refl _),Nat.sub_self,List.set_cons_zero,List.eraseIdx_append_of_length_le (by omega)]
 rw [show l1.length+1 - l1.length=1 by omega]
 rfl
theorem ahp (C:Cmp M A E s κ S R) (hS:∀ x∈a0.toList,S x) {st:SortSt} {rs:List (List Keyed × Nat)} {rest:List Keyed} (N:Rn κ R a0 rs rest st) {i:Nat} (hi:i+1 < rs.length) {Q:Bool->SortSt->Prop}
  (h:∀ st' rs',Rn κ R a0 rs' rest st'->rs'.length+1=rs.length->(flat rs').length=(flat rs).length->Q true st'):wpS M A E s (ak9 i) Q st:=by
 obtain ⟨p,a,pw,b,pw2,q,e,hp⟩:∃ p a pw b pw2 q,rs=p ++ (a,pw) :: (b,pw2) :: q/\p.length=i:=by
  have e1:rs=rs.take i ++ rs.drop i:=(List.take_append_drop i rs).symm
  have hd:rs.drop i=rs[i] :: rs[i+1] :: rs.drop (i+2):=by
   rw [List.drop_eq_getElem_cons (by omega),List.drop_eq_getElem_cons hi]
  exact ⟨rs.take i,rs[i].1,rs[i].2,rs[i+1].1,rs[i+1].2,rs.drop (i+2),by rw [← hd];exact e1,by simp;omega⟩
 subst hp
 have ok_a:=N.ok (a,pw) (by rw [e];simp)
 have ok_b:=N.ok (b,pw2) (by rw [e];simp)
 have hpn:(pendingOf st).toList=pend 0 p ++ ((flat p).length,a.length,pw) :: ((flat p).length+a.length,b.length,pw2) :: pend ((flat p).length+a.length+b.length) q:=by
  rw [N.pn,e,aca];simp [pend]
 have hlen:(pend 0 p).length=p.length:=adr 0 p
 have harr:(arrOf st).toList=flat p ++ a ++ b ++ (flat q ++ rest):=by
  rw [N.arr,e,abp,abz,abz];simp [List.append_assoc]
 refine apl C (i:=p.length) (pw:=pw) (pw2:=pw2) harr (fun x hx=>hS x (N.perm.mem_iff.mp hx)) ?_ ?_ ok_a.1 ok_b.1 ok_a.2 ok_b.2 N.k N.f fun st' m k' f' p' a' pm sm=>?_
 ·rw [← Array.getElem?_toList,hpn,List.getElem?_append_right (by omega),hlen,Nat.sub_self];rfl
 ·rw [← Array.getElem?_toList,hpn,List.getElem?_append_right (by omega),hlen,show p.length+1 - p.length=1 by omega];rfl
 ·refine h st' (p ++ (m,pw) :: q) ⟨k',f',?_,?_,fun r hr=>?_,?_⟩ (by rw [e];simp;omega) ?_
  ·rw [a',abp,abz];simp [List.append_assoc]
  ·rw [p',Array.toList_eraseIdxIfInBounds,Array.toList_setIfInBounds,hpn,← hlen,av0,aca]
   simp [pend,pm.length_eq,Nat.add_assoc]
  ·rcases List.mem_append.mp hr with hr | hr
   ·exact N.ok r (by rw [e];simp [hr])
   ·rcases List.mem_cons.mp hr with rfl | hr
    ·refine ⟨?_,sm⟩
     intro z
     have:=pm.length_eq
     have z':m=[]:=z
     rw [z'] at this
     have:=List.length_pos_iff.mpr ok_a.1
     simp at *
     omega
    ·exact N.ok r (by rw [e];simp [hr])
  ·rw [a']
   refine List.Perm.trans ?_ N.perm
   rw [harr]
   have:(flat p ++ a ++ b ++ (flat q ++ rest))=flat p ++ (a ++ b) ++ (flat q ++ rest):=by simp [List.append_assoc]
   rw [this]
   exact (pm.append_left (flat p)).append_right _
  ·rw [e,abp,abp,abz,abz,abz]
   simp [pm.length_eq]
   omega
theorem Rn.run {rs:List (List Keyed × Nat)} {rest:List Keyed} {st st':SortSt} {n:Nat} (N:Rn κ R a0 rs rest st) (B:Bs κ (pendingOf st) (arrOf st) (flat rs).length st') (h1:1<=n) (hn:(flat rs).length+n<=(arrOf st).size) (as:Asc R (arrOf st') (flat rs).length ((flat rs).length+n)) :
  ∃ r rest',r.length=n/\r ≠ []/\Srt R r/\Rn κ R a0 rs (r ++ rest') st':=by
 have hsz:=B.size
 have hfl:(arrOf st').toList.take (flat rs).length=flat rs:=by
  have e1:(arrOf st').toList.take (flat rs).length=(arrOf st).toList.take (flat rs).length:=by
   apply List.ext_getElem?
   intro k
   rw [List.getElem?_take,List.getElem?_take]
   split
   ·rename_i hk
    have:=B.pre k hk
    simpa using this
   ·rfl
  rw [e1,N.arr,List.take_left]
 refine ⟨((arrOf st').toList.drop (flat rs).length).take n,((arrOf st').toList.drop (flat rs).length).drop n,?_,?_,?_,B.k,B.f,?_,?_,N.ok,B.perm.trans N.perm⟩
 ·simp;omega
 ·intro z
  have:=congrArg List.length z
  simp at this
  omega
 ·unfold Srt
  rw [List.pairwise_iff_getElem]
  intro i j hi hj hij
  have hj':j < n:=by simp at hj;omega
  have get:∀ k,k < n->∀ (hk:k < (((arrOf st').toList.drop (flat rs).length).take n).length),(((arrOf st').toList.drop (flat rs).length).take n)[k]=e (arrOf st') ((flat rs).length+k):=by
   intro k hk hk2
   rw [List.getElem_take,List.getElem_drop]
   have h3:=aho (xs:=arrOf st') (k:=(flat rs).length+k) (by omega)
   have h4:(flat rs).length+k < (arrOf st').toList.length:=by simp;omega
   have h5:(arrOf st').toList[(flat rs).length+k]?=some (e (arrOf st') ((flat rs).length+k)):=by simpa using h3
   rw [List.getElem?_eq_getElem h4] at h5
   exact Option.some.inj h5
  rw [get i (by omega) hi,get j hj' hj]
  exact as _ _ (by omega) (by omega) (by omega)
 ·rw [List.take_append_drop]
  conv=>lhs;rw [← List.take_append_drop (flat rs).length (arrOf st').toList,hfl]
 ·rw [B.p];exact N.pn
theorem Rn.bs {rs:List (List Keyed × Nat)} {rest:List Keyed} {st:SortSt} (N:Rn κ R a0 rs rest st):Bs κ (pendingOf st) (arrOf st) (flat rs).length st:=⟨N.k,N.f,rfl,List.Perm.refl _,fun _ _=>rfl⟩
theorem Rn.size {rs:List (List Keyed × Nat)} {rest:List Keyed} {st:SortSt} (N:Rn κ R a0 rs rest st):(arrOf st).size=a0.size:=by
 have:=N.perm.length_eq;simpa using this
theorem Rn.len {rs:List (List Keyed × Nat)} {rest:List Keyed} {st:SortSt} (N:Rn κ R a0 rs rest st):(flat rs).length+rest.length=a0.size:=by
 have:=congrArg List.length N.arr
 have h2:=N.size
 simp at this
 omega
theorem ate {rs:List (List Keyed × Nat)} (h:∀ r∈rs,r.1 ≠ []):rs.length<=(flat rs).length:=by
 induction rs with
 | nil=>simp [flat]
 | cons r t ih =>
  rw [abz,List.length_append,List.length_cons]
  have:=ih fun q hq=>h q (List.mem_cons_of_mem _ hq)
  have:=List.length_pos_iff.mpr (h r List.mem_cons_self)
  omega
theorem alc {α:Type} (f : α->α):∀ (l:List α) (x : α),(l ++ [x]).modify l.length f=l ++ [f x]
 | [],x=>rfl
 | y :: l,x=>by
  show (y :: (l ++ [x])).modify (l.length+1) f=_
  rw [List.modify_succ_cons,alc f l x];rfl
theorem ana {α:Type} (arr:Array α) (f : α->α) {l:List α} {x : α} (h:arr.toList=l ++ [x]):(arr.modify (arr.size - 1) f).toList=l ++ [f x]:=by
 have hs:arr.size=l.length+1:=by have:=congrArg List.length h;simpa using this
 rw [Array.toList_modify,h,hs,show l.length+1 - 1=l.length by omega]
 exact alc f l x
theorem av1 {α:Type} (arr:Array α) {l:List α} {x : α} (h:arr.toList=l ++ [x]):arr.back?=some x:=by
 have hs:arr.size=l.length+1:=by have:=congrArg List.length h;simpa using this
 rw [Array.back?_eq_getElem?,← Array.getElem?_toList,h,hs]
 simp
theorem an6:∀ (rs:List (List Keyed × Nat)),rs ≠ []->∃ p x,rs=p ++ [x]
 | rs,h=>⟨rs.dropLast,rs.getLast h,(List.dropLast_concat_getLast h).symm⟩
theorem Rn.push {rs:List (List Keyed × Nat)} {r rest:List Keyed} {st st':SortSt} (N:Rn κ R a0 rs (r ++ rest) st) (h0:r ≠ []) (hs:Srt R r) (k:kindOf st'=kindOf st) (f:failedOf st'=failedOf st) (a:arrOf st'=arrOf st)
  (p:pendingOf st'=(pendingOf st).push ((flat rs).length,r.length,0)):Rn κ R a0 (rs ++ [(r,0)]) rest st':=by
 refine ⟨k.trans N.k,f.trans N.f,?_,?_,fun q hq=>?_,by rw [a];exact N.perm⟩
 ·rw [a,N.arr,abp];simp [flat,List.append_assoc]
 ·rw [p,Array.toList_push,N.pn,aca];simp [pend]
 ·rcases List.mem_append.mp hq with hq | hq
  ·exact N.ok q hq
  ·have:q=(r,0):=by simpa using hq
   subst this;exact ⟨h0,hs⟩
theorem Rn.pow {rs:List (List Keyed × Nat)} {rest:List Keyed} {st st':SortSt} {pw:Nat} (N:Rn κ R a0 rs rest st) (hz:rs ≠ []) (k:kindOf st'=kindOf st) (f:failedOf st'=failedOf st) (a:arrOf st'=arrOf st)
  (p:pendingOf st'=(pendingOf st).modify ((pendingOf st).size - 1) fun x=>(x.1,x.2.1,pw)):∃ rs',Rn κ R a0 rs' rest st'/\(flat rs').length=(flat rs).length:=by
 obtain ⟨q,⟨b,pw0⟩,e⟩:=an6 rs hz
 subst e
 have hpn:(pendingOf st).toList=pend 0 q ++ [((flat q).length,b.length,pw0)]:=by rw [N.pn,aca];simp [pend]
 refine ⟨q ++ [(b,pw)],⟨k.trans N.k,f.trans N.f,?_,?_,fun x hx=>?_,by rw [a];exact N.perm⟩,by simp [abp,abz,ag2]⟩
 ·rw [a,N.arr];simp [abp,abz,ag2]
 ·rw [p,ana _ _ hpn,aca];simp [pend]
 ·rcases List.mem_append.mp hx with hx | hx
  ·exact N.ok x (by simp [hx])
  ·have:x=(b,pw):=by simpa using hx
   subst this
   exact N.ok (b,pw0) (by simp)
theorem ayk {c:Prop} [Decidable c] {x y z:Nat} (h1:x+1 < z) (h2:y+1 < z):(if c then x else y)+1 < z:=by
 split
 ·exact h1
 ·exact h2
theorem Rn.powK {rs:List (List Keyed × Nat)} {rest:List Keyed} {st st':SortSt} {pw:Nat} {G:SortSt->Prop} (N:Rn κ R a0 rs rest st) (hz:rs ≠ []) (h:∀ rs',Rn κ R a0 rs' rest st'->(flat rs').length=(flat rs).length->G st') (k:kindOf st'=kindOf st) (f:failedOf st'=failedOf st) (a:arrOf st'=arrOf st)
  (p:pendingOf st'=(pendingOf st).modify ((pendingOf st).size - 1) fun x=>(x.1,x.2.1,pw)):G st':=by
 obtain ⟨rs',N',l'⟩:=N.pow hz k f a p
 exact h rs' N' l'
theorem av2 (C:Cmp M A E s κ S R) (hS:∀ x∈a0.toList,S x) {st:SortSt} (h0:arrOf st=a0) (hk:kindOf st = κ) (hf:failedOf st=none) (hp:pendingOf st = #[]) {Q:Unit->SortSt->Prop}
  (h:∀ st',failedOf st'=none->(arrOf st').toList.Perm a0.toList->Srt R (arrOf st').toList->Q () st'):wpS M A E s a0f Q st:=by
 have size0:(arrOf st).size=a0.size:=by rw [h0]
 refine wpS_bind (wpS_get ?_)
 dsimp only
 refine wpS_bind (wpS_mono (Q:=fun (c:Option Unit × Nat) st1=>c.1=none/\∃ rs,Rn κ R a0 rs [] st1) ?_ ?_)
 ·refine wpS_forRange (fun i (c:Option Unit × Nat) st1=>c.1=none/\∃ rs rest,Rn κ R a0 rs rest st1/\c.2=(flat rs).length/\i<=c.2) ?_ ?_ ⟨rfl,[],a0.toList,⟨hk,hf,by rw [h0];rfl,by rw [hp];rfl,fun r hr=>(by cases hr),by rw [h0]⟩,rfl,Nat.le_refl _⟩
  ·rintro i ⟨c1,lo⟩ st1 _ hi ⟨e1,rs,rest,N,e2,hlo⟩
   dsimp only at e1 e2 hlo ⊢
   subst e1 e2
   have hlen:=N.len
   have hi':i < a0.size:=by rw [← size0];exact hi
   refine aan (fun hge=>?_) (fun hlt=>?_)
   ·have hge':a0.size<=(flat rs).length:=by rw [← size0];exact hge
    refine wpS_pure ⟨rfl,rs,?_⟩
    have:rest=[]:=List.eq_nil_of_length_eq_zero (by omega)
    subst this
    exact N
   ·have hlt':(flat rs).length < a0.size:=by
     have:¬ (flat rs).length ≥ (arrOf st).size:=hlt
     omega
    refine wpS_bind (aq9 C (fun x hx=>hS x (N.perm.mem_iff.mp hx)) N.bs (nrem:=(arrOf st).size - (flat rs).length) (by omega) (by rw [N.size];omega) fun st2 n B2 n1 n2 as2=>?_)
    dsimp only
    have hsz1:=N.size
    refine aan (fun hmin=>?g1) (fun hmin=>?g2)
    case' g1 =>
     refine wpS_bind (adk ?_)
     generalize hmr:min (_:Nat) _=nn
     refine wpS_bind (apm C (fun x hx=>hS x (N.perm.mem_iff.mp hx)) B2 (n:=nn) (ok:=n) ?_ ?_ ?_ as2 fun st3 B3 as3=>?_)
     ·have:nn<=(arrOf st).size - (flat rs).length:=by rw [← hmr];exact Nat.min_le_left _ _
      rw [hsz1];omega
     ·rw [← hmr];exact Nat.le_min.mpr ⟨n2,Nat.le_of_lt hmin⟩
     ·have:n<=nn:=by rw [← hmr];exact Nat.le_min.mpr ⟨n2,Nat.le_of_lt hmin⟩
      omega
     rw [if_neg (by decide)]
     have hnn1:1<=nn:=by
      have:n<=nn:=by rw [← hmr];exact Nat.le_min.mpr ⟨n2,Nat.le_of_lt hmin⟩
      omega
     have hnn2:nn<=(arrOf st).size - (flat rs).length:=by rw [← hmr];exact Nat.min_le_left _ _
     obtain ⟨r,rest',hr,hr0,hrs,N3⟩:=N.run B3 hnn1 (by rw [hsz1];omega) as3
     clear hmr
     subst hr
    case' g2 =>
     obtain ⟨r,rest',hr,hr0,hrs,N3⟩:=N.run B2 n1 (by rw [hsz1];omega) as2
     clear hmin
     subst hr
    all_goals
     refine wpS_bind (wpS_get ?_)
     rcases Classical.em (rs=[]) with hz | hz
     ·have hpn:=N3.pn
      rw [hz] at hpn
      have hb:=Array.back?_eq_none_iff.mpr (Array.toList_eq_nil_iff.mp hpn)
      rw [hb]
      dsimp only
      refine wpS_bind (wpS_modify (wpS_pure ⟨rfl,rs ++ [(r,0)],rest',N3.push hr0 hrs rfl rfl rfl rfl,?_,?_⟩))
      ·rw [abp,List.length_append];simp [flat]
      ·have:=List.length_pos_iff.mpr hr0
       show i+1<=(flat rs).length+r.length
       omega
     ·obtain ⟨q,⟨b,pw0⟩,eq⟩:=an6 rs hz
      have hpn:=N3.pn
      rw [eq,aca,show pend (0+(flat q).length) [(b,pw0)]=[((flat q).length,b.length,pw0)] by simp [pend]] at hpn
      have hb:=av1 _ hpn
      rw [hb]
      dsimp only
      refine wpS_bind (wpS_mono (Q:=fun (c:Option Unit × Unit) st4=>c.1=none/\∃ rs4,Rn κ R a0 rs4 (r ++ rest') st4/\rs4 ≠ []/\(flat rs4).length=(flat rs).length) ?_ ?_)
      ·refine wpS_forRange (fun _ (c:Option Unit × Unit) st4=>c.1=none/\∃ rs4,Rn κ R a0 rs4 (r ++ rest') st4/\rs4 ≠ []/\(flat rs4).length=(flat rs).length) ?_ (fun c st4 h4=>h4) ⟨rfl,rs,N3,hz,rfl⟩
       rintro i4 ⟨c4,u4⟩ st4 _ _ ⟨e4,rs4,N4,z4,l4⟩
       dsimp only at e4
       subst e4
       refine wpS_bind (wpS_get ?_)
       have hps:(pendingOf st4).size=rs4.length:=by
        have:=congrArg List.length N4.pn
        rw [adr] at this
        simpa using this
       by_cases h1:(pendingOf st4).size > 1
       ·rw [if_pos h1]
        obtain ⟨x4,hx4⟩:∃ x4,(pendingOf st4)[(pendingOf st4).size - 2]?=some x4:=⟨_,Array.getElem?_eq_getElem (by omega)⟩
        obtain ⟨y1,y2,y3⟩:=x4
        rw [hx4]
        dsimp only
        refine aan (fun _=>wpS_pure ⟨rfl,rs4,N4,z4,l4⟩) (fun _=>?_)
        rw [hps]
        refine wpS_bind (ahp C hS N4 (i:=rs4.length - 2) (by omega) fun st5 rs5 N5 l5 f5=>?_)
        rw [if_neg (by decide)]
        refine wpS_pure ⟨rfl,rs5,N5,?_,by omega⟩
        rintro rfl
        simp at l5
        omega
       ·rw [if_neg h1]
        exact wpS_pure ⟨rfl,rs4,N4,z4,l4⟩
      ·rintro ⟨c4,u4⟩ st4 ⟨e4,rs4,N4,z4,l4⟩
       dsimp only at e4 ⊢
       subst e4
       dsimp only
       refine wpS_bind (wpS_modify ?_)
       refine N4.powK (G:=fun z=>wpS M A E s _ _ z) z4 (fun rs6 N6 l6=>?_) rfl rfl rfl rfl
       refine wpS_bind (wpS_modify (wpS_pure ⟨rfl,rs6 ++ [(r,0)],rest',N6.push hr0 hrs rfl rfl rfl ?_,?_,?_⟩))
       ·rw [l6,l4]
       ·rw [abp,List.length_append,l6,l4];simp [flat]
       ·have:=List.length_pos_iff.mpr hr0
        show i+1<=(flat rs).length+r.length
        omega
  ·rintro ⟨c1,lo⟩ st1 ⟨e1,rs,rest,N,e2,hlo⟩
   dsimp only at e1 e2 hlo ⊢
   refine ⟨e1,rs,?_⟩
   have hlen:=N.len
   have hmx:(arrOf st).size<=lo:=Nat.le_trans (Nat.le_max_right 0 _) hlo
   have:rest=[]:=List.eq_nil_of_length_eq_zero (by rw [size0] at hmx;omega)
   subst this
   exact N
 ·rintro ⟨c1,lo⟩ st1 ⟨e1,rs,N⟩
  dsimp only at e1 ⊢
  subst e1
  dsimp only
  refine wpS_bind (wpS_mono (Q:=fun (c:Option Unit × Unit) st4=>c.1=none/\∃ rs4,Rn κ R a0 rs4 [] st4/\rs4.length<=1) ?_ ?_)
  ·refine wpS_forRange (fun j (c:Option Unit × Unit) st4=>c.1=none/\∃ rs4,Rn κ R a0 rs4 [] st4/\(rs4.length<=1\/rs4.length+j<=a0.size)) ?_ ?_ ⟨rfl,rs,N,.inr ?_⟩
   ·rintro j ⟨c4,u4⟩ st4 _ _ ⟨e4,rs4,N4,l4⟩
    dsimp only at e4
    subst e4
    refine wpS_bind (wpS_get ?_)
    have hps:(pendingOf st4).size=rs4.length:=by
     have:=congrArg List.length N4.pn
     rw [adr] at this
     simpa using this
    refine aan (fun h1=>wpS_pure ⟨rfl,rs4,N4,?_⟩) (fun h1=>?_)
    ·have:(pendingOf st4).size<=1:=h1
     omega
    ·have h1':¬ (pendingOf st4).size<=1:=h1
     refine wpS_bind (ahp C hS N4 (i:=_) ?_ fun st5 rs5 N5 l5 f5=>?_)
     ·refine ayk ?_ ?_
      ·show (pendingOf st4).size - 2 - 1+1 < rs4.length
       omega
      ·show (pendingOf st4).size - 2+1 < rs4.length
       omega
     rw [if_neg (by decide)]
     exact wpS_pure ⟨rfl,rs5,N5,by omega⟩
   ·rintro ⟨c4,u4⟩ st4 ⟨e4,rs4,N4,l4⟩
    refine ⟨e4,rs4,N4,?_⟩
    rcases l4 with l4 | l4
    ·exact l4
    ·have:(arrOf st).size<=max 0 (arrOf st).size:=Nat.le_max_right _ _
     have h3:rs4.length+max 0 (arrOf st).size<=a0.size:=l4
     omega
   ·have:=ate fun r hr=>(N.ok r hr).1
    have:=N.len
    omega
  ·rintro ⟨c4,u4⟩ st4 ⟨e4,rs4,N4,l4⟩
   dsimp only at e4 ⊢
   subst e4
   dsimp only
   refine wpS_pure (h st4 N4.f N4.perm ?_)
   rw [N4.arr]
   match rs4,l4 with
   | [],_=>exact List.Pairwise.nil
   | [x],_=>simpa [flat] using (N4.ok x (by simp)).2
end
end TS
namespace L2
open PySem PySem.Spec PyProof.Rows
mutual
inductive Rep (H:Hp):V->PyData->Prop
 | non:Rep H .non .none
 | bl (b:Bool):Rep H (.bl b) (.bool b)
 | int (i:Int):Rep H (.int i) (.int i)
 | str (x:Str):Rep H (.str x) (.str x)
 | lst {a:Addr} {xs:List V} {ds:List PyData}:H a=some (.lst xs)->Reps H xs ds->Rep H (.ref a) (.list ds)
 | tup {a:Addr} {xs:List V} {ds:List PyData}:H a=some (.tup xs)->Reps H xs ds->Rep H (.ref a) (.tuple ds)
inductive Reps (H:Hp):List V->List PyData->Prop
 | nil:Reps H [] []
 | cons {v:V} {vs:List V} {d:PyData} {ds:List PyData}:Rep H v d->Reps H vs ds->Reps H (v :: vs) (d :: ds)
end
mutual
theorem Rep.same {H H':Hp} (s:Same H H'):∀ {v:V} {d:PyData},Rep H v d->Rep H' v d
 | _,_,.non => .non
 | _,_,.bl b => .bl b
 | _,_,.int i => .int i
 | _,_,.str x => .str x
 | _,_,.lst h r => .lst (s _ _ h) (Reps.same s r)
 | _,_,.tup h r => .tup (s _ _ h) (Reps.same s r)
theorem Reps.same {H H':Hp} (s:Same H H'):∀ {vs:List V} {ds:List PyData},Reps H vs ds->Reps H' vs ds
 | _,_,.nil => .nil
 | _,_,.cons r t => .cons (Rep.same s r) (Reps.same s t)
end
theorem Reps.length {H:Hp}:∀ {vs:List V} {ds:List PyData},Reps H vs ds->vs.length=ds.length
 | _,_,.nil=>rfl
 | _,_,.cons _ t=>by simp [Reps.length t]
theorem Reps.get {H:Hp}:∀ {vs:List V} {ds:List PyData} {i:Nat} {d:PyData},Reps H vs ds->ds[i]?=some d->∃ v,vs[i]?=some v/\Rep H v d
 | _,_,_,_,.nil,e=>by simp at e
 | _,_,0,_,.cons r _,e=>by simp at e;subst e;exact ⟨_,rfl,r⟩
 | _,_,i+1,d,.cons _ t,e=>by
  obtain ⟨u,h1,h2⟩:=Reps.get (i:=i) (d:=d) t (by simpa using e)
  exact ⟨u,by simpa using h1,h2⟩
theorem Reps.append {H:Hp}:∀ {vs ws:List V} {ds es:List PyData},Reps H vs ds->Reps H ws es->Reps H (vs ++ ws) (ds ++ es)
 | _,_,_,_,.nil,s=>s
 | _,_,_,_,.cons r t,s => .cons r (Reps.append t s)
section
variable {X:Cx} {pins:List (Addr × Obj)} {σ:St} {H:Hp} {s:Shared}
mutual
theorem Rep.reads (I:Inv X pins σ H s):∀ {v:V} {d:PyData} {u:Value},Rep H v d->RelV v u->∃ as,Reads s.heap u d as
 | _,_,_,.non,r=>by cases r;exact ⟨_,.none⟩
 | _,_,_,.bl b,r=>by cases r;exact ⟨_,.bool b⟩
 | _,_,_,.int i,r=>by obtain ⟨t,rfl⟩:=r;exact ⟨_,.int i t⟩
 | _,_,_,.str x,r=>by obtain ⟨t,rfl⟩:=r;exact ⟨_,.str x t⟩
 | _,_,_,.lst (a:=a) (xs:=xs) h q,r=>by
  cases r
  obtain ⟨_,its,n,rv,e⟩:=(show ObjOk X.prog X.w H s.heap a (.lst xs) from I.hok a _ h)
  obtain ⟨as,ra⟩:=Reps.reads I q rv
  exact ⟨_,.list e rfl rfl (by simpa using ra)⟩
 | _,_,_,.tup (a:=a) (xs:=xs) h q,r=>by
  cases r
  obtain ⟨_,its,rv,o,e,c,n,dd⟩:=(show ObjOk X.prog X.w H s.heap a (.tup xs) from I.hok a _ h)
  obtain ⟨as,ra⟩:=Reps.reads I q rv
  exact ⟨_,.tuple e c dd (by simpa using ra)⟩
theorem Reps.reads (I:Inv X pins σ H s):∀ {vs:List V} {ds:List PyData} {us:List Value},Reps H vs ds->Vals vs us->∃ as,ReadsAll s.heap us ds as
 | _,_,_,.nil,.nil=>⟨_,.nil⟩
 | _,_,_,.cons r t,.cons q qs=>by
  obtain ⟨as,ra⟩:=Rep.reads I r q
  obtain ⟨bs,rb⟩:=Reps.reads I t qs
  exact ⟨_,.cons ra rb⟩
end
end
mutual
noncomputable def aap:PyData->Bool
 | .none | .int _=>true
 | .list xs | .tuple xs=>plainDs xs
 | _=>false
noncomputable def plainDs:List PyData->Bool
 | []=>true
 | x :: xs=>aap x && plainDs xs
end
mutual
theorem acs:∀ (d:PyData),aap d=true->d.canLay0=true
 | .none,_=>by simp [PyData.canLay0]
 | .int _,_=>by simp [PyData.canLay0]
 | .list xs,h=>by simp only [PyData.canLay0];exact plain_lays xs (by simpa [aap] using h)
 | .tuple xs,h=>by simp only [PyData.canLay0];exact plain_lays xs (by simpa [aap] using h)
 | .bool _,h=>by simp [aap] at h
 | .str _,h=>by simp [aap] at h
 | .dict _,h=>by simp [aap] at h
theorem plain_lays:∀ (ds:List PyData),plainDs ds=true->PyData.canLayAll0 ds=true
 | [],_=>by simp [PyData.canLayAll0]
 | x :: xs,h=>by
  have h':aap x=true/\plainDs xs=true:=by simpa [plainDs] using h
  simp only [PyData.canLayAll0,acs x h'.1,plain_lays xs h'.2,Bool.and_self]
end
mutual
theorem afx:∀ (d e:PyData),aap d=true->aap e=true->(PyData.eqv d e=true ↔ d=e)
 | .none,e,_,h=>by cases e <;> simp_all [aap,PyData.eqv]
 | .int i,e,_,h=>by cases e <;> simp_all [aap,PyData.eqv]
 | .list xs,e,g,h=>by
  cases e with
  | list ys=>simp only [PyData.eqv,PyData.list.injEq];exact eqvAll_plain xs ys (by simpa [aap] using g) (by simpa [aap] using h)
  | _=>simp_all [aap,PyData.eqv]
 | .tuple xs,e,g,h=>by
  cases e with
  | tuple ys=>simp only [PyData.eqv,PyData.tuple.injEq];exact eqvAll_plain xs ys (by simpa [aap] using g) (by simpa [aap] using h)
  | _=>simp_all [aap,PyData.eqv]
 | .bool _,_,h,_=>by simp [aap] at h
 | .str _,_,h,_=>by simp [aap] at h
 | .dict _,_,h,_=>by simp [aap] at h
theorem eqvAll_plain:∀ (ds es:List PyData),plainDs ds=true->plainDs es=true->(PyData.eqvAll ds es=true ↔ ds=es)
 | [],[],_,_=>by simp [PyData.eqvAll]
 | [],_ :: _,_,_=>by simp [PyData.eqvAll]
 | _ :: _,[],_,_=>by simp [PyData.eqvAll]
 | x :: xs,y :: ys,g,h=>by
  have g':aap x=true/\plainDs xs=true:=by simpa [plainDs] using g
  have h':aap y=true/\plainDs ys=true:=by simpa [plainDs] using h
  simp only [PyData.eqvAll,Bool.and_eq_true,List.cons.injEq,afx x y g'.1 h'.1,eqvAll_plain xs ys g'.2 h'.2]
end
theorem ads (ds:List PyData):plainDs ds=true ↔ ∀ d∈ds,aap d=true:=by
 induction ds with
 | nil=>simp [plainDs]
 | cons d ds ih=>simp [plainDs,ih]
def rEqD:R2:=fun x y H Q=>∃ d e,Rep H x d/\Rep H y e/\aap d=true/\aap e=true/\d.depth<=60/\Q (.bl (PyData.eqv d e)) H
def rNeD:R2:=fun x y H Q=>∃ d e,Rep H x d/\Rep H y e/\aap d=true/\aap e=true/\d.depth<=60/\Q (.bl (!PyData.eqv d e)) H
section
variable {X:Cx}
theorem ald (hu:X.A.units+64 < cLine):OpR X (compareOp .Eq) rEqD:=by
 intro pins s σ H x y v u Q I rx ry h
 obtain ⟨d,e,rd,re,hd,he,hz,q⟩:=h
 obtain ⟨as,ra⟩:=rd.reads I rx
 obtain ⟨bs,rb⟩:=re.reads I ry
 refine SeqAt.compareEq_reads ra rb (acs _ hd) (acs _ he) ?_ ⟨.bl _,H,I,rfl,q⟩
 have:=Nat.min_le_left d.depth e.depth
 omega
theorem ale (hu:X.A.units+64 < cLine):OpR X (compareOp .NotEq) rNeD:=by
 intro pins s σ H x y v u Q I rx ry h
 obtain ⟨d,e,rd,re,hd,he,hz,q⟩:=h
 obtain ⟨as,ra⟩:=rd.reads I rx
 obtain ⟨bs,rb⟩:=re.reads I ry
 refine SeqAt.compareNe_reads ra rb (acs _ hd) (acs _ he) ?_ ⟨.bl _,H,I,rfl,q⟩
 have:=Nat.min_le_left d.depth e.depth
 omega
def rInD (neg:Bool):R2:=fun x y H Q=>∃ d es,Rep H x d/\(Rep H y (.list es)\/Rep H y (.tuple es))/\aap d=true/\plainDs es=true/\d.depth<=60/\Q (.bl (if neg then !es.any (fun z=>PyData.eqv z d) else es.any (fun z=>PyData.eqv z d))) H
theorem aeq (hu:X.A.units+64 < cLine):OpR X (compareOp .NotIn) (rInD true):=by
 intro pins s σ H x y v u Q I rx ry h
 obtain ⟨d,es,rd,re,hd,he,hz,q⟩:=h
 obtain ⟨as,ra⟩:=rd.reads I rx
 have hm:=Nat.min_le_right (PyData.depthAll es) d.depth
 rcases re with re | re
 ·obtain ⟨bs,rb⟩:=re.reads I ry
  exact SeqAt.notIn_list_reads rb ra (plain_lays _ he) (acs _ hd) (by omega) ⟨.bl _,H,I,rfl,q⟩
 ·obtain ⟨bs,rb⟩:=re.reads I ry
  exact SeqAt.notIn_tuple_reads rb ra (plain_lays _ he) (acs _ hd) (by omega) ⟨.bl _,H,I,rfl,q⟩
def rIsi (K:Frag):List V->Hp->VK->Prop:=fun xs H Q=>∃ (x:V) (T:String) (t:Value) (b:Bool),xs=[x,.ty T]/\TyOf K H x t/\kitOne K t (.type T)=some b/\Q (.bl b) H
theorem abw:abe X (.builtin "isinstance") (rIsi X.K):=by
 intro pins s σ H xs us Q I r h
 obtain ⟨x,T,t,b,rfl,ty,e,q⟩:=h
 obtain ⟨u,c,rfl,ru,rc⟩:=ahh r
 cases rc
 exact aqs I ru ty e fun tk=>⟨.bl b,H,I.tok _,rfl,q⟩
end
end L2
namespace HT
open PySem PyProof.Rows
section
open PySem.SeqAt
open PySem.AutoSeq1 (wpAny_loadPart')
open PySem.MeetsSeq PySem.MeetsSeq2 PySem.MeetsSeq3
end
section
variable {prog:Program} {w:World} {A:Around} {E:Value->Shared->Prop} {s:Shared}
end
end HT
namespace L2
open PySem PySem.Spec PyProof.Rows
section
variable {X:Cx}
def alf (K:Frag):List V->Hp->VK->Prop:=fun xs H Q=>∃ (a:Addr) (ns:List Int),xs=[.ref a]/\SqL K H a (ns.map V.int)/\ns.length < 64/\∀ (ns':List Int) (p:Addr),ns'.Perm ns->ns'.Pairwise (·<=·)->H p=none->Q (.ref p) (upd H p (.lst (ns'.map V.int)))
theorem apn:abe X (.builtin "sorted") (alf X.K):=by
 intro pins s σ H xs us Q I r h
 obtain ⟨a,ns,rfl,ha,h64,q⟩:=h
 obtain ⟨u,rfl,ru⟩:=ade r
 cases ru
 obtain ⟨its,r1,p1,hz⟩:=I.list ha
 have i1:IntsAre its.toArray.toList ns:=acj r1
 have i2:IntsAre its ns:=by simpa using i1
 refine sorted_ints (vs:=its) p1.isList i2 (by rw [i2.length];exact h64) fun out ns' b1 b2 b3=>?_
 obtain ⟨e,he⟩:=sortedAll_at s.heap its out
 have hfree:H (s.heap.objs.size+1)=none:=I.hok.fresh (Nat.le_succ _)
 refine ⟨.ref (s.heap.objs.size+1),_,I.laid (t':=s.toks) (o:=.lst (ns'.map V.int)) (fun b ob q=>sortedAll_old q) (Nat.le_succ _) ?_,rfl,q ns' _ b2 b3 hfree⟩
 refine ⟨?_,out.toList,e,aft b1,by rw [he]⟩
 rw [List.length_map,b2.length_eq]
 exact Nat.le_of_lt (aem (by omega))
end
end L2
namespace HT
open PySem PyProof.Rows
theorem ail (val:Nat->Int):∀ k,argBest (fun i j=>decide (val i > val j)) k<=k/\∀ i,i<=k->val i<=val (argBest (fun i j=>decide (val i > val j)) k)
 | 0 => ⟨Nat.le_refl _, fun i hi => by have:i=0 := by omega
                                       subst this;exact Int.le_refl _⟩
 | k+1=>by
  obtain ⟨h1,h2⟩:=ail val k
  unfold argBest
  by_cases hc:val (k+1) > val (argBest (fun i j=>decide (val i > val j)) k)
  ·rw [if_pos (decide_eq_true hc)]
   refine ⟨Nat.le_refl _,fun i hi=>?_⟩
   by_cases e:i=k+1
   ·subst e;exact Int.le_refl _
   ·have:=h2 i (by omega)
    exact Int.le_trans this (Int.le_of_lt hc)
  ·rw [if_neg (by simpa using hc)]
   refine ⟨by omega,fun i hi=>?_⟩
   by_cases e:i=k+1
   ·subst e;omega
   ·exact h2 i (by omega)
noncomputable def val (ns:List Int) (i:Nat):Int:=(ns[i]?).getD 0
theorem ahq {us:List Value} {ns:List Int} (hi:IntsAre us ns) (i:Nat) (v:Value) (h:us.toArray[i]?=some v):∃ t,v=.int (val ns i) t:=by
 induction hi generalizing i with
 | nil=>simp at h
 | cons n t r ih =>
  cases i with
  | zero=>simp at h;subst h;exact ⟨t,by simp [val]⟩
  | succ i =>
   obtain ⟨t',e⟩:=ih i (by simpa using h)
   exact ⟨t',by simpa [val] using e⟩
theorem an7 {ns:List Int} {i:Nat} (h:i < ns.length):val ns i∈ns:=by
 unfold val
 rw [List.getElem?_eq_getElem h]
 exact List.getElem_mem h
theorem ara {ns:List Int} {x:Int} (h:x∈ns):∃ i,i < ns.length/\val ns i=x:=by
 obtain ⟨i,hi,e⟩:=List.mem_iff_getElem.mp h
 exact ⟨i,hi,by unfold val;rw [List.getElem?_eq_getElem hi];exact e⟩
section
variable {prog:Program} {w:World} {A:Around} {E:Value->Shared->Prop} {s:Shared}
theorem max_list {l:Addr} {us:List Value} {ns:List Int} {Q:Value->Shared->Prop} (hh:A.handled=none) (hl:s.heap.IsList l us.toArray) (hi:IntsAre us ns) (hne:ns ≠ [])
  (h:∀ m t h' tk,m∈ns->(∀ x∈ns,x<=m)->(∀ b o,s.heap.get? b=some o->h'.get? b=some o)->Q (.int m t) { s with heap:=h',toks:=tk }) :
  wpAny (model prog w) A (call (.builtin "max") [.ref l]) Q E s:=by
 have hlt:l < s.heap.objs.size:=by obtain ⟨_,e,_⟩:=hl;exact Heap.lt_size e
 have hz:us.length=ns.length:=hi.length
 have hp:0 < ns.length:=List.length_pos_iff.mpr hne
 refine call_max_walk (wpAny_pyIter_list hl ?_)
 refine ⟨_,[s.heap.objs.size,l],_,_,_,_,_,rfl,Walks.list (A:=A.in1) hh _ l (Nat.ne_of_lt hlt) us.toArray,⟨⟨_,Heap.get?_push_size _ rfl,rfl,rfl⟩,hl.push _⟩,fun b hb=>?_,by simp;omega,CmpOf.ints_gt (val ns) (fun i v=>ahq hi i v),fun v h' tk hP hk=>?_⟩
 ·show b < (s.heap.push _).objs.size
  rw [Heap.size_push]
  rcases List.mem_cons.mp hb with rfl | hb
  ·exact Nat.lt_succ_self _
  ·rcases List.mem_cons.mp hb with rfl | hb
   ·exact Nat.lt_succ_of_lt hlt
   ·cases hb
 ·obtain ⟨t,e⟩:=ahq hi _ _ hP
  obtain ⟨b1,b2⟩:=ail (val ns) (us.toArray.size - 1)
  have hs:us.toArray.size=ns.length:=by simp [hz]
  rw [hs] at b1 b2
  subst e
  refine h _ t h' tk (an7 (by rw [hs];omega)) (fun x hx=>?_) fun b o e=>?_
  ·obtain ⟨i,hi',e⟩:=ara hx
   have:=b2 i (by omega)
   rw [e] at this
   rw [hs]
   exact this
  ·refine hk b o (fun hm=>?_) (Heap.get?_push_of_some _ e)
   rcases List.mem_cons.mp hm with e1 | hm
   ·exact absurd (e1 ▸ Heap.lt_size e) (Nat.lt_irrefl _)
   ·cases hm
theorem max_tup {l:Addr} {us:List Value} {ns:List Int} {Q:Value->Shared->Prop} (hh:A.handled=none) (hl:s.heap.IsTuple l us.toArray) (hi:IntsAre us ns) (hne:ns ≠ [])
  (h:∀ m t h' tk,m∈ns->(∀ x∈ns,x<=m)->(∀ b o,s.heap.get? b=some o->h'.get? b=some o)->Q (.int m t) { s with heap:=h',toks:=tk }) :
  wpAny (model prog w) A.in1 (pyIter (.ref l)) (fun it s₂=>∃ I fp wr n P St bt,it=.ref I/\Walks prog w A.in1 I fp wr n P St/\St 0 s₂.heap/\(∀ b∈fp,b < s₂.heap.objs.size)/\0 < n/\CmpOf prog w A.in1 .Gt P bt /\
   ∀ v h' tk,P (argBest bt (n - 1)) v->(∀ b o,b ∉ wr->s₂.heap.get? b=some o->h'.get? b=some o)->Q v { s₂ with heap:=h',toks:=tk }) E s:=by
 have hlt:l < s.heap.objs.size:=by obtain ⟨_,e,_⟩:=hl;exact Heap.lt_size e
 have hz:us.length=ns.length:=hi.length
 have hp:0 < ns.length:=List.length_pos_iff.mpr hne
 refine wpAny_pyIter_tuple hl ?_
 refine ⟨_,[s.heap.objs.size,l],[_],_,_,_,_,rfl,Walks.tuple (A:=A.in1) hh _ l (Nat.ne_of_lt hlt) us.toArray,⟨⟨_,Heap.get?_push_size _ rfl,rfl,rfl⟩,hl.push _⟩,fun b hb=>?_,by simp;omega,CmpOf.ints_gt (val ns) (fun i v=>ahq hi i v),fun v h' tk hP hk=>?_⟩
 ·show b < (s.heap.push _).objs.size
  rw [Heap.size_push]
  rcases List.mem_cons.mp hb with rfl | hb
  ·exact Nat.lt_succ_self _
  ·rcases List.mem_cons.mp hb with rfl | hb
   ·exact Nat.lt_succ_of_lt hlt
   ·cases hb
 ·obtain ⟨t,e⟩:=ahq hi _ _ hP
  obtain ⟨b1,b2⟩:=ail (val ns) (us.toArray.size - 1)
  have hs:us.toArray.size=ns.length:=by simp [hz]
  rw [hs] at b1 b2
  subst e
  refine h _ t h' tk (an7 (by rw [hs];omega)) (fun x hx=>?_) fun b o e=>?_
  ·obtain ⟨i,hi',e⟩:=ara hx
   have:=b2 i (by omega)
   rw [e] at this
   rw [hs]
   exact this
  ·refine hk b o (fun hm=>?_) (Heap.get?_push_of_some _ e)
   rcases List.mem_cons.mp hm with e1 | hm
   ·exact absurd (e1 ▸ Heap.lt_size e) (Nat.lt_irrefl _)
   ·cases hm
end
end HT
namespace L2
open PySem PySem.Spec PyProof.Rows
section
variable {X:Cx}
def adt (ns:List Int) (m:Int):Prop:=m∈ns/\∀ x∈ns,x<=m
def age (K:Frag):List V->Hp->VK->Prop:=fun xs H Q=>∃ (a:Addr) (ns:List Int),xs=[.ref a]/\(SqL K H a (ns.map V.int)\/SqT K H a (ns.map V.int))/\ns ≠ []/\∀ m,adt ns m->Q (.int m) H
theorem abq (hc:X.calm=true):abe X (.builtin "max") (age X.K):=by
 intro pins s σ H xs us Q I r h
 obtain ⟨a,ns,rfl,ha,hne,q⟩:=h
 obtain ⟨u,rfl,ru⟩:=ade r
 cases ru
 rcases ha with ha | ha
 ·obtain ⟨its,r1,p1,_⟩:=I.list ha
  have i1:IntsAre its.toArray.toList ns:=acj r1
  exact HT.max_list (I.ok.hd hc) p1.isList (by simpa using i1) hne fun m t h' tk m1 m2 kp=>⟨.int m,H,I.kept kp,⟨_,rfl⟩,q m ⟨m1,m2⟩⟩
 ·obtain ⟨its,r1,p1,_⟩:=I.tuple ha
  have i1:IntsAre its.toArray.toList ns:=acj r1
  refine call_max_walk (HT.max_tup (I.ok.hd hc) p1 (by simpa using i1) hne fun m t h' tk m1 m2 kp=>⟨.int m,H,I.kept kp,⟨_,rfl⟩,q m ⟨m1,m2⟩⟩)
end
def tTru (K:Frag) (ta:TE):TT:=fun σ H Q=>ta σ H fun x H'=>∃ k,TruV K x H' k/\Q k H'
def rIsN:R2:=fun x y H Q=>y=.non/\Q (.bl (decide (x=.non))) H
section
variable {X:Cx} {a:Expr} {ta:TE}
theorem ayl (ha:PE X a ta) (he:∀ whole,isTrue a X.env whole=(do let v ← whole;standAt a.pos;holding [v] (truthy v)):=by intro _;rfl):PT X a (tTru X.K ta):=ast ha he
def ab3 (K:Frag):R2:=fun x y H Q=>rIxL K x y H Q\/rIxT K x y H Q
theorem aas:IxR X (ab3 X.K):=ix_list.or ax7
theorem av3 {i j n:Int} {x1 x2:Nat} {p1 p2 pos:Pos} (h:i ^ j.toNat=n) (hc:CPow i j):PE X (.BinOp (.Constant (.int i) x1 p1) .Pow (.Constant (.int j) x2 p2) pos) (tC (.int n)):=by
 intro pins s σ H Q I q
 subst h
 exact aaq ax1 aad aad pins s σ H Q I ⟨i,j,rfl,rfl,hc,q⟩
theorem agf:OpR X (compareOp .Is) rIsN:=ax3
end
section
variable {σ:St} {H:Hp} {D:Ends} {K:Frag}
theorem aff {a:Addr} {xs:List V} {i:Int} {v:V} {Q:VK} (ha:H a=some (.lst xs)) (hv:atI xs i=some v) (h:Q v H):ab3 K (.ref a) (.int i) H Q:=.inl (aye ha hv h)
theorem alg {a:Addr} {xs:List V} {i:Int} {v:V} {Q:VK} (ha:H a=some (.tup xs)) (hv:atI xs i=some v) (h:Q v H):ab3 K (.ref a) (.int i) H Q:=.inr (ayf ha hv h)
theorem atf {a:Addr} {xs:List V} {i:Int} {v:V} {Q:VK} (ha:SqL K H a xs) (hv:atI xs i=some v) (h:Q v H):ab3 K (.ref a) (.int i) H Q:=.inl (ayh ha hv h)
theorem abr {A B:Prop} (h:A):if true=true then A else B:=by rw [if_pos rfl];exact h
theorem abx {A B:Prop} (h:B):if false=true then A else B:=by rw [if_neg Bool.false_ne_true];exact h
theorem aim {A B:Prop} (h:B):if (!true)=true then A else B:=by rw [if_neg (by decide)];exact h
theorem ain {A B:Prop} (h:A):if (!false)=true then A else B:=by rw [if_pos (by decide)];exact h
theorem atg {c:Prop} [Decidable c] {A B:Prop} (hc:c) (h:B):if (!decide c)=true then A else B:=by rw [decide_eq_true hc];exact aim h
theorem ath {c:Prop} [Decidable c] {A B:Prop} (hc:¬ c) (h:A):if (!decide c)=true then A else B:=by rw [decide_eq_false hc];exact ain h
theorem ag3 {K:Frag}:kitOne K (.type "NoneType") (.type "int")=some false:=by first | rfl | decide
theorem ags {K:Frag}:kitOne K (.type "NoneType") (.type "bool")=some false:=by first | rfl | decide
theorem afy {K:Frag}:kitOne K (.type "NoneType") (.type "tuple")=some false:=by first | rfl | decide
theorem agt {K:Frag}:kitOne K (.type "NoneType") (.type "list")=some false:=by first | rfl | decide
theorem ag4 {K:Frag}:kitOne K (.type "NoneType") (.type "str")=some false:=by first | rfl | decide
theorem agu {K:Frag}:kitOne K (.type "NoneType") (.type "dict")=some false:=by first | rfl | decide
theorem alh {K:Frag}:kitOne K (.type "bool") (.type "int")=some true:=by first | rfl | decide
theorem aj1 {K:Frag}:kitOne K (.type "bool") (.type "bool")=some true:=by first | rfl | decide
theorem aio {K:Frag}:kitOne K (.type "bool") (.type "tuple")=some false:=by first | rfl | decide
theorem aj2 {K:Frag}:kitOne K (.type "bool") (.type "list")=some false:=by first | rfl | decide
theorem ali {K:Frag}:kitOne K (.type "bool") (.type "str")=some false:=by first | rfl | decide
theorem aj3 {K:Frag}:kitOne K (.type "bool") (.type "dict")=some false:=by first | rfl | decide
theorem anb {K:Frag}:kitOne K (.type "int") (.type "int")=some true:=by first | rfl | decide
theorem alj {K:Frag}:kitOne K (.type "int") (.type "bool")=some false:=by first | rfl | decide
theorem aj4 {K:Frag}:kitOne K (.type "int") (.type "tuple")=some false:=by first | rfl | decide
theorem alk {K:Frag}:kitOne K (.type "int") (.type "list")=some false:=by first | rfl | decide
theorem anc {K:Frag}:kitOne K (.type "int") (.type "str")=some false:=by first | rfl | decide
theorem alm {K:Frag}:kitOne K (.type "int") (.type "dict")=some false:=by first | rfl | decide
theorem ane {K:Frag}:kitOne K (.type "str") (.type "int")=some false:=by first | rfl | decide
theorem aln {K:Frag}:kitOne K (.type "str") (.type "bool")=some false:=by first | rfl | decide
theorem aj5 {K:Frag}:kitOne K (.type "str") (.type "tuple")=some false:=by first | rfl | decide
theorem alo {K:Frag}:kitOne K (.type "str") (.type "list")=some false:=by first | rfl | decide
theorem anf {K:Frag}:kitOne K (.type "str") (.type "str")=some true:=by first | rfl | decide
theorem alp {K:Frag}:kitOne K (.type "str") (.type "dict")=some false:=by first | rfl | decide
theorem alq {K:Frag}:kitOne K (.type "list") (.type "int")=some false:=by first | rfl | decide
theorem aj6 {K:Frag}:kitOne K (.type "list") (.type "bool")=some false:=by first | rfl | decide
theorem aip {K:Frag}:kitOne K (.type "list") (.type "tuple")=some false:=by first | rfl | decide
theorem aj7 {K:Frag}:kitOne K (.type "list") (.type "list")=some true:=by first | rfl | decide
theorem alr {K:Frag}:kitOne K (.type "list") (.type "str")=some false:=by first | rfl | decide
theorem aj8 {K:Frag}:kitOne K (.type "list") (.type "dict")=some false:=by first | rfl | decide
theorem aj9 {K:Frag}:kitOne K (.type "tuple") (.type "int")=some false:=by first | rfl | decide
theorem aiq {K:Frag}:kitOne K (.type "tuple") (.type "bool")=some false:=by first | rfl | decide
theorem ahr {K:Frag}:kitOne K (.type "tuple") (.type "tuple")=some true:=by first | rfl | decide
theorem air {K:Frag}:kitOne K (.type "tuple") (.type "list")=some false:=by first | rfl | decide
theorem aka {K:Frag}:kitOne K (.type "tuple") (.type "str")=some false:=by first | rfl | decide
theorem ais {K:Frag}:kitOne K (.type "tuple") (.type "dict")=some false:=by first | rfl | decide
theorem als {K:Frag}:kitOne K (.type "dict") (.type "int")=some false:=by first | rfl | decide
theorem akb {K:Frag}:kitOne K (.type "dict") (.type "bool")=some false:=by first | rfl | decide
theorem ait {K:Frag}:kitOne K (.type "dict") (.type "tuple")=some false:=by first | rfl | decide
theorem akc {K:Frag}:kitOne K (.type "dict") (.type "list")=some false:=by first | rfl | decide
theorem alt {K:Frag}:kitOne K (.type "dict") (.type "str")=some false:=by first | rfl | decide
theorem akd {K:Frag}:kitOne K (.type "dict") (.type "dict")=some true:=by first | rfl | decide
end
end L2
namespace L2
open PySem
section
variable {σ:St} {H:Hp} {K:Frag}
theorem aa9 {p:Addr} {o:HO} (hp:H p=none):Same H (upd H p o):=fun b u e=>by rw [aae (aaj e hp)];exact e
theorem Same.new {H H':Hp} {q:Addr} {o:HO} (s:Same H H') (h:H' q=none):Same H (upd H' q o):=fun b u e=>by
 have:=s b u e
 rw [aae (aaj this h)];exact this
theorem Same.set {H H':Hp} {q:Addr} {o:HO} (s:Same H H') (h:H q=none):Same H (upd H' q o):=fun b u e=>by
 have:=s b u e
 rw [aae (aaj e h)];exact this
theorem Same.at {H H':Hp} {b:Addr} {o:HO} (s:Same H H') (h:H b=some o):H' b=some o:=s b o h
end
section
variable {σ:St} {H:Hp} {K:Frag}
end
end L2
namespace Gr
inductive Walk (T:Int->Int->Prop) (u:Int):Nat->Int->Prop
 | refl:Walk T u 0 u
 | step {k:Nat} {v w:Int}:Walk T u k v->T v w->Walk T u (k+1) w
def Dist (T:Int->Int->Prop) (u v:Int) (d:Nat):Prop:=Walk T u d v/\∀ k,Walk T u k v->d<=k
theorem Dist.uniq {T:Int->Int->Prop} {u v:Int} {d e:Nat} (h:Dist T u v d) (g:Dist T u v e):d=e:=Nat.le_antisymm (h.2 _ g.1) (g.2 _ h.1)
theorem Dist.self (T:Int->Int->Prop) (u:Int):Dist T u u 0:=⟨.refl,fun _ _=>Nat.zero_le _⟩
theorem Dist.of_walk {T:Int->Int->Prop} {u v:Int} {k:Nat} (h:Walk T u k v):∃ d,d<=k/\Dist T u v d:=by
 induction k using Nat.strongRecOn with
 | ind k ih =>
  by_cases hx:∃ j,j < k/\Walk T u j v
  ·obtain ⟨j,hj,w⟩:=hx
   obtain ⟨d,hd,e⟩:=ih j hj w
   exact ⟨d,by omega,e⟩
  ·refine ⟨k,Nat.le_refl _,h,fun j w=>?_⟩
   by_cases hj:j < k
   ·exact absurd ⟨j,hj,w⟩ hx
   ·omega
theorem Dist.pred {T:Int->Int->Prop} {u w:Int} {d:Nat} (h:Dist T u w (d+1)):∃ v,T v w/\Dist T u v d:=by
 obtain ⟨hw,hm⟩:=h
 cases hw with
 | step hv ht =>
  rename_i v
  refine ⟨v,ht,hv,fun k hk=>?_⟩
  have:=hm (k+1) (.step hk ht)
  omega
theorem Dist.next {T:Int->Int->Prop} {u v w:Int} {d:Nat} (h:Dist T u v d) (t:T v w):∃ e,e<=d+1/\Dist T u w e:=Dist.of_walk (.step h.1 t)
structure Bfs (T:Int->Int->Prop) (a:Int) (line:List Int) (ds:List Nat) (at_:Nat):Prop where
 len:ds.length=line.length
 fst:line[0]?=some a
 nd:line.Nodup
 le:at_<=line.length
 dist:∀ (i:Nat) v d,line[i]?=some v->ds[i]?=some d->Dist T a v d
 mono:∀ (i j:Nat) d e,i<=j->ds[i]?=some d->ds[j]?=some e->d<=e
 near:∀ (i j:Nat) d e,at_<=i->ds[i]?=some d->ds[j]?=some e->e<=d+1
 done:∀ (i:Nat) v w,i < at_->line[i]?=some v->T v w->w∈line
theorem Bfs.start (T:Int->Int->Prop) (a:Int):Bfs T a [a] [0] 0:=by
 refine ⟨rfl,rfl,by simp,Nat.zero_le _,fun i v d h1 h2=>?_,fun i j d e h h1 h2=>?_,fun i j d e h h1 h2=>?_,fun i v w h=>absurd h (by omega)⟩
 ·match i,h1,h2 with
  | 0,h1,h2=>simp at h1 h2;subst h1 h2;exact Dist.self T a
  | i+1,h1,_=>simp at h1
 ·match j,h2 with
  | 0,h2 =>
   have:i=0:=by omega
   subst this
   rw [h1] at h2;cases h2;exact Nat.le_refl _
  | j+1,h2=>simp at h2
 ·match i,j,h1,h2 with
  | 0,0,h1,h2=>rw [h1] at h2;cases h2;omega
  | i+1,_,h1,_=>simp at h1
  | 0,j+1,_,h2=>simp at h2
theorem Bfs.all {T:Int->Int->Prop} {a:Int} {line:List Int} {ds:List Nat} {at_:Nat} {d:Nat} (b:Bfs T a line ds at_) (hd:ds[at_]?=some d) :
  ∀ k w,k<=d->Dist T a w k->w∈line:=by
 intro k
 induction k with
 | zero =>
  intro w _ h
  have:w=a:=by
   cases h.1;rfl
  subst this
  exact List.mem_of_getElem? b.fst
 | succ k ih =>
  intro w hk h
  obtain ⟨v,tv,dv⟩:=h.pred
  have hv:=ih v (by omega) dv
  obtain ⟨i,hi,e⟩:=List.mem_iff_getElem.mp hv
  have e1:line[i]?=some v:=by rw [List.getElem?_eq_getElem hi,e]
  have hi2:i < ds.length:=by rw [b.len];exact hi
  have e2:ds[i]?=some ds[i]:=List.getElem?_eq_getElem hi2
  have e3:=(b.dist i v _ e1 e2).uniq dv
  by_cases hlt:i < at_
  ·exact b.done i v w hlt e1 tv
  ·have:=b.mono at_ i d _ (by omega) hd e2
   omega
theorem Bfs.add {T:Int->Int->Prop} {a:Int} {line:List Int} {ds:List Nat} {at_:Nat} {p w:Int} {d:Nat} (b:Bfs T a line ds at_) (hp:line[at_]?=some p) (hd:ds[at_]?=some d) (t:T p w) (hw:w ∉ line) :
  Bfs T a (line ++ [w]) (ds ++ [d+1]) at_:=by
 have hlt:at_ < line.length:=(List.getElem?_eq_some_iff.mp hp).1
 have dw:Dist T a w (d+1):=by
  obtain ⟨e,he,h⟩:=(b.dist _ _ _ hp hd).next t
  by_cases h2:e<=d
  ·exact absurd (b.all hd e w h2 h) hw
  ·have:e=d+1:=by omega
   rw [← this];exact h
 have hds:∀ (j:Nat) e,(ds ++ [d+1])[j]?=some e->(ds[j]?=some e)\/(j=ds.length/\e=d+1):=by
  intro j e h
  rw [List.getElem?_append] at h
  split at h
  ·exact .inl h
  ·rename_i hj
   right
   have:j - ds.length=0:=by
    match hz:j - ds.length,h with
    | 0,_=>rfl
    | k+1,h=>simp at h
   rw [this] at h
   simp at h
   exact ⟨by omega,h.symm⟩
 refine ⟨by simp [b.len],?_,?_,by simp;omega,fun i v e h1 h2=>?_,fun i j x y h h1 h2=>?_,fun i j x y h h1 h2=>?_,fun i v u h h1 tu=>?_⟩
 ·rw [List.getElem?_append_left (by omega)];exact b.fst
 ·rw [List.nodup_append]
  exact ⟨b.nd,by simp,fun x hx y hy=>by simp at hy;subst hy;intro e;subst e;exact hw hx⟩
 ·rcases hds _ _ h2 with h2 | ⟨ei,ed⟩
  ·have hi:i < ds.length:=(List.getElem?_eq_some_iff.mp h2).1
   rw [List.getElem?_append_left (by rw [← b.len];exact hi)] at h1
   exact b.dist i v e h1 h2
  ·subst ed
   rw [List.getElem?_append_right (by rw [← b.len];omega)] at h1
   have:i - line.length=0:=by rw [← b.len];omega
   rw [this] at h1
   simp at h1;subst h1
   exact dw
 ·rcases hds _ _ h1 with h1 | ⟨ei,ed⟩
  ·rcases hds _ _ h2 with h2 | ⟨ej,ed⟩
   ·exact b.mono i j x y h h1 h2
   ·subst ed
    by_cases hia:at_<=i
    ·exact b.near at_ i d x (Nat.le_refl _) hd h1
    ·have:=b.mono i at_ x d (by omega) h1 hd;omega
  ·rcases hds _ _ h2 with h2 | ⟨ej,ed2⟩
   ·have:=(List.getElem?_eq_some_iff.mp h2).1;omega
   ·omega
 ·rcases hds _ _ h1 with h1 | ⟨ei,ed⟩
  ·rcases hds _ _ h2 with h2 | ⟨ej,ed⟩
   ·exact b.near i j x y h h1 h2
   ·subst ed
    have:=b.mono at_ i d x h hd h1;omega
  ·subst ed
   rcases hds _ _ h2 with h2 | ⟨ej,ed⟩
   ·have:=b.near at_ j d y (Nat.le_refl _) hd h2;omega
   ·omega
 ·rw [List.getElem?_append_left (by omega)] at h1
  exact List.mem_append_left _ (b.done i v u h h1 tu)
theorem Bfs.next {T:Int->Int->Prop} {a:Int} {line:List Int} {ds:List Nat} {at_:Nat} {p:Int} (b:Bfs T a line ds at_) (hp:line[at_]?=some p) (h:∀ w,T p w->w∈line):Bfs T a line ds (at_+1):=by
 have hlt:at_ < line.length:=(List.getElem?_eq_some_iff.mp hp).1
 refine ⟨b.len,b.fst,b.nd,hlt,b.dist,b.mono,fun i j d e hi=>b.near i j d e (by omega),fun i v w hi h1 t=>?_⟩
 by_cases e:i=at_
 ·subst e
  rw [hp] at h1;cases h1
  exact h w t
 ·exact b.done i v w (by omega) h1 t
theorem Bfs.fin {T:Int->Int->Prop} {a:Int} {line:List Int} {ds:List Nat} (b:Bfs T a line ds line.length):∀ k w,Walk T a k w->w∈line:=by
 intro k w h
 induction h with
 | refl=>exact List.mem_of_getElem? b.fst
 | step _ t ih =>
  obtain ⟨i,hi,e⟩:=List.mem_iff_getElem.mp ih
  exact b.done i _ _ hi (by rw [List.getElem?_eq_getElem hi,e]) t
end Gr
namespace L2
open PySem PySem.Spec PyProof.Rows
section
variable {σ:St} {H:Hp} {D:Ends} {K:Frag}
end
theorem few_places:∀ (n:Nat) (l:List Int),l.Nodup->(∀ v∈l,0<=v/\v < (n:Int))->l.length<=n
 | 0,l,_,h=>by
  cases l with
  | nil=>simp
  | cons v r=>have:=h v (by simp);omega
 | n+1,l,hn,h=>by
  have h1:=few_places n (l.erase (n:Int)) (hn.erase _) fun v hv=>by
   have hm:=List.mem_of_mem_erase hv
   have hb:=h v hm
   have hne:v ≠ (n:Int):=by
    rintro rfl
    exact absurd hv (List.Nodup.not_mem_erase hn)
   omega
  have h2:l.length<=(l.erase (n:Int)).length+1:=by
   rw [List.length_erase]
   split <;> omega
  omega
end L2
namespace L2
open PySem
end L2
namespace HT
open PySem PyProof.Rows
section
variable {prog:Program} {w:World} {A:Around} {E:Value->Shared->Prop} {s:Shared}
end
end HT
namespace L2
open PySem PySem.Spec PyProof.Rows
section
variable {X:Cx}
end
section
variable {X:Cx} {pins:List (Addr × Obj)} {σ:St} {H:Hp} {s:Shared} {A:Around} {E:Value->Shared->Prop} {Q:Value->Shared->Prop} {b:Bool}
theorem apo {x:V} {u t:Value} {tp:Addr} {dd:Option Addr} {its:List Value} {n:Nat} {sl:Array (Option Value)} (I:Inv X pins σ H s) (rx:RelV x u) (ty:TyOf X.K H x t)
  (htp:s.heap.get? tp=some ⟨.type "tuple",dd,.seq its.toArray n,sl⟩) (e:PySem.W.kitAny X.K t its=some b) (h:∀ tk,Q (.bool b) { s with toks:=tk }) :
  wpAny (model X.prog X.w) A (call (.builtin "isinstance") [u,.ref tp]) Q E s:=by
 cases ty with
 | non=>cases (show u=Value.none from rx);exact PySem.W.kia_tup PySem.W.kitx_none I.kIn True.intro htp e (fun z=>nomatch z) h
 | bl y=>cases (show u=Value.bool y from rx);exact PySem.W.kia_tup PySem.W.kitx_bool I.kIn True.intro htp e (fun z=>nomatch z) h
 | int i=>obtain ⟨t,q⟩:=(show ∃ t,u=Value.int i t from rx);cases q;exact PySem.W.kia_tup PySem.W.kitx_int I.kIn True.intro htp e (fun z=>nomatch z) h
 | str y=>obtain ⟨t,q⟩:=(show ∃ t,u=Value.str y t from rx);cases q;exact PySem.W.kia_tup PySem.W.kitx_str I.kIn True.intro htp e (fun z=>nomatch z) h
 | flt y=>obtain ⟨t,q⟩:=(show ∃ t,u=Value.float y t from rx);cases q;exact PySem.W.kia_tup PySem.W.kitx_float I.kIn True.intro htp e (fun z=>nomatch z) h
 | @lst a xs ea =>
  cases (show u=Value.ref a from rx)
  obtain ⟨_,_,n,_,h1⟩:=(show ObjOk X.prog X.w H s.heap a (.lst xs) from I.hok a _ ea)
  exact PySem.W.kia_tup PySem.W.kitx_list I.kIn ⟨_,h1,rfl⟩ htp e (fun z=>nomatch z) h
 | @frz a ob xs ea =>
  cases (show u=Value.ref a from rx)
  obtain ⟨_,_,_,n,_,h1⟩:=(show ObjOk X.prog X.w H s.heap a (.frz ob (.lst xs)) from I.hok a _ ea)
  exact PySem.W.kia_tup PySem.W.kitx_list I.kIn ⟨_,h1,rfl⟩ htp e (fun z=>nomatch z) h
 | @tup a xs ea =>
  cases (show u=Value.ref a from rx)
  obtain ⟨_,_,_,p⟩:=(show ObjOk X.prog X.w H s.heap a (.tup xs) from I.hok a _ ea)
  obtain ⟨o,h1,h2,_⟩:=p
  exact PySem.W.kia_tup PySem.W.kitx_tuple I.kIn ⟨o,h1,h2⟩ htp e (fun z=>nomatch z) h
 | @dK a kvs ea =>
  cases (show u=Value.ref a from rx)
  obtain ⟨_,_,vs,_,p⟩:=(show ObjOk X.prog X.w H s.heap a (.dK kvs) from I.hok a _ ea)
  obtain ⟨o,es,ep,h1,h2,_⟩:=p
  exact PySem.W.kia_tup PySem.W.kitx_dict I.kIn ⟨o,h1,h2.1⟩ htp e (fun z=>nomatch z) h
 | @dT a kvs ea =>
  cases (show u=Value.ref a from rx)
  obtain ⟨_,_,xs,_,o,es,ep,h1,h2,_⟩:=(show ObjOk X.prog X.w H s.heap a (.dT kvs) from I.hok a _ ea)
  exact PySem.W.kia_tup PySem.W.kitx_dict I.kIn ⟨o,h1,h2.1⟩ htp e (fun z=>nomatch z) h
 | @ins a C dx fs ea cl ha hn htk hm =>
  cases (show u=Value.ref a from rx)
  obtain ⟨mA,O,_⟩:=ins_get I.hok ea
  obtain ⟨od,J,_⟩:=O.look
  exact PySem.W.kia_tup (PySem.W.kitx_own (cl.get _) cl.hd ha hn htk hm) I.kIn J htp e (fun z=>nomatch z) h
end
section
variable {X:Cx}
theorem alu:∀ {Ts:List String} {us:List Value},Vals (Ts.map V.ty) us->us=Ts.map Value.type
 | [],_,.nil=>rfl
 | T :: Ts,_,.cons r t=>by
  rw [List.map_cons,← alu t,show _=Value.type T from r]
def ava (K:Frag):List V->Hp->VK->Prop:=fun xs H Q=>∃ (x:V) (tp:Addr) (Ts:List String) (t:Value) (b:Bool),xs=[x,.ref tp]/\H tp=some (.tup (Ts.map V.ty))/\TyOf K H x t/\PySem.W.kitAny K t (Ts.map Value.type)=some b/\Q (.bl b) H
theorem arb:abe X (.builtin "isinstance") (ava X.K):=by
 intro pins s σ H xs us Q I r h
 obtain ⟨x,tp,Ts,t,b,rfl,htp,ty,e,q⟩:=h
 obtain ⟨u,c,rfl,ru,rc⟩:=ahh r
 cases rc
 obtain ⟨_,its,rv,o,e1,e2,n,e3⟩:=(show ObjOk X.prog X.w H s.heap tp (.tup (Ts.map V.ty)) from I.hok tp _ htp)
 have:=alu rv
 subst this
 obtain ⟨oc,od,dt,sl⟩:=o
 simp only at e2 e3
 subst e2 e3
 exact apo I ru ty e1 e fun tk=>⟨.bl b,H,I.tok _,rfl,q⟩
end
end L2
namespace HT
open PySem PyProof.Rows L2
def LtAt (A:Around) (s:Shared) (y x:Value) (b:Bool):Prop :=
 ∀ (prog:Program) (w:World) (E:Value->Shared->Prop) (Q:Value->Shared->Prop),Q (.bool b) s->wpAny (model prog w) A (richCompare .Lt y x) Q E s
section
open PySem.SeqAt
open PySem.AutoSeq1 (wpAny_loadPart')
open PySem.MeetsSeq PySem.MeetsSeq2 PySem.MeetsSeq3
inductive Its (A:Around) (s:Shared):List Value->List Value->Bool->Prop
 | nn:Its A s [] [] false
 | nc {x:Value} {ys:List Value}:Its A s [] (x :: ys) true
 | cn {x:Value} {xs:List Value}:Its A s (x :: xs) [] false
 | eq {x y:Value} {xs ys:List Value} {b:Bool}:EqAt A s x y true->Its A s xs ys b->Its A s (x :: xs) (y :: ys) b
 | ne {x y:Value} {xs ys:List Value} {b:Bool}:EqAt A s x y false->LtAt A s x y b->Its A s (x :: xs) (y :: ys) b
theorem alv (l b:Addr) (items items2:Array Value) (n n2:Nat) (dd dd2:Option Addr) (sl sl2:Array (Option Value)) (r:Bool) :
  Meets (Builtin.«tuple.__lt__» ⟨[.ref l,.ref b],[]⟩)
   (fun A R s=>s.heap.get? l=some { cls:=.type "tuple",dict:=dd,data:=.seq items n,slots:=sl }/\s.heap.get? b=some { cls:=.type "tuple",dict:=dd2,data:=.seq items2 n2,slots:=sl2 } /\
    Its A.in1 s items.toList items2.toList r/\R (.ok (.ret (.bool r))) s) :=
 .of_wp fun prog w A R s h=>by
  obtain ⟨hp,g,d,tk,os⟩:=s;obtain ⟨hl,hb,hi,h⟩:=h
  have f2:=AutoSeq1.sub_tuple_tuple
  wp_walk using wpAny_loadPart' hl,wpAny_loadPart' hb,wpAny_forIn_list _ (fun rest b s'=>b.1=none/\s'=⟨hp,g,d,tk,os⟩/\∃ (vs ws:List Value),rest=vs.zip ws /\
   vs.length+items2.size=ws.length+items.size/\Its A.in1 ⟨hp,g,d,tk,os⟩ vs ws r) _
  case turn =>
   rintro ⟨y,x⟩ rest b s' ⟨hb',rfl,vs,ws,hz,hlen,hI⟩
   cases hI with
   | nn=>cases hz
   | nc=>cases hz
   | cn=>cases hz
   | eq he hI' =>
    rw [List.zip_cons_cons] at hz
    injection hz with hyx hrest
    injection hyx with hy hx
    subst hy hx
    simp only [List.length_cons] at hlen
    refine wpAny_bind (he prog w _ _ ?_)
    wp_walk
    exact ⟨rfl,rfl,_,_,hrest,by omega,hI'⟩
   | ne he hlt =>
    rw [List.zip_cons_cons] at hz
    injection hz with hyx hrest
    injection hyx with hy hx
    subst hy hx
    refine wpAny_bind (he prog w _ _ ?_)
    have hri:=hlt prog w
    wp_walk using hri
    exact ⟨_,rfl,by simpa using h⟩
  case fin =>
   rintro ⟨b1,b2⟩ s' ⟨hb',rfl,vs,ws,hz,hlen,hI⟩
   simp only at hb'
   subst hb'
   have hv:r=decide (items.size < items2.size):=by
    cases hI with
    | nn =>
     simp only [List.length_nil] at hlen
     exact (decide_eq_false (by omega)).symm
    | nc =>
     simp only [List.length_nil,List.length_cons] at hlen
     exact (decide_eq_true (by omega)).symm
    | cn =>
     simp only [List.length_nil,List.length_cons] at hlen
     exact (decide_eq_false (by omega)).symm
    | eq=>cases hz
    | ne=>cases hz
   rw [hv] at h
   wp_walk
   exact ⟨_,rfl,by simpa [Builtin.Tuple.tupleCompareSizes] using h⟩
  case h =>
   exact ⟨rfl,rfl,items.toList,items2.toList,rfl,by simp;omega,hi⟩
end
section
variable {A:Around} {s:Shared}
theorem LtAt.tup {l b:Addr} {o o2:Obj} {items items2:Array Value} {n n2:Nat} {r:Bool} (hl:s.heap.get? l=some o) (hc:o.cls=.type "tuple") (hd:o.data=.seq items n) (hb:s.heap.get? b=some o2) (hc2:o2.cls=.type "tuple") (hd2:o2.data=.seq items2 n2)
  (hu:A.units < cLine) (hi:Its A.in1 s items.toList items2.toList r):LtAt A s (.ref l) (.ref b) r:=by
 intro prog w E Q q
 obtain ⟨cls,dd,data,sl⟩:=o
 obtain ⟨cls2,dd2,data2,sl2⟩:=o2
 simp only at hc hd hc2 hd2
 subst hc hd hc2 hd2
 exact richCompare_meets_room (op:=.Lt) ⟨_,hl,rfl⟩ ⟨_,hb,rfl⟩ PySem.F.slot_tuple_lt PySem.F.entry_tuple_lt (PySem.F.args_tuple_lt_2 _ _) (alv l b items items2 n n2 dd dd2 sl sl2 r)
  ⟨hl,hb,hi,show Value.bool r ≠ Value.notImplemented/\Q (.bool r) s from ⟨(fun x=>nomatch x),q⟩⟩ hu
end
end HT
namespace L2
open PySem PySem.Spec PyProof.Rows
section
variable {X:Cx}
end
end L2
namespace L2
open PySem
theorem ake {K:Frag}:PySem.W.kitAny K (.type "NoneType") ([Value.type "list",Value.type "tuple"])=some false:=by first | rfl | decide
theorem arc {K:Frag}:PySem.W.kitAny K (.type "bool") ([Value.type "list",Value.type "tuple"])=some false:=by first | rfl | decide
theorem ati {K:Frag}:PySem.W.kitAny K (.type "int") ([Value.type "list",Value.type "tuple"])=some false:=by first | rfl | decide
theorem atj {K:Frag}:PySem.W.kitAny K (.type "str") ([Value.type "list",Value.type "tuple"])=some false:=by first | rfl | decide
theorem ard {K:Frag}:PySem.W.kitAny K (.type "list") ([Value.type "list",Value.type "tuple"])=some true:=by first | rfl | decide
theorem apq {K:Frag}:PySem.W.kitAny K (.type "tuple") ([Value.type "list",Value.type "tuple"])=some true:=by first | rfl | decide
theorem arf {K:Frag}:PySem.W.kitAny K (.type "dict") ([Value.type "list",Value.type "tuple"])=some false:=by first | rfl | decide
end L2
namespace TS
open PySem PyProof.Rows HT
theorem an8:∀ x y:List Int,HT.lexLt x y=true->HT.lexLt y x=false
 | [],[],h=>by simp [HT.lexLt] at h
 | [],_ :: _,_=>rfl
 | _ :: _,[],h=>by simp [HT.lexLt] at h
 | a :: x,b :: y,h=>by
  rw [aea] at h ⊢
  by_cases e:a=b
  ·subst e
   rw [if_pos rfl] at h ⊢
   exact an8 x y h
  ·rw [if_neg e] at h
   rw [if_neg (fun z=>e z.symm)]
   have:=of_decide_eq_true h
   exact decide_eq_false (by omega)
theorem arh:∀ x y z:List Int,HT.lexLt y x=false->HT.lexLt z y=false->HT.lexLt z x=false
 | _,[],[],h,_=>h
 | [],[],_ :: _,_,_=>rfl
 | _ :: _,[],_ :: _,h,_=>by simp [HT.lexLt] at h
 | _,_ :: _,[],_,h=>by simp [HT.lexLt] at h
 | [],_ :: _,_ :: _,_,_=>rfl
 | a :: x,b :: y,c :: z,h,g=>by
  rw [aea] at h g ⊢
  by_cases e:b=a
  ·subst e
   rw [if_pos rfl] at h
   by_cases e2:c=b
   ·subst e2
    rw [if_pos rfl] at g ⊢
    exact arh x y z h g
   ·rw [if_neg e2] at g ⊢
    exact g
  ·rw [if_neg e] at h
   have h':=of_decide_eq_false h
   by_cases e2:c=b
   ·subst e2
    rw [if_neg e]
    exact h
   ·rw [if_neg e2] at g
    have g':=of_decide_eq_false g
    rw [if_neg (by omega)]
    exact decide_eq_false (by omega)
def TI (h:Heap) (a:Addr) (ns:List Int):Prop:=∃ o xs n,h.get? a=some o/\o.cls=.type "tuple"/\o.data=.seq xs n/\IntsAre xs.toList ns
noncomputable def kfV (kf:Addr->List Int):Value->List Int
 | .ref a=>kf a
 | _=>[]
section
variable {prog:Program} {w:World} {A:Around} {E:Value->Shared->Prop} {s:Shared}
theorem agw {fin:Bool} {Q:Bool->Shared->Prop}:∀ {xs ys:List Value} {ns ms:List Int} (i:Nat),IntsAre xs ns->IntsAre ys ms->(ns.length < ms.length->fin=true)->(ms.length<=ns.length->fin=false)->Q (HT.lexLt ns ms) s ->
  PySem.W.KatLex prog w A true fin Q (xs.zip ys) i s
 | _,_,_,_,i,.nil,.nil,_,h2,q=>by
  rw [h2 (Nat.le_refl _)];exact q
 | _,_,_,_,i,.nil,.cons b u r,h1,_,q=>by
  rw [h1 (by simp)];exact q
 | _,_,_,_,i,.cons a t r,.nil,_,h2,q=>by
  rw [List.zip_nil_right,h2 (by simp)];exact q
 | _,_,_,_,i,.cons a t r,.cons b u r2,h1,h2,q=>by
  rw [List.zip_cons_cons]
  refine PySem.W.kat_cons (SeqAt.EqAt.int_int a t b u prog w _ _ ?_)
  rw [aea] at q
  by_cases e:a=b
  ·subst e
   rw [if_pos rfl] at q
   rw [show (a == a)=true by simp]
   exact PySem.W.kat_yes (agw (i+1) r r2 (fun z=>h1 (by simpa using z)) (fun z=>h2 (by simpa using z)) q)
  ·rw [if_neg e] at q
   rw [show (a == b)=false by simpa using e]
   refine PySem.W.kat_no ?_
   by_cases hi:i=0
   ·subst hi
    exact oneLt_int q
   ·rw [show (true && i == 0)=false by simpa using hi]
    exact PySem.W.kat_one _ _ (PyProof.Rows.lt_int q)
def tS (h:Heap) (kf:Addr->List Int) (x:Keyed):Prop:=x.1=x.2/\∃ a,x.1=.ref a/\TI h a (kf a)
noncomputable def tR (kf:Addr->List Int) (x y:Keyed):Bool:=HT.lexLt (kfV kf x.1) (kfV kf y.1)
theorem cmp_tups (kf:Addr->List Int):Cmp (model prog w) A E s (tuples' true) (tS s.heap kf) (tR kf):=by
 refine ⟨fun x y hx hy Q st hk q=>?_,fun x y _ _=>an8 _ _,fun x y z _ _ _=>arh _ _ _⟩
 obtain ⟨x1,x2⟩:=x
 obtain ⟨y1,y2⟩:=y
 obtain ⟨_,a,ea,o,xs,n,e1,e2,e3,e4⟩:=hx
 obtain ⟨_,b,eb,o',ys,n',g1,g2,g3,g4⟩:=hy
 dsimp only at ea eb
 subst ea eb
 rw [lt'_eq]
 refine wpS_bind (wpS_get ?_)
 rw [hk]
 refine wpS_bind (wpS_lift (wpAny_attempt (PySem.W.kat_lt e1 e3 g1 g3 (agw 0 e4 g4 (fun z=>?_) (fun z=>?_) ⟨rfl,?_⟩))))
 ·have h1:=e4.length;have h2:=g4.length
  simp at h1 h2
  exact decide_eq_true (by omega)
 ·have h1:=e4.length;have h2:=g4.length
  simp at h1 h2
  exact decide_eq_false (by omega)
 ·exact wpS_pure q
theorem apr {vs:List Value} {ps:List Keyed} (h:ps.Perm (vs.zip vs)):(∀ p∈ps,p.1=p.2/\p.1∈vs)/\(ps.map (·.2)).Perm vs:=by
 refine ⟨fun p hp=>mem_zip_self (h.mem_iff.mp hp),?_⟩
 have h1:=h.map (fun p=>p.2)
 have e:(vs.zip vs).map (fun p=>p.2)=vs:=List.map_snd_zip (Nat.le_refl _)
 rwa [e] at h1
theorem list_sort_any {a:Addr} {vs:List Value} {n:Nat} {P:PySem.Fin->Shared->Prop} (ho:s.heap.get? a=some (seqObj "list" vs.toArray n)) (hlen:vs.length<=sizeLine)
  (hκ:2<=vs.length->∀ h',(∀ b o,b ≠ a->s.heap.get? b=some o->h'.get? b=some o)->∃ κ S R,(∀ (Q:SortKind->Shared->Prop),Q κ { s with heap:=h' }->wpAny (model prog w) A (keyKind' vs.toArray) Q E { s with heap:=h' })/\Cmp (model prog w) A E { s with heap:=h' } κ S R/\(∀ v∈vs,S (v,v)) /\
   ∀ out:List Value,out.Perm vs->out.Pairwise (fun x y=>R (y,y) (x,x)=false)->P (.done (.ret .none)) { s with heap:=sortedHeap s.heap a vs out.toArray })
  (h1:vs.length < 2->P (.done (.ret .none)) { s with heap:=sortedHeap s.heap a vs vs.toArray }) :
  wpAny (model prog w) A (Builtin.«list.sort» ⟨[.ref a],[]⟩) P E s:=by
 rw [list_sort_plain]
 have ha:a < s.heap.objs.size:=Heap.lt_size ho
 refine wpAny_bind (listItems_at ho rfl ?_)
 refine wpAny_bind (listUpdate_at ho rfl ?_ (by rw [List.size_toArray];exact hlen) (Nat.zero_le _))
 obtain ⟨e1,ho1⟩:∃ e1,(s.heap.update a (Obj.mapSeq fun _ => #[])).get? a=some (seqObj "list" #[] e1):=⟨_,get?_update_seq ho (fun _ => #[])⟩
 refine wpAny_bind (seqEpoch_at ho1 rfl ?_)
 refine wpAny_bind (wpAny_newTuple ?_ (by show vs.length<=_;exact hlen))
 refine wpAny_bind (wpAny_newList ?_ (Nat.zero_le _))
 refine wpAny_holding ?_
 have ho6:(((s.heap.update a (Obj.mapSeq fun _ => #[])).push (seqObj "tuple" vs.toArray 0)).push (seqObj "list" #[] 0)).get? a=some (seqObj "list" #[] e1):=by
  rw [Heap.get?_push_ne _ _ _ (by rw [size_push',Heap.size_update];exact Nat.ne_of_lt (Nat.lt_succ_of_lt ha)),Heap.get?_push_ne _ _ _ (by rw [Heap.size_update];exact Nat.ne_of_lt ha)]
  exact ho1
 show wpAny (model prog w) A _ P E { s with heap:=((s.heap.update a (Obj.mapSeq fun _ => #[])).push (seqObj "tuple" vs.toArray 0)).push (seqObj "list" #[] 0) }
 dsimp only
 have hsz:vs.toArray.size=vs.length:=by simp
 have kp:∀ b o,b ≠ a->s.heap.get? b=some o->(((s.heap.update a (Obj.mapSeq fun _ => #[])).push (seqObj "tuple" vs.toArray 0)).push (seqObj "list" #[] 0)).get? b=some o:=fun b o hb e=>by
  refine Heap.get?_push_of_some _ (Heap.get?_push_of_some _ ?_)
  rw [Heap.get?_update_ne _ _ _ _ hb];exact e
 by_cases h2:vs.toArray.size < 2
 ·rw [if_pos h2,if_pos h2]
  refine wpAny_bind (wpAny_pure ?_)
  rw [StateT.run_pure]
  refine wpAny_bind (wpAny_pure ?_)
  dsimp only
  have eo:(arrOf (SortSt.mk' general' (vs.toArray.zip vs.toArray) #[] 7 none)).map (·.2)=vs.toArray:=by
   show (vs.toArray.zip vs.toArray).map (·.2)=vs.toArray
   apply Array.toList_inj.mp
   rw [Array.toList_map,Array.toList_zip]
   exact List.map_snd_zip (Nat.le_refl _)
  rw [eo]
  refine wpAny_bind (seqEpoch_at ho6 rfl ?_)
  refine wpAny_bind (listUpdate_at ho6 rfl ?_ (Nat.zero_le _) (by rw [List.size_toArray];exact Nat.le_succ_of_le hlen))
  simp only [bne_self_eq_false,Bool.false_eq_true,if_false]
  exact wpAny_pure (h1 (by omega))
 ·rw [if_neg h2,if_neg h2]
  obtain ⟨κ,S,R,hk,C,hS,hfin⟩:=hκ (by omega) _ kp
  refine wpAny_bind (hk _ ?_)
  refine wpAny_bind (wpAny_mono (av2 C (a0:=vs.toArray.zip vs.toArray) (st:=SortSt.mk' κ (vs.toArray.zip vs.toArray) #[] 7 none) (Q:=fun _ st'=>failedOf st'=none/\(arrOf st').toList.Perm (vs.zip vs)/\Srt R (arrOf st').toList) (fun x hx=>?_) rfl rfl rfl rfl fun st' f' p' s'=>⟨f',by simpa using p',s'⟩) ?_ fun _ _ e=>e)
  ·have:x∈vs.zip vs:=by simpa using hx
   obtain ⟨q1,q2⟩:=mem_zip_self this
   obtain ⟨x1,x2⟩:=x
   dsimp only at q1 q2
   subst q1
   exact hS _ q2
  rintro ⟨⟨⟩,st'⟩ s' ⟨rfl,hf,hp,hs⟩
  dsimp only
  obtain ⟨q1,q2⟩:=apr hp
  have eo:(arrOf st').map (·.2)=(((arrOf st').toList.map (·.2)).toArray):=by
   apply Array.toList_inj.mp
   simp
  rw [eo]
  have hl2:((arrOf st').toList.map (·.2)).length=vs.length:=q2.length_eq
  refine wpAny_bind (seqEpoch_at ho6 rfl ?_)
  refine wpAny_bind (listUpdate_at ho6 rfl ?_ (Nat.zero_le _) (by rw [List.size_toArray,hl2];exact Nat.le_succ_of_le hlen))
  rw [hf]
  simp only [bne_self_eq_false,Bool.false_eq_true,if_false]
  refine wpAny_pure (hfin _ q2 ?_)
  rw [List.pairwise_map]
  refine List.Pairwise.imp_of_mem ?_ hs
  intro x y hx hy hr
  have ex:=(q1 x hx).1
  have ey:=(q1 y hy).1
  obtain ⟨x1,x2⟩:=x
  obtain ⟨y1,y2⟩:=y
  dsimp only at ex ey
  subst ex ey
  exact hr
theorem sorted_any {l:Addr} {vs:List Value} {Q:Value->Shared->Prop} (hl:s.heap.IsList l vs.toArray) (hlen:vs.length<=sizeLine)
  (hκ:2<=vs.length->∀ h',(∀ b o,s.heap.get? b=some o->h'.get? b=some o)->∃ κ S R,(∀ (Q:SortKind->Shared->Prop),Q κ { s with heap:=h' }->wpAny (model prog w) A.in1.in1 (keyKind' vs.toArray) Q E { s with heap:=h' })/\Cmp (model prog w) A.in1.in1 E { s with heap:=h' } κ S R/\(∀ v∈vs,S (v,v)) /\
   ∀ out:List Value,out.Perm vs->out.Pairwise (fun x y=>R (y,y) (x,x)=false)->Q (.ref (s.heap.objs.size+1)) { s with heap:=sortedAll s.heap vs out.toArray })
  (h1:vs.length < 2->Q (.ref (s.heap.objs.size+1)) { s with heap:=sortedAll s.heap vs vs.toArray }) :
  wpAny (model prog w) A (call (.builtin "sorted") [.ref l]) Q E s:=by
 refine Calls.call_function_entry kind_sorted plain_sorted entry_sorted (args_sorted1 _) ?_
 unfold Builtin.«sorted»
 refine wpAny_bind (m:=checkCount "sorted" 1 1 _) (wpAny_pure ?_)
 refine wpAny_bind (collect_list hl ?_ hlen)
 refine wpAny_bind (wpAny_newList ?_ hlen)
 have hsz:((s.heap.push (seqObj "list" #[] 0)).update s.heap.objs.size (Obj.mapSeq (· ++ vs.toArray))).objs.size=s.heap.objs.size+1:=by
  rw [Heap.size_update,size_push']
 have hoL:(((s.heap.push (seqObj "list" #[] 0)).update s.heap.objs.size (Obj.mapSeq (· ++ vs.toArray))).push (seqObj "list" vs.toArray 0)).get? (s.heap.objs.size+1)=some (seqObj "list" vs.toArray 0):=by
  rw [← hsz];exact Heap.get?_push_size _ rfl
 have keep:∀ b o,s.heap.get? b=some o->(((s.heap.push (seqObj "list" #[] 0)).update s.heap.objs.size (Obj.mapSeq (· ++ vs.toArray))).push (seqObj "list" vs.toArray 0)).get? b=some o:=fun b o q=>by
  have hlt:b < s.heap.objs.size:=Heap.lt_size q
  rw [Heap.get?_push_ne _ _ _ (by rw [hsz];exact Nat.ne_of_lt (Nat.lt_succ_of_lt hlt)),Heap.get?_update_ne _ _ _ _ (Nat.ne_of_lt hlt),Heap.get?_push_ne _ _ _ (Nat.ne_of_lt hlt)]
  exact q
 show wpAny _ _ _ _ _ { s with heap:=((s.heap.push (seqObj "list" #[] 0)).update s.heap.objs.size (Obj.mapSeq (· ++ vs.toArray))).push (seqObj "list" vs.toArray 0) }
 rw [hsz]
 refine wpAny_bind (wpAny_holding (wpAny_call_entry slot_list_sort ⟨_,hoL,rfl⟩ entry_list_sort ?body (args_list_sort _)))
 case body =>
  refine list_sort_any (s:={ s with heap:=((s.heap.push (seqObj "list" #[] 0)).update s.heap.objs.size (Obj.mapSeq (· ++ vs.toArray))).push (seqObj "list" vs.toArray 0) }) hoL hlen (fun hge h' kp=>?_) fun hlt=>?_
  ·obtain ⟨κ,S,R,hk,C,hS,hfin⟩:=hκ hge h' fun b o e=>kp b o (Nat.ne_of_lt (Nat.lt_succ_of_lt (Heap.lt_size e))) (keep b o e)
   exact ⟨κ,S,R,hk,C,hS,fun out q1 q2=>⟨_,rfl,wpAny_pure ⟨_,rfl,hfin out q1 q2⟩⟩⟩
  ·exact ⟨_,rfl,wpAny_pure ⟨_,rfl,h1 hlt⟩⟩
end
end TS
namespace L2
open PySem PySem.Spec PyProof.Rows
noncomputable def toI:V->Int
 | .int i=>i
 | _=>0
noncomputable def kH (H:Hp):V->List Int
 | .ref t=>match H t with
  | some (.tup xs)=>xs.map toI
  | _=>[]
 | _=>[]
theorem av4 (ns:List Int):(ns.map V.int).map toI=ns:=by
 rw [List.map_map]
 have:(toI ∘ V.int)=id:=by funext i;rfl
 rw [this,List.map_id]
theorem ahs {H:Hp} {t:Addr} {ns:List Int} (h:H t=some (.tup (ns.map V.int))):kH H (.ref t)=ns:=by
 simp only [kH,h];exact av4 ns
def TupI (H:Hp) (v:V):Prop:=∃ t ns,v=.ref t/\H t=some (.tup (ns.map V.int))/\ns ≠ []
noncomputable def acv:Value->V
 | .ref a => .ref a
 | _ => .non
theorem afz:∀ {us:List Value},(∀ u∈us,∃ a,u=.ref a)->Vals (us.map acv) us
 | [],_ => .nil
 | u :: us,h=>by
  obtain ⟨a,e⟩:=h u List.mem_cons_self
  subst e
  exact .cons rfl (afz fun v hv=>h v (List.mem_cons_of_mem _ hv))
theorem ajg {H:Hp}:∀ {vs:List V} {us:List Value},Vals vs us->(∀ v∈vs,TupI H v)->(∀ u∈us,∃ a,u=.ref a)/\us.map acv=vs
 | _,_,.nil,_=>⟨fun u hu=>(by cases hu),rfl⟩
 | v :: vs,u :: us,.cons r t,h=>by
  obtain ⟨a,ns,rfl,_,_⟩:=h v List.mem_cons_self
  cases r
  obtain ⟨h1,h2⟩:=ajg t fun v hv=>h v (List.mem_cons_of_mem _ hv)
  refine ⟨fun x hx=>?_,by rw [List.map_cons,h2];rfl⟩
  rcases List.mem_cons.mp hx with rfl | hx
  ·exact ⟨_,rfl⟩
  ·exact h1 x hx
section
variable {X:Cx}
def af0 (K:Frag):List V->Hp->VK->Prop:=fun xs H Q=>∃ (a:Addr) (vs:List V),xs=[.ref a]/\SqL K H a vs/\(∀ v∈vs,TupI H v) /\
 ∀ (vs':List V) (p:Addr),vs'.Perm vs->vs'.Pairwise (fun x y=>HT.lexLt (kH H y) (kH H x)=false)->H p=none->Q (.ref p) (upd H p (.lst vs'))
theorem ag5 {H:Hp} {pins:List (Addr × Obj)} {σ:St} {s:Shared} (I:Inv X pins σ H s) {h':Heap} (kp:∀ b o,s.heap.get? b=some o->h'.get? b=some o):∀ {vs:List V} {us:List Value},Vals vs us->(∀ v∈vs,TupI H v) ->
  (∃ fs,PySem.W.KatTups h' us fs/\fs.length=us.length/\∀ f∈fs,∃ i t,f=.int i t)/\∀ u∈us,∃ a,u=.ref a/\TS.TI h' a (kH H (.ref a))
 | _,_,.nil,_=>⟨⟨[],trivial,rfl,fun f hf=>by cases hf⟩,fun u hu=>by cases hu⟩
 | v :: vs,u :: us,.cons r t,h=>by
  obtain ⟨a,ns,rfl,e,hne⟩:=h v List.mem_cons_self
  cases r
  obtain ⟨⟨fs,k1,k2,k3⟩,k4⟩:=ag5 I kp t fun v hv=>h v (List.mem_cons_of_mem _ hv)
  obtain ⟨_,its,rv,o,e1,e2,n,e3⟩:=(show ObjOk X.prog X.w H s.heap a (.tup (ns.map V.int)) from I.hok a _ e)
  have hi:IntsAre its ns:=by simpa using (acj rv:IntsAre its.toArray.toList ns)
  have hT:TS.TI h' a (kH H (.ref a)):=⟨o,its.toArray,n,kp _ _ e1,e2,e3,by rw [ahs e];simpa using hi⟩
  obtain ⟨f,hf,i,tk,ef⟩:∃ f,its.toArray[0]?=some f/\∃ i t,f=.int i t:=by
   cases hi with
   | nil=>exact absurd rfl hne
   | cons i tk _=>exact ⟨_,by simp,i,tk,rfl⟩
  refine ⟨⟨f :: fs,PySem.W.KatTups.cons (kp _ _ e1) e2 e3 hf k1,by simp [k2],fun g hg=>?_⟩,fun x hx=>?_⟩
  ·rcases List.mem_cons.mp hg with rfl | hg
   ·exact ⟨i,tk,ef⟩
   ·exact k3 g hg
  ·rcases List.mem_cons.mp hx with rfl | hx
   ·exact ⟨a,rfl,hT⟩
   ·exact k4 x hx
theorem alw {α:Type} {R : α->α->Prop}:∀ {l:List α},l.length < 2->l.Pairwise R
 | [],_=>List.Pairwise.nil
 | [_],_=>List.pairwise_singleton _ _
 | _ :: _ :: _,h=>absurd h (by simp)
theorem aeb:abe X (.builtin "sorted") (af0 X.K):=by
 intro pins s σ H xs us Q I r h
 obtain ⟨a,vs,rfl,ha,hT,q⟩:=h
 obtain ⟨u,rfl,ru⟩:=ade r
 cases ru
 obtain ⟨its,r1,p1,hz⟩:=I.list ha
 obtain ⟨b1,b2⟩:=ajg r1 hT
 have hlen:its.length<=sizeLine:=by rw [← r1.length];exact hz
 have hfree:H (s.heap.objs.size+1)=none:=I.hok.fresh (Nat.le_succ _)
 have fin:∀ out:List Value,out.Perm its->(out.map acv).Pairwise (fun x y=>HT.lexLt (kH H y) (kH H x)=false)->EP X pins σ Q (.ref (s.heap.objs.size+1)) { s with heap:=sortedAll s.heap its out.toArray }:=by
  intro out hp hs
  obtain ⟨e,he⟩:=sortedAll_at s.heap its out.toArray
  have hv:Vals (out.map acv) out:=afz fun u hu=>b1 u (hp.mem_iff.mp hu)
  refine ⟨.ref (s.heap.objs.size+1),_,I.laid (t':=s.toks) (o:=.lst (out.map acv)) (fun b ob q=>sortedAll_old q) (Nat.le_succ _) ?_,rfl,q _ _ ?_ hs hfree⟩
  ·refine ⟨by rw [List.length_map,hp.length_eq];exact hlen,out,e,hv,by rw [he]⟩
  ·rw [← b2];exact hp.map acv
 refine TS.sorted_any p1.isList hlen (fun hge h' kp=>?_) fun hlt=>?_
 ·obtain ⟨⟨fs,k1,k2,k3⟩,k4⟩:=ag5 I kp r1 hT
  have hne:(Value.type "int" != Value.type "tuple")=true:=by rfl
  refine ⟨tuples' true,TS.tS h' (fun a=>kH H (.ref a)),TS.tR (fun a=>kH H (.ref a)),fun Q' hq=>?_,TS.cmp_tups (s:={ s with heap:=h' }) (fun a=>kH H (.ref a)),fun v hv=>?_,fun out hp hs=>fin out hp ?_⟩
  ·refine PySem.W.kat_kind (T:=.type "int") (s:={ s with heap:=h' }) k1 (by omega) (fun v hv=>?_) (by rfl) ?_
   ·obtain ⟨i,t,rfl⟩:=k3 v hv
    exact .now
   ·rw [hne];exact hq
  ·obtain ⟨a,e,ht⟩:=k4 v hv
   exact ⟨rfl,a,e,ht⟩
  ·rw [List.pairwise_map]
   refine List.Pairwise.imp_of_mem ?_ hs
   intro x y hx hy hr
   obtain ⟨ax,rfl⟩:=b1 x (hp.mem_iff.mp hx)
   obtain ⟨ay,rfl⟩:=b1 y (hp.mem_iff.mp hy)
   exact hr
 ·refine fin its (List.Perm.refl _) ?_
  exact alw (by rw [List.length_map];exact hlt)
end
end L2
namespace HT
open PySem PySem.Spec PyProof.Rows L2
section
variable {prog:Program} {w:World} {A:Around} {kw:List (Str × Value)} {R:Result->Shared->Prop} {I S:Addr} {fp wr:List Addr} {n:Nat} {P:Nat->Value->Prop} {St:Nat->Heap->Prop} {Hd:Heap->Prop}
end
section
variable {prog:Program} {w:World} {A:Around} {E:Value->Shared->Prop} {s:Shared}
end
end HT
namespace L2
open PySem PySem.Spec PyProof.Rows
section
variable {X:Cx} {x:Str} {p pos kpos:Pos} {e en:Expr} {t:TA}
end
end L2
namespace HT
open PySem PySem.Spec PyProof.Rows
section
variable {prog:Program} {w:World} {A:Around} {E:Value->Shared->Prop} {s:Shared}
end
end HT
namespace L2
open PySem PySem.Spec PyProof.Rows
section
variable {X:Cx}
end
end L2
namespace VL
open PySem PySem.Spec L2
noncomputable def kD:Key->PyData
 | .inl i => .int i
 | .inr x => .str x
mutual
inductive Rp (G:Hp):V->PyData->Prop
 | non:Rp G .non .none
 | bl (b:Bool):Rp G (.bl b) (.bool b)
 | int (i:Int):Rp G (.int i) (.int i)
 | str (x:Str):Rp G (.str x) (.str x)
 | lst {a:Addr} {xs:List V} {ds:List PyData}:G a=some (.lst xs)->Rps G xs ds->Rp G (.ref a) (.list ds)
 | tup {a:Addr} {xs:List V} {ds:List PyData}:G a=some (.tup xs)->Rps G xs ds->Rp G (.ref a) (.tuple ds)
 | dk {a:Addr} {kvs:List (Key × V)} {es:List (Key × PyData)} {ds:List (PyData × PyData)}:G a=some (.dK kvs)->RpK G kvs es->ds=es.map (fun p=>(kD p.1,p.2))->Rp G (.ref a) (.dict ds)
 | dt {a:Addr} {kvs:List (List Key × V)} {es:List (List Key × PyData)} {ds:List (PyData × PyData)}:G a=some (.dT kvs)->RpT G kvs es->ds=es.map (fun p=>(.tuple (p.1.map kD),p.2))->Rp G (.ref a) (.dict ds)
inductive Rps (G:Hp):List V->List PyData->Prop
 | nil:Rps G [] []
 | cons {v:V} {vs:List V} {d:PyData} {ds:List PyData}:Rp G v d->Rps G vs ds->Rps G (v :: vs) (d :: ds)
inductive RpK (G:Hp):List (Key × V)->List (Key × PyData)->Prop
 | nil:RpK G [] []
 | cons {k:Key} {v:V} {d:PyData} {r:List (Key × V)} {s:List (Key × PyData)}:Rp G v d->RpK G r s->RpK G ((k,v) :: r) ((k,d) :: s)
inductive RpT (G:Hp):List (List Key × V)->List (List Key × PyData)->Prop
 | nil:RpT G [] []
 | cons {k:List Key} {v:V} {d:PyData} {r:List (List Key × V)} {s:List (List Key × PyData)}:Rp G v d->RpT G r s->RpT G ((k,v) :: r) ((k,d) :: s)
end
mutual
theorem Rp.same {G G':Hp} (s:Same G G'):∀ {v:V} {d:PyData},Rp G v d->Rp G' v d
 | _,_,.non => .non
 | _,_,.bl b => .bl b
 | _,_,.int i => .int i
 | _,_,.str x => .str x
 | _,_,.lst h r => .lst (s _ _ h) (Rps.same s r)
 | _,_,.tup h r => .tup (s _ _ h) (Rps.same s r)
 | _,_,.dk h r e => .dk (s _ _ h) (RpK.same s r) e
 | _,_,.dt h r e => .dt (s _ _ h) (RpT.same s r) e
theorem Rps.same {G G':Hp} (s:Same G G'):∀ {vs:List V} {ds:List PyData},Rps G vs ds->Rps G' vs ds
 | _,_,.nil => .nil
 | _,_,.cons r t => .cons (Rp.same s r) (Rps.same s t)
theorem RpK.same {G G':Hp} (s:Same G G'):∀ {vs:List (Key × V)} {ds:List (Key × PyData)},RpK G vs ds->RpK G' vs ds
 | _,_,.nil => .nil
 | _,_,.cons r t => .cons (Rp.same s r) (RpK.same s t)
theorem RpT.same {G G':Hp} (s:Same G G'):∀ {vs:List (List Key × V)} {ds:List (List Key × PyData)},RpT G vs ds->RpT G' vs ds
 | _,_,.nil => .nil
 | _,_,.cons r t => .cons (Rp.same s r) (RpT.same s t)
end
theorem Rps.length {G:Hp}:∀ {vs:List V} {ds:List PyData},Rps G vs ds->vs.length=ds.length
 | _,_,.nil=>rfl
 | _,_,.cons _ t=>by simp [Rps.length t]
theorem Rps.get {G:Hp}:∀ {vs:List V} {ds:List PyData} {i:Nat} {d:PyData},Rps G vs ds->ds[i]?=some d->∃ v,vs[i]?=some v/\Rp G v d
 | _,_,_,_,.nil,e=>by simp at e
 | _,_,0,_,.cons r _,e=>by simp at e;subst e;exact ⟨_,rfl,r⟩
 | _,_,i+1,d,.cons _ t,e=>by
  obtain ⟨u,h1,h2⟩:=Rps.get (i:=i) (d:=d) t (by simpa using e)
  exact ⟨u,by simpa using h1,h2⟩
theorem Rps.append {G:Hp}:∀ {vs ws:List V} {ds es:List PyData},Rps G vs ds->Rps G ws es->Rps G (vs ++ ws) (ds ++ es)
 | _,_,_,_,.nil,s=>s
 | _,_,_,_,.cons r t,s => .cons r (Rps.append t s)
theorem Rps.set {G:Hp} {v:V} {d:PyData} (h:Rp G v d):∀ {vs:List V} {ds:List PyData} (i:Nat),Rps G vs ds->Rps G (vs.set i v) (ds.set i d)
 | _,_,_,.nil => .nil
 | _,_,0,.cons _ t => .cons h t
 | _,_,i+1,.cons r t => .cons r (Rps.set h i t)
theorem Rps.erase {G:Hp}:∀ {vs:List V} {ds:List PyData} (i:Nat),Rps G vs ds->Rps G (vs.eraseIdx i) (ds.eraseIdx i)
 | _,_,_,.nil => .nil
 | _,_,0,.cons _ t=>t
 | _,_,i+1,.cons r t => .cons r (Rps.erase i t)
theorem Rps.take {G:Hp}:∀ {vs:List V} {ds:List PyData} (i:Nat),Rps G vs ds->Rps G (vs.take i) (ds.take i)
 | _,_,0,_ => .nil
 | _,_,_+1,.nil => .nil
 | _,_,i+1,.cons r t => .cons r (Rps.take i t)
theorem Rps.drop {G:Hp}:∀ {vs:List V} {ds:List PyData} (i:Nat),Rps G vs ds->Rps G (vs.drop i) (ds.drop i)
 | _,_,0,r=>r
 | _,_,_+1,.nil => .nil
 | _,_,i+1,.cons _ t=>Rps.drop i t
theorem Rps.rep {G:Hp} {vs:List V} {ds:List PyData} (h:Rps G vs ds):∀ (k:Nat),Rps G (List.replicate k vs).flatten (List.replicate k ds).flatten
 | 0 => .nil
 | k+1=>by
  rw [List.replicate_succ,List.replicate_succ,List.flatten_cons,List.flatten_cons]
  exact h.append (Rps.rep h k)
theorem Rps.ints {G:Hp}:∀ (ns:List Int),Rps G (ns.map V.int) (ns.map PyData.int)
 | [] => .nil
 | n :: ns => .cons (.int n) (Rps.ints ns)
theorem Rps.ints_inv {G:Hp}:∀ {ns:List Int} {vs:List V},Rps G vs (ns.map PyData.int)->vs=ns.map V.int
 | [],_,.nil=>rfl
 | n :: ns,_,.cons r t=>by
  cases r
  rw [Rps.ints_inv t];rfl
mutual
theorem Rp.rep {G:Hp}:∀ {v:V} {d:PyData},Rp G v d->aap d=true->Rep G v d
 | _,_,.non,_ => .non
 | _,_,.bl b,_ => .bl b
 | _,_,.int i,_ => .int i
 | _,_,.str x,_ => .str x
 | _,_,.lst h r,p => .lst h (Rps.reps r (by simpa [aap] using p))
 | _,_,.tup h r,p => .tup h (Rps.reps r (by simpa [aap] using p))
 | _,_,.dk h r e,p=>by simp [aap] at p
 | _,_,.dt h r e,p=>by simp [aap] at p
theorem Rps.reps {G:Hp}:∀ {vs:List V} {ds:List PyData},Rps G vs ds->plainDs ds=true->Reps G vs ds
 | _,_,.nil,_ => .nil
 | _,_,.cons r t,p=>by
  simp only [plainDs,Bool.and_eq_true] at p
  exact .cons (Rp.rep r p.1) (Rps.reps t p.2)
end
structure Own where
 P:Hp->Hp->V->(Addr->Prop)->Prop
 mono:∀ {G H G' H':Hp} {v:V} {F:Addr->Prop},P G H v F->Same G G'->(∀ a o,F a->H a=some o->H' a=some o)->P G' H' v F
 dom:∀ {G H:Hp} {v:V} {F:Addr->Prop},P G H v F->∀ a,F a->∃ o,H a=some o
inductive Sl where
 | st (d:PyData) | own (A:Own) | io (A:Own) | scr (ns:List Int)
noncomputable abbrev En:=List (Option Sl)
structure Bs where
 K:Frag
 G:Hp
 H:Hp
 R:Hp
 S:St
 F:Nat->Addr->Prop
noncomputable def SlOk (B:Bs) (G H:Hp) (i:Nat) (v:V) (F:Addr->Prop):Sl->Prop
 | .st d=>Rp G v d/\∀ a,¬ F a
 | .own A=>A.P G H v F/\∀ a,F a->B.H a=none
 | .io A=>A.P G H v F/\(∀ a,F a->B.F i a\/B.H a=none)/\B.S[i]?=some (some v)
 | .scr ns=>(∃ a,v=.ref a/\SqL B.K G a (ns.map V.int))/\∀ a,¬ F a
def FT (G H:Hp):Prop:=∀ (a:Addr) (ks:List Key),H a=some (.tup (ks.map kV))->G a=some (.tup (ks.map kV))
structure VI (B:Bs) (G H:Hp) (σ:St) (env:En) (F:Nat->Addr->Prop):Prop where
 gh:Same G H
 g0:Same B.G G
 gn:∀ a o,G a=some o->B.G a=some o\/B.H a=none
 rs:Same B.R H
 rb:Same B.R B.H
 bh:∀ a o,B.H a=some o->∃ o',H a=some o'
 fg:∀ i a,F i a->G a=none
 fr:∀ i a,F i a->B.R a=none
 fd:∀ i j a,F i a->F j a->i=j
 fo:∀ i a,F i a->∃ o,H a=some o
 sl:∀ i s,env[i]?=some (some s)->∃ v,σ[i]?=some (some v)/\SlOk B G H i v (F i) s
 ln : σ.length=env.length
 ft:FT G H
noncomputable def RsOk (G H:Hp) (v:V) (F:Addr->Prop):Sl->Prop
 | .st d=>Rp G v d/\∀ a,¬ F a
 | .own A=>A.P G H v F
 | _=>False
structure RsX (B:Bs) (G H:Hp) (v:V) (Fv:Addr->Prop) (s:Sl) (F:Nat->Addr->Prop):Prop where
 ok:RsOk G H v Fv s
 fb:∀ a,Fv a->B.H a=none
 fg:∀ a,Fv a->G a=none
 fo:∀ a,Fv a->∃ o,H a=some o
 fd:∀ j a,Fv a->¬ F j a
structure Out (G H:Hp) (v:V) (G' H':Hp) (s:Sl) (Fv:Addr->Prop):Prop where
 gg:Same G G'
 gh:Same G' H'
 hh:Same H H'
 gn:∀ a o,G' a=some o->G a=some o\/H a=none
 fn:∀ a,Fv a->H a=none
 fg:∀ a,Fv a->G' a=none
 fo:∀ a,Fv a->∃ o,H' a=some o
 ok:RsOk G' H' v Fv s
 ft:FT G H->FT G' H'
theorem aps {α:Type} {o:Option α} (h:o ≠ none):∃ x,o=some x:=by
 cases o with
 | none=>exact absurd rfl h
 | some x=>exact ⟨x,rfl⟩
theorem SlOk.mono {B:Bs} {G H G' H':Hp} {i:Nat} {v:V} {F:Addr->Prop} {s:Sl} (h:SlOk B G H i v F s) (g:Same G G') (hh:∀ a o,F a->H a=some o->H' a=some o):SlOk B G' H' i v F s:=by
 cases s with
 | st d=>exact ⟨h.1.same g,h.2⟩
 | own A=>exact ⟨A.mono h.1 g hh,h.2⟩
 | io A=>exact ⟨A.mono h.1 g hh,h.2⟩
 | scr ns =>
  obtain ⟨⟨a,e,q⟩,n⟩:=h
  exact ⟨⟨a,e,g.seq q⟩,n⟩
section
variable {B:Bs} {G H G' H':Hp} {σ:St} {env:En} {F:Nat->Addr->Prop} {v:V} {s:Sl} {Fv:Addr->Prop}
theorem VI.no_r (I:VI B G H σ env F) {a:Addr} (h:H a=none):B.R a=none:=by
 cases e:B.R a with
 | none=>rfl
 | some o=>rw [I.rs a o e] at h;cases h
theorem VI.no_b (I:VI B G H σ env F) {a:Addr} (h:H a=none):B.H a=none:=by
 cases e:B.H a with
 | none=>rfl
 | some o=>obtain ⟨o',e'⟩:=I.bh a o e;rw [e'] at h;cases h
theorem VI.no_g (I:VI B G H σ env F) {a:Addr} (h:H a=none):G a=none:=by
 cases e:G a with
 | none=>rfl
 | some o=>rw [I.gh a o e] at h;cases h
theorem VI.no_f (I:VI B G H σ env F) {a:Addr} (h:H a=none) (i:Nat):¬ F i a:=fun z=>by
 obtain ⟨o,e⟩:=I.fo i a z;rw [e] at h;cases h
theorem VI.grow (I:VI B G H σ env F) (gg:Same G G') (gh:Same G' H') (hh:Same H H') (gn:∀ a o,G' a=some o->G a=some o\/H a=none) (ft:FT G' H'):VI B G' H' σ env F where
 gh:=gh
 g0:=I.g0.trans gg
 gn:=fun a o e=>by
  rcases gn a o e with e | e
  ·exact I.gn a o e
  ·exact .inr (I.no_b e)
 rs:=I.rs.trans hh
 rb:=I.rb
 bh:=fun a o e=>by obtain ⟨o',e'⟩:=I.bh a o e;exact ⟨o',hh _ _ e'⟩
 fg:=fun i a z=>by
  cases e:G' a with
  | none=>rfl
  | some o =>
   rcases gn a o e with e | e
   ·rw [I.fg i a z] at e;cases e
   ·exact absurd z (I.no_f e i)
 fr:=I.fr
 fd:=I.fd
 fo:=fun i a z=>by obtain ⟨o,e⟩:=I.fo i a z;exact ⟨o,hh _ _ e⟩
 sl:=fun i s e=>by
  obtain ⟨v,e1,e2⟩:=I.sl i s e
  exact ⟨v,e1,e2.mono gg fun a o _ q=>hh _ _ q⟩
 ln:=I.ln
 ft:=ft
theorem VI.out (I:VI B G H σ env F) (o:Out G H v G' H' s Fv):VI B G' H' σ env F/\RsX B G' H' v Fv s F :=
 ⟨I.grow o.gg o.gh o.hh o.gn (o.ft I.ft),o.ok,fun a z=>I.no_b (o.fn a z),o.fg,o.fo,fun j a z y=>I.no_f (o.fn a z) j y⟩
theorem VI.b_r (I:VI B G H σ env F) {a:Addr} (h:B.H a=none):B.R a=none:=by
 cases e:B.R a with
 | none=>rfl
 | some o=>rw [I.rb a o e] at h;cases h
def putF (F:Nat->Addr->Prop) (i:Nat) (Fv:Addr->Prop):Nat->Addr->Prop:=fun j a=>if j=i then Fv a else F j a
theorem putF_same {i:Nat} {a:Addr}:putF F i Fv i a ↔ Fv a:=by unfold putF;rw [if_pos rfl]
theorem ae2 {i:Nat}:putF F i Fv i=Fv:=by funext a;unfold putF;rw [if_pos rfl]
theorem aa6 {i j:Nat} (h:j ≠ i):putF F i Fv j=F j:=by funext a;unfold putF;rw [if_neg h]
theorem VI.slot (I:VI B G H σ env F) (i:Nat) (o:Option V) (os:Option Sl) (fg:∀ a,Fv a->G a=none) (fr:∀ a,Fv a->B.R a=none) (fo:∀ a,Fv a->∃ o,H a=some o) (fd:∀ j a,j ≠ i->Fv a->¬ F j a)
  (ok:∀ s,os=some s->∃ v,o=some v/\SlOk B G H i v Fv s):VI B G H (σ.set i o) (env.set i os) (putF F i Fv) where
 gh:=I.gh
 g0:=I.g0
 gn:=I.gn
 rs:=I.rs
 rb:=I.rb
 bh:=I.bh
 fg:=fun j a z=>by
  by_cases h:j=i
  ·subst h;exact fg a (putF_same.mp z)
  ·rw [aa6 h] at z;exact I.fg j a z
 fr:=fun j a z=>by
  by_cases h:j=i
  ·subst h;exact fr a (putF_same.mp z)
  ·rw [aa6 h] at z;exact I.fr j a z
 fd:=fun j k a y z=>by
  by_cases h:j=i
  ·by_cases g:k=i
   ·rw [h,g]
   ·subst h;rw [aa6 g] at z;exact absurd z (fd k a g (putF_same.mp y))
  ·by_cases g:k=i
   ·subst g;rw [aa6 h] at y;exact absurd y (fd j a h (putF_same.mp z))
   ·rw [aa6 h] at y;rw [aa6 g] at z;exact I.fd j k a y z
 fo:=fun j a z=>by
  by_cases h:j=i
  ·subst h;exact fo a (putF_same.mp z)
  ·rw [aa6 h] at z;exact I.fo j a z
 sl:=fun j t e=>by
  by_cases h:j=i
  ·subst h
   rw [List.getElem?_set,if_pos rfl] at e
   by_cases hl:j < env.length
   ·rw [if_pos hl] at e
    obtain ⟨v,hv,q⟩:=ok t (Option.some.inj e)
    refine ⟨v,by rw [List.getElem?_set,if_pos rfl,if_pos (by rw [I.ln];exact hl),hv],?_⟩
    rw [ae2];exact q
   ·rw [if_neg hl] at e;cases e
  ·rw [List.getElem?_set,if_neg (fun z=>h z.symm)] at e
   obtain ⟨v,hv,q⟩:=I.sl j t e
   refine ⟨v,by rw [List.getElem?_set,if_neg (fun z=>h z.symm)];exact hv,?_⟩
   rw [aa6 h];exact q
 ln:=by simp [I.ln]
 ft:=I.ft
theorem VI.store (I:VI B G H σ env F) (r:RsX B G H v Fv s F) (i:Nat):VI B G H (σ.set i (some v)) (env.set i (some s)) (putF F i Fv):=by
 refine I.slot i (some v) (some s) r.fg (fun a z=>I.b_r (r.fb a z)) r.fo (fun j a _ z=>r.fd j a z) fun t e=>?_
 cases e
 refine ⟨v,rfl,?_⟩
 have:=r.ok
 cases s with
 | st d=>exact this
 | own A=>exact ⟨this,r.fb⟩
 | io A=>exact this.elim
 | scr ns=>exact this.elim
theorem VI.drop (I:VI B G H σ env F) (i:Nat):VI B G H σ (env.set i none) (putF F i fun _=>False):=by
 have:=I.slot (Fv:=fun _=>False) i ((σ[i]?).getD none) none (fun a z=>z.elim) (fun a z=>z.elim) (fun a z=>z.elim) (fun j a _ z=>z.elim) (fun s e=>by cases e)
 rwa [show σ.set i ((σ[i]?).getD none) = σ from ?_] at this
 apply List.ext_getElem?
 intro j
 rw [List.getElem?_set]
 by_cases h:i=j
 ·subst h
  rw [if_pos rfl]
  by_cases hl:i < σ.length
  ·rw [if_pos hl,List.getElem?_eq_getElem hl];rfl
  ·rw [if_neg hl,List.getElem?_eq_none_iff.mpr (by omega)]
 ·rw [if_neg h]
theorem VI.change {A:Own} (I:VI B G H σ env F) (i:Nat) {H2:Hp} {F2:Addr->Prop} {os os':Sl} (e:env[i]?=some (some os)) (hv : σ[i]?=some (some v))
  (keep:∀ a o,¬ F i a->H a=some o->H2 a=some o) (dm:∀ a o,H a=some o->∃ o',H2 a=some o') (f2:∀ a,F2 a->(F i a\/H a=none)/\∃ o,H2 a=some o) (hp:A.P G H2 v F2) (ht:FT G H2)
  (hs:(os'=.own A/\∃ A0,os=.own A0)\/(os'=.io A/\∃ A0,os=.io A0)):VI B G H2 σ (env.set i (some os')) (putF F i F2):=by
 obtain ⟨v',hv',q⟩:=I.sl i os e
 rw [hv] at hv';cases hv'
 have nf:∀ j a,j ≠ i->F j a->¬ F i a:=fun j a hj y z=>hj (I.fd j i a y z)
 have g2:∀ a,F2 a->G a=none:=fun a z=>by
  rcases (f2 a z).1 with y | y
  ·exact I.fg i a y
  ·exact I.no_g y
 have J:VI B G H2 σ (env.set i none) (putF F i fun _=>False):=by
  have D:=I.drop i
  refine ⟨fun a o x=>keep a o (fun z=>by rw [I.fg i a z] at x;cases x) (I.gh a o x),D.g0,D.gn,fun a o x=>keep a o (fun z=>by rw [I.fr i a z] at x;cases x) (I.rs a o x),D.rb,fun a o x=>?_,D.fg,D.fr,D.fd,fun j a z=>?_,fun j s x=>?_,D.ln,ht⟩
  ·obtain ⟨o',x'⟩:=I.bh a o x
   exact dm a o' x'
  ·obtain ⟨o,x⟩:=D.fo j a z
   exact dm a o x
  ·obtain ⟨u,h1,h2⟩:=D.sl j s x
   refine ⟨u,h1,h2.mono (Same.refl G) fun a o z y=>?_⟩
   by_cases hj:j=i
   ·subst hj;exact (putF_same.mp z).elim
   ·rw [aa6 hj] at z
    exact keep a o (nf j a hj z) y
 have J2:=J.slot (Fv:=F2) i (some v) (some os') g2 (fun a z=>by
   rcases (f2 a z).1 with y | y
   ·exact I.fr i a y
   ·exact I.no_r y) (fun a z=>(f2 a z).2) (fun j a hj z y=>by
   rw [aa6 hj] at y
   rcases (f2 a z).1 with x | x
   ·exact nf j a hj y x
   ·exact I.no_f x j y) fun t et=>by
   cases et
   refine ⟨v,rfl,?_⟩
   rcases hs with ⟨rfl,A0,rfl⟩ | ⟨rfl,A0,rfl⟩
   ·refine ⟨hp,fun a z=>?_⟩
    rcases (f2 a z).1 with y | y
    ·exact q.2 a y
    ·exact I.no_b y
   ·refine ⟨hp,fun a z=>?_,q.2.2⟩
    rcases (f2 a z).1 with y | y
    ·exact q.2.1 a y
    ·exact .inr (I.no_b y)
 have e1 : σ.set i (some v) = σ:=by
  apply List.ext_getElem?
  intro j
  rw [List.getElem?_set]
  by_cases h:i=j
  ·subst h
   rw [if_pos rfl,hv,if_pos (List.getElem?_eq_some_iff.mp hv).1]
  ·rw [if_neg h]
 have e2:(env.set i none).set i (some os')=env.set i (some os'):=by simp
 have e3:putF (putF F i fun _=>False) i F2=putF F i F2:=by
  funext j a
  by_cases h:j=i
  ·subst h;rw [ae2,ae2]
  ·rw [aa6 h,aa6 h,aa6 h]
 rw [e1,e2,e3] at J2
 exact J2
end
open Classical in
noncomputable def jn (G H:Hp) (F:Addr->Prop):Hp:=fun a=>if F a then H a else G a
theorem adu {G H:Hp} {F:Addr->Prop} {a:Addr} (h:F a):jn G H F a=H a:=if_pos h
theorem akt {G H:Hp} {F:Addr->Prop} {a:Addr} (h:¬ F a):jn G H F a=G a:=if_neg h
theorem abd {G H:Hp} {F:Addr->Prop} (h:∀ a,F a->G a=none):Same G (jn G H F):=fun a o e=>by
 rw [akt (fun z=>by rw [h a z] at e;cases e)];exact e
theorem aku {G H:Hp} {F:Addr->Prop} (h:Same G H):Same (jn G H F) H:=fun a o e=>by
 by_cases z:F a
 ·rw [adu z] at e;exact e
 ·rw [akt z] at e;exact h a o e
def Frz (A:Own) (d:PyData):Prop:=∀ (G H:Hp) (v:V) (F:Addr->Prop),A.P G H v F->(∀ a,F a->G a=none)->Same G H->Rp (jn G H F) v d
noncomputable def FQ:Sl->(PyData->Prop)->Prop
 | .st d,R=>R d
 | .own A,R=>∃ d,Frz A d/\R d
 | _,_=>False
noncomputable def OL (ds:List PyData):Own where
 P:=fun G H v F=>∃ a vs,v=.ref a/\H a=some (.lst vs)/\Rps G vs ds/\∀ b,F b ↔ b=a
 mono:=fun ⟨a,vs,e,h,r,f⟩ g hh=>⟨a,vs,e,hh a _ ((f a).mpr rfl) h,r.same g,f⟩
 dom:=fun ⟨a,vs,e,h,r,f⟩ b z=>by rw [(f b).mp z];exact ⟨_,h⟩
noncomputable def OD (es:List (Key × PyData)):Own where
 P:=fun G H v F=>∃ a kvs,v=.ref a/\H a=some (.dK kvs)/\RpK G kvs es/\∀ b,F b ↔ b=a
 mono:=fun ⟨a,vs,e,h,r,f⟩ g hh=>⟨a,vs,e,hh a _ ((f a).mpr rfl) h,r.same g,f⟩
 dom:=fun ⟨a,vs,e,h,r,f⟩ b z=>by rw [(f b).mp z];exact ⟨_,h⟩
theorem abt {ds:List PyData}:Frz (OL ds) (.list ds):=fun G H v F ⟨a,vs,e,h,r,f⟩ n g=>by
 subst e
 exact .lst (by rw [adu ((f a).mpr rfl)];exact h) (r.same (abd n))
theorem avb {d:PyData} {R:PyData->Prop} (h:R d):FQ (.st d) R:=h
theorem aer {ds:List PyData} {R:PyData->Prop} (h:R (.list ds)):FQ (.own (OL ds)) R:=⟨_,abt,h⟩
section
variable {B:Bs} {G H G' H':Hp} {σ:St} {env:En} {F:Nat->Addr->Prop} {v:V} {s:Sl} {Fv:Addr->Prop}
theorem VI.freeze (I:VI B G H σ env F) (fb:∀ a,Fv a->B.H a=none) (fd:∀ j a,Fv a->¬ F j a) (fg:∀ a,Fv a->G a=none):VI B (jn G H Fv) H σ env F where
 gh:=aku I.gh
 g0:=I.g0.trans (abd fg)
 gn:=fun a o e=>by
  by_cases z:Fv a
  ·exact .inr (fb a z)
  ·rw [akt z] at e;exact I.gn a o e
 rs:=I.rs
 rb:=I.rb
 bh:=I.bh
 fg:=fun i a z=>by
  rw [akt (fun y=>fd i a y z)];exact I.fg i a z
 fr:=I.fr
 fd:=I.fd
 fo:=I.fo
 sl:=fun i s e=>by
  obtain ⟨v,e1,e2⟩:=I.sl i s e
  exact ⟨v,e1,e2.mono (abd fg) fun a o _ q=>q⟩
 ln:=I.ln
 ft:=fun a ks e=>abd fg _ _ (I.ft a ks e)
theorem VI.frz {A:Own} {d:PyData} {i:Nat} (I:VI B G H σ env F) (e:env[i]?=some (some (.own A))) (f:Frz A d) :
  ∃ v,σ[i]?=some (some v)/\Rp (jn G H (F i)) v d/\Same G (jn G H (F i))/\VI B (jn G H (F i)) H σ (env.set i (some (.st d))) (putF F i fun _=>False):=by
 obtain ⟨v,hv,q⟩:=I.sl i _ e
 have hr:=f G H v (F i) q.1 (I.fg i) I.gh
 refine ⟨v,hv,hr,abd (I.fg i),?_⟩
 have D:=(I.drop i).freeze (Fv:=F i) q.2 (fun j a z y=>by
  by_cases h:j=i
  ·subst h;exact (putF_same.mp y).elim
  ·rw [aa6 h] at y;exact h (I.fd j i a y z)) (I.fg i)
 have J:=D.slot (Fv:=fun _=>False) i (some v) (some (.st d)) (fun a z=>z.elim) (fun a z=>z.elim) (fun a z=>z.elim) (fun j a _ z=>z.elim) (fun t et=>by cases et;exact ⟨v,rfl,hr,fun a z=>z⟩)
 have e1 : σ.set i (some v) = σ:=by
  apply List.ext_getElem?
  intro j
  rw [List.getElem?_set]
  by_cases h:i=j
  ·subst h
   rw [if_pos rfl,hv,if_pos (List.getElem?_eq_some_iff.mp hv).1]
  ·rw [if_neg h]
 have e3:putF (putF F i fun _=>False) i (fun _=>False)=putF F i fun _=>False:=by
  funext j a
  by_cases h:j=i
  ·subst h;rw [ae2,ae2]
  ·rw [aa6 h,aa6 h]
 rw [e1,e3,List.set_set] at J
 exact J
theorem Out.refl {d:PyData} (g:Same G H) (r:Rp G v d):Out G H v G H (.st d) (fun _=>False):=⟨Same.refl _,g,Same.refl _,fun a o e => .inl e,fun a z=>z.elim,fun a z=>z.elim,fun a z=>z.elim,⟨r,fun a z=>z⟩,fun t=>t⟩
theorem av5 {p:Addr} {o:HO} (g:Same G H) (h:H p=none):Same (upd G p o) (upd H p o):=fun a u e=>by
 by_cases z:a=p
 ·subst z;rw [aah] at e ⊢;exact e
 ·rw [aae z] at e ⊢;exact g a u e
theorem ack {p:Addr} (g:Same G H) (h:H p=none):G p=none:=by
 cases e:G p with
 | none=>rfl
 | some o=>rw [g p o e] at h;cases h
theorem Out.newT {p:Addr} {xs:List V} {ds:List PyData} (g:Same G H) (h:H p=none) (r:Rps G xs ds):Out G H (.ref p) (upd G p (.tup xs)) (upd H p (.tup xs)) (.st (.tuple ds)) (fun _=>False) where
 gg:=aa9 (ack g h)
 gh:=av5 g h
 hh:=aa9 h
 gn:=fun a o e=>by
  by_cases z:a=p
  ·subst z;exact .inr h
  ·rw [aae z] at e;exact .inl e
 fn:=fun a z=>z.elim
 fg:=fun a z=>z.elim
 fo:=fun a z=>z.elim
 ok:=⟨.tup aah (r.same (aa9 (ack g h))),fun a z=>z⟩
 ft:=fun t a ks e=>by
  by_cases z:a=p
  ·subst z;rw [aah] at e ⊢;exact e
  ·rw [aae z] at e ⊢;exact t a ks e
theorem Out.newO {p:Addr} {o:HO} {A:Own} (g:Same G H) (h:H p=none) (nt:∀ xs,o ≠ .tup xs) (r:A.P G (upd H p o) (.ref p) (· = p)):Out G H (.ref p) G (upd H p o) (.own A) (· = p) where
 gg:=Same.refl _
 gh:=g.trans (aa9 h)
 hh:=aa9 h
 gn:=fun a o e => .inl e
 fn:=fun a z=>by rw [z];exact h
 fg:=fun a z=>by rw [z];exact ack g h
 fo:=fun a z=>by rw [z];exact ⟨_,aah⟩
 ok:=r
 ft:=fun t a ks e=>by
  by_cases z:a=p
  ·subst z;rw [aah] at e;exact absurd (Option.some.inj e) (nt _)
  ·rw [aae z] at e;exact t a ks e
theorem Out.newL {p:Addr} {xs:List V} {ds:List PyData} (g:Same G H) (h:H p=none) (r:Rps G xs ds):Out G H (.ref p) G (upd H p (.lst xs)) (.own (OL ds)) (· = p) :=
 .newO g h (fun _ z=>nomatch z) ⟨p,xs,rfl,aah,r,fun b=>Iff.rfl⟩
theorem Out.newD {p:Addr} {xs:List (Key × V)} {ds:List (Key × PyData)} (g:Same G H) (h:H p=none) (r:RpK G xs ds):Out G H (.ref p) G (upd H p (.dK xs)) (.own (OD ds)) (· = p) :=
 .newO g h (fun _ z=>nomatch z) ⟨p,xs,rfl,aah,r,fun b=>Iff.rfl⟩
end
def EvO (B:Bs) (te:TE) (env:En) (Q':Sl->En->Prop):Prop:=∀ (σ:St) (G H:Hp) (F:Nat->Addr->Prop) (Q:VK),VI B G H σ env F ->
 (∀ v G' H' F' Fv s env',VI B G' H' σ env' F'->Same G G'->RsX B G' H' v Fv s F'->Q' s env'->Q v H')->te σ H Q
def Ev (B:Bs) (te:TE) (env:En) (Q':PyData->En->Prop):Prop:=∀ (σ:St) (G H:Hp) (F:Nat->Addr->Prop) (Q:VK),VI B G H σ env F ->
 (∀ v G' H' F' d env',VI B G' H' σ env' F'->Same G G'->Rp G' v d->Q' d env'->Q v H')->te σ H Q
def EvT (B:Bs) (tt:TT) (env:En) (Q':Bool->En->Prop):Prop:=∀ (σ:St) (G H:Hp) (F:Nat->Addr->Prop) (Q:Bool->Hp->Prop),VI B G H σ env F ->
 (∀ b G' H' F' env',VI B G' H' σ env' F'->Same G G'->Q' b env'->Q b H')->tt σ H Q
def EvA (B:Bs) (ta:TA) (env:En) (Q':List PyData->En->Prop):Prop:=∀ (σ:St) (G H:Hp) (F:Nat->Addr->Prop) (Q:List V->Hp->Prop),VI B G H σ env F ->
 (∀ vs G' H' F' ds env',VI B G' H' σ env' F'->Same G G'->Rps G' vs ds->Q' ds env'->Q vs H')->ta σ H Q
structure ItOk (G:Hp) (J:It) (ds:List PyData):Prop where
 go:∀ i G' H',Same G G'->Same G' H'->i < ds.length->J.go i H'
 stop:∀ i G' H',Same G G'->Same G' H'->i=ds.length->J.stop i H'
 yld:∀ i G' H' x H'' d,Same G G'->Same G' H'->FT G' H'->ds[i]?=some d->J.yld i H' x H''->∃ G'',Out G' H' x G'' H'' (.st d) (fun _=>False)
def EvI (B:Bs) (ti:TI) (env:En) (Q':List PyData->En->Prop):Prop:=∀ (σ:St) (G H:Hp) (F:Nat->Addr->Prop) (R:It->Hp->Prop),VI B G H σ env F ->
 (∀ J G' H' F' ds env',VI B G' H' σ env' F'->Same G G'->ItOk G' J ds->Q' ds env'->R J H')->ti σ H R
def EvG (B:Bs) (g:TG) (s:Sl) (env:En) (Q':En->Prop):Prop:=∀ (σ:St) (G H:Hp) (F:Nat->Addr->Prop) (v:V) (Fv:Addr->Prop) (Q:St->Hp->Prop),VI B G H σ env F->RsX B G H v Fv s F ->
 (∀ σ' G' H' F' env',VI B G' H' σ' env' F'->Same G G'->Q' env'->Q σ' H')->g v σ H Q
def EvGs (B:Bs) (g:TGs) (ds:List PyData) (env:En) (Q':En->Prop):Prop:=∀ (σ:St) (G H:Hp) (F:Nat->Addr->Prop) (vs:List V) (Q:St->Hp->Prop),VI B G H σ env F->Rps G vs ds ->
 (∀ σ' G' H' F' env',VI B G' H' σ' env' F'->Same G G'->Q' env'->Q σ' H')->g vs σ H Q
structure VEnds where
 nx:En->Prop
 rt:Sl->En->Prop
 bk:En->Prop:=fun _=>False
 ct:En->Prop:=fun _=>False
structure RelE (B:Bs) (G:Hp) (D:Ends) (D':VEnds):Prop where
 nx:∀ σ G' H F env,VI B G' H σ env F->Same G G'->D'.nx env->D.nx σ H
 rt:∀ σ G' H F env v Fv s,VI B G' H σ env F->Same G G'->RsX B G' H v Fv s F->D'.rt s env->D.rt v H
 bk:∀ σ G' H F env,VI B G' H σ env F->Same G G'->D'.bk env->D.bk σ H
 ct:∀ σ G' H F env,VI B G' H σ env F->Same G G'->D'.ct env->D.ct σ H
def EvS (B:Bs) (ts:TS) (D':VEnds) (env:En):Prop:=∀ (σ:St) (G H:Hp) (F:Nat->Addr->Prop) (D:Ends),VI B G H σ env F->RelE B G D D'->ts D σ H
theorem RelE.later {B:Bs} {G G':Hp} {D:Ends} {D':VEnds} (r:RelE B G D D') (g:Same G G'):RelE B G' D D' :=
 ⟨fun σ G2 H F env I q=>r.nx σ G2 H F env I (g.trans q),fun σ G2 H F env v Fv s I q=>r.rt σ G2 H F env v Fv s I (g.trans q),fun σ G2 H F env I q=>r.bk σ G2 H F env I (g.trans q),fun σ G2 H F env I q=>r.ct σ G2 H F env I (g.trans q)⟩
section
variable {B:Bs} {env:En} {Q':PyData->En->Prop} {QO:Sl->En->Prop} {QT:Bool->En->Prop} {QA:List PyData->En->Prop} {te ta tb:TE}
theorem ad3 {G H:Hp} {v:V} {d:PyData} {F:Nat->Addr->Prop} (r:Rp G v d):RsX B G H v (fun _=>False) (.st d) F:=⟨⟨r,fun a z=>z⟩,fun a z=>z.elim,fun a z=>z.elim,fun a z=>z.elim,fun j a z=>z.elim⟩
theorem aby (h:Ev B te env fun d e=>QO (.st d) e):EvO B te env QO:=fun σ G H F Q I k =>
 h σ G H F Q I fun v G' H' F' d env' I' g r q=>k v G' H' F' _ (.st d) env' I' g (ad3 r) q
theorem ab7 (h:EvO B te env fun s e=>FQ s fun d=>Q' d e):Ev B te env Q':=fun σ G H F Q I k =>
 h σ G H F Q I fun v G' H' F' Fv s env' I' g r q=>by
  cases s with
  | st d=>exact k v G' H' F' d env' I' g r.ok.1 q
  | own A =>
   obtain ⟨d,f,q⟩:=q
   exact k v _ H' F' d env' (I'.freeze r.fb r.fd r.fg) (g.trans (abd r.fg)) (f G' H' v Fv r.ok r.fg I'.gh) q
  | io A=>exact q.elim
  | scr ns=>exact q.elim
theorem aym {i:Nat} {d:PyData} (e:env[i]?=some (some (.st d))) (q:Q' d env):Ev B (tVar i) env Q':=fun σ G H F Q I k=>by
 obtain ⟨v,hv,r⟩:=I.sl i _ e
 exact ⟨v,hv,k v G H F d env I (Same.refl _) r.1 q⟩
theorem av6 {i:Nat} {A:Own} {d:PyData} (e:env[i]?=some (some (.own A))) (f:Frz A d) (q:Q' d (env.set i (some (.st d)))):Ev B (tVar i) env Q':=fun σ G H F Q I k=>by
 obtain ⟨v,hv,r,g,J⟩:=I.frz e f
 exact ⟨v,hv,k v _ H _ d _ J g r q⟩
theorem atk {i:Nat} {A:Own} (e:env[i]?=some (some (.own A))) (q:QO (.own A) (env.set i none)):EvO B (tVar i) env QO:=fun σ G H F Q I k=>by
 obtain ⟨v,hv,r⟩:=I.sl i _ e
 refine ⟨v,hv,k v G H _ (F i) (.own A) _ (I.drop i) (Same.refl _) ⟨r.1,r.2,I.fg i,I.fo i,fun j a z y=>?_⟩ q⟩
 by_cases h:j=i
 ·subst h;exact putF_same.mp y
 ·rw [aa6 h] at y;exact h (I.fd j i a y z)
theorem ayn {i:Int} (q:Q' (.int i) env):Ev B (tC (.int i)) env Q':=fun σ G H F Q I k=>k _ G H F _ env I (Same.refl _) (.int i) q
theorem a0g {b:Bool} (q:Q' (.bool b) env):Ev B (tC (.bl b)) env Q':=fun σ G H F Q I k=>k _ G H F _ env I (Same.refl _) (.bl b) q
theorem ayo (q:Q' .none env):Ev B (tC .non) env Q':=fun σ G H F Q I k=>k _ G H F _ env I (Same.refl _) .non q
def Op2 (r:R2) (x y:PyData) (R:Sl->Prop):Prop:=∀ (G H:Hp) (vx vy:V) (Q:VK),Same G H->Rp G vx x->Rp G vy y->(∀ v G' H' s Fv,Out G H v G' H' s Fv->R s->Q v H')->r vx vy H Q
def Op1 (r:V->Hp->VK->Prop) (x:PyData) (R:Sl->Prop):Prop:=∀ (G H:Hp) (vx:V) (Q:VK),Same G H->Rp G vx x->(∀ v G' H' s Fv,Out G H v G' H' s Fv->R s->Q v H')->r vx H Q
def OpA (r:List V->Hp->VK->Prop) (ds:List PyData) (R:Sl->Prop):Prop:=∀ (G H:Hp) (vs:List V) (Q:VK),Same G H->Rps G vs ds->(∀ v G' H' s Fv,Out G H v G' H' s Fv->R s->Q v H')->r vs H Q
theorem alx {r:R2} (h:Ev B ta env fun x e1=>Ev B tb e1 fun y e2=>Op2 r x y fun s=>QO s e2):EvO B (tOp r ta tb) env QO:=fun σ G H F Q I k =>
 h σ G H F _ I fun v1 G1 H1 F1 x e1 I1 g1 r1 q1=>q1 σ G1 H1 F1 _ I1 fun v2 G2 H2 F2 y e2 I2 g2 r2 q2 =>
  q2 G2 H2 v1 v2 Q I2.gh (r1.same g2) r2 fun v G3 H3 s Fv o q3=>k v G3 H3 F2 Fv s e2 (I2.out o).1 (g1.trans (g2.trans o.gg)) (I2.out o).2 q3
theorem a0h {r:R2} (h:Ev B ta env fun x e1=>Ev B tb e1 fun y e2=>Op2 r x y fun s=>FQ s fun d=>Q' d e2):Ev B (tOp r ta tb) env Q':=ab7 (alx h)
theorem ayp {r:V->Hp->VK->Prop} (h:Ev B ta env fun x e1=>Op1 r x fun s=>QO s e1):EvO B (tUn r ta) env QO:=fun σ G H F Q I k =>
 h σ G H F _ I fun v1 G1 H1 F1 x e1 I1 g1 r1 q1=>q1 G1 H1 v1 Q I1.gh r1 fun v G3 H3 s Fv o q3=>k v G3 H3 F1 Fv s e1 (I1.out o).1 (g1.trans o.gg) (I1.out o).2 q3
theorem a0i {r:V->Hp->VK->Prop} (h:Ev B ta env fun x e1=>Op1 r x fun s=>FQ s fun d=>Q' d e1):Ev B (tUn r ta) env Q':=ab7 (ayp h)
theorem an9 (q:QA [] env):EvA B tNil env QA:=fun σ G H F Q I k=>k [] G H F [] env I (Same.refl _) .nil q
theorem atl {tr:TA} (h:Ev B ta env fun x e1=>EvA B tr e1 fun xs e2=>QA (x :: xs) e2):EvA B (aay ta tr) env QA:=fun σ G H F Q I k =>
 h σ G H F _ I fun v1 G1 H1 F1 x e1 I1 g1 r1 q1=>q1 σ G1 H1 F1 _ I1 fun vs G2 H2 F2 ds e2 I2 g2 r2 q2=>k _ G2 H2 F2 _ e2 I2 (g1.trans g2) (.cons (r1.same g2) r2) q2
theorem ari {r:List V->Hp->VK->Prop} {t:TA} (h:EvA B t env fun ds e1=>OpA r ds fun s=>QO s e1):EvO B (tCB r t) env QO:=fun σ G H F Q I k =>
 h σ G H F _ I fun vs G1 H1 F1 ds e1 I1 g1 r1 q1=>q1 G1 H1 vs Q I1.gh r1 fun v G3 H3 s Fv o q3=>k v G3 H3 F1 Fv s e1 (I1.out o).1 (g1.trans o.gg) (I1.out o).2 q3
theorem a0j {r:List V->Hp->VK->Prop} {t:TA} (h:EvA B t env fun ds e1=>OpA r ds fun s=>FQ s fun d=>Q' d e1):Ev B (tCB r t) env Q':=ab7 (ari h)
theorem aoa {t:TA} (h:EvA B t env fun ds e1=>ds.length<=1000/\QO (.st (.tuple ds)) e1):EvO B (tTup t) env QO:=fun σ G H F Q I k =>
 h σ G H F _ I fun vs G1 H1 F1 ds e1 I1 g1 r1 q1=>⟨by rw [r1.length];exact Nat.le_of_lt (aem q1.1),fun p hp=>by
  have o:=Out.newT I1.gh hp r1
  exact k _ _ _ F1 _ _ e1 (I1.out o).1 (g1.trans o.gg) (I1.out o).2 q1.2⟩
theorem ayq {t:TA} (h:EvA B t env fun ds e1=>ds.length<=1000/\Q' (.tuple ds) e1):Ev B (tTup t) env Q':=ab7 (aoa h)
theorem aob {t:TA} (h:EvA B t env fun ds e1=>ds.length<=1000/\QO (.own (OL ds)) e1):EvO B (tLst t) env QO:=fun σ G H F Q I k =>
 h σ G H F _ I fun vs G1 H1 F1 ds e1 I1 g1 r1 q1=>⟨by rw [r1.length];exact Nat.le_of_lt (aem q1.1),fun p hp=>by
  have o:=Out.newL I1.gh hp r1
  exact k _ _ _ F1 _ _ e1 (I1.out o).1 (g1.trans o.gg) (I1.out o).2 q1.2⟩
theorem ayr {t:TA} (h:EvA B t env fun ds e1=>ds.length<=1000/\Q' (.list ds) e1):Ev B (tLst t) env Q':=ab7 (aob fun σ G H F Q I k=>h σ G H F Q I fun vs G' H' F' ds e1 I' g r q=>k vs G' H' F' ds e1 I' g r ⟨q.1,aer q.2⟩)
theorem ag6 (h:Ev B te env fun x e1=>∃ b,x=.bool b/\QT b e1):EvT B (au6 te) env QT:=fun σ G H F Q I k =>
 h σ G H F _ I fun v G1 H1 F1 x e1 I1 g1 r1 z_=>by
  obtain ⟨b,e,q⟩:=z_
  subst e
  cases r1
  exact ⟨b,rfl,k b G1 H1 F1 e1 I1 g1 q⟩
theorem a0k (h:Ev B te env fun x e1=>∃ b,x=.bool b/\QT b e1):EvT B (tB te) env QT:=ag6 h
theorem x_bl {b:Bool} {R:Bool->Prop} (h:R b):∃ c,PyData.bool b=.bool c/\R c:=⟨b,rfl,h⟩
theorem av7 {t u:TT} (h:EvT B t env fun c e1=>if c=true then EvT B u e1 QT else QT false e1):EvT B (tAnd t u) env QT:=fun σ G H F Q I k =>
 h σ G H F _ I fun b G1 H1 F1 e1 I1 g1 q=>by
  cases b with
  | true=>rw [if_pos rfl] at q ⊢;exact q σ G1 H1 F1 Q I1 fun c G2 H2 F2 e2 I2 g2 q2=>k c G2 H2 F2 e2 I2 (g1.trans g2) q2
  | false=>rw [if_neg Bool.false_ne_true] at q ⊢;exact k false G1 H1 F1 e1 I1 g1 q
theorem ays {t u:TT} (h:EvT B t env fun c e1=>if c=true then QT true e1 else EvT B u e1 QT):EvT B (tOr t u) env QT:=fun σ G H F Q I k =>
 h σ G H F _ I fun b G1 H1 F1 e1 I1 g1 q=>by
  cases b with
  | false=>rw [if_neg Bool.false_ne_true] at q ⊢;exact q σ G1 H1 F1 Q I1 fun c G2 H2 F2 e2 I2 g2 q2=>k c G2 H2 F2 e2 I2 (g1.trans g2) q2
  | true=>rw [if_pos rfl] at q ⊢;exact k true G1 H1 F1 e1 I1 g1 q
theorem aoc {t:TT} (h:EvT B t env fun c e1=>QT (!c) e1):EvT B (tNot t) env QT:=fun σ G H F Q I k =>
 h σ G H F _ I fun b G1 H1 F1 e1 I1 g1 q=>k (!b) G1 H1 F1 e1 I1 g1 q
theorem ae3 (q:QT true env):EvT B tYes env QT:=fun σ G H F Q I k=>k true G H F env I (Same.refl _) q
noncomputable def TruD:PyData->Bool->Prop
 | .bool b,k=>k=b
 | .list ds,k=>k = !ds.isEmpty
 | _,_=>False
theorem av8 {K:Frag} (h:Ev B te env fun x e1=>∃ b,TruD x b/\QT b e1):EvT B (tTru K te) env QT:=fun σ G H F Q I k =>
 h σ G H F _ I fun v G1 H1 F1 x e1 I1 g1 r1 z_=>by
  obtain ⟨b,e,q⟩:=z_
  cases r1 with
  | bl c=>cases e;exact ⟨_,rfl,k _ G1 H1 F1 e1 I1 g1 q⟩
  | lst ha rs =>
   refine ⟨b,.inl ⟨_,SqL.of (I1.gh _ _ ha),?_⟩,k _ G1 H1 F1 e1 I1 g1 q⟩
   have e':b = !_:=e
   rw [e']
   cases rs <;> rfl
  | _=>exact e.elim
theorem av9 (h:Ev B ta env fun x e1=>∃ b,x=.bool b/\if b=true then Ev B tb e1 Q' else Q' (.bool false) e1):Ev B (ao7 ta tb) env Q':=fun σ G H F Q I k =>
 h σ G H F _ I fun v G1 H1 F1 x e1 I1 g1 r1 z_=>by
  obtain ⟨b,e,q⟩:=z_
  subst e
  cases r1
  refine ⟨b,rfl,?_⟩
  cases b with
  | true=>rw [if_pos rfl] at q ⊢;exact q σ G1 H1 F1 Q I1 fun v G2 H2 F2 d e2 I2 g2 r2 q2=>k v G2 H2 F2 d e2 I2 (g1.trans g2) r2 q2
  | false=>rw [if_neg Bool.false_ne_true] at q ⊢;exact k _ G1 H1 F1 _ e1 I1 g1 (.bl false) q
theorem awa (h:Ev B ta env fun x e1=>∃ b,x=.bool b/\Q' (.bool (!b)) e1):Ev B (ao8 ta) env Q':=fun σ G H F Q I k =>
 h σ G H F _ I fun v G1 H1 F1 x e1 I1 g1 r1 z_=>by
  obtain ⟨b,e,q⟩:=z_
  subst e
  cases r1
  exact ⟨b,rfl,k _ G1 H1 F1 _ e1 I1 g1 (.bl _) q⟩
theorem atm {r r':R2} {tc:TE} (h:Ev B ta env fun x e1=>Ev B tb e1 fun y e2=>Op2 r x y fun s=>∃ b,s=.st (.bool b)/\if b=true then Ev B tc e2 fun z e3=>Op2 r' y z fun s'=>FQ s' fun d=>Q' d e3 else Q' (.bool false) e2):Ev B (ak0 r r' ta tb tc) env Q':=fun σ G H F Q I k =>
 h σ G H F _ I fun v1 G1 H1 F1 x e1 I1 g1 r1 q1=>q1 σ G1 H1 F1 _ I1 fun v2 G2 H2 F2 y e2 I2 g2 r2 q2 =>
  q2 G2 H2 v1 v2 _ I2.gh (r1.same g2) r2 fun v G3 H3 s Fv o z_=>by
   obtain ⟨b,es,q3⟩:=z_
   have I3:=(I2.out o).1
   have rv:=o.ok
   subst es
   obtain ⟨rv,_⟩:=rv
   cases rv
   refine ⟨b,rfl,?_⟩
   cases b with
   | false=>rw [if_neg Bool.false_ne_true] at q3 ⊢;exact k _ G3 H3 F2 _ e2 I3 (g1.trans (g2.trans o.gg)) (.bl _) q3
   | true =>
    rw [if_pos rfl] at q3 ⊢
    refine q3 σ G3 H3 F2 _ I3 fun v3 G4 H4 F4 z e4 I4 g4 r4 q4=>q4 G4 H4 v2 v3 Q I4.gh (r2.same (o.gg.trans g4)) r4 fun v5 G5 H5 s5 Fv5 o5 q5=>?_
    have J:=I4.out o5
    have gg:=g1.trans (g2.trans (o.gg.trans (g4.trans o5.gg)))
    cases s5 with
    | st d=>exact k v5 G5 H5 F4 d e4 J.1 gg o5.ok.1 q5
    | own A =>
     obtain ⟨d,f,q⟩:=q5
     exact k v5 _ H5 F4 d e4 (J.1.freeze J.2.fb J.2.fd J.2.fg) (gg.trans (abd J.2.fg)) (f G5 H5 v5 Fv5 J.2.ok J.2.fg J.1.gh) q
    | io A=>exact q5.elim
    | scr ns=>exact q5.elim
end
section
variable {B:Bs} {env:En} {D':VEnds} {t u tb:TS} {te:TE} {g:TG} {c:TT} {QE:En->Prop}
theorem aod (h:EvS B t { D' with nx:=fun e=>EvS B u D' e } env):EvS B (tSeq t u) D' env:=fun σ G H F D I r =>
 h σ G H F { D with nx:=u D } I ⟨fun σ G' H F env I' g q=>q σ G' H F D I' (r.later g),r.rt,r.bk,r.ct⟩
theorem aly (h:D'.nx env):EvS B au0 D' env:=fun σ G H F D I r=>r.nx σ G H F env I (Same.refl _) h
theorem awb (h:EvO B te env fun s e=>EvG B g s e D'.nx):EvS B (tAsg te g) D' env:=fun σ G H F D I r =>
 h σ G H F _ I fun v G1 H1 F1 Fv s e1 I1 g1 x1 q1=>q1 σ G1 H1 F1 v Fv D.nx I1 x1 fun σ2 G2 H2 F2 e2 I2 g2 q2=>r.nx σ2 G2 H2 F2 e2 I2 (g1.trans g2) q2
theorem aa7 {i:Nat} {s:Sl} (h:QE (env.set i (some s))):EvG B (aba i) s env QE:=fun σ G H F v Fv Q I x k=>k _ G H _ _ (I.store x i) (Same.refl _) h
theorem alz (h:QE env):EvGs B gNil [] env QE:=fun σ G H F vs Q I x k=>by cases x;exact ⟨rfl,k σ G H F env I (Same.refl _) h⟩
theorem af1 {gs:TGs} {d:PyData} {ds:List PyData} (h:EvG B g (.st d) env fun e=>EvGs B gs ds e QE):EvGs B (agb g gs) (d :: ds) env QE:=fun σ G H F vs Q I x k=>by
 cases x with
 | cons r rs =>
  refine ⟨_,_,rfl,h σ G H F _ _ _ I (ad3 r) fun σ1 G1 H1 F1 e1 I1 g1 q1=>q1 σ1 G1 H1 F1 _ Q I1 (rs.same g1) fun σ2 G2 H2 F2 e2 I2 g2 q2=>k σ2 G2 H2 F2 e2 I2 (g1.trans g2) q2⟩
theorem aoe {K:Frag} {n:Nat} {gs:TGs} {ds:List PyData} (hl:ds.length=n) (h:EvGs B gs ds env QE):EvG B (gTup K n gs) (.st (.tuple ds)) env QE:=fun σ G H F v Fv Q I x k=>by
 obtain ⟨r,_⟩:=x.ok
 cases r with
 | tup ha rs=>exact ⟨_,_,rfl,SqT.of (I.gh _ _ ha),by rw [rs.length,hl],h σ G H F _ Q I rs k⟩
theorem aof (h:EvO B te env fun s e=>D'.rt s e):EvS B (tRet te) D' env:=fun σ G H F D I r =>
 h σ G H F _ I fun v G1 H1 F1 Fv s e1 I1 g1 x1 q1=>r.rt σ G1 H1 F1 e1 v Fv s I1 g1 x1 q1
theorem atn (h:EvO B te env fun _ e=>D'.nx e):EvS B (au1 te) D' env:=fun σ G H F D I r =>
 h σ G H F _ I fun v G1 H1 F1 Fv s e1 I1 g1 x1 q1=>r.nx σ G1 H1 F1 e1 I1 g1 q1
theorem arj (h:EvT B c env fun b e=>if b=true then EvS B t D' e else EvS B u D' e):EvS B (tIfS c t u) D' env:=fun σ G H F D I r =>
 h σ G H F _ I fun b G1 H1 F1 e1 I1 g1 q=>by
  cases b with
  | true=>rw [if_pos rfl] at q ⊢;exact q σ G1 H1 F1 D I1 (r.later g1)
  | false=>rw [if_neg Bool.false_ne_true] at q ⊢;exact q σ G1 H1 F1 D I1 (r.later g1)
def ForV (B:Bs) (g:TG) (tb:TS) (D':VEnds) (ds:List PyData) (e1:En):Prop:=∃ J:Nat->En->Prop,J 0 e1/\(∀ i d e,ds[i]?=some d->J i e->EvG B g (.st d) e fun e2=>EvS B tb { D' with nx:=J (i+1),ct:=J (i+1),bk:=D'.nx } e2)/\∀ e,J ds.length e->D'.nx e
theorem awc {wi:TI} (h:EvI B wi env fun ds e1=>ForV B g tb D' ds e1):EvS B (tFor wi g tb) D' env:=fun σ G H F D I r =>
 h σ G H F _ I fun J G1 H1 F1 ds e1 I1 g1 it z_=>by
  obtain ⟨Jv,j0,js,jd⟩:=z_
  refine ⟨fun i m σ H=>m=ds.length - i/\i<=ds.length/\∃ G2 F2 e2,VI B G2 H σ e2 F2/\Same G1 G2/\Jv i e2,⟨ds.length,by simp,Nat.zero_le _,G1,F1,e1,I1,Same.refl _,j0⟩,?_⟩
  rintro i m σ H ⟨rfl,hi,G2,F2,e2,I2,g2,j2⟩
  by_cases hlt:i < ds.length
  ·refine .inr ⟨it.go i G2 H g2 I2.gh hlt,fun σ H=>∃ G3 F3 e3,VI B G3 H σ e3 F3/\Same G1 G3/\Jv (i+1) e3,fun σ' H' h'=>⟨ds.length - (i+1),by omega,rfl,hlt,h'⟩,fun x H' y=>?_⟩
   obtain ⟨G3,o⟩:=it.yld i G2 H x H' _ g2 I2.gh I2.ft (List.getElem?_eq_getElem hlt) y
   have I3:=I2.out o
   refine js i _ e2 (List.getElem?_eq_getElem hlt) j2 σ G3 H' F2 x _ _ I3.1 I3.2 fun σ4 G4 H4 F4 e4 I4 g4 q4=>?_
   have gg:=g2.trans (o.gg.trans g4)
   refine q4 σ4 G4 H4 F4 _ I4 ⟨fun σ5 G5 H5 F5 e5 I5 g5 q5=>⟨G5,F5,e5,I5,gg.trans g5,q5⟩,fun σ5 G5 H5 F5 e5 v5 Fv5 s5 I5 g5=>r.rt σ5 G5 H5 F5 e5 v5 Fv5 s5 I5 (g1.trans (gg.trans g5)),fun σ5 G5 H5 F5 e5 I5 g5=>r.nx σ5 G5 H5 F5 e5 I5 (g1.trans (gg.trans g5)),fun σ5 G5 H5 F5 e5 I5 g5 q5=>⟨G5,F5,e5,I5,gg.trans g5,q5⟩⟩
  ·have e:i=ds.length:=by omega
   subst e
   exact .inl ⟨it.stop _ G2 H g2 I2.gh rfl,r.nx σ G2 H F2 e2 I2 (g1.trans g2) (jd e2 j2)⟩
theorem af2 (J:Nat->En->Prop) (h0:∃ m,J m env) (h:∀ m e,J m e->EvT B c e fun b e1=>if b=true then EvS B tb { D' with nx:=fun e2=>∃ m',m' < m/\J m' e2,ct:=fun e2=>∃ m',m' < m/\J m' e2,bk:=D'.nx } e1 else D'.nx e1):EvS B (aqk c tb) D' env:=fun σ G H F D I r=>by
 obtain ⟨m0,h0⟩:=h0
 refine ⟨fun m σ H=>∃ G2 F2 e2,VI B G2 H σ e2 F2/\Same G G2/\J m e2,⟨m0,G,F,env,I,Same.refl _,h0⟩,?_⟩
 rintro m σ H ⟨G2,F2,e2,I2,g2,j2⟩
 refine h m e2 j2 σ G2 H F2 _ I2 fun b G3 H3 F3 e3 I3 g3 q3=>?_
 have gg:=g2.trans g3
 cases b with
 | false=>rw [if_neg Bool.false_ne_true] at q3 ⊢;exact r.nx σ G3 H3 F3 e3 I3 gg q3
 | true =>
  rw [if_pos rfl] at q3 ⊢
  refine ⟨fun σ H=>∃ G4 F4 e4,VI B G4 H σ e4 F4/\Same G G4/\∃ m',m' < m/\J m' e4,fun σ' H' ⟨G4,F4,e4,I4,g4,m',hm,j4⟩=>⟨m',hm,G4,F4,e4,I4,g4,j4⟩,?_⟩
  exact q3 σ G3 H3 F3 _ I3 ⟨fun σ5 G5 H5 F5 e5 I5 g5 q5=>⟨G5,F5,e5,I5,gg.trans g5,q5⟩,fun σ5 G5 H5 F5 e5 v5 Fv5 s5 I5 g5=>r.rt σ5 G5 H5 F5 e5 v5 Fv5 s5 I5 (gg.trans g5),fun σ5 G5 H5 F5 e5 I5 g5=>r.nx σ5 G5 H5 F5 e5 I5 (gg.trans g5),fun σ5 G5 H5 F5 e5 I5 g5 q5=>⟨G5,F5,e5,I5,gg.trans g5,q5⟩⟩
variable {QI:List PyData->En->Prop}
theorem al0 {K:Frag} (h:Ev B te env fun d e=>∃ ds,d=.list ds/\QI ds e):EvI B (apa K te) env QI:=fun σ G H F R I k =>
 h σ G H F _ I fun v G1 H1 F1 d e1 I1 g1 r1 z_=>by
  obtain ⟨ds,ed,q1⟩:=z_
  subst ed
  cases r1 with
  | @lst a vs ds ha rs =>
   refine ⟨a,rfl,⟨vs,SqL.of (I1.gh _ _ ha)⟩,k _ G1 H1 F1 ds e1 I1 g1 ⟨fun i G' H' g h hi=>?_,fun i G' H' g h hi=>?_,fun i G' H' x H'' d g h ft hd y=>?_⟩ q1⟩
   ·have:i < vs.length:=by rw [rs.length];exact hi
    exact ⟨vs,vs[i],SqL.of (h _ _ (g _ _ ha)),List.getElem?_eq_getElem this⟩
   ·exact ⟨vs,SqL.of (h _ _ (g _ _ ha)),by rw [rs.length];exact Nat.le_of_eq hi.symm⟩
   ·obtain ⟨e,y⟩:=y
    subst e
    obtain ⟨v,hv,rv⟩:=rs.get hd
    have:=y vs (SqL.of (h _ _ (g _ _ ha)))
    rw [hv] at this
    cases this
    exact ⟨G',Out.refl h (rv.same g)⟩
theorem ayt {ds:List PyData} {R:List PyData->Prop} (h:R ds):∃ xs,PyData.list ds=.list xs/\R xs:=⟨ds,rfl,h⟩
noncomputable def rngD (lo:Int) (n:Nat):List PyData:=(List.range n).map fun (i:Nat) => .int (lo+(i:Int))
theorem ab0 {lo:Int} {n:Nat}:(rngD lo n).length=n:=by simp [rngD]
theorem adl {lo:Int} {n i:Nat} {d:PyData} (h:(rngD lo n)[i]?=some d):i < n/\d=.int (lo+(i:Int)):=by
 unfold rngD at h
 rw [List.getElem?_map] at h
 have hi:i < n:=by
  have:=(List.getElem?_eq_some_iff (l:=(List.range n).map fun (i:Nat)=>PyData.int (lo+(i:Int)))).mp (by rw [List.getElem?_map];exact h)
  obtain ⟨q,_⟩:=this
  simpa using q
 rw [List.getElem?_eq_getElem (by simpa using hi)] at h
 simp at h
 exact ⟨hi,h.symm⟩
theorem ark {G:Hp} {lo:Int} {n:Nat}:ItOk G (Itr lo n) (rngD lo n):=by
 refine ⟨fun i G' H' g h hi=>?_,fun i G' H' g h hi=>?_,fun i G' H' x H'' d g h ft hd y=>?_⟩
 ·rw [ab0] at hi;exact hi
 ·rw [ab0] at hi;exact Nat.le_of_eq hi.symm
 ·obtain ⟨e,y⟩:=y
  subst e y
  rw [(adl hd).2]
  exact ⟨G',Out.refl h (.int _)⟩
def akv (ds:List PyData) (R:List PyData->Prop):Prop:=∃ j:Int,ds=[.int j]/\-(2 ^ 62)<=j/\j < 2 ^ 62/\R (rngD 0 j.toNat)
def akw (ds:List PyData) (R:List PyData->Prop):Prop:=∃ i j:Int,ds=[.int i,.int j]/\(-(2 ^ 62)<=i/\i < 2 ^ 62/\-(2 ^ 62)<=j/\j < 2 ^ 62)/\R (rngD i (j - i).toNat)
theorem ato {ta:TA} (h:EvA B ta env fun ds e=>akv ds fun xs=>QI xs e):EvI B (au3 ta) env QI:=fun σ G H F R I k =>
 h σ G H F _ I fun vs G1 H1 F1 ds e1 I1 g1 r1 z_=>by
  obtain ⟨j,ed,b1,b2,q1⟩:=z_
  subst ed
  obtain rfl:vs=[V.int j]:=Rps.ints_inv (ns:=[j]) r1
  exact ⟨j,rfl,b1,b2,k _ G1 H1 F1 _ e1 I1 g1 ark q1⟩
theorem atp {ta:TA} (h:EvA B ta env fun ds e=>akw ds fun xs=>QI xs e):EvI B (au4 ta) env QI:=fun σ G H F R I k =>
 h σ G H F _ I fun vs G1 H1 F1 ds e1 I1 g1 r1 z_=>by
  obtain ⟨i,j,ed,b1,q1⟩:=z_
  subst ed
  obtain rfl:vs=[V.int i,V.int j]:=Rps.ints_inv (ns:=[i,j]) r1
  exact ⟨i,j,rfl,b1,k _ G1 H1 F1 _ e1 I1 g1 ark q1⟩
theorem ayu {j:Int} {R:List PyData->Prop} (h1 : -4611686018427387904<=j) (h2:j < 4611686018427387904) (h:R (rngD 0 j.toNat)):akv [.int j] R:=⟨j,rfl,by omega,by omega,h⟩
theorem ayv {a b:Int} {R:List PyData->Prop} (h1 : -4611686018427387904<=a/\a < 4611686018427387904/\-4611686018427387904<=b/\b < 4611686018427387904) (h:R (rngD a (b - a).toNat)):akw [.int a,.int b] R:=⟨a,b,rfl,by omega,h⟩
theorem adm {lo:Int} {n:Nat} (J:Nat->En->Prop) (h0:J 0 env) (hs:∀ i e,i < n->J i e->EvG B g (.st (.int (lo+(i:Int)))) e fun e2=>EvS B tb { D' with nx:=J (i+1),ct:=J (i+1),bk:=D'.nx } e2) (hd:∀ e,J n e->D'.nx e):ForV B g tb D' (rngD lo n) env :=
 ⟨J,h0,fun i d e h j=>by obtain ⟨hi,rfl⟩:=adl h;exact hs i e hi j,fun e j=>hd e (by rw [ab0] at j;exact j)⟩
theorem acy {α:Type} {f : α->PyData} {xs:List α} (J:Nat->En->Prop) (h0:J 0 env) (hs:∀ i x e,xs[i]?=some x->J i e->EvG B g (.st (f x)) e fun e2=>EvS B tb { D' with nx:=J (i+1),ct:=J (i+1),bk:=D'.nx } e2) (hd:∀ e,J xs.length e->D'.nx e):ForV B g tb D' (xs.map f) env :=
 ⟨J,h0,fun i d e h j=>by
  rw [List.getElem?_map] at h
  cases hx:xs[i]? with
  | none=>rw [hx] at h;cases h
  | some x=>rw [hx] at h;cases h;exact hs i x e hx j,fun e j=>hd e (by rw [List.length_map] at j;exact j)⟩
end
theorem al1 {B:Bs} {a b:TS} {D':VEnds} {env:En} (h:∀ c:TS,c=b->EvS B a { D' with nx:=fun e=>EvS B c D' e } env):EvS B (tSeq a b) D' env:=aod (h b rfl)
theorem aog {B:Bs} {c b:TS} {D':VEnds} {env:En} (e:c=b) (h:EvS B b D' env):EvS B c D' env:=by rw [e];exact h
@[elab_as_elim] theorem exS1 {α0:Type} {σ:Type} {f : α0->σ} {p : α0->Prop} {motive : σ->Prop} (s : σ) (h:∃ x0,s=f x0/\p x0) (k:∀ x0,p x0->motive (f x0)):motive s:=by
 obtain ⟨x0,e,h⟩:=h
 rw [e];exact k _ h
@[elab_as_elim] theorem exS2 {α0:Type} {α1:Type} {σ:Type} {f : α0->α1->σ} {p : α0->α1->Prop} {motive : σ->Prop} (s : σ) (h:∃ x0 x1,s=f x0 x1/\p x0 x1) (k:∀ x0 x1,p x0 x1->motive (f x0 x1)):motive s:=by
 obtain ⟨x0,x1,e,h⟩:=h
 rw [e];exact k _ _ h
@[elab_as_elim] theorem exE2 {α0:Type} {α1:Type} {σ:Type} {f : α0->α1->σ} {motive : σ->Prop} (s : σ) (h:∃ x0 x1,s=f x0 x1) (k:∀ x0 x1,motive (f x0 x1)):motive s:=by
 obtain ⟨x0,x1,e⟩:=h
 rw [e];exact k _ _
@[elab_as_elim] theorem exS3 {α0:Type} {α1:Type} {α2:Type} {σ:Type} {f : α0->α1->α2->σ} {p : α0->α1->α2->Prop} {motive : σ->Prop} (s : σ) (h:∃ x0 x1 x2,s=f x0 x1 x2/\p x0 x1 x2) (k:∀ x0 x1 x2,p x0 x1 x2->motive (f x0 x1 x2)):motive s:=by
 obtain ⟨x0,x1,x2,e,h⟩:=h
 rw [e];exact k _ _ _ h
@[elab_as_elim] theorem exS4 {α0:Type} {α1:Type} {α2:Type} {α3:Type} {σ:Type} {f : α0->α1->α2->α3->σ} {p : α0->α1->α2->α3->Prop} {motive : σ->Prop} (s : σ) (h:∃ x0 x1 x2 x3,s=f x0 x1 x2 x3/\p x0 x1 x2 x3) (k:∀ x0 x1 x2 x3,p x0 x1 x2 x3->motive (f x0 x1 x2 x3)):motive s:=by
 obtain ⟨x0,x1,x2,x3,e,h⟩:=h
 rw [e];exact k _ _ _ _ h
@[elab_as_elim] theorem exE5 {α0:Type} {α1:Type} {α2:Type} {α3:Type} {α4:Type} {σ:Type} {f : α0->α1->α2->α3->α4->σ} {motive : σ->Prop} (s : σ) (h:∃ x0 x1 x2 x3 x4,s=f x0 x1 x2 x3 x4) (k:∀ x0 x1 x2 x3 x4,motive (f x0 x1 x2 x3 x4)):motive s:=by
 obtain ⟨x0,x1,x2,x3,x4,e⟩:=h
 rw [e];exact k _ _ _ _ _
@[elab_as_elim] theorem exS6 {α0:Type} {α1:Type} {α2:Type} {α3:Type} {α4:Type} {α5:Type} {σ:Type} {f : α0->α1->α2->α3->α4->α5->σ} {p : α0->α1->α2->α3->α4->α5->Prop} {motive : σ->Prop} (s : σ) (h:∃ x0 x1 x2 x3 x4 x5,s=f x0 x1 x2 x3 x4 x5/\p x0 x1 x2 x3 x4 x5) (k:∀ x0 x1 x2 x3 x4 x5,p x0 x1 x2 x3 x4 x5->motive (f x0 x1 x2 x3 x4 x5)):motive s:=by
 obtain ⟨x0,x1,x2,x3,x4,x5,e,h⟩:=h
 rw [e];exact k _ _ _ _ _ _ h
@[elab_as_elim] theorem exE9 {α0:Type} {α1:Type} {α2:Type} {α3:Type} {α4:Type} {α5:Type} {α6:Type} {α7:Type} {α8:Type} {σ:Type} {f : α0->α1->α2->α3->α4->α5->α6->α7->α8->σ} {motive : σ->Prop} (s : σ) (h:∃ x0 x1 x2 x3 x4 x5 x6 x7 x8,s=f x0 x1 x2 x3 x4 x5 x6 x7 x8) (k:∀ x0 x1 x2 x3 x4 x5 x6 x7 x8,motive (f x0 x1 x2 x3 x4 x5 x6 x7 x8)):motive s:=by
 obtain ⟨x0,x1,x2,x3,x4,x5,x6,x7,x8,e⟩:=h
 rw [e];exact k _ _ _ _ _ _ _ _ _
theorem big {n:Nat} (h:n<=1000000):n < sizeLine:=Nat.lt_of_le_of_lt h (by decide)
section
variable {B B1:Bs} {G H G' H':Hp} {σ σI:St} {env envI:En} {F F':Nat->Addr->Prop} {v:V} {s:Sl} {Fv:Addr->Prop} {inv:Nat->Option Nat}
open Classical in
noncomputable def acp (H:Hp) (F:Nat->Addr->Prop) (inv:Nat->Option Nat):Hp:=fun a=>if ∃ i j,inv i=some j/\F i a then none else H a
theorem afg {i j:Nat} {a:Addr} (h:inv i=some j) (f:F i a):acp H F inv a=none:=if_pos ⟨i,j,h,f⟩
theorem ag7 {a:Addr} (h:∀ i j,inv i=some j->¬ F i a):acp H F inv a=H a:=if_neg fun ⟨i,j,x,y⟩=>h i j x y
theorem adg:Same (acp H F inv) H:=fun a o e=>by
 unfold acp at e
 split at e
 ·cases e
 ·exact e
theorem VI.enter (I:VI B G H σ env F) (inj:∀ i i' j,inv i=some j->inv i'=some j->i=i') (ln : σI.length=envI.length)
  (sl:∀ j s,envI[j]?=some (some s)->∃ v,σI[j]?=some (some v)/\((∃ d,s=.st d/\Rp G v d/\∀ i,inv i ≠ some j)\/(∃ ns a,s=.scr ns/\v=.ref a/\SqL B.K G a (ns.map V.int)/\∀ i,inv i ≠ some j) ∨
   ∃ i A,inv i=some j/\s=.io A/\σ[i]?=some (some v)/\(env[i]?=some (some (.own A))\/env[i]?=some (some (.io A))))) :
  VI ⟨B.K,G,H,acp H F inv,σI,fun j a=>∃ i,inv i=some j/\F i a⟩ G H σI envI (fun j a=>∃ i,inv i=some j/\F i a) where
 gh:=I.gh
 g0:=Same.refl _
 gn:=fun a o e => .inl e
 rs:=adg
 rb:=adg
 bh:=fun a o e=>⟨o,e⟩
 fg:=fun j a ⟨i,_,z⟩=>I.fg i a z
 fr:=fun j a ⟨i,h,z⟩=>afg h z
 fd:=fun j k a ⟨i,h,z⟩ ⟨i',h',z'⟩=>by
  have:=I.fd i i' a z z'
  subst this
  rw [h] at h';cases h';rfl
 fo:=fun j a ⟨i,h,z⟩=>I.fo i a z
 sl:=fun j s e=>by
  obtain ⟨v,hv,q⟩:=sl j s e
  refine ⟨v,hv,?_⟩
  rcases q with ⟨d,rfl,r,n⟩ | ⟨ns,a,rfl,rfl,q,n⟩ | ⟨i,A,hi,rfl,hs,he⟩
  ·exact ⟨r,fun a ⟨i,h,_⟩=>n i h⟩
  ·exact ⟨⟨a,rfl,q⟩,fun a ⟨i,h,_⟩=>n i h⟩
  ·refine ⟨?_,fun a z => .inl z,hv⟩
   have eF:(fun a=>∃ i',inv i'=some j/\F i' a)=F i:=by
    funext a
    exact propext ⟨fun ⟨i',h,z⟩=>by rw [inj i i' j hi h];exact z,fun z=>⟨i,hi,z⟩⟩
   show A.P G H v (fun a=>∃ i',inv i'=some j/\F i' a)
   rw [eF]
   rcases he with he | he
   ·obtain ⟨v',e1,e2⟩:=I.sl i _ he
    rw [hs] at e1;cases e1;exact e2.1
   ·obtain ⟨v',e1,e2⟩:=I.sl i _ he
    rw [hs] at e1;cases e1;exact e2.1
 ln:=ln
 ft:=I.ft
theorem VI.leave (I:VI B G H σ env F) (inj:∀ i i' j,inv i=some j->inv i'=some j->i=i') (bG:B1.G=G) (bH:B1.H=H) (bR:∀ a o,H a=some o->(∀ i j,inv i=some j->¬ F i a)->B1.R a=some o)
  (bF:∀ i j,inv i=some j->∀ a,B1.F j a->F i a) (bS:∀ i j,inv i=some j->B1.S[j]? = σ[i]?) (J:VI B1 G' H' σI envI F') (io:∀ i j,inv i=some j->∃ A',envI[j]?=some (some (.io A'))) {env2:En} (he:env2.length=env.length)
  (h2:∀ i s,env2[i]?=some (some s)->(inv i=none/\env[i]?=some (some s))\/∃ j A A',inv i=some j/\envI[j]?=some (some (.io A'))/\((env[i]?=some (some (.own A))/\s=.own A')\/(env[i]?=some (some (.io A))/\s=.io A'))) :
  VI B G' H' σ env2 (fun i a=>match inv i with | some j=>F' j a | none=>F i a):=by
 have gn1:∀ a o,G' a=some o->G a=some o\/H a=none:=fun a o e=>by
  have:=J.gn a o e
  rw [bG,bH] at this;exact this
 have fi:∀ i j a,inv i=some j->F' j a->F i a\/H a=none:=fun i j a hi z=>by
  obtain ⟨A',e⟩:=io i j hi
  obtain ⟨v,_,q⟩:=J.sl j _ e
  rcases q.2.1 a z with y | y
  ·exact .inl (bF i j hi a y)
  ·rw [bH] at y;exact .inr y
 have kp:∀ a o,H a=some o->(∀ i j,inv i=some j->¬ F i a)->H' a=some o:=fun a o e n=>J.rs a o (bR a o e n)
 refine ⟨J.gh,I.g0.trans (bG ▸ J.g0),fun a o e=>?_,fun a o e=>?_,I.rb,fun a o e=>?_,fun i a z=>?_,fun i a z=>?_,fun i k a y z=>?_,fun i a z=>?_,fun i t e=>?_,by rw [he];exact I.ln,J.ft⟩
 ·rcases gn1 a o e with e | e
  ·exact I.gn a o e
  ·exact .inr (I.no_b e)
 ·refine kp a o (I.rs a o e) fun i j _ z=>?_
  rw [I.fr i a z] at e;cases e
 ·obtain ⟨o1,e1⟩:=I.bh a o e
  exact J.bh a o1 (by rw [bH];exact e1)
 ·cases hi:inv i with
  | some j=>rw [hi] at z;exact J.fg j a z
  | none =>
   rw [hi] at z
   cases e:G' a with
   | none=>rfl
   | some o =>
    rcases gn1 a o e with e | e
    ·rw [I.fg i a z] at e;cases e
    ·exact absurd z (I.no_f e i)
 ·cases hi:inv i with
  | some j =>
   rw [hi] at z
   rcases fi i j a hi z with y | y
   ·exact I.fr i a y
   ·exact I.no_r y
  | none=>rw [hi] at z;exact I.fr i a z
 ·cases hi:inv i with
  | some j =>
   rw [hi] at y
   cases hk:inv k with
   | some l =>
    rw [hk] at z
    have:=J.fd j l a y z
    subst this
    exact inj i k j hi hk
   | none =>
    rw [hk] at z
    rcases fi i j a hi y with x | x
    ·exact I.fd i k a x z
    ·exact absurd z (I.no_f x k)
  | none =>
   rw [hi] at y
   cases hk:inv k with
   | some l =>
    rw [hk] at z
    rcases fi k l a hk z with x | x
    ·exact I.fd i k a y x
    ·exact absurd y (I.no_f x i)
   | none=>rw [hk] at z;exact I.fd i k a y z
 ·cases hi:inv i with
  | some j=>rw [hi] at z;exact J.fo j a z
  | none =>
   rw [hi] at z
   obtain ⟨o,e⟩:=I.fo i a z
   exact J.bh a o (by rw [bH];exact e)
 ·rcases h2 i t e with ⟨hi,e1⟩ | ⟨j,A,A',hi,e1,e2⟩
  ·obtain ⟨v,hv,q⟩:=I.sl i t e1
   refine ⟨v,hv,?_⟩
   simp only [hi]
   refine q.mono (bG ▸ J.g0) fun a o z y=>kp a o y fun i' j' hi' z'=>?_
   have:=I.fd i i' a z z'
   subst this
   rw [hi] at hi';cases hi'
  ·obtain ⟨v,hv,q⟩:=J.sl j _ e1
   have hS : σ[i]?=some (some v):=by rw [← bS i j hi];exact q.2.2
   refine ⟨v,hS,?_⟩
   simp only [hi]
   rcases e2 with ⟨e2,rfl⟩ | ⟨e2,rfl⟩
   ·obtain ⟨v',_,q'⟩:=I.sl i _ e2
    refine ⟨q.1,fun a z=>?_⟩
    rcases fi i j a hi z with y | y
    ·exact q'.2 a y
    ·exact I.no_b y
   ·obtain ⟨v',hv',q'⟩:=I.sl i _ e2
    rw [hS] at hv';cases hv'
    refine ⟨q.1,fun a z=>?_,q'.2.2⟩
    rcases fi i j a hi z with y | y
    ·exact q'.2.1 a y
    ·exact .inr (I.no_b y)
theorem RsX.leave (I:VI B G H σ env F) (bH:B1.H=H) (r:RsX B1 G' H' v Fv s F'):RsX B G' H' v Fv s (fun i a=>match inv i with | some j=>F' j a | none=>F i a):=by
 have hn:∀ a,Fv a->H a=none:=fun a z=>bH ▸ r.fb a z
 refine ⟨r.ok,fun a z=>I.no_b (hn a z),r.fg,r.fo,fun i a z y=>?_⟩
 cases hi:inv i with
 | some j=>rw [hi] at y;exact r.fd j a z y
 | none=>rw [hi] at y;exact I.no_f (hn a z) i y
end
noncomputable abbrev VP:=List Sl->(Sl->Prop)->Prop
noncomputable abbrev VIo:=Own->List Sl->(Own->Sl->Prop)->Prop
def noF:Nat->Addr->Prop:=fun _ _=>False
noncomputable def bsP (K:Frag) (G H:Hp) (vs:List V):Bs:=⟨K,G,H,H,vs.map some,noF⟩
noncomputable def avc (K:Frag) (G:Hp):V->Sl->Prop
 | v,.st d=>Rp G v d
 | v,.scr ns=>∃ a,v=.ref a/\SqL K G a (ns.map V.int)
 | _,_=>False
inductive ArgsOk (K:Frag) (G:Hp):List V->List Sl->Prop
 | nil:ArgsOk K G [] []
 | cons {v:V} {s:Sl} {vs:List V} {ss:List Sl}:avc K G v s->ArgsOk K G vs ss->ArgsOk K G (v :: vs) (s :: ss)
theorem ArgsOk.length {K:Frag} {G:Hp}:∀ {vs:List V} {ss:List Sl},ArgsOk K G vs ss->vs.length=ss.length
 | _,_,.nil=>rfl
 | _,_,.cons _ t=>by simp [ArgsOk.length t]
theorem ArgsOk.get {K:Frag} {G:Hp}:∀ {vs:List V} {ss:List Sl} {i:Nat} {s:Sl},ArgsOk K G vs ss->ss[i]?=some s->∃ v,vs[i]?=some v/\avc K G v s
 | _,_,_,_,.nil,e=>by simp at e
 | _,_,0,_,.cons r _,e=>by simp at e;subst e;exact ⟨_,rfl,r⟩
 | _,_,i+1,s,.cons _ t,e=>by
  obtain ⟨u,h1,h2⟩:=ArgsOk.get (i:=i) (s:=s) t (by simpa using e)
  exact ⟨u,by simpa using h1,h2⟩
theorem ArgsOk.of {K:Frag} {G:Hp}:∀ {vs:List V} {ds:List PyData},Rps G vs ds->ArgsOk K G vs (ds.map Sl.st)
 | _,_,.nil => .nil
 | _,_,.cons r t => .cons r (ArgsOk.of t)
theorem aoh {α:Type} {xs:List α} {n i:Nat} {s : α} (e:(xs.map some ++ List.replicate n none)[i]?=some (some s)):xs[i]?=some s:=by
 by_cases h:i < xs.length
 ·rw [List.getElem?_append_left (by simpa using h),List.getElem?_map] at e
  rw [List.getElem?_eq_getElem h] at e ⊢
  simpa using e
 ·rw [List.getElem?_append_right (by simpa using h),List.getElem?_replicate] at e
  split at e <;> cases e
theorem aoi {α:Type} {xs:List α} {n i:Nat} {s : α} (e:xs[i]?=some s):(xs.map some ++ List.replicate n none)[i]?=some (some s):=by
 have h:i < xs.length:=(List.getElem?_eq_some_iff.mp e).1
 rw [List.getElem?_append_left (by simpa using h),List.getElem?_map,e];rfl
def spP (K:Frag) (f:VP):Sp:=fun vs H Q _=>∃ G ss Q',Same G H/\FT G H/\ArgsOk K G vs ss/\f ss Q'/\∀ s,Q' s->∀ v G' H' Fv,Out G H v G' H' s Fv->Q v H'
structure OutI (G H R:Hp) (F0:Addr->Prop) (v0:V) (A':Own) (s:Sl) (v:V) (G' H':Hp) (F' Fv:Addr->Prop):Prop where
 gg:Same G G'
 gh:Same G' H'
 ft:FT G' H'
 gn:∀ a o,G' a=some o->G a=some o\/H a=none
 rs:Same R H'
 bh:∀ a o,H a=some o->∃ o',H' a=some o'
 ap:A'.P G' H' v0 F'
 fi:∀ a,F' a->F0 a\/H a=none
 fg:∀ a,F' a->G' a=none
 ok:RsOk G' H' v Fv s
 fv:∀ a,Fv a->H a=none/\G' a=none/\(∃ o,H' a=some o)/\¬ F' a
def spI (K:Frag) (f:VIo):Sp:=fun vs H Q _=>∃ v0 vr G R A ss F0 Q',vs=v0 :: vr/\Same G H/\FT G H/\Same R H/\A.P G H v0 F0/\(∀ a,F0 a->G a=none)/\(∀ a,F0 a->R a=none)/\ArgsOk K G vr ss /\
 f A ss Q'/\∀ A' s,Q' A' s->∀ v G' H' F' Fv,OutI G H R F0 v0 A' s v G' H' F' Fv->Q v H'
theorem abb {K:Frag} {f:VP} {ts:TS} {N:List Str} {vs:List V} {H:Hp} {Q:VK} {E:XK} (h:spP K f vs H Q E)
  (hb:∀ ss Q',f ss Q'->∀ B,B.K=K->EvS B ts { nx:=fun _=>Q' (.st .none),rt:=fun s _=>Q' s } (ss.map some ++ List.replicate (N.length - ss.length) none)):ts { nx:=fun _ H'=>Q .non H',rt:=Q } (L2.start N vs) H:=by
 obtain ⟨G,ss,Q',gh,ft,ao,hf,hQ⟩:=h
 have fin:∀ {σ G' H' F env v Fv s},VI (bsP K G H vs) G' H' σ env F->RsX (bsP K G H vs) G' H' v Fv s F->Out G H v G' H' s Fv:=fun I r =>
  ⟨I.g0,I.gh,I.rs,I.gn,r.fb,r.fg,r.fo,r.ok,fun _=>I.ft⟩
 refine hb ss _ hf (bsP K G H vs) rfl (L2.start N vs) G H noF _ ?_ ⟨fun σ G' H' F env I g q=>hQ _ q _ _ _ _ (fin I (ad3 .non)),fun σ G' H' F env v Fv s I g r q=>hQ _ q v G' H' Fv (fin I r),fun _ _ _ _ _ _ _ q=>q,fun _ _ _ _ _ _ _ q=>q⟩
 refine ⟨gh,Same.refl _,fun a o e => .inl e,Same.refl _,Same.refl _,fun a o e=>⟨o,e⟩,fun i a z=>z.elim,fun i a z=>z.elim,fun i j a z=>z.elim,fun i a z=>z.elim,fun i s e=>?_,?_,ft⟩
 ·obtain ⟨v,hv,q⟩:=ao.get (aoh e)
  refine ⟨v,by unfold L2.start;exact aoi hv,?_⟩
  cases s with
  | st d=>exact ⟨q,fun a z=>z⟩
  | scr ns=>exact ⟨q,fun a z=>z⟩
  | own A=>exact q.elim
  | io A=>exact q.elim
 ·unfold L2.start;simp [ao.length]
theorem agg {K:Frag} {f:VIo} {ts:TS} {N:List Str} {vs:List V} {H:Hp} {Q:VK} {E:XK} (h:spI K f vs H Q E)
  (hb:∀ A ss Q',f A ss Q'->∀ B,B.K=K->EvS B ts { nx:=fun e=>∃ A',e[0]?=some (some (.io A'))/\Q' A' (.st .none),rt:=fun s e=>∃ A',e[0]?=some (some (.io A'))/\Q' A' s } (some (.io A) :: (ss.map some ++ List.replicate (N.length - (ss.length+1)) none))):ts { nx:=fun _ H'=>Q .non H',rt:=Q } (L2.start N vs) H:=by
 obtain ⟨v0,vr,G,R,A,ss,F0,Q',rfl,gh,ft,rh,ap,fg,fr,ao,hf,hQ⟩:=h
 have el:(v0 :: vr).length=ss.length+1:=by simp [ao.length]
 refine hb A ss _ hf ⟨K,G,H,R,(v0 :: vr).map some,fun i a=>i=0/\F0 a⟩ rfl (L2.start N (v0 :: vr)) G H (fun i a=>i=0/\F0 a) _ ?_ ?_
 ·refine ⟨gh,Same.refl _,fun a o e => .inl e,rh,rh,fun a o e=>⟨o,e⟩,fun i a z=>fg a z.2,fun i a z=>fr a z.2,fun i j a z y=>by rw [z.1,y.1],fun i a z=>A.dom ap a z.2,fun i s e=>?_,?_,ft⟩
  ·cases i with
   | zero =>
    simp at e
    subst e
    refine ⟨v0,rfl,?_,fun a z => .inl z,rfl⟩
    have:(fun a=>0=0/\F0 a)=F0:=by funext a;simp
    rw [this];exact ap
   | succ i =>
    have e':(ss.map some ++ List.replicate (N.length - (ss.length+1)) none)[i]?=some (some s):=by simpa using e
    obtain ⟨v,hv,q⟩:=ao.get (aoh e')
    refine ⟨v,?_,?_⟩
    ·unfold L2.start;exact aoi (by simpa using hv)
    ·cases s with
     | st d=>exact ⟨q,fun a z=>by cases z.1⟩
     | scr ns=>exact ⟨q,fun a z=>by cases z.1⟩
     | own A=>exact q.elim
     | io A=>exact q.elim
  ·unfold L2.start;simp [ao.length]
 ·have fin:∀ σ G' H' F env v Fv s,VI ⟨K,G,H,R,(v0 :: vr).map some,fun i a=>i=0/\F0 a⟩ G' H' σ env F->RsX ⟨K,G,H,R,(v0 :: vr).map some,fun i a=>i=0/\F0 a⟩ G' H' v Fv s F->(∃ A',env[0]?=some (some (.io A'))/\Q' A' s)->Q v H':=by
   intro σ G' H' F env v Fv s I r ⟨A',e,q⟩
   obtain ⟨v',hv',q1,q2,q3⟩:=I.sl 0 _ e
   have:v'=v0:=by
    have q3':((v0 :: vr).map some)[0]?=some (some v'):=q3
    simpa using q3'.symm
   subst this
   exact hQ A' s q v G' H' (F 0) Fv ⟨I.g0,I.gh,I.ft,I.gn,I.rs,I.bh,q1,fun a z=>by
    rcases q2 a z with y | y
    ·exact .inl y.2
    ·exact .inr y,I.fg 0,r.ok,fun a z=>⟨r.fb a z,r.fg a z,r.fo a z,r.fd 0 a z⟩⟩
  refine ⟨fun σ G' H' F env I g q=>fin σ G' H' F env .non _ (.st .none) I (ad3 .non) q,fun σ G' H' F env v Fv s I g r q=>fin σ G' H' F env v Fv s I r q,fun _ _ _ _ _ _ _ q=>q,fun _ _ _ _ _ _ _ q=>q⟩
section
variable {B:Bs} {env:En} {Q':PyData->En->Prop} {QO:Sl->En->Prop} {K:Frag} {E:XK}
theorem ajh {f:VP} {t:TA} (h:EvA B t env fun ds e1=>f (ds.map Sl.st) fun s=>QO s e1):EvO B (acb (spP K f) [] E t) env QO:=fun σ G H F Q I k=>by
 unfold acb
 simp only [List.append_nil]
 exact h σ G H F _ I fun vs G1 H1 F1 ds e1 I1 g1 r1 q1=>⟨G1,_,_,I1.gh,I1.ft,ArgsOk.of r1,q1,fun s q v G' H' Fv o=>k v G' H' F1 Fv s e1 (I1.out o).1 (g1.trans o.gg) (I1.out o).2 q⟩
theorem atq {f:VP} {t:TA} (h:EvA B t env fun ds e1=>f (ds.map Sl.st) fun s=>FQ s fun d=>Q' d e1):Ev B (acb (spP K f) [] E t) env Q':=ab7 (ajh h)
theorem aji {f:VP} {t:TA} {i:Nat} {ns:List Int} (e:env[i]?=some (some (.scr ns))) (hK:B.K=K) (h:EvA B t env fun ds e1=>f (.scr ns :: ds.map Sl.st) fun s=>QO s e1):EvO B (acb (spP K f) [] E (aay (tVar i) t)) env QO:=fun σ G H F Q I k=>by
 subst hK
 unfold acb
 simp only [List.append_nil]
 obtain ⟨v0,hv,⟨a,ea,sq⟩,_⟩:=I.sl i _ e
 refine ⟨v0,hv,h σ G H F _ I fun vs G1 H1 F1 ds e1 I1 g1 r1 q1=>⟨G1,_,_,I1.gh,I1.ft,.cons (s:=.scr ns) ⟨a,ea,g1.seq sq⟩ (ArgsOk.of r1),q1,fun s q v G' H' Fv o=>k v G' H' F1 Fv s e1 (I1.out o).1 (g1.trans o.gg) (I1.out o).2 q⟩⟩
theorem atr {f:VP} {t:TA} {i:Nat} {ns:List Int} (e:env[i]?=some (some (.scr ns))) (hK:B.K=K) (h:EvA B t env fun ds e1=>f (.scr ns :: ds.map Sl.st) fun s=>FQ s fun d=>Q' d e1):Ev B (acb (spP K f) [] E (aay (tVar i) t)) env Q':=ab7 (aji e hK h)
noncomputable def reS:Sl->Own->Sl
 | .io _,A => .io A
 | _,A => .own A
theorem ajj {f:VIo} {t:TA} {i:Nat} (h0:∃ s,env[i]?=some (some s)) (h:EvA B t env fun ds e1=>∃ s0 A,e1[i]?=some (some s0)/\(s0=.own A\/s0=.io A)/\f A (ds.map Sl.st) fun A' s=>QO s (e1.set i (some (reS s0 A')))):EvO B (acb (spI K f) [] E (aay (tVar i) t)) env QO:=fun σ G H F Q I k=>by
 unfold acb
 simp only [List.append_nil]
 obtain ⟨s,e⟩:=h0
 obtain ⟨v0,hv,_⟩:=I.sl i _ e
 refine ⟨v0,hv,h σ G H F _ I fun vs G1 H1 F1 ds e1 I1 g1 r1 ⟨s0,A,ei,hs,q1⟩=>?_⟩
 obtain ⟨v',hv',q⟩:=I1.sl i _ ei
 rw [hv] at hv';cases hv'
 have ap:A.P G1 H1 v0 (F1 i):=by
  rcases hs with rfl | rfl
  ·exact q.1
  ·exact q.1
 let inv:Nat->Option Nat:=fun j=>if j=i then some 0 else none
 have inv_i:inv i=some 0:=if_pos rfl
 have inv_ne:∀ j,j ≠ i->inv j=none:=fun j h=>if_neg h
 have inv_inv:∀ j l,inv j=some l->j=i/\l=0:=fun j l h=>by
  by_cases hj:j=i
  ·subst hj;rw [inv_i] at h;cases h;exact ⟨rfl,rfl⟩
  ·rw [inv_ne j hj] at h;cases h
 refine ⟨v0,vs,G1,acp H1 F1 inv,A,_,F1 i,_,rfl,I1.gh,I1.ft,adg,ap,I1.fg i,fun a z=>afg inv_i z,ArgsOk.of r1,q1,fun A' s q v G' H' F' Fv o=>?_⟩
 have hi:i < e1.length:=(List.getElem?_eq_some_iff.mp ei).1
 have J:VI ⟨K,G1,H1,acp H1 F1 inv,[some v0],fun j a=>j=0/\F1 i a⟩ G' H' [some v0] [some (.io A')] (fun j a=>j=0/\F' a):=by
  refine ⟨o.gh,o.gg,o.gn,o.rs,adg,o.bh,fun j a z=>o.fg a z.2,fun j a z=>?_,fun j l a y z=>by rw [y.1,z.1],fun j a z=>A'.dom o.ap a z.2,fun j s e=>?_,rfl,o.ft⟩
  ·rcases o.fi a z.2 with y | y
   ·exact afg inv_i y
   ·cases e:acp H1 F1 inv a with
    | none=>exact e
    | some u=>rw [adg a u e] at y;cases y
  ·cases j with
   | zero =>
    simp at e
    subst e
    refine ⟨v0,rfl,?_,fun a z=>?_,rfl⟩
    ·have:(fun a=>0=0/\F' a)=F':=by funext a;simp
     rw [this];exact o.ap
    ·rcases o.fi a z.2 with y | y
     ·exact .inl ⟨rfl,y⟩
     ·exact .inr y
   | succ j=>simp at e
 have L:=I1.leave (inv:=inv) (env2:=e1.set i (some (reS s0 A'))) (fun a b j ha hb=>by rw [(inv_inv a j ha).1,(inv_inv b j hb).1]) rfl rfl (fun a u e n=>by show acp H1 F1 inv a=_;rw [ag7 n];exact e)
  (fun a j ha x z=>by rw [(inv_inv a j ha).1];exact z.2) (fun a j ha=>by rw [(inv_inv a j ha).1,(inv_inv a j ha).2,hv];rfl) J (fun a j ha=>⟨A',by rw [(inv_inv a j ha).2];rfl⟩) (by simp) fun j s' e=>by
   by_cases hj:j=i
   ·subst hj
    rw [List.getElem?_set,if_pos rfl,if_pos hi] at e
    cases e
    refine .inr ⟨0,A,A',inv_i,rfl,?_⟩
    rcases hs with rfl | rfl
    ·exact .inl ⟨ei,rfl⟩
    ·exact .inr ⟨ei,rfl⟩
   ·rw [List.getElem?_set,if_neg (fun z=>hj z.symm)] at e
    exact .inl ⟨inv_ne j hj,e⟩
 have X:RsX ⟨K,G1,H1,acp H1 F1 inv,[some v0],fun j a=>j=0/\F1 i a⟩ G' H' v Fv s (fun j a=>j=0/\F' a):=⟨o.ok,fun a z=>(o.fv a z).1,fun a z=>(o.fv a z).2.1,fun a z=>(o.fv a z).2.2.1,fun j a z y=>(o.fv a z).2.2.2 y.2⟩
 exact k v G' H' _ Fv s _ L (g1.trans o.gg) (X.leave (inv:=inv) I1 rfl) q
end
noncomputable def aht:Option Sl->Option Sl
 | some (.own A)=>some (.io A)
 | s=>s
noncomputable def aat (src:List (Option Nat)) (env:En):En:=src.map fun o=>match o with | some j=>aht ((env[j]?).getD none) | none=>none
noncomputable def isIo:Option Sl->Bool
 | some (.io _)=>true
 | _=>false
noncomputable def idxE (i:Nat):List (Option Nat)->Nat->Option Nat
 | [],_=>none
 | o :: r,k=>if o=some i then some k else idxE i r (k+1)
noncomputable def agh (src:List (Option Nat)) (e:En) (i:Nat) (s:Option Sl):Option Sl :=
 match s with
 | some (.own A)=>(match idxE i src 0 with | some j=>(match e[j]? with | some (some (.io A'))=>some (.own A') | _=>none) | none=>some (.own A))
 | some (.io A)=>(match idxE i src 0 with | some j=>(match e[j]? with | some (some (.io A'))=>some (.io A') | _=>none) | none=>some (.io A))
 | s=>s
noncomputable def ae4 (src:List (Option Nat)) (e:En):Nat->En->En
 | _,[]=>[]
 | k,s :: r=>agh src e k s :: ae4 src e (k+1) r
noncomputable def ahu (src:List (Option Nat)) (e1 e:En):En:=ae4 src e 0 e1
theorem afh (src:List (Option Nat)) (e:En):∀ (k:Nat) (l:En) (i:Nat),(ae4 src e k l)[i]?=(l[i]?).map (agh src e (k+i))
 | _,[],i=>by simp [ae4]
 | k,s :: r,0=>by simp [ae4]
 | k,s :: r,i+1=>by
  have:=afh src e (k+1) r i
  simp only [ae4,List.getElem?_cons_succ,this]
  rw [show k+1+i=k+(i+1) by omega]
theorem aes {i:Nat}:∀ {src:List (Option Nat)} {k j:Nat},idxE i src k=some j->k<=j/\src[j - k]?=some (some i)
 | [],_,_,h=>by cases h
 | o :: r,k,j,h=>by
  unfold idxE at h
  by_cases e:o=some i
  ·rw [if_pos e] at h;cases h
   exact ⟨Nat.le_refl _,by simp [e]⟩
  ·rw [if_neg e] at h
   obtain ⟨h1,h2⟩:=aes h
   refine ⟨by omega,?_⟩
   rw [show j - k=(j - (k+1))+1 by omega]
   simpa using h2
theorem ajk {i:Nat}:∀ {src:List (Option Nat)} {k:Nat},idxE i src k=none->∀ j:Nat,src[j]? ≠ some (some i)
 | [],_,_,j=>by simp
 | o :: r,k,h,j=>by
  unfold idxE at h
  by_cases e:o=some i
  ·rw [if_pos e] at h;cases h
  ·rw [if_neg e] at h
   cases j with
   | zero=>simpa using e
   | succ j=>simpa using ajk h j
theorem al2:∀ (src:List (Option Nat)),(src.filterMap id).Nodup->∀ j j' i:Nat,src[j]?=some (some i)->src[j']?=some (some i)->j=j'
 | [],_,j,_,_,h,_=>by simp at h
 | none :: r,h,j,j',i,h1,h2=>by
  cases j with
  | zero=>simp at h1
  | succ j =>
   cases j' with
   | zero=>simp at h2
   | succ j'=>rw [al2 r (by simpa using h) j j' i (by simpa using h1) (by simpa using h2)]
 | some x :: r,h,j,j',i,h1,h2=>by
  have h':=List.nodup_cons.mp (show (x :: r.filterMap id).Nodup by simpa using h)
  have nm:∀ k,r[k]?=some (some x)->False:=fun k hk=>h'.1 (List.mem_filterMap.mpr ⟨some x,List.mem_of_getElem? hk,rfl⟩)
  cases j with
  | zero =>
   have hx:x=i:=by simpa using h1
   subst hx
   cases j' with
   | zero=>rfl
   | succ j'=>exact (nm j' (by simpa using h2)).elim
  | succ j =>
   cases j' with
   | zero =>
    have hx:x=i:=by simpa using h2
    subst hx
    exact (nm j (by simpa using h1)).elim
   | succ j'=>rw [al2 r h'.2 j j' i (by simpa using h1) (by simpa using h2)]
noncomputable def agi:Option Sl->Bool
 | some (.own _)=>true
 | _=>false
noncomputable def ioLe:En->En->Prop
 | a :: r,b :: s=>(isIo a=isIo b/\agi b=false)/\ioLe r s
 | [],[]=>True
 | _,_=>False
theorem al3 {x:Option Sl} (h:isIo x=true):∃ A,x=some (.io A):=by
 cases x with
 | none=>simp [isIo] at h
 | some y =>
  cases y with
  | io A=>exact ⟨A,rfl⟩
  | _=>simp [isIo] at h
theorem ioLe.get:∀ {a b:En} {j:Nat} {x:Option Sl},ioLe a b->a[j]?=some x->isIo x=true->∃ A,b[j]?=some (some (.io A))
 | [],_,_,_,_,e,_=>by simp at e
 | x :: r,[],_,_,h,_,_=>h.elim
 | x :: r,y :: s,0,z,h,e,p=>by
  simp at e;subst e
  have:=h.1.1
  rw [p] at this
  obtain ⟨A,q⟩:=al3 this.symm
  exact ⟨A,by simp [q]⟩
 | x :: r,y :: s,j+1,z,h,e,p=>by
  obtain ⟨A,q⟩:=ioLe.get (j:=j) h.2 (by simpa using e) p
  exact ⟨A,by simpa using q⟩
theorem ioLe.got:∀ {a b:En} {j:Nat} {x:Option Sl},ioLe a b->b[j]?=some x->(isIo x=true->∃ A,a[j]?=some (some (.io A)))/\agi x=false
 | [],[],_,_,_,e=>by simp at e
 | [],_ :: _,_,_,h,e=>h.elim
 | x :: r,[],_,_,h,_=>h.elim
 | x :: r,y :: s,0,z,h,e=>by
  simp at e;subst e
  refine ⟨fun p=>?_,h.1.2⟩
  have:=h.1.1
  rw [p] at this
  obtain ⟨A,q⟩:=al3 this
  exact ⟨A,by simp [q]⟩
 | x :: r,y :: s,j+1,z,h,e=>by
  obtain ⟨p,q⟩:=ioLe.got (j:=j) (x:=z) h.2 (by simpa using e)
  exact ⟨fun t=>by obtain ⟨A,u⟩:=p t;exact ⟨A,by simpa using u⟩,q⟩
section
variable {B:Bs} {G H:Hp} {σ:St} {env:En} {F:Nat->Addr->Prop}
theorem VI.aside (I:VI B G H σ env F) {p:Addr} {o:HO} (nt:∀ xs,o ≠ .tup xs) (hg:G p=none) (hf:∀ j,¬ F j p) (hb:B.H p=none):VI B G (upd H p o) σ env F where
 gh:=fun a u e=>by rw [aae (aaj e hg)];exact I.gh a u e
 g0:=I.g0
 gn:=I.gn
 rs:=fun a u e=>by rw [aae (aaj e (I.b_r hb))];exact I.rs a u e
 rb:=I.rb
 bh:=fun a u e=>by rw [aae (aaj e hb)];exact I.bh a u e
 fg:=I.fg
 fr:=I.fr
 fd:=I.fd
 fo:=fun j a z=>by rw [aae (fun e:a=p=>hf j (e ▸ z))];exact I.fo j a z
 sl:=fun i s e=>by
  obtain ⟨v,hv,q⟩:=I.sl i s e
  exact ⟨v,hv,q.mono (Same.refl _) fun a u z y=>by rw [aae (fun e:a=p=>hf i (e ▸ z))];exact y⟩
 ln:=I.ln
 ft:=fun a ks e=>by
  by_cases z:a=p
  ·subst z;rw [aah] at e;exact absurd (Option.some.inj e) (nt _)
  ·rw [aae z] at e;exact I.ft a ks e
def LcV (K:Frag) (src:List (Option Nat)) (g:TG) (tif:TT) (te:TE) (ds:List PyData) (e1:En) (R:List PyData->En->Prop):Prop:=∃ J:Nat->List PyData->En->Prop,J 0 [] (aat src e1)/\(∀ i ys e,J i ys e->ioLe (aat src e1) e) /\
 (∀ i d ys e,ds[i]?=some d->J i ys e->∀ B':Bs,B'.K=K->EvG B' g (.st d) e fun e2=>EvT B' tif e2 fun b e3=>if b=true then Ev B' te e3 fun y e4=>ys.length<=999999/\J (i+1) (ys ++ [y]) e4 else J (i+1) ys e3)/\∀ ys e,J ds.length ys e->R ys (ahu src e1 e)
theorem ajl {src:List (Option Nat)} {j:Nat} {s:Sl} (h:(aat src env)[j]?=some (some s)):∃ i t,src[j]?=some (some i)/\env[i]?=some (some t)/\aht (some t)=some s:=by
 unfold aat at h
 rw [List.getElem?_map] at h
 cases e:src[j]? with
 | none=>rw [e] at h;cases h
 | some o =>
  rw [e] at h
  cases o with
  | none=>cases h
  | some i =>
   simp only [Option.map_some,Option.some.injEq] at h
   cases e2:env[i]? with
   | none=>rw [e2] at h;cases h
   | some o2 =>
    rw [e2] at h
    cases o2 with
    | none=>cases h
    | some t=>exact ⟨i,t,rfl,e2,h⟩
theorem ats {src:List (Option Nat)} {i j:Nat} {v:V} (h:src[j]?=some (some i)) (hv : σ[i]?=some (some v)):(pick src σ)[j]?=some (some v):=by
 unfold pick
 rw [List.getElem?_map,h]
 simp [hv]
theorem arl {src:List (Option Nat)} {wi:TI} {g:TG} {tif:TT} {te:TE} {QO:Sl->En->Prop} (nd:(src.filterMap id).Nodup) (h:EvI B wi env fun ds e1=>LcV B.K src g tif te ds e1 fun ys e2=>QO (.own (OL ys)) e2):EvO B (tLC src wi g tif te) env QO:=fun σ G H F Q I k=>by
 refine h σ G H F _ I fun J G1 H1 F1 ds e1 I1 g1 it ⟨Jv,j0,jio,js,jd⟩ acc hacc=>?_
 let mt:Nat->Bool:=fun i=>match e1[i]? with | some (some (.own _))=>true | some (some (.io _))=>true | _=>false
 let inv:Nat->Option Nat:=fun i=>if mt i=true then idxE i src 0 else none
 have inv1:∀ i j,inv i=some j->src[j]?=some (some i)/\mt i=true:=fun i j hi=>by
  by_cases hm:mt i=true
  ·have hi':idxE i src 0=some j:=by simpa [inv,hm] using hi
   have:=(aes hi').2
   exact ⟨by simpa using this,hm⟩
  ·simp [inv,hm] at hi
 have inv2:∀ i j,src[j]?=some (some i)->mt i=true->inv i=some j:=fun i j hs hm=>by
  have e0:inv i=idxE i src 0:=by simp [inv,hm]
  cases e:idxE i src 0 with
  | none=>exact absurd hs (ajk e j)
  | some j' =>
   have:=(aes e).2
   rw [e0,e,al2 src nd j j' i hs (by simpa using this)]
 have inj:∀ i i' j,inv i=some j->inv i'=some j->i=i':=fun i i' j h1 h2=>by
  have a:=(inv1 i j h1).1
  rw [(inv1 i' j h2).1] at a
  simpa using a.symm
 have mtS:∀ i,mt i=true->∃ A,e1[i]?=some (some (.own A))\/e1[i]?=some (some (.io A)):=fun i hm=>by
  cases e:e1[i]? with
  | none=>simp [mt,e] at hm
  | some o =>
   cases o with
   | none=>simp [mt,e] at hm
   | some s =>
    cases s with
    | own A=>exact ⟨A,.inl rfl⟩
    | io A=>exact ⟨A,.inr rfl⟩
    | st d=>simp [mt,e] at hm
    | scr ns=>simp [mt,e] at hm
 have ioAt:∀ i ys e,Jv i ys e->∀ i' j,inv i'=some j->∃ A,e[j]?=some (some (.io A)):=fun i ys e hj i' j hi=>by
  obtain ⟨hs,hm⟩:=inv1 i' j hi
  obtain ⟨A,hA⟩:=mtS i' hm
  refine (jio i ys e hj).get (x:=some (.io A)) ?_ rfl
  unfold aat
  rw [List.getElem?_map,hs]
  rcases hA with hA | hA <;> simp [hA,aht]
 -- between two turns
 let Wv:Nat->List V->St->Hp->Prop:=fun i ys σI H=>∃ G2 F2 e env2 yd,VI B G2 H σ env2 F2/\Same G1 G2/\H acc=some (.lst ys)/\Rps G2 ys yd/\G2 acc=none/\(∀ j,¬ F2 j acc)/\Jv i yd e/\σI.length=e.length/\env2.length=e1.length /\
  (∀ j s,e[j]?=some (some s)->∃ v,σI[j]?=some (some v)/\((∃ d,s=.st d/\Rp G2 v d/\∀ i,inv i ≠ some j)\/(∃ ns a,s=.scr ns/\v=.ref a/\SqL B.K G2 a (ns.map V.int)/\∀ i,inv i ≠ some j) ∨
   ∃ i A,inv i=some j/\s=.io A/\σ[i]?=some (some v)/\(env2[i]?=some (some (.own A))\/env2[i]?=some (some (.io A))))) /\
  (∀ i,inv i=none->env2[i]?=e1[i]?)/\(∀ i j,inv i=some j->∃ A0 A,e[j]?=some (some (.io A))/\((e1[i]?=some (some (.own A0))/\env2[i]?=some (some (.own A)))\/(e1[i]?=some (some (.io A0))/\env2[i]?=some (some (.io A)))))
 have hb:B.H acc=none:=I1.no_b hacc
 refine ⟨fun i m ys σI H=>m=ds.length - i/\i<=ds.length/\Wv i ys σI H,⟨ds.length,by simp,Nat.zero_le _,?_⟩,?_⟩
 ·refine ⟨G1,F1,aat src e1,e1,[],I1.aside (fun _ z=>nomatch z) (I1.no_g hacc) (I1.no_f hacc) hb,Same.refl _,aah,.nil,I1.no_g hacc,I1.no_f hacc,j0,by simp [pick,aat],rfl,fun j s e=>?_,fun _ _=>rfl,fun i j hi=>?_⟩
  ·obtain ⟨i,t,hs,ht,hp⟩:=ajl e
   obtain ⟨v,hv,q⟩:=I1.sl i t ht
   refine ⟨v,ats hs hv,?_⟩
   cases t with
   | st d =>
    cases hp
    refine .inl ⟨d,rfl,q.1,fun i' hi'=>?_⟩
    have a:=(inv1 i' j hi').1
    rw [hs] at a
    have:i=i':=by simpa using a
    subst this
    have:=(inv1 i j hi').2
    simp [mt,ht] at this
   | scr ns =>
    cases hp
    obtain ⟨⟨a,ea,sq⟩,_⟩:=q
    refine .inr (.inl ⟨ns,a,rfl,ea,sq,fun i' hi'=>?_⟩)
    have a:=(inv1 i' j hi').1
    rw [hs] at a
    have:i=i':=by simpa using a
    subst this
    have:=(inv1 i j hi').2
    simp [mt,ht] at this
   | own A=>cases hp;exact .inr (.inr ⟨i,A,inv2 i j hs (by simp [mt,ht]),rfl,hv,.inl ht⟩)
   | io A=>cases hp;exact .inr (.inr ⟨i,A,inv2 i j hs (by simp [mt,ht]),rfl,hv,.inr ht⟩)
  ·obtain ⟨hs,hm⟩:=inv1 i j hi
   obtain ⟨A,hA⟩:=mtS i hm
   refine ⟨A,A,?_,?_⟩
   ·unfold aat
    rw [List.getElem?_map,hs]
    rcases hA with hA | hA <;> simp [hA,aht]
   ·rcases hA with hA | hA
    ·exact .inl ⟨hA,hA⟩
    ·exact .inr ⟨hA,hA⟩
 ·rintro i m ys σI H2 ⟨rfl,hi,G2,F2,e,env2,yd,I2,g2,hac,ry,ga,fa,jv,ln,ln2,sl,un,mv⟩
  refine ⟨hac,?_⟩
  by_cases hlt:i < ds.length
  ·refine .inr ⟨it.go i G2 H2 g2 I2.gh hlt,Wv (i+1),fun ys' σ' H' hw=>⟨ds.length - (i+1),by omega,rfl,hlt,hw⟩,fun x H3 y=>?_⟩
   obtain ⟨G3,o⟩:=it.yld i G2 H2 x H3 _ g2 I2.gh I2.ft (List.getElem?_eq_getElem hlt) y
   obtain ⟨I3,X3⟩:=I2.out o
   have ac3:=o.hh _ _ hac
   have fa3:=fa
   have ga3:G3 acc=none:=by
    cases e':G3 acc with
    | none=>rfl
    | some u =>
     rcases o.gn acc u e' with q | q
     ·rw [ga] at q;cases q
     ·rw [hac] at q;cases q
   have sl3:∀ j s,e[j]?=some (some s)->∃ v,σI[j]?=some (some v)/\((∃ d,s=.st d/\Rp G3 v d/\∀ i,inv i ≠ some j)\/(∃ ns a,s=.scr ns/\v=.ref a/\SqL B.K G3 a (ns.map V.int)/\∀ i,inv i ≠ some j) ∨
     ∃ i A,inv i=some j/\s=.io A/\σ[i]?=some (some v)/\(env2[i]?=some (some (.own A))\/env2[i]?=some (some (.io A)))):=fun j s es=>by
    obtain ⟨v,hv,q⟩:=sl j s es
    refine ⟨v,hv,?_⟩
    rcases q with ⟨d,e1',r,n⟩ | ⟨ns,a,e1',e2',r,n⟩ | q
    ·exact .inl ⟨d,e1',r.same o.gg,n⟩
    ·exact .inr (.inl ⟨ns,a,e1',e2',o.gg.seq r,n⟩)
    ·exact .inr (.inr q)
   have E3:=I3.enter (inv:=inv) (σI:=σI) (envI:=e) inj ln sl3
   -- back from the turn
   have fin:∀ (σ4:St) (G4 H4:Hp) (F4:Nat->Addr->Prop) (e4:En) (yd':List PyData) (ys':List V) (o4:HO),VI ⟨B.K,G3,H3,acp H3 F2 inv,σI,fun j a=>∃ i,inv i=some j/\F2 i a⟩ G4 H4 σ4 e4 F4->Jv (i+1) yd' e4->Rps G4 ys' yd' ->
     Wv (i+1) ys' σ4 (upd H4 acc (.lst ys'))/\H4 acc=some (.lst ys):=by
    intro σ4 G4 H4 F4 e4 yd' ys' o4 I4 j4 r4
    have ioA:=ioAt (i+1) yd' e4 j4
    have ac4:H4 acc=some (.lst ys):=I4.rs acc _ (by show acp H3 F2 inv acc=_;rw [ag7 (fun i' _ _=>fa3 i')];exact ac3)
    have ga4:G4 acc=none:=by
     cases e':G4 acc with
     | none=>rfl
     | some u =>
      rcases I4.gn acc u e' with q | q
      ·change G3 acc=_ at q;rw [ga3] at q;cases q
      ·change H3 acc=_ at q;rw [ac3] at q;cases q
    -- the slots of the outer frame
    let env3:En:=(List.range env2.length).map fun i'=>match inv i' with
     | some j=>(match env2[i']?,e4[j]? with | some (some (.own _)),some (some (.io A))=>some (.own A) | some (some (.io _)),some (some (.io A))=>some (.io A) | _,_=>none)
     | none=>(env2[i']?).getD none
    have e3get:∀ i',i' < env2.length->env3[i']?=some (match inv i' with
     | some j=>(match env2[i']?,e4[j]? with | some (some (.own _)),some (some (.io A))=>some (.own A) | some (some (.io _)),some (some (.io A))=>some (.io A) | _,_=>none)
     | none=>(env2[i']?).getD none):=fun i' hl=>by
     simp only [env3,List.getElem?_map]
     rw [List.getElem?_eq_getElem (by simpa using hl)]
     simp
    have L:=I3.leave (inv:=inv) (env2:=env3) inj rfl rfl (fun a u q n=>by show acp H3 F2 inv a=_;rw [ag7 n];exact q) (fun i' j hi' a z=>by obtain ⟨i'',h1,h2⟩:=z;rw [inj i' i'' j hi' h1];exact h2)
     (fun i' j hi'=>by
      obtain ⟨A0,A,h1,h2⟩:=mv i' j hi'
      obtain ⟨v,hv,q⟩:=sl j _ h1
      rcases q with ⟨d,q,_⟩ | ⟨ns,a,q,_⟩ | ⟨i'',A'',q1,q2,q3,_⟩
      ·cases q
      ·cases q
      ·rw [inj i' i'' j hi' q1]
       show σI[j]?=_
       rw [hv,q3]) I4 ioA (by simp [env3]) (fun i' s es=>by
      have hl:i' < env2.length:=by
       have:=(List.getElem?_eq_some_iff.mp es).1
       simpa [env3] using this
      rw [e3get i' hl] at es
      cases hi':inv i' with
      | none =>
       refine .inl ⟨rfl,?_⟩
       rw [hi'] at es
       simp only [Option.some.injEq] at es
       cases q:env2[i']? with
       | none=>rw [q] at es;cases es
       | some u=>rw [q] at es;simp at es;rw [es]
      | some j =>
       rw [hi'] at es
       obtain ⟨A',hA'⟩:=ioA i' j hi'
       obtain ⟨A0,A,h1,h2⟩:=mv i' j hi'
       simp only [hA'] at es
       rcases h2 with ⟨_,h2⟩ | ⟨_,h2⟩
       ·rw [h2] at es
        simp only [Option.some.injEq] at es
        exact .inr ⟨j,A,A',rfl,hA',.inl ⟨h2,es.symm⟩⟩
       ·rw [h2] at es
        simp only [Option.some.injEq] at es
        exact .inr ⟨j,A,A',rfl,hA',.inr ⟨h2,es.symm⟩⟩)
    have fa4:∀ j,¬ (match inv j with | some j=>F4 j acc | none=>F2 j acc):=fun j z=>by
     cases hj:inv j with
     | none=>rw [hj] at z;exact fa3 j z
     | some l =>
      rw [hj] at z
      obtain ⟨A',hA'⟩:=ioA j l hj
      obtain ⟨v,_,q⟩:=I4.sl l _ hA'
      rcases q.2.1 acc z with ⟨i'',_,q⟩ | q
      ·exact fa3 i'' q
      ·change H3 acc=_ at q;rw [ac3] at q;cases q
    refine ⟨⟨G4,_,e4,env3,yd',L.aside (fun _ z=>nomatch z) ga4 fa4 hb,g2.trans (o.gg.trans I4.g0),aah,r4,ga4,fa4,j4,I4.ln,by simp [env3,ln2],fun j s es=>?_,fun i' hi'=>?_,fun i' j hi'=>?_⟩,ac4⟩
    ·obtain ⟨v,hv,q⟩:=I4.sl j s es
     refine ⟨v,hv,?_⟩
     have noinv:(∀ A,s ≠ .io A)->∀ i',inv i' ≠ some j:=fun hn i' hi'=>by
      obtain ⟨A,hA⟩:=ioA i' j hi'
      rw [es] at hA
      exact hn A (by simpa using hA)
     cases s with
     | st d=>exact .inl ⟨d,rfl,q.1,noinv (by intro A z;cases z)⟩
     | scr ns =>
      obtain ⟨⟨a,ea,sq⟩,_⟩:=q
      exact .inr (.inl ⟨ns,a,rfl,ea,sq,noinv (by intro A z;cases z)⟩)
     | own A =>
      have:=((jio _ _ _ j4).got es).2
      simp [agi] at this
     | io A =>
      obtain ⟨A0,h0⟩:=((jio _ _ _ j4).got es).1 rfl
      obtain ⟨i',t,hs,ht,hp⟩:=ajl h0
      have hm:mt i'=true:=by
       cases t with
       | own A=>simp [mt,ht]
       | io A=>simp [mt,ht]
       | st d=>cases hp
       | scr ns=>cases hp
      have hi':=inv2 i' j hs hm
      obtain ⟨B0,A1,h1,h2⟩:=mv i' j hi'
      have hl:i' < env2.length:=by
       rcases h2 with ⟨_,h2⟩ | ⟨_,h2⟩ <;> exact (List.getElem?_eq_some_iff.mp h2).1
      refine .inr (.inr ⟨i',A,hi',rfl,?_,?_⟩)
      ·have hS : σI[j]?=some (some v):=q.2.2
       obtain ⟨v',hv',q'⟩:=sl j _ h1
       rcases q' with ⟨d,q',_⟩ | ⟨ns,a,q',_⟩ | ⟨i'',A'',q1,q2,q3,_⟩
       ·cases q'
       ·cases q'
       ·rw [inj i' i'' j hi' q1,q3,← hv',hS]
      ·rw [e3get i' hl,hi']
       simp only [es]
       rcases h2 with ⟨_,h2⟩ | ⟨_,h2⟩
       ·rw [h2];exact .inl rfl
       ·rw [h2];exact .inr rfl
    ·by_cases hl:i' < env2.length
     ·rw [e3get i' hl,hi']
      simp only
      rw [← un i' hi']
      rw [List.getElem?_eq_getElem hl];rfl
     ·rw [List.getElem?_eq_none_iff.mpr (by simp [env3];omega),← un i' hi',List.getElem?_eq_none_iff.mpr (by omega)]
    ·obtain ⟨A',hA'⟩:=ioA i' j hi'
     obtain ⟨A0,A,h1,h2⟩:=mv i' j hi'
     have hl:i' < env2.length:=by
      rcases h2 with ⟨_,h2⟩ | ⟨_,h2⟩ <;> exact (List.getElem?_eq_some_iff.mp h2).1
     refine ⟨A0,A',hA',?_⟩
     rw [e3get i' hl,hi']
     simp only [hA']
     rcases h2 with ⟨h3,h2⟩ | ⟨h3,h2⟩
     ·rw [h2];exact .inl ⟨h3,rfl⟩
     ·rw [h2];exact .inr ⟨h3,rfl⟩
   have hd:ds[i]?=some ds[i]:=List.getElem?_eq_getElem hlt
   refine js i _ yd e hd jv ⟨B.K,G3,H3,acp H3 F2 inv,σI,fun j a=>∃ i,inv i=some j/\F2 i a⟩ rfl σI G3 H3 _ x _ _ E3 (ad3 o.ok.1) fun σ4 G4 H4 F4 e4 I4 g4 q4=>?_
   refine q4 σ4 G4 H4 F4 _ I4 fun b G5 H5 F5 e5 I5 g5 q5=>?_
   cases b with
   | false =>
    rw [if_neg Bool.false_ne_true] at q5 ⊢
    obtain ⟨w,ac⟩:=fin σ4 G5 H5 F5 e5 yd ys (.lst ys) I5 q5 (ry.same (o.gg.trans (g4.trans g5)))
    have:upd H5 acc (.lst ys)=H5:=by
     funext b
     unfold upd
     split
     ·rename_i hb';rw [hb'];exact ac.symm
     ·rfl
    rw [this] at w
    exact w
   | true =>
    rw [if_pos rfl] at q5 ⊢
    refine q5 σ4 G5 H5 F5 _ I5 fun y G6 H6 F6 d6 e6 I6 g6 r6 q6=>?_
    obtain ⟨w,ac⟩:=fin σ4 G6 H6 F6 e6 (yd ++ [d6]) (ys ++ [y]) (.lst ys) I6 q6.2 ((ry.same (o.gg.trans (g4.trans (g5.trans g6)))).append (.cons r6 .nil))
    exact ⟨ac,by rw [ry.length];exact big (by have:=q6.1;omega),w⟩
  ·have ei:i=ds.length:=by omega
   subst ei
   refine .inl ⟨it.stop _ G2 H2 g2 I2.gh rfl,?_⟩
   have q:=jd yd e jv
   have eb:ahu src e1 e=env2:=by
    apply List.ext_getElem?
    intro i'
    unfold ahu
    rw [afh,Nat.zero_add]
    have nomut:mt i'=false->env2[i']?=e1[i']?:=fun hm=>un i' (by simp [inv,hm])
    cases e2:e1[i']? with
    | none =>
     rw [nomut (by simp [mt,e2]),e2];rfl
    | some o =>
     cases o with
     | none=>rw [nomut (by simp [mt,e2]),e2];rfl
     | some t =>
      have main:∀ A,(t=.own A\/t=.io A)->mt i'=true:=fun A h=>by rcases h with rfl | rfl <;> simp [mt,e2]
      cases t with
      | st d=>rw [nomut (by simp [mt,e2]),e2];rfl
      | scr ns=>rw [nomut (by simp [mt,e2]),e2];rfl
      | own A =>
       have hm:=main A (.inl rfl)
       simp only [Option.map_some,agh]
       cases e3:idxE i' src 0 with
       | none =>
        have:inv i'=none:=by simp [inv,e3]
        rw [un i' this,e2]
       | some j =>
        have hi':inv i'=some j:=by simp [inv,hm,e3]
        obtain ⟨A0,A1,h1,h2⟩:=mv i' j hi'
        simp only [h1]
        rcases h2 with ⟨h3,h2⟩ | ⟨h3,h2⟩
        ·rw [h2]
        ·rw [e2] at h3;cases h3
      | io A =>
       have hm:=main A (.inr rfl)
       simp only [Option.map_some,agh]
       cases e3:idxE i' src 0 with
       | none =>
        have:inv i'=none:=by simp [inv,e3]
        rw [un i' this,e2]
       | some j =>
        have hi':inv i'=some j:=by simp [inv,hm,e3]
        obtain ⟨A0,A1,h1,h2⟩:=mv i' j hi'
        simp only [h1]
        rcases h2 with ⟨h3,h2⟩ | ⟨h3,h2⟩
        ·rw [e2] at h3;cases h3
        ·rw [h2]
   rw [eb] at q
   refine k (.ref acc) G2 H2 F2 (· = acc) (.own (OL yd)) env2 I2 (g1.trans g2) ⟨⟨acc,ys,rfl,hac,ry,fun b=>Iff.rfl⟩,fun a z=>by rw [z];exact hb,fun a z=>by rw [z];exact ga,fun a z=>by rw [z];exact ⟨_,hac⟩,fun j a z=>by rw [z];exact fa j⟩ q
end
noncomputable def noIo (e:En):Bool:=e.all fun s => !isIo s
theorem att {e:En} {j:Nat} {x:Option Sl} (h:noIo e=true) (hx:e[j]?=some x):isIo x=false:=by
 have:=List.all_eq_true.mp h x (List.mem_of_getElem? hx)
 simpa using this
theorem agj {src:List (Option Nat)} {e1 e:En} (h:noIo (aat src e1)=true):ahu src e1 e=e1:=by
 apply List.ext_getElem?
 intro i
 unfold ahu
 rw [afh,Nat.zero_add]
 cases e2:e1[i]? with
 | none=>rfl
 | some o =>
  have main:∀ A,(o=some (.own A)\/o=some (.io A))->idxE i src 0=none:=fun A ho=>by
   cases e3:idxE i src 0 with
   | none=>rfl
   | some j =>
    have hs:=(aes e3).2
    have:(aat src e1)[j]?=some (some (.io A)):=by
     unfold aat
     rw [List.getElem?_map,show src[j]?=some (some i) by simpa using hs]
     rcases ho with rfl | rfl <;> simp [e2,aht]
    have:=att h this
    simp [isIo] at this
  cases o with
  | none=>rfl
  | some t =>
   cases t with
   | st d=>rfl
   | scr ns=>rfl
   | own A=>simp only [Option.map_some,agh,main A (.inl rfl)]
   | io A=>simp only [Option.map_some,agh,main A (.inr rfl)]
noncomputable def stO:Option PyData->Option Sl:=Option.map Sl.st
theorem isIo_stO {o:Option PyData}:isIo (stO o)=false:=by cases o <;> rfl
theorem ada {o:Option PyData}:agi (stO o)=false:=by cases o <;> rfl
theorem adw {src:List (Option Nat)} {e1:En}:∀ x∈aat src e1,agi x=false:=by
 intro x hx
 unfold aat at hx
 obtain ⟨o,_,rfl⟩:=List.mem_map.mp hx
 cases o with
 | none=>rfl
 | some j =>
  dsimp only
  cases (e1[j]?).getD none with
  | none=>rfl
  | some t=>cases t <;> rfl
theorem ad4:∀ {e:En},(∀ x∈e,agi x=false)->ioLe e e
 | [],_=>True.intro
 | x :: r,h=>⟨⟨rfl,h x List.mem_cons_self⟩,ad4 fun y hy=>h y (List.mem_cons_of_mem _ hy)⟩
section
variable {B:Bs} {env:En} {g:TG} {tif:TT} {te:TE} {K:Frag} {src:List (Option Nat)} {ds:List PyData} {e1:En} {R:List PyData->En->Prop}
theorem ag8 (f:PyData->PyData) (p:PyData->Bool) (hno:noIo (aat src e1)=true) (hl:ds.length<=999999)
  (h:∀ d∈ds,∀ B':Bs,B'.K=K->EvT B' tif (some (.st d) :: aat src e1) fun b e3=>b=p d/\e3=some (.st d) :: aat src e1/\(b=true->Ev B' te (some (.st d) :: aat src e1) fun y e4=>y=f d/\e4=some (.st d) :: aat src e1))
  (hR:R ((ds.filter p).map f) e1):LcV K (none :: src) (aba 0) tif te ds e1 R:=by
 have hno':noIo (aat (none :: src) e1)=true:=by
  show ((none :: aat src e1).all fun s => !isIo s)=true
  rw [List.all_cons]
  exact (Bool.and_eq_true _ _).mpr ⟨rfl,hno⟩
 refine ⟨fun i ys e=>ys=((ds.take i).filter p).map f/\∃ o,e=stO o :: aat src e1,⟨by simp,none,rfl⟩,?_,?_,?_⟩
 ·rintro i ys e ⟨_,o,rfl⟩
  exact ⟨⟨isIo_stO.symm,ada⟩,ad4 adw⟩
 ·rintro i d ys e hd ⟨rfl,o,rfl⟩ B' hB
  have hi:i < ds.length:=(List.getElem?_eq_some_iff.mp hd).1
  have et:ds.take (i+1)=ds.take i ++ [d]:=by rw [List.take_add_one,hd];rfl
  refine aa7 ?_
  show EvT B' tif (some (.st d) :: aat src e1) _
  intro σ G H F Q I k
  refine h d (List.mem_of_getElem? hd) B' hB σ G H F Q I fun b G' H' F' e3 I' g' ⟨hb,he,hq⟩=>k b G' H' F' e3 I' g' ?_
  subst he
  by_cases hp:b=true
  ·rw [if_pos hp]
   intro σ G H F Q I k
   refine hq hp σ G H F Q I fun v G' H' F' d' e4 I' g' r' ⟨hy,he4⟩=>k v G' H' F' d' e4 I' g' r' ?_
   subst hy he4
   refine ⟨?_,?_,some d,rfl⟩
   ·have:=List.length_filter_le p (ds.take i)
    simp only [List.length_map]
    have h2:(ds.take i).length<=i:=by simp;omega
    omega
   ·rw [et,List.filter_append,List.map_append]
    have:p d=true:=by rw [← hb];exact hp
    simp [this]
  ·rw [if_neg hp]
   refine ⟨?_,some d,rfl⟩
   rw [et,List.filter_append,List.map_append]
   have:p d=false:=by rw [← hb];simpa using hp
   simp [this]
 ·rintro ys e ⟨rfl,o,rfl⟩
  rw [agj hno',List.take_length]
  exact hR
theorem ahv {α:Type} (xs:List α):xs.filter (fun _=>true)=xs:=by simp
theorem aoj (f:PyData->PyData) (hno:noIo (aat src e1)=true) (hl:ds.length<=999999)
  (h:∀ d∈ds,∀ B':Bs,B'.K=K->Ev B' te (some (.st d) :: aat src e1) fun y e4=>y=f d/\e4=some (.st d) :: aat src e1)
  (hR:R (ds.map f) e1):LcV K (none :: src) (aba 0) tYes te ds e1 R :=
 ag8 f (fun _=>true) hno hl (fun d hd B' hB=>ae3 ⟨rfl,rfl,fun _=>h d hd B' hB⟩) (by rw [ahv];exact hR)
theorem atu {K':Frag} {α:Type} {xs:List α} {fa fb : α->PyData} (f : α->PyData) (p : α->Bool) (hno:noIo (aat src e1)=true) (hl:xs.length<=999999)
  (h:∀ x∈xs,∀ B':Bs,B'.K=K->EvT B' tif (some (.st (fa x)) :: some (.st (fb x)) :: aat src e1) fun b e3=>b=p x/\e3=some (.st (fa x)) :: some (.st (fb x)) :: aat src e1/\(b=true->Ev B' te (some (.st (fa x)) :: some (.st (fb x)) :: aat src e1) fun y e4=>y=f x/\e4=some (.st (fa x)) :: some (.st (fb x)) :: aat src e1))
  (hR:R ((xs.filter p).map f) e1):LcV K (none :: none :: src) (gTup K' 2 (agb (aba 0) (agb (aba 1) gNil))) tif te (xs.map fun x => .tuple [fa x,fb x]) e1 R:=by
 have hno':noIo (aat (none :: none :: src) e1)=true:=by
  show ((none :: none :: aat src e1).all fun s => !isIo s)=true
  rw [List.all_cons,List.all_cons]
  exact (Bool.and_eq_true _ _).mpr ⟨rfl,(Bool.and_eq_true _ _).mpr ⟨rfl,hno⟩⟩
 refine ⟨fun i ys e=>ys=((xs.take i).filter p).map f/\∃ o o',e=stO o :: stO o' :: aat src e1,⟨by simp,none,none,rfl⟩,?_,?_,?_⟩
 ·rintro i ys e ⟨_,o,o',rfl⟩
  exact ⟨⟨isIo_stO.symm,ada⟩,⟨isIo_stO.symm,ada⟩,ad4 adw⟩
 ·rintro i d ys e hd ⟨rfl,o,o',rfl⟩ B' hB
  rw [List.getElem?_map] at hd
  cases hx:xs[i]? with
  | none=>rw [hx] at hd;cases hd
  | some x =>
   rw [hx] at hd
   cases hd
   have hi:i < xs.length:=(List.getElem?_eq_some_iff.mp hx).1
   have et:xs.take (i+1)=xs.take i ++ [x]:=by rw [List.take_add_one,hx];rfl
   refine aoe rfl (af1 (aa7 (af1 (aa7 (alz ?_)))))
   show EvT B' tif (some (.st (fa x)) :: some (.st (fb x)) :: aat src e1) _
   intro σ G H F Q I k
   refine h x (List.mem_of_getElem? hx) B' hB σ G H F Q I fun b G' H' F' e3 I' g' ⟨hb,he,hq⟩=>k b G' H' F' e3 I' g' ?_
   subst he
   by_cases hp:b=true
   ·rw [if_pos hp]
    intro σ G H F Q I k
    refine hq hp σ G H F Q I fun v G' H' F' d' e4 I' g' r' ⟨hy,he4⟩=>k v G' H' F' d' e4 I' g' r' ?_
    subst hy he4
    refine ⟨?_,?_,some _,some _,rfl⟩
    ·have:=List.length_filter_le p (xs.take i)
     simp only [List.length_map]
     have h2:(xs.take i).length<=i:=by simp;omega
     omega
    ·rw [et,List.filter_append,List.map_append]
     have:p x=true:=by rw [← hb];exact hp
     simp [this]
   ·rw [if_neg hp]
    refine ⟨?_,some _,some _,rfl⟩
    rw [et,List.filter_append,List.map_append]
    have:p x=false:=by rw [← hb];simpa using hp
    simp [this]
 ·rintro ys e ⟨rfl,o,o',rfl⟩
  rw [agj hno']
  simpa using hR
end
section
variable {R:Sl->Prop}
theorem awd {g:Int->Int->Int} {i j:Int} (h:R (.st (.int (g i j)))):Op2 (rI0 fun i j => .int (g i j)) (.int i) (.int j) R:=fun G H vx vy Q gh rx ry k=>by
 cases rx;cases ry
 exact ⟨i,j,rfl,rfl,k _ _ _ _ _ (Out.refl gh (.int _)) h⟩
theorem awe {g:Int->Int->Bool} {i j:Int} (h:R (.st (.bool (g i j)))):Op2 (rI0 fun i j => .bl (g i j)) (.int i) (.int j) R:=fun G H vx vy Q gh rx ry k=>by
 cases rx;cases ry
 exact ⟨i,j,rfl,rfl,k _ _ _ _ _ (Out.refl gh (.bl _)) h⟩
theorem ayw {C:Int->Int->Prop} {g:Int->Int->Int} {i j:Int} (hc:C i j) (h:R (.st (.int (g i j)))):Op2 (rI C fun i j => .int (g i j)) (.int i) (.int j) R:=fun G H vx vy Q gh rx ry k=>by
 cases rx;cases ry
 exact ⟨i,j,rfl,rfl,hc,k _ _ _ _ _ (Out.refl gh (.int _)) h⟩
theorem ayx {g:Int->Int} {i:Int} (h:R (.st (.int (g i)))):Op1 (rU fun i => .int (g i)) (.int i) R:=fun G H vx Q gh rx k=>by
 cases rx
 exact ⟨i,rfl,k _ _ _ _ _ (Out.refl gh (.int _)) h⟩
theorem awf {i j:Int} (h:R (.st (.bool (decide (i=j))))):Op2 rEq (.int i) (.int j) R:=fun G H vx vy Q gh rx ry k=>by
 cases rx;cases ry
 exact aq3 (k _ _ _ _ _ (Out.refl gh (.bl _)) h)
theorem awg {i j:Int} (h:R (.st (.bool (!decide (i=j))))):Op2 rNe (.int i) (.int j) R:=fun G H vx vy Q gh rx ry k=>by
 cases rx;cases ry
 exact ayd (k _ _ _ _ _ (Out.refl gh (.bl _)) h)
theorem awh (i j:Bool):decide (V.bl i=V.bl j)=decide (i=j):=by cases i <;> cases j <;> rfl
theorem awi {i j:Bool} (h:R (.st (.bool (!decide (i=j))))):Op2 rNe (.bool i) (.bool j) R:=fun G H vx vy Q gh rx ry k=>by
 cases rx;cases ry
 refine ⟨rfl,?_⟩
 rw [awh]
 exact k _ _ _ _ _ (Out.refl gh (.bl _)) h
theorem aiu {x y:PyData} (px:aap x=true) (py:aap y=true) (hd:x.depth<=60) (h:R (.st (.bool (PyData.eqv x y)))):Op2 rEqD x y R:=fun G H vx vy Q gh rx ry k =>
 ⟨x,y,(rx.rep px).same gh,(ry.rep py).same gh,px,py,hd,k _ _ _ _ _ (Out.refl gh (.bl _)) h⟩
theorem aiv {x y:PyData} (px:aap x=true) (py:aap y=true) (hd:x.depth<=60) (h:R (.st (.bool (!PyData.eqv x y)))):Op2 rNeD x y R:=fun G H vx vy Q gh rx ry k =>
 ⟨x,y,(rx.rep px).same gh,(ry.rep py).same gh,px,py,hd,k _ _ _ _ _ (Out.refl gh (.bl _)) h⟩
theorem agk {neg:Bool} {x:PyData} {es:List PyData} (px:aap x=true) (py:plainDs es=true) (hd:x.depth<=60) (h:R (.st (.bool (if neg then !es.any (fun z=>PyData.eqv z x) else es.any (fun z=>PyData.eqv z x))))):Op2 (rInD neg) x (.list es) R:=fun G H vx vy Q gh rx ry k =>
 ⟨x,es,(rx.rep px).same gh,.inl ((ry.rep (by simpa [aap] using py)).same gh),px,py,hd,k _ _ _ _ _ (Out.refl gh (.bl _)) h⟩
theorem Rps.at {G:Hp} {vs:List V} {ds:List PyData} {i:Int} {d:PyData} (r:Rps G vs ds) (h:atI ds i=some d):∃ v,atI vs i=some v/\Rp G v d:=by
 unfold atI at h ⊢
 rw [r.length]
 cases e:ixN ds.length i with
 | none=>rw [e] at h;cases h
 | some j =>
  rw [e] at h
  exact r.get h
theorem awj {K:Frag} {ds:List PyData} {i:Int} {d:PyData} (hd:atI ds i=some d) (h:R (.st d)):Op2 (ab3 K) (.list ds) (.int i) R:=fun G H vx vy Q gh rx ry k=>by
 cases ry
 cases rx with
 | lst ha rs =>
  obtain ⟨v,hv,rv⟩:=rs.at hd
  exact aff (gh _ _ ha) hv (k _ _ _ _ _ (Out.refl gh rv) h)
theorem awk {K:Frag} {ds:List PyData} {i:Int} {d:PyData} (hd:atI ds i=some d) (h:R (.st d)):Op2 (ab3 K) (.tuple ds) (.int i) R:=fun G H vx vy Q gh rx ry k=>by
 cases ry
 cases rx with
 | tup ha rs =>
  obtain ⟨v,hv,rv⟩:=rs.at hd
  exact alg (gh _ _ ha) hv (k _ _ _ _ _ (Out.refl gh rv) h)
noncomputable def isNone:PyData->Bool
 | .none=>true
 | _=>false
theorem awl {G:Hp} {v:V} {x:PyData} (r:Rp G v x):decide (v=.non)=isNone x:=by cases r <;> rfl
theorem awm {x:PyData} (h:R (.st (.bool (isNone x)))):Op2 rIsN x .none R:=fun G H vx vy Q gh rx ry k=>by
 cases ry
 refine ⟨rfl,?_⟩
 rw [awl rx]
 exact k _ _ _ _ _ (Out.refl gh (.bl _)) h
theorem aok {xs ys:List PyData} (hl:xs.length+ys.length<=1000000) (h:R (.own (OL (xs ++ ys)))):Op2 rCat (.list xs) (.list ys) R:=fun G H vx vy Q gh rx ry k=>by
 cases rx with
 | lst ha ra =>
  cases ry with
  | lst hb rb =>
   refine ayg (gh _ _ ha) (gh _ _ hb) ?_ fun p hp=>k _ _ _ _ _ (Out.newL gh hp (ra.append rb)) h
   rw [ra.length,rb.length];exact Nat.le_of_lt (big hl)
theorem aol {xs:List PyData} {n:Int} (h1 : -(2 ^ 63)<=n) (h2:n < 2 ^ 63) (hl:xs.length * n.toNat<=1000000) (h:R (.own (OL (List.replicate n.toNat xs).flatten))):Op2 rRep (.list xs) (.int n) R:=fun G H vx vy Q gh rx ry k=>by
 cases ry
 cases rx with
 | lst ha ra =>
  refine ⟨_,n,_,rfl,rfl,gh _ _ ha,h1,h2,?_,fun p hp=>k _ _ _ _ _ (Out.newL gh hp (ra.rep _)) h⟩
  rw [ra.length];exact Nat.le_of_lt (big hl)
theorem atv {K:Frag} {xs:List PyData} (h:R (.st (.int xs.length))):OpA (rLen K) [.list xs] R:=fun G H vs Q gh rs k=>by
 cases rs with
 | cons r t =>
  cases t
  cases r with
  | lst ha ra =>
   refine an0 (gh _ _ ha) ?_
   rw [ra.length]
   exact k _ _ _ _ _ (Out.refl gh (.int _)) h
theorem atw {K:Frag} {xs:List PyData} (h:R (.st (.int xs.length))):OpA (rLen K) [.tuple xs] R:=fun G H vs Q gh rs k=>by
 cases rs with
 | cons r t =>
  cases t
  cases r with
  | tup ha ra =>
   refine avw (gh _ _ ha) ?_
   rw [ra.length]
   exact k _ _ _ _ _ (Out.refl gh (.int _)) h
theorem atx {i j:Int} (h:R (.st (.int (if j > i then j else i)))):OpA akp [.int i,.int j] R:=fun G H vs Q gh rs k=>by
 obtain rfl:vs=[V.int i,V.int j]:=Rps.ints_inv (ns:=[i,j]) rs
 exact an1 (k _ _ _ _ _ (Out.refl gh (.int _)) h)
theorem aty {i j:Int} (h:R (.st (.int (if j < i then j else i)))):OpA akq [.int i,.int j] R:=fun G H vs Q gh rs k=>by
 obtain rfl:vs=[V.int i,V.int j]:=Rps.ints_inv (ns:=[i,j]) rs
 exact an2 (k _ _ _ _ _ (Out.refl gh (.int _)) h)
theorem atz {b:Bool} (h:R (.st (.int (if b then 1 else 0)))):OpA akr [.bool b] R:=fun G H vs Q gh rs k=>by
 cases rs with
 | cons r t =>
  cases t;cases r
  exact an3 (k _ _ _ _ _ (Out.refl gh (.int _)) h)
theorem ab1 {K:Frag} {ns:List Int} (hne:ns ≠ []) (h:∀ m,adt ns m->R (.st (.int m))):OpA (age K) [.list (ns.map .int)] R:=fun G H vs Q gh rs k=>by
 cases rs with
 | cons r t =>
  cases t
  cases r with
  | lst ha ra =>
   have:=Rps.ints_inv ra
   subst this
   exact ⟨_,ns,rfl,.inl (SqL.of (gh _ _ ha)),hne,fun m hm=>k _ _ _ _ _ (Out.refl gh (.int _)) (h m hm)⟩
end
section
variable {B:Bs} {env:En} {QO:Sl->En->Prop} {Q':PyData->En->Prop} {te tl th:TE} {K:Frag}
end
noncomputable def afi:PyData->Bool
 | .none | .bool _ | .int _ | .str _=>true
 | _=>false
theorem aiw {G G':Hp} {v:V} {d:PyData} (r:Rp G v d) (h:afi d=true):Rp G' v d:=by
 cases r with
 | non=>exact .non
 | bl b=>exact .bl b
 | int i=>exact .int i
 | str x=>exact .str x
 | _=>simp [afi] at h
def Has (env:En) (i:Nat) (A:Own):Prop:=env[i]?=some (some (.own A))\/env[i]?=some (some (.io A))
section
variable {B:Bs} {env:En} {QO:Sl->En->Prop} {Q':PyData->En->Prop} {QT:Bool->En->Prop} {QE:En->Prop} {te ta tb tk:TE} {K:Frag} {i:Nat}
theorem VI.has {G H:Hp} {σ:St} {F:Nat->Addr->Prop} {A:Own} (I:VI B G H σ env F) (h:Has env i A):∃ v,σ[i]?=some (some v)/\A.P G H v (F i):=by
 rcases h with h | h
 ·obtain ⟨v,hv,q⟩:=I.sl i _ h;exact ⟨v,hv,q.1⟩
 ·obtain ⟨v,hv,q⟩:=I.sl i _ h;exact ⟨v,hv,q.1⟩
theorem VI.moment {G G1 G3 H H3:Hp} {σ:St} {F:Nat->Addr->Prop} {v:V} {s:Sl} {Fv:Addr->Prop} (I:VI B G H σ env F) (g1:Same G G1) (o:Out G1 H v G3 H3 s Fv):∃ G2,Same G G2/\VI B G2 H3 σ env F:=by
 refine ⟨fun a=>if H a=none then G3 a else G a,fun a u e=>?_,I.grow (fun a u e=>?_) (fun a u e=>?_) o.hh (fun a u e=>?_) fun a ks e=>?_⟩
 ·show (if H a=none then G3 a else G a)=some u;rw [if_neg (by rw [I.gh a u e];simp)];exact e
 ·rw [if_neg (by rw [I.gh a u e];simp)];exact e
 ·by_cases h:H a=none
  ·rw [if_pos h] at e;exact o.gh a u e
  ·rw [if_neg h] at e;exact o.hh _ _ (I.gh a u e)
 ·by_cases h:H a=none
  ·exact .inr h
  ·rw [if_neg h] at e;exact .inl e
 ·have f1:FT G1 H:=fun a ks e=>g1 _ _ (I.ft a ks e)
  by_cases h:H a=none
  ·rw [if_pos h];exact o.ft f1 a ks e
  ·rw [if_neg h]
   obtain ⟨u,hu⟩:=aps h
   have:=o.hh _ _ hu
   rw [e] at this
   exact I.ft a ks (by rw [hu,← this])
theorem ayy {r:List V->Hp->VK->Prop} {A:Own} {dx:PyData} (hA:Has env i A) (fz:Frz A dx) (h:OpA r [dx] fun s=>∃ d,s=.st d/\afi d=true/\Q' d env):Ev B (tCB r (aay (tVar i) tNil)) env Q':=fun σ G H F Q I k=>by
 obtain ⟨v,hv,ap⟩:=I.has hA
 refine ⟨v,hv,h (jn G H (F i)) H [v] Q (aku I.gh) (.cons (fz _ _ _ _ ap (I.fg i) I.gh) .nil) fun w G3 H3 s Fv o ⟨d,es,hs,q3⟩=>?_⟩
 subst es
 obtain ⟨G4,g4,I4⟩:=I.moment (abd (I.fg i)) o
 exact k w G4 H3 F d env I4 g4 (aiw o.ok.1 hs) q3
theorem x_sc {d:PyData} {R:PyData->Prop} (h1:afi d=true) (h:R d):∃ d',Sl.st d=.st d'/\afi d'=true/\R d':=⟨d,rfl,h1,h⟩
theorem ayz {ds0:List PyData} (h0:Has env i (OL ds0)) (h:Ev B tb env fun y e2=>∃ ds k d,Has e2 i (OL ds)/\y=.int k/\atI ds k=some d/\Q' d e2):Ev B (tOp (ab3 K) (tVar i) tb) env Q':=fun σ G H F Q I k=>by
 obtain ⟨v,hv,_⟩:=I.has h0
 refine ⟨v,hv,h σ G H F _ I fun u G2 H2 F2 y e2 I2 g2 r2 ⟨ds,j,d,hA,ey,hat,q⟩=>?_⟩
 subst ey
 cases r2
 obtain ⟨v',hv',a,vs,ea,ha,rs,_⟩:=I2.has hA
 rw [hv] at hv';cases hv'
 subst ea
 obtain ⟨w,hw,rw'⟩:=rs.at hat
 exact aff ha hw (k w G2 H2 F2 d e2 I2 g2 rw' q)
theorem awn {ns:List Int} (e:env[i]?=some (some (.scr ns))) (hK:B.K=K) (q:Q' (.int ns.length) env):Ev B (tCB (rLen K) (aay (tVar i) tNil)) env Q':=fun σ G H F Q I k=>by
 subst hK
 obtain ⟨v0,hv,⟨a,ea,sq⟩,_⟩:=I.sl i _ e
 subst ea
 refine ⟨_,hv,avx (I.gh.seq sq) ?_⟩
 rw [List.length_map]
 exact k _ G H F _ env I (Same.refl _) (.int _) q
theorem ay0 {ns:List Int} (e:env[i]?=some (some (.scr ns))) (hK:B.K=K) (h:Ev B tb env fun y e2=>∃ j n,y=.int j/\atI ns j=some n/\Q' (.int n) e2):Ev B (tOp (ab3 K) (tVar i) tb) env Q':=fun σ G H F Q I k=>by
 subst hK
 obtain ⟨v0,hv,⟨a,ea,sq⟩,_⟩:=I.sl i _ e
 subst ea
 refine ⟨_,hv,h σ G H F _ I fun u G2 H2 F2 y e2 I2 g2 r2 ⟨j,n,ey,hat,q⟩=>?_⟩
 subst ey
 cases r2
 refine atf (I2.gh.seq (g2.seq sq)) (v:=.int n) ?_ (k _ G2 H2 F2 _ e2 I2 g2 (.int _) q)
 unfold atI at hat ⊢
 rw [List.length_map]
 cases e:ixN ns.length j with
 | none=>rw [e] at hat;cases hat
 | some l=>rw [e] at hat;simp at hat ⊢;exact hat
theorem VI.upd1 {G H:Hp} {σ:St} {F:Nat->Addr->Prop} {s:Sl} {A A':Own} {a:Addr} {o:HO} (I:VI B G H σ env F) (e:env[i]?=some (some s)) (hs:s=.own A\/s=.io A) (hv : σ[i]?=some (some (.ref a))) (hf:∀ b,F i b ↔ b=a) (hp:A'.P G (upd H a o) (.ref a) (· = a)) (nt:∀ xs,o ≠ .tup xs:=by intro _ z;cases z) :
  VI B G (upd H a o) σ (env.set i (some (reS s A'))) (putF F i (· = a)):=by
 refine I.change (A:=A') i e hv (fun b u hb eb=>by rw [aae (fun z=>hb ((hf b).mpr z))];exact eb) (fun b u eb=>?_) (fun b z=>⟨.inl ((hf b).mpr z),by rw [z];exact ⟨_,aah⟩⟩) hp (fun b ks e=>?_) ?_
 ·by_cases z:b=a
  ·rw [z];exact ⟨_,aah⟩
  ·rw [aae z];exact ⟨u,eb⟩
 ·by_cases z:b=a
  ·subst z;rw [aah] at e;exact absurd (Option.some.inj e) (nt _)
  ·rw [aae z] at e;exact I.ft b ks e
 ·rcases hs with rfl | rfl
  ·exact .inl ⟨rfl,A,rfl⟩
  ·exact .inr ⟨rfl,A,rfl⟩
theorem arm {ds0:List PyData} (h0:Has env i (OL ds0)) (h:Ev B te env fun y e2=>∃ s ds,e2[i]?=some (some s)/\(s=.own (OL ds)\/s=.io (OL ds))/\ds.length<=999999/\Q' .none (e2.set i (some (reS s (OL (ds ++ [y])))))):Ev B (tBM K "list" ac7 (tVar i) (aay te tNil)) env Q':=fun σ G H F Q I k=>by
 obtain ⟨v,hv,a,vs,ea,ha,rs,_⟩:=I.has h0
 subst ea
 refine ⟨_,hv,.inl ⟨rfl,_,SqL.of ha⟩,h σ G H F _ I fun u G2 H2 F2 y e2 I2 g2 r2 ⟨s,ds,es,hs,hl,q⟩=>?_⟩
 have hA:Has e2 i (OL ds):=by rcases hs with rfl | rfl;exact .inl es;exact .inr es
 obtain ⟨v',hv',a',vs',ea',ha',rs',hf⟩:=I2.has hA
 rw [hv] at hv';cases hv';cases ea'
 refine ac8 ha' (by rw [rs'.length];exact big (by omega)) ?_
 exact k _ G2 _ _ _ _ (I2.upd1 (A':=OL (ds ++ [y])) es hs hv hf ⟨a,_,rfl,aah,rs'.append (.cons r2 .nil),fun b=>Iff.rfl⟩) g2 .non q
theorem apt {ds0:List PyData} (h0:Has env i (OL ds0)) (h:Ev B te env fun y e2=>∃ ds,e2[i]?=some (some (.own (OL ds)))/\ds.length<=999999/\Q' .none (e2.set i (some (.own (OL (ds ++ [y])))))):Ev B (tBM K "list" ac7 (tVar i) (aay te tNil)) env Q' :=
 arm h0 fun σ G H F Q I k=>h σ G H F Q I fun v G' H' F' d e I' g r ⟨ds,h1,h2,q⟩=>k v G' H' F' d e I' g r ⟨_,ds,h1,.inl rfl,h2,q⟩
theorem apu {ds0:List PyData} (h0:Has env i (OL ds0)) (h:Ev B te env fun y e2=>∃ ds ys,y=.list ys/\e2[i]?=some (some (.own (OL ds)))/\ds.length+ys.length<=1000000/\Q' .none (e2.set i (some (.own (OL (ds ++ ys)))))):Ev B (tBM K "list" aie (tVar i) (aay te tNil)) env Q':=fun σ G H F Q I k=>by
 obtain ⟨v,hv,a,vs,ea,ha,rs,_⟩:=I.has h0
 subst ea
 refine ⟨_,hv,.inl ⟨rfl,_,SqL.of ha⟩,h σ G H F _ I fun u G2 H2 F2 y e2 I2 g2 r2 ⟨ds,ys,ey,es,hl,q⟩=>?_⟩
 subst ey
 cases r2 with
 | lst hb rb =>
  obtain ⟨v',hv',a',vs',ea',ha',rs',hf⟩:=I2.has (.inl es)
  rw [hv] at hv';cases hv';cases ea'
  refine aq4 ha' (I2.gh _ _ hb) (by rw [rs'.length,rb.length];exact Nat.le_of_lt (big hl)) ?_
  exact k _ G2 _ _ _ _ (I2.upd1 (A':=OL (ds ++ ys)) es (.inl rfl) hv hf ⟨a,_,rfl,aah,rs'.append rb,fun b=>Iff.rfl⟩) g2 .non q
theorem at3 {ds0:List PyData} (h0:Has env i (OL ds0)) (h:Ev B te env fun y e2=>∃ s ds j n d,y=.int j/\e2[i]?=some (some s)/\(s=.own (OL ds)\/s=.io (OL ds))/\-(2 ^ 63)<=j/\j < 2 ^ 63/\seqIndex? j ds.length=some n/\ds[n]?=some d/\Q' d (e2.set i (some (reS s (OL (ds.eraseIdx n)))))):Ev B (tBM K "list" ahi (tVar i) (aay te tNil)) env Q':=fun σ G H F Q I k=>by
 obtain ⟨v,hv,a,vs,ea,ha,rs,_⟩:=I.has h0
 subst ea
 refine ⟨_,hv,.inl ⟨rfl,_,SqL.of ha⟩,h σ G H F _ I fun u G2 H2 F2 y e2 I2 g2 r2 ⟨s,ds,j,n,d,ey,es,hs,b1,b2,hn,hd,q⟩=>?_⟩
 subst ey
 cases r2
 have hA:Has e2 i (OL ds):=by rcases hs with rfl | rfl;exact .inl es;exact .inr es
 obtain ⟨v',hv',a',vs',ea',ha',rs',hf⟩:=I2.has hA
 rw [hv] at hv';cases hv';cases ea'
 obtain ⟨w,hw,rw'⟩:=rs'.get hd
 refine as7 ha' b1 b2 (by rw [rs'.length];exact hn) hw ?_
 exact k _ G2 _ _ _ _ (I2.upd1 (A':=OL (ds.eraseIdx n)) es hs hv hf ⟨a,_,rfl,aah,rs'.erase n,fun b=>Iff.rfl⟩) g2 rw' q
theorem at4 {d:PyData} {ds0:List PyData} (h0:Has env i (OL ds0)) (h:Ev B tk env fun y e2=>∃ s ds k j,y=.int k/\e2[i]?=some (some s)/\(s=.own (OL ds)\/s=.io (OL ds))/\ixN ds.length k=some j/\QE (e2.set i (some (reS s (OL (ds.set j d)))))):EvG B (gSub (tVar i) tk apf) (.st d) env QE:=fun σ G H F v Fv Q I x k=>by
 obtain ⟨rv,_⟩:=x.ok
 obtain ⟨v1,hv,a,vs,ea,ha,rs,_⟩:=I.has h0
 subst ea
 refine ⟨_,hv,h σ G H F _ I fun u G2 H2 F2 y e2 I2 g2 r2 ⟨s,ds,n,j,ey,es,hs,hj,q⟩=>?_⟩
 subst ey
 cases r2
 have hA:Has e2 i (OL ds):=by rcases hs with rfl | rfl;exact .inl es;exact .inr es
 obtain ⟨v',hv',a',vs',ea',ha',rs',hf⟩:=I2.has hA
 rw [hv] at hv';cases hv';cases ea'
 refine anz ha' (by rw [rs'.length];exact hj) ?_
 exact k _ G2 _ _ _ (I2.upd1 (A':=OL (ds.set j d)) es hs hv hf ⟨a,_,rfl,aah,rs'.set (rv.same g2) j,fun b=>Iff.rfl⟩) g2 q
theorem aom {t:TS} {D':VEnds} {A:Own} {d:PyData} (i:Nat) (e:env[i]?=some (some (.own A))) (f:Frz A d) (h:EvS B t D' (env.set i (some (.st d)))):EvS B t D' env:=fun σ G H F D I r=>by
 obtain ⟨v,hv,rv,g,J⟩:=I.frz e f
 exact h σ _ H _ D J (r.later g)
end
noncomputable def tyD:PyData->String
 | .none => "NoneType" | .bool _ => "bool" | .int _ => "int" | .str _ => "str" | .list _ => "list" | .tuple _ => "tuple" | .dict _ => "dict"
def adn (T:String):Prop:=T = "int"\/T = "bool"\/T = "tuple"\/T = "list"\/T = "str"\/T = "dict"
noncomputable def isiD (T:String) (d:PyData):Bool:=tyD d == T || (T == "int" && tyD d == "bool")
theorem avd {K:Frag} {H:Hp} {v:V} {d:PyData} (r:Rp H v d):TyOf K H v (.type (tyD d)):=by
 cases r with
 | non=>exact .non
 | bl b=>exact .bl b
 | int i=>exact .int i
 | str x=>exact .str x
 | lst h _=>exact .lst h
 | tup h _=>exact .tup h
 | dk h _ _=>exact .dK h
 | dt h _ _=>exact .dT h
theorem a0l {K:Frag} {T:String} (h:adn T) (d:PyData):kitOne K (.type (tyD d)) (.type T)=some (isiD T d):=by
 rcases h with rfl | rfl | rfl | rfl | rfl | rfl
 ·cases d with
  | none=>exact ag3
  | bool _=>exact alh
  | int _=>exact anb
  | str _=>exact ane
  | list _=>exact alq
  | tuple _=>exact aj9
  | dict _=>exact als
 ·cases d with
  | none=>exact ags
  | bool _=>exact aj1
  | int _=>exact alj
  | str _=>exact aln
  | list _=>exact aj6
  | tuple _=>exact aiq
  | dict _=>exact akb
 ·cases d with
  | none=>exact afy
  | bool _=>exact aio
  | int _=>exact aj4
  | str _=>exact aj5
  | list _=>exact aip
  | tuple _=>exact ahr
  | dict _=>exact ait
 ·cases d with
  | none=>exact agt
  | bool _=>exact aj2
  | int _=>exact alk
  | str _=>exact alo
  | list _=>exact aj7
  | tuple _=>exact air
  | dict _=>exact akc
 ·cases d with
  | none=>exact ag4
  | bool _=>exact ali
  | int _=>exact anc
  | str _=>exact anf
  | list _=>exact alr
  | tuple _=>exact aka
  | dict _=>exact alt
 ·cases d with
  | none=>exact agu
  | bool _=>exact aj3
  | int _=>exact alm
  | str _=>exact alp
  | list _=>exact aj8
  | tuple _=>exact ais
  | dict _=>exact akd
section
variable {B:Bs} {env:En} {QO:Sl->En->Prop} {Q':PyData->En->Prop} {QT:Bool->En->Prop} {QE:En->Prop} {te ta tb tk:TE} {K:Frag} {i:Nat}
theorem ay1 {T:String} (hT:adn T) (h:Ev B te env fun d e=>Q' (.bool (isiD T d)) e):Ev B (tCB (rIsi K) (aay te (aay (tC (.ty T)) tNil))) env Q':=fun σ G H F Q I k =>
 h σ G H F _ I fun v G1 H1 F1 d e1 I1 g1 r1 q1=>⟨v,T,_,_,rfl,avd (r1.same I1.gh),a0l hT d,k _ G1 H1 F1 _ e1 I1 g1 (.bl _) q1⟩
theorem ay2:adn "int":=.inl rfl
theorem awo:adn "bool":=.inr (.inl rfl)
theorem at5:adn "tuple":=.inr (.inr (.inl rfl))
theorem awp:adn "list":=.inr (.inr (.inr (.inl rfl)))
theorem ay3:adn "str":=.inr (.inr (.inr (.inr (.inl rfl))))
theorem at6 {A:Own} {D':VEnds} (e:env[i]?=some (some (.own A))) (q:D'.rt (.own A) (env.set i none)):EvS B (tRet (tVar i)) D' env:=aof (atk e q)
theorem a0m {n m:Nat} {P:Prop} (h:n<=m) (q:P):n<=m/\P:=⟨h,q⟩
theorem ay4 {ds:List PyData} {e2:En} {R:List PyData->Prop} (e:e2[i]?=some (some (.own (OL ds)))) (hl:ds.length<=999999) (q:R ds):∃ ds,e2[i]?=some (some (.own (OL ds)))/\ds.length<=999999/\R ds:=⟨ds,e,hl,q⟩
theorem a0n {ds:List PyData} {d:PyData} {k:Int} {e2:En} {R:PyData->Prop} (hA:Has e2 i (OL ds)) (h:atI ds k=some d) (q:R d):∃ ds k' d,Has e2 i (OL ds)/\PyData.int k=.int k'/\atI ds k'=some d/\R d:=⟨ds,k,d,hA,rfl,h,q⟩
theorem a0o {ns:List Int} {n k:Int} {R:Int->Prop} (h:atI ns k=some n) (q:R n):∃ j n,PyData.int k=.int j/\atI ns j=some n/\R n:=⟨k,n,rfl,h,q⟩
theorem ahw {ds:List PyData} {k:Int} {j:Nat} {e2:En} {R:Sl->List PyData->Nat->Prop} (e:e2[i]?=some (some (.own (OL ds)))) (hj:ixN ds.length k=some j) (q:R (.own (OL ds)) ds j):∃ s ds k' j,PyData.int k=.int k'/\e2[i]?=some (some s)/\(s=.own (OL ds)\/s=.io (OL ds))/\ixN ds.length k'=some j/\R s ds j:=⟨_,ds,k,j,rfl,e,.inl rfl,hj,q⟩
theorem ay5 {ds:List PyData} {k:Int} {j:Nat} {e2:En} {R:Sl->List PyData->Nat->Prop} (e:e2[i]?=some (some (.io (OL ds)))) (hj:ixN ds.length k=some j) (q:R (.io (OL ds)) ds j):∃ s ds k' j,PyData.int k=.int k'/\e2[i]?=some (some s)/\(s=.own (OL ds)\/s=.io (OL ds))/\ixN ds.length k'=some j/\R s ds j:=⟨_,ds,k,j,rfl,e,.inr rfl,hj,q⟩
theorem a0p {A:Own} {dx:PyData} {e2:En} {P:PyData->Prop} (hA:Has e2 i A) (fz:Frz A dx) (q:P dx):∃ A dx,Has e2 i A/\Frz A dx/\P dx:=⟨A,dx,hA,fz,q⟩
theorem x_rt {A:Own} {e2:En} {R:Own->Prop} (e:e2[0]?=some (some (.io A))) (q:R A):∃ A',e2[0]?=some (some (.io A'))/\R A':=⟨A,e,q⟩
theorem x_st {b:Bool} {R:Bool->Prop} (h:R b):∃ c,Sl.st (.bool b)=.st (.bool c)/\R c:=⟨b,rfl,h⟩
theorem at7 {ds:List PyData} {R:Bool->Prop} (h:R (!ds.isEmpty)):∃ k,TruD (.list ds) k/\R k:=⟨_,rfl,h⟩
theorem lenP {f:VP} {n:Nat} {vs:List V} {H:Hp} {Q:VK} {E:XK} (h:spP K f vs H Q E) (hf:∀ ss Q',f ss Q'->ss.length=n):vs.length=n:=by
 obtain ⟨G,ss,Q',_,_,ao,q,_⟩:=h
 rw [ao.length];exact hf ss Q' q
theorem lenI {f:VIo} {n:Nat} {vs:List V} {H:Hp} {Q:VK} {E:XK} (h:spI K f vs H Q E) (hf:∀ A ss Q',f A ss Q'->ss.length+1=n):vs.length=n:=by
 obtain ⟨v0,vr,G,R,A,ss,F0,Q',rfl,_,_,_,_,_,_,ao,q,_⟩:=h
 rw [List.length_cons,ao.length];exact hf A ss Q' q
theorem ahx {f:VIo} {t:TA} {E:XK} {A:Own} (h0:env[i]?=some (some (.io A))) (h:EvA B t env fun ds e1=>e1[i]?=some (some (.io A))/\f A (ds.map Sl.st) fun A' s=>QO s (e1.set i (some (.io A')))):EvO B (acb (spI K f) [] E (aay (tVar i) t)) env QO :=
 ajj ⟨_,h0⟩ fun σ G H F Q I k=>h σ G H F Q I fun vs G' H' F' ds e1 I' g r ⟨h1,q⟩=>k vs G' H' F' ds e1 I' g r ⟨_,A,h1,.inr rfl,q⟩
theorem ahy {f:VIo} {t:TA} {E:XK} {A:Own} (h0:env[i]?=some (some (.own A))) (h:EvA B t env fun ds e1=>e1[i]?=some (some (.own A))/\f A (ds.map Sl.st) fun A' s=>QO s (e1.set i (some (.own A')))):EvO B (acb (spI K f) [] E (aay (tVar i) t)) env QO :=
 ajj ⟨_,h0⟩ fun σ G H F Q I k=>h σ G H F Q I fun vs G' H' F' ds e1 I' g r ⟨h1,q⟩=>k vs G' H' F' ds e1 I' g r ⟨_,A,h1,.inl rfl,q⟩
theorem arn {f:VIo} {t:TA} {E:XK} {A:Own} (h0:env[i]?=some (some (.io A))) (h:EvA B t env fun ds e1=>e1[i]?=some (some (.io A))/\f A (ds.map Sl.st) fun A' s=>FQ s fun d=>Q' d (e1.set i (some (.io A')))):Ev B (acb (spI K f) [] E (aay (tVar i) t)) env Q':=ab7 (ahx h0 h)
theorem aro {f:VIo} {t:TA} {E:XK} {A:Own} (h0:env[i]?=some (some (.own A))) (h:EvA B t env fun ds e1=>e1[i]?=some (some (.own A))/\f A (ds.map Sl.st) fun A' s=>FQ s fun d=>Q' d (e1.set i (some (.own A')))):Ev B (acb (spI K f) [] E (aay (tVar i) t)) env Q':=ab7 (ahy h0 h)
theorem a0q {P Q:Prop} (h:P) (q:Q):P/\Q:=⟨h,q⟩
theorem a0r {src:List (Option Nat)} {wi:TI} {g:TG} {tif:TT} (nd:(src.filterMap id).Nodup) (h:EvI B wi env fun ds e1=>LcV B.K src g tif te ds e1 fun ys e2=>Q' (.list ys) e2):Ev B (tLC src wi g tif te) env Q':=ab7 (arl nd fun σ G H F R I k=>h σ G H F R I fun J G' H' F' ds e1 I' g' it ⟨Jv,a,b,c,d⟩=>k J G' H' F' ds e1 I' g' it ⟨Jv,a,b,c,fun ys e q=>aer (d ys e q)⟩)
end
end VL
namespace VL
open PySem L2
section
variable {B:Bs} {QE:En->Prop} {Q':PyData->En->Prop} {s:Sl} {r:En} {A:Own} {d:PyData} {x0 x1 x2 x3 x4 x5 x6 x7 x8 x9 x10 x11 x12 x13 x14 x15 x16 x17 x18 x19 x20 x21 x22 x23 x24 x25:Option Sl}
theorem ay6 (h:QE (x0 :: some s :: r)):EvG B (aba 1) s (x0 :: x1 :: r) QE:=aa7 h
theorem ay7 (h:QE (x0 :: x1 :: some s :: r)):EvG B (aba 2) s (x0 :: x1 :: x2 :: r) QE:=aa7 h
theorem ay8 (h:QE (x0 :: x1 :: x2 :: some s :: r)):EvG B (aba 3) s (x0 :: x1 :: x2 :: x3 :: r) QE:=aa7 h
theorem ay9 (h:QE (x0 :: x1 :: x2 :: x3 :: some s :: r)):EvG B (aba 4) s (x0 :: x1 :: x2 :: x3 :: x4 :: r) QE:=aa7 h
theorem aza (h:QE (x0 :: x1 :: x2 :: x3 :: x4 :: some s :: r)):EvG B (aba 5) s (x0 :: x1 :: x2 :: x3 :: x4 :: x5 :: r) QE:=aa7 h
theorem azb (h:QE (x0 :: x1 :: x2 :: x3 :: x4 :: x5 :: some s :: r)):EvG B (aba 6) s (x0 :: x1 :: x2 :: x3 :: x4 :: x5 :: x6 :: r) QE:=aa7 h
theorem azc (h:QE (x0 :: x1 :: x2 :: x3 :: x4 :: x5 :: x6 :: some s :: r)):EvG B (aba 7) s (x0 :: x1 :: x2 :: x3 :: x4 :: x5 :: x6 :: x7 :: r) QE:=aa7 h
theorem azd (h:QE (x0 :: x1 :: x2 :: x3 :: x4 :: x5 :: x6 :: x7 :: some s :: r)):EvG B (aba 8) s (x0 :: x1 :: x2 :: x3 :: x4 :: x5 :: x6 :: x7 :: x8 :: r) QE:=aa7 h
theorem aze (h:QE (x0 :: x1 :: x2 :: x3 :: x4 :: x5 :: x6 :: x7 :: x8 :: some s :: r)):EvG B (aba 9) s (x0 :: x1 :: x2 :: x3 :: x4 :: x5 :: x6 :: x7 :: x8 :: x9 :: r) QE:=aa7 h
end
end VL
namespace Gr
structure Ring (T:Int->Int->Prop) (a:Int) (k:Nat) (far:Int->Option Nat) (edge:List Int):Prop where
 lab:∀ v d,far v=some d ↔ (Dist T a v d/\d<=k)
 edg:∀ v,v∈edge ↔ Dist T a v k
structure Mid (T:Int->Int->Prop) (k:Nat) (far0:Int->Option Nat) (edge:List Int) (done:Int->Prop) (far:Int->Option Nat) (beyond:List Int):Prop where
 old:∀ v d,far0 v=some d->far v=some d
 new:∀ v,v∈beyond ↔ (far0 v=none/\far v ≠ none)
 val:∀ v d,far0 v=none->far v=some d->d=k+1/\∃ u,u∈edge/\T u v
 dn:∀ u w,done u->T u w->far w ≠ none
noncomputable def label (far:Int->Option Nat) (w:Int) (d:Nat):Int->Option Nat:=fun v=>if v=w then some d else far v
theorem label_same {far:Int->Option Nat} {w:Int} {d:Nat}:label far w d w=some d:=if_pos rfl
theorem label_ne {far:Int->Option Nat} {w v:Int} {d:Nat} (h:v ≠ w):label far w d v=far v:=if_neg h
variable {T:Int->Int->Prop} {a:Int} {k:Nat} {far0 far:Int->Option Nat} {edge beyond:List Int} {done:Int->Prop}
theorem Ring.start:Ring T a 0 (label (fun _=>none) a 0) [a]:=by
 refine ⟨fun v d=>?_,fun v=>?_⟩
 ·by_cases h:v=a
  ·subst h
   rw [label_same]
   constructor
   ·intro e;cases e;exact ⟨Dist.self T v,Nat.le_refl _⟩
   ·rintro ⟨h,_⟩;rw [h.uniq (Dist.self T v)]
  ·rw [label_ne h]
   constructor
   ·intro e;cases e
   ·rintro ⟨h1,h2⟩
    have:d=0:=by omega
    subst this
    cases h1.1
    exact absurd rfl h
 ·simp only [List.mem_singleton]
  constructor
  ·rintro rfl;exact Dist.self T v
  ·intro h;cases h.1;rfl
theorem Mid.start:Mid T k far0 edge (fun _=>False) far0 [] :=
 ⟨fun v d h=>h,fun v=>⟨fun h=>by simp at h,fun h=>absurd h.1 h.2⟩,fun v d h g=>(by rw [h] at g;cases g),fun u w h=>h.elim⟩
theorem Mid.add (m:Mid T k far0 edge done far beyond) {u w:Int} (hu:u∈edge) (t:T u w) (hw:far w=none):Mid T k far0 edge done (label far w (k+1)) (beyond ++ [w]):=by
 have h0:far0 w=none:=by
  cases e:far0 w with
  | none=>rfl
  | some d=>rw [m.old w d e] at hw;cases hw
 refine ⟨fun v d h=>?_,fun v=>?_,fun v d h g=>?_,fun x y hx hy=>?_⟩
 ·rw [label_ne (by rintro rfl;rw [h0] at h;cases h)];exact m.old v d h
 ·by_cases hv:v=w
  ·subst hv
   simp [label_same,h0]
  ·rw [label_ne hv]
   simp only [List.mem_append,List.mem_singleton,hv,or_false]
   exact m.new v
 ·by_cases hv:v=w
  ·subst hv
   rw [label_same] at g
   cases g
   exact ⟨rfl,u,hu,t⟩
  ·rw [label_ne hv] at g
   exact m.val v d h g
 ·by_cases hv:y=w
  ·subst hv;rw [label_same];simp
  ·rw [label_ne hv];exact m.dn x y hx hy
theorem Mid.did (m:Mid T k far0 edge done far beyond) {u:Int} (h:∀ w,T u w->far w ≠ none):Mid T k far0 edge (fun x=>done x\/x=u) far beyond :=
 ⟨m.old,m.new,m.val,fun x w hx t=>by rcases hx with hx | rfl;exact m.dn x w hx t;exact h w t⟩
theorem Mid.imp {done':Int->Prop} (m:Mid T k far0 edge done far beyond) (h:∀ u,done' u->done u):Mid T k far0 edge done' far beyond :=
 ⟨m.old,m.new,m.val,fun x w hx t=>m.dn x w (h x hx) t⟩
theorem Ring.next (r:Ring T a k far0 edge) (m:Mid T k far0 edge done far beyond) (hd:∀ u∈edge,done u):Ring T a (k+1) far beyond:=by
 have key:∀ v,far0 v=none->far v ≠ none->Dist T a v (k+1):=fun v h0 h1=>by
  cases e:far v with
  | none=>exact absurd e h1
  | some d =>
   obtain ⟨rfl,u,hu,t⟩:=m.val v d h0 e
   obtain ⟨e',he,h⟩:=((r.edg u).mp hu).next t
   by_cases hk:e'<=k
   ·rw [(r.lab v e').mpr ⟨h,hk⟩] at h0;cases h0
   ·have:e'=k+1:=by omega
    rw [← this];exact h
 have back:∀ v,Dist T a v (k+1)->far0 v=none/\far v ≠ none:=fun v h=>by
  refine ⟨?_,?_⟩
  ·cases e:far0 v with
   | none=>rfl
   | some d =>
    obtain ⟨h1,h2⟩:=(r.lab v d).mp e
    have:=h1.uniq h
    omega
  ·obtain ⟨u,t,hu⟩:=h.pred
   exact m.dn u v (hd u ((r.edg u).mpr hu)) t
 refine ⟨fun v d=>?_,fun v=>⟨fun h=>?_,fun h=>(m.new v).mpr (back v h)⟩⟩
 ·constructor
  ·intro e
   cases e0:far0 v with
   | some d0 =>
    rw [m.old v d0 e0] at e
    cases e
    obtain ⟨h1,h2⟩:=(r.lab v d).mp e0
    exact ⟨h1,by omega⟩
   | none =>
    have hk:=(m.val v d e0 e).1
    subst hk
    exact ⟨key v e0 (by rw [e];simp),Nat.le_refl _⟩
  ·rintro ⟨h,hk⟩
   by_cases hd':d<=k
   ·exact m.old v d ((r.lab v d).mpr ⟨h,hd'⟩)
   ·have e1:d=k+1:=by omega
    subst e1
    obtain ⟨h0,h1⟩:=back v h
    cases e:far v with
    | none=>exact absurd e h1
    | some d=>rw [(m.val v d h0 e).1]
 ·obtain ⟨h0,h1⟩:=(m.new v).mp h
  exact key v h0 h1
theorem Dist.down {v:Int}:∀ {d:Nat},Dist T a v d->∀ j,j<=d->∃ u,Dist T a u j
 | 0,h,j,hj=>⟨v,by rw [show j=0 by omega];exact h⟩
 | d+1,h,j,hj=>by
  by_cases e:j=d+1
  ·rw [e];exact ⟨v,h⟩
  ·obtain ⟨u,_,hu⟩:=h.pred
   exact Dist.down hu j (by omega)
noncomputable def farO (T:Int->Int->Prop) (a v:Int):Option Nat:=open Classical in if h:∃ d,Dist T a v d then some (Classical.choose h) else none
theorem farO_some {v:Int} {d:Nat}:farO T a v=some d ↔ Dist T a v d:=by
 unfold farO
 constructor
 ·intro h
  split at h
  ·rename_i hx
   cases h
   exact Classical.choose_spec hx
  ·cases h
 ·intro h
  have hx:∃ d,Dist T a v d:=⟨d,h⟩
  rw [dif_pos hx,(Classical.choose_spec hx).uniq h]
theorem farO_none {v:Int}:farO T a v=none ↔ ∀ d,¬ Dist T a v d:=by
 constructor
 ·intro h d hd
  rw [farO_some.mpr hd] at h;cases h
 ·intro h
  cases e:farO T a v with
  | none=>rfl
  | some d=>exact absurd (farO_some.mp e) (h d)
theorem awq {v:Int} {o:Option Nat} (h:∀ d,o=some d ↔ Dist T a v d):o=farO T a v:=by
 cases o with
 | some d=>exact (farO_some.mpr ((h d).mp rfl)).symm
 | none=>exact (farO_none.mpr fun d hd=>by cases (h d).mpr hd).symm
theorem Ring.fin (r:Ring T a k far0 []) (v:Int):far0 v=farO T a v:=by
 refine awq fun d=>?_
 rw [r.lab]
 refine ⟨fun h=>h.1,fun h=>⟨h,?_⟩⟩
 apply Classical.byContradiction
 intro hk
 obtain ⟨u,hu⟩:=h.down k (by omega)
 have:=(r.edg u).mpr hu
 simp at this
theorem Walk.app {u v w:Int} {i j:Nat} (h:Walk T u i v) (g:Walk T v j w):Walk T u (i+j) w:=by
 induction g with
 | refl=>exact h
 | step _ t ih=>exact .step ih t
theorem Walk.rev (hs:∀ u v,T u v->T v u) {u v:Int} {i:Nat} (h:Walk T u i v):Walk T v i u:=by
 induction h with
 | refl=>exact .refl
 | @step j x y _ t ih =>
  have:=(Walk.step (T:=T) (u:=y) .refl (hs _ _ t)).app ih
  rw [Nat.add_comm] at this
  exact this
theorem farO_self:farO T a a=some 0:=farO_some.mpr (Dist.self T a)
theorem Dist.lt {n:Nat} (hT:∀ u v,T u v->0<=v/\v < (n:Int)) (ha:0<=a/\a < (n:Int)) {v:Int} {d:Nat} (h:Dist T a v d):d < n:=by
 -- the places of a shortest way are unlike
 have key:∀ d v,Dist T a v d->∃ l:List Int,l.length=d+1/\l.Nodup/\∀ x∈l,(0<=x/\x < (n:Int))/\∃ j,j<=d/\Dist T a x j:=by
  intro d
  induction d with
  | zero =>
   intro v h
   have:v=a:=by cases h.1;rfl
   subst this
   exact ⟨[v],rfl,by simp,fun x hx=>by simp at hx;subst hx;exact ⟨ha,0,Nat.le_refl _,h⟩⟩
  | succ d ih =>
   intro v h
   obtain ⟨u,t,hu⟩:=h.pred
   obtain ⟨l,h1,h2,h3⟩:=ih u hu
   refine ⟨v :: l,by simp [h1],List.nodup_cons.mpr ⟨fun hm=>?_,h2⟩,fun x hx=>?_⟩
   ·obtain ⟨_,j,hj,hd⟩:=h3 v hm
    have:=hd.uniq h
    omega
   ·rcases List.mem_cons.mp hx with rfl | hx
    ·exact ⟨hT _ _ t,d+1,Nat.le_refl _,h⟩
    ·obtain ⟨q,j,hj,hd⟩:=h3 x hx
     exact ⟨q,j,by omega,hd⟩
 obtain ⟨l,h1,h2,h3⟩:=key d v h
 have few:∀ (n:Nat) (l:List Int),l.Nodup->(∀ v∈l,0<=v/\v < (n:Int))->l.length<=n:=by
  intro n
  induction n with
  | zero =>
   intro l _ h
   cases l with
   | nil=>simp
   | cons v r=>have:=h v (by simp);omega
  | succ n ih =>
   intro l hn h
   have h1:=ih (l.erase (n:Int)) (hn.erase _) fun v hv=>by
    have hm:=List.mem_of_mem_erase hv
    have hb:=h v hm
    have hne:v ≠ (n:Int):=by
     rintro rfl
     exact absurd hv (List.Nodup.not_mem_erase hn)
    omega
   have h2:l.length<=(l.erase (n:Int)).length+1:=by
    rw [List.length_erase]
    split <;> omega
   omega
 have:=few n l h2 fun x hx=>(h3 x hx).1
 omega
end Gr
namespace VL
open PySem PySem.Spec L2
theorem nodup_ix {α:Type} {xs:List α} (h:xs.Nodup) {i j:Nat} (hi:i < xs.length) (hj:j < xs.length) (e:xs[i]=xs[j]):i=j:=by
 have p:=List.pairwise_iff_getElem.mp h
 rcases Nat.lt_trichotomy i j with q | q | q
 ·exact absurd e (p i j hi hj q)
 ·exact q
 ·exact absurd e.symm (p j i hj hi q)
noncomputable def OLL (dss:List (List PyData)):Own where
 P:=fun G H v F=>∃ (a:Addr) (as:List Addr),v=.ref a/\H a=some (.lst (as.map V.ref))/\as.Nodup/\a ∉ as/\as.length=dss.length/\(∀ (i:Nat) b ds,as[i]?=some b->dss[i]?=some ds->∃ vs,H b=some (.lst vs)/\Rps G vs ds)/\∀ b,F b ↔ b=a\/b∈as
 mono:=fun ⟨a,as,e,h,n1,n2,l,r,f⟩ g hh=>⟨a,as,e,hh a _ ((f a).mpr (.inl rfl)) h,n1,n2,l,fun i b ds hb hd=>by
  obtain ⟨vs,h1,h2⟩:=r i b ds hb hd
  exact ⟨vs,hh b _ ((f b).mpr (.inr (List.mem_of_getElem? hb))) h1,h2.same g⟩,f⟩
 dom:=fun ⟨a,as,e,h,n1,n2,l,r,f⟩ b z=>by
  rcases (f b).mp z with rfl | z
  ·exact ⟨_,h⟩
  ·obtain ⟨i,hi,e⟩:=List.mem_iff_getElem.mp z
   have hb:as[i]?=some b:=by rw [List.getElem?_eq_getElem hi,e]
   obtain ⟨vs,h1,_⟩:=r i b _ hb (List.getElem?_eq_getElem (by rw [← l];exact hi))
   exact ⟨_,h1⟩
theorem al4 {G:Hp}:∀ {vs:List V} {ds:List PyData},vs.length=ds.length->(∀ (i:Nat) v d,vs[i]?=some v->ds[i]?=some d->Rp G v d)->Rps G vs ds
 | [],[],_,_ => .nil
 | [],_ :: _,h,_=>by simp at h
 | _ :: _,[],h,_=>by simp at h
 | v :: vs,d :: ds,h,k => .cons (k 0 v d rfl rfl) (al4 (by simpa using h) fun i v d h1 h2=>k (i+1) v d (by simpa using h1) (by simpa using h2))
theorem aix {dss:List (List PyData)}:Frz (OLL dss) (.list (dss.map .list)):=fun G H v F ⟨a,as,e,h,n1,n2,l,r,f⟩ n g=>by
 subst e
 refine .lst (by rw [adu ((f a).mpr (.inl rfl))];exact h) (al4 (by simp [l]) fun i u d hu hd=>?_)
 rw [List.getElem?_map] at hu hd
 cases hb:as[i]? with
 | none=>rw [hb] at hu;cases hu
 | some b =>
  cases hds:dss[i]? with
  | none=>rw [hds] at hd;cases hd
  | some ds =>
   rw [hb] at hu;rw [hds] at hd
   cases hu;cases hd
   obtain ⟨vs,h1,h2⟩:=r i b ds hb hds
   exact .lst (by rw [adu ((f b).mpr (.inr (List.mem_of_getElem? hb)))];exact h1) (h2.same (abd n))
section
variable {B:Bs} {env:En} {QO:Sl->En->Prop} {Q':PyData->En->Prop} {D':VEnds} {K:Frag} {i:Nat}
theorem azf {dss:List (List PyData)} {R:PyData->Prop} (h:R (.list (dss.map .list))):FQ (.own (OLL dss)) R:=⟨_,aix,h⟩
theorem awr {src:List (Option Nat)} {wi:TI} {j:Nat} (h:EvI B wi env fun ds e1=>ds.length<=1000000/\QO (.own (OLL (List.replicate ds.length []))) e1):EvO B (tLC src wi (aba j) tYes (tLst tNil)) env QO:=fun σ G H F Q I k=>by
 refine h σ G H F _ I fun J G1 H1 F1 ds e1 I1 g1 it ⟨hle,q⟩ acc hacc=>?_
 let W:Nat->List V->Hp->Prop:=fun n ys H=>∃ (as:List Addr) (G2:Hp),ys=as.map V.ref/\as.length=n/\as.Nodup/\acc ∉ as/\(∀ b∈as,H1 b=none/\G2 b=none/\H b=some (.lst []))/\H acc=some (.lst ys)/\G2 acc=none/\Same G1 G2/\Same G2 H/\Same H1 H/\(∀ a o,G2 a=some o->G1 a=some o\/H1 a=none)/\FT G2 H
 refine ⟨fun n m ys σI H=>m=ds.length - n/\n<=ds.length/\W n ys H,⟨ds.length,by simp,Nat.zero_le _,[],G1,rfl,rfl,List.nodup_nil,by simp,fun b hb=>by simp at hb,aah,I1.no_g hacc,Same.refl _,I1.gh.trans (aa9 hacc),aa9 hacc,fun a o e => .inl e,fun a ks e=>?_⟩,?_⟩
 ·by_cases z:a=acc
  ·subst z;rw [aah] at e;cases e
  ·rw [aae z] at e;exact I1.ft a ks e
 rintro n m ys σI H2 ⟨rfl,hn,as,G2,rfl,hl,nd,na,all,hac,ga,g2,gh2,hh2,gn2,ft2⟩
 refine ⟨hac,?_⟩
 by_cases hlt:n < ds.length
 ·refine .inr ⟨it.go n G2 H2 g2 gh2 hlt,fun ys' σ' H'=>W (n+1) ys' H',fun ys' σ' H' hw=>⟨ds.length - (n+1),by omega,rfl,hlt,hw⟩,fun x H3 y=>?_⟩
  obtain ⟨G3,o⟩:=it.yld n G2 H2 x H3 _ g2 gh2 ft2 (List.getElem?_eq_getElem hlt) y
  refine anx (aq5 (abr (ayc (aq2 ⟨by decide,fun p hp=>?_⟩))))
  have n2:H2 p=none:=ack o.hh hp
  have n1:H1 p=none:=ack hh2 n2
  have pa:p ≠ acc:=(aaj (o.hh _ _ hac) hp).symm
  have pas:p ∉ as:=fun z=>by
   have:=o.hh _ _ (all p z).2.2
   rw [this] at hp;cases hp
  refine ⟨by rw [aae pa.symm];exact o.hh _ _ hac,by rw [List.length_map,hl];exact big (by omega),as ++ [p],G3,by simp,by simp [hl],?_,?_,fun b hb=>?_,aah,?_,g2.trans o.gg,fun a u e=>?_,fun a u e=>?_,fun a u e=>?_,fun a ks e=>?_⟩
  ·rw [List.nodup_append]
   exact ⟨nd,by simp,fun x hx y hy=>by simp at hy;subst hy;intro e;subst e;exact pas hx⟩
  ·intro z
   rcases List.mem_append.mp z with z | z
   ·exact na z
   ·exact pa (List.mem_singleton.mp z).symm
  ·have gb:∀ b,G2 b=none->(∃ u,H2 b=some u)->G3 b=none:=fun b h1 z_=>by
    obtain ⟨u,h2⟩:=z_
    cases e:G3 b with
    | none=>rfl
    | some w =>
     rcases o.gn b w e with e | e
     ·rw [h1] at e;cases e
     ·rw [h2] at e;cases e
   rcases List.mem_append.mp hb with hb | hb
   ·obtain ⟨h1,h2,h3⟩:=all b hb
    refine ⟨h1,gb b h2 ⟨_,h3⟩,?_⟩
    rw [aae (fun z:b=acc=>na (by rw [← z];exact hb)),aae (fun z:b=p=>pas (by rw [← z];exact hb))]
    exact o.hh _ _ h3
   ·have e:b=p:=by simpa using hb
    subst e
    exact ⟨n1,ack o.gh hp,by rw [aae pa,aah]⟩
  ·cases e:G3 acc with
   | none=>rfl
   | some w =>
    rcases o.gn acc w e with e | e
    ·rw [ga] at e;cases e
    ·rw [hac] at e;cases e
  ·have ap:a ≠ p:=aaj (o.gh a u e) hp
   have aa:a ≠ acc:=by
    rintro rfl
    rcases o.gn _ u e with e | e
    ·rw [ga] at e;cases e
    ·rw [hac] at e;cases e
   rw [aae aa,aae ap];exact o.gh a u e
  ·have ap:a ≠ p:=aaj e n1
   have aa:a ≠ acc:=aaj e hacc
   rw [aae aa,aae ap];exact o.hh _ _ (hh2 a u e)
  ·rcases o.gn a u e with e | e
   ·exact gn2 a u e
   ·exact .inr (ack hh2 e)
  ·by_cases z:a=acc
   ·subst z;rw [aah] at e;cases e
   ·rw [aae z] at e
    by_cases y:a=p
    ·subst y;rw [aah] at e;cases e
    ·rw [aae y] at e;exact o.ft ft2 a ks e
 ·have e:n=ds.length:=by omega
  subst e
  refine .inl ⟨it.stop _ G2 H2 g2 gh2 rfl,?_⟩
  have I2:=I1.grow g2 gh2 hh2 gn2 ft2
  refine k (.ref acc) G2 H2 F1 (fun b=>b=acc\/b∈as) (.own (OLL (List.replicate ds.length []))) e1 I2 (g1.trans g2) ⟨⟨acc,as,rfl,hac,nd,na,by simp [hl],fun i b ds' hb hd=>?_,fun b=>Iff.rfl⟩,fun b z=>?_,fun b z=>?_,fun b z=>?_,fun j b z y=>?_⟩ q
  ·rw [List.getElem?_replicate] at hd
   split at hd
   ·cases hd;exact ⟨[],(all b (List.mem_of_getElem? hb)).2.2,.nil⟩
   ·cases hd
  ·rcases z with rfl | z
   ·exact I1.no_b hacc
   ·exact I1.no_b (all b z).1
  ·rcases z with rfl | z
   ·exact ga
   ·exact (all b z).2.1
  ·rcases z with rfl | z
   ·exact ⟨_,hac⟩
   ·exact ⟨_,(all b z).2.2⟩
  ·rcases z with rfl | z
   ·exact I1.no_f hacc j y
   ·exact I1.no_f (all b z).1 j y
theorem ahz {dss:List (List PyData)} {l j n:Nat} {k:Int} {y:PyData} {ds:List PyData} (e:env[i]?=some (some (.own (OLL dss)))) (ek:env[l]?=some (some (.st (.int k)))) (ey:env[j]?=some (some (.st y)))
  (hk:ixN dss.length k=some n) (hd:dss[n]?=some ds) (hl:ds.length<=999999) (q:Q' .none (env.set i (some (.own (OLL (dss.set n (ds ++ [y]))))))):Ev B (tBM K "list" ac7 (tOp (ab3 K) (tVar i) (tVar l)) (aay (tVar j) tNil)) env Q':=fun σ G H F Q I kk=>by
 obtain ⟨v,hv,⟨a,as,rfl,h,n1,n2,ln,r,f⟩,_⟩:=I.sl i _ e
 obtain ⟨vk,hvk,rk,_⟩:=I.sl l _ ek
 obtain ⟨vy,hvy,ry,_⟩:=I.sl j _ ey
 cases rk
 have hn:n < dss.length:=(List.getElem?_eq_some_iff.mp hd).1
 have hb:as[n]?=some (as[n]'(by omega)):=List.getElem?_eq_getElem _
 generalize as[n]'(by omega)=b at hb
 have hbm:b∈as:=List.mem_of_getElem? hb
 obtain ⟨vs,h1,h2⟩:=r n b ds hb hd
 have hat:atI (as.map V.ref) k=some (.ref b):=by
  unfold atI
  rw [List.length_map,ln,hk]
  simp [hb]
 refine ⟨_,hv,_,hvk,aff h hat ⟨.inl ⟨rfl,_,SqL.of h1⟩,_,hvy,ac8 h1 (by rw [h2.length];exact big (by omega)) ?_⟩⟩
 have hne:a ≠ b:=fun z=>n2 (z ▸ hbm)
 have J:=I.change (A:=OLL (dss.set n (ds ++ [y]))) (H2:=upd H b (.lst (vs ++ [vy]))) (F2:=F i) (os':=.own (OLL (dss.set n (ds ++ [y])))) i e hv (fun c o hc ec=>by rw [aae (fun z:c=b=>hc ((f c).mpr (.inr (by rw [z];exact hbm))))];exact ec)
  (fun c o ec=>by
   by_cases z:c=b
   ·rw [z];exact ⟨_,aah⟩
   ·rw [aae z];exact ⟨o,ec⟩)
  (fun c z=>⟨.inl z,by
   by_cases y:c=b
   ·rw [y];exact ⟨_,aah⟩
   ·rw [aae y];exact I.fo i c z⟩) ?_ (fun c ks e=>by
   by_cases z:c=b
   ·subst z;rw [aah] at e;cases e
   ·rw [aae z] at e;exact I.ft c ks e) (.inl ⟨rfl,_,rfl⟩)
 ·exact kk _ G _ _ _ _ J (Same.refl _) .non q
 ·refine ⟨a,as,rfl,by rw [aae hne];exact h,n1,n2,by simp [ln],fun m c es hc hes=>?_,f⟩
  by_cases hm:m=n
  ·subst hm
   rw [hb] at hc;cases hc
   rw [List.getElem?_set,if_pos rfl,if_pos hn] at hes
   cases hes
   exact ⟨_,aah,h2.append (.cons ry .nil)⟩
  ·rw [List.getElem?_set,if_neg (fun z=>hm z.symm)] at hes
   obtain ⟨us,h3,h4⟩:=r m c es hc hes
   refine ⟨us,?_,h4⟩
   rw [aae]
   ·exact h3
   ·rintro rfl
    have i1:=(List.getElem?_eq_some_iff.mp hb)
    have i2:=(List.getElem?_eq_some_iff.mp hc)
    obtain ⟨l1,e1⟩:=i1
    obtain ⟨l2,e2⟩:=i2
    exact hm (nodup_ix n1 l2 l1 (e2.trans e1.symm))
noncomputable def exO {α:Type} (f : α->Own):Own where
 P:=fun G H v F=>∃ x,(f x).P G H v F
 mono:=fun ⟨x,h⟩ g hh=>⟨x,(f x).mono h g hh⟩
 dom:=fun ⟨x,h⟩=>(f x).dom h
theorem VI.weakO {G H:Hp} {σ:St} {F:Nat->Addr->Prop} {A A':Own} (I:VI B G H σ env F) (e:env[i]?=some (some (.own A))) (h:∀ G H v F,A.P G H v F->A'.P G H v F):VI B G H σ (env.set i (some (.own A'))) F:=by
 refine ⟨I.gh,I.g0,I.gn,I.rs,I.rb,I.bh,I.fg,I.fr,I.fd,I.fo,fun j s es=>?_,by simp [I.ln],I.ft⟩
 by_cases hj:j=i
 ·subst hj
  rw [List.getElem?_set,if_pos rfl,if_pos (List.getElem?_eq_some_iff.mp e).1] at es
  cases es
  obtain ⟨v,hv,q⟩:=I.sl j _ e
  exact ⟨v,hv,h _ _ _ _ q.1,q.2⟩
 ·rw [List.getElem?_set,if_neg (fun z=>hj z.symm)] at es
  exact I.sl j s es
end
@[reducible] noncomputable def prD (p:Int × Int):PyData:=.tuple [.int p.1,.int p.2]
@[reducible] noncomputable def webD (n:Int) (es:List (Int × Int)):PyData:=.tuple [.int n,.list (es.map prD)]
def Tied (es:List (Int × Int)) (u v:Int):Prop:=(u,v)∈es\/(v,u)∈es
theorem Tied.symm {es:List (Int × Int)} {u v:Int} (h:Tied es u v):Tied es v u:=h.elim .inr .inl
def InN (n:Int) (es:List (Int × Int)):Prop:=∀ p∈es,0<=p.1/\p.1 < n/\0<=p.2/\p.2 < n
theorem Tied.in {n:Int} {es:List (Int × Int)} {u v:Int} (hi:InN n es) (h:Tied es u v):(0<=u/\u < n)/\0<=v/\v < n:=by
 rcases h with h | h
 ·have:=hi _ h;exact ⟨⟨this.1,this.2.1⟩,this.2.2⟩
 ·have:=hi _ h;exact ⟨⟨this.2.2.1,this.2.2.2⟩,this.1,this.2.1⟩
theorem Tied.snoc {es:List (Int × Int)} {i:Nat} {a b:Int} (h:es[i]?=some (a,b)) (u v:Int):Tied (es.take (i+1)) u v ↔ (Tied (es.take i) u v\/(u=a/\v=b))\/(u=b/\v=a):=by
 have e:es.take (i+1)=es.take i ++ [(a,b)]:=by rw [List.take_add_one,h];rfl
 unfold Tied
 rw [e]
 simp only [List.mem_append,List.mem_singleton,Prod.mk.injEq]
 constructor
 ·rintro ((h | ⟨rfl,rfl⟩) | (h | ⟨rfl,rfl⟩))
  ·exact .inl (.inl (.inl h))
  ·exact .inl (.inr ⟨rfl,rfl⟩)
  ·exact .inl (.inl (.inr h))
  ·exact .inr ⟨rfl,rfl⟩
 ·rintro (((h | h) | ⟨rfl,rfl⟩) | ⟨rfl,rfl⟩)
  ·exact .inl (.inl h)
  ·exact .inr (.inl h)
  ·exact .inl (.inr ⟨rfl,rfl⟩)
  ·exact .inr (.inr ⟨rfl,rfl⟩)
def TiedL (n:Int) (T:Int->Int->Prop) (tl:List (List Int)):Prop:=(tl.length:Int)=n/\∀ (i:Nat) ws,tl[i]?=some ws->∀ w,w∈ws ↔ T i w
noncomputable def oD:Option Nat->PyData
 | none => .none
 | some d => .int d
noncomputable def lab (n:Nat) (far:Int->Option Nat):List PyData:=(List.range n).map fun (i:Nat)=>oD (far (i:Int))
theorem ab8 {n:Nat} {far:Int->Option Nat}:(lab n far).length=n:=by simp [lab]
theorem aed {n:Nat} {far:Int->Option Nat} {i:Nat} (h:i < n):(lab n far)[i]?=some (oD (far i)):=by
 unfold lab
 rw [List.getElem?_map,List.getElem?_eq_getElem (by simpa using h)]
 simp
theorem ah0 {n:Nat} {far:Int->Option Nat} {v:Int} (h0:0<=v) (h:v < n):atI (lab n far) v=some (oD (far v)):=by
 have:=ac6 (xs:=lab n far) (j:=v.toNat) (aed (by omega))
 rwa [show ((v.toNat:Nat):Int)=v by omega] at this
theorem ae5 {n:Nat} {v:Int} (h0:0<=v) (h:v < n):ixN n v=some v.toNat:=by
 unfold ixN;rw [if_pos h0,if_pos h]
theorem agl {n:Nat} {far:Int->Option Nat} {v:Int} {d:Nat} (h0:0<=v) (h:v < n):(lab n far).set v.toNat (.int d)=lab n (Gr.label far v d):=by
 apply List.ext_getElem?
 intro i
 rw [List.getElem?_set]
 by_cases e:v.toNat=i
 ·rw [if_pos e,if_pos (by rw [ab8];omega),aed (by omega)]
  have:(i:Int)=v:=by omega
  rw [this,Gr.label_same];rfl
 ·rw [if_neg e]
  by_cases hi:i < n
  ·rw [aed hi,aed hi,Gr.label_ne (by omega)]
  ·rw [List.getElem?_eq_none_iff.mpr (by rw [ab8];omega),List.getElem?_eq_none_iff.mpr (by rw [ab8];omega)]
theorem ajm {n:Nat} {f g:Int->Option Nat} (h:∀ v,0<=v->v < (n:Int)->f v=g v):lab n f=lab n g:=by
 unfold lab
 apply List.map_congr_left
 intro i hi
 rw [h i (by omega) (by have:=List.mem_range.mp hi;omega)]
theorem aon {o:Option Nat}:isNone (oD o)=o.isNone:=by cases o <;> rfl
theorem ae6 {α:Type} {f : α->PyData} {xs:List α} {i:Int} {x : α} (h:atI xs i=some x):atI (xs.map f) i=some (f x):=by
 unfold atI at h ⊢
 rw [List.length_map]
 cases e:ixN xs.length i with
 | none=>rw [e] at h;cases h
 | some j=>rw [e] at h;simp at h ⊢;exact ⟨_,h,rfl⟩
theorem agm {α:Type} {xs:List α} {i:Int} {x : α} (h0:0<=i) (h:xs[i.toNat]?=some x):atI xs i=some x:=by
 have:=ac6 (xs:=xs) (j:=i.toNat) h
 rwa [show ((i.toNat:Nat):Int)=i by omega] at this
@[reducible] noncomputable def tlD (tl:List (List Int)):List (List PyData):=tl.map fun ws=>ws.map .int
theorem TiedL.get {n:Int} {T:Int->Int->Prop} {tl:List (List Int)} (h:TiedL n T tl) {v:Int} (h0:0<=v) (h1:v < n):∃ ws,tl[v.toNat]?=some ws/\∀ w,w∈ws ↔ T v w:=by
 have hl:v.toNat < tl.length:=by have:=h.1;omega
 refine ⟨tl[v.toNat],List.getElem?_eq_getElem hl,fun w=>?_⟩
 rw [h.2 _ _ (List.getElem?_eq_getElem hl) w,show ((v.toNat:Nat):Int)=v by omega]
theorem aiy {tl:List (List Int)} {i:Nat} {ws:List Int} (h:tl[i]?=some ws):(tlD tl)[i]?=some (ws.map .int):=by
 rw [List.getElem?_map,h];rfl
theorem TiedL.put {n:Int} {T:Int->Int->Prop} {tl:List (List Int)} (h:TiedL n T tl) {v q:Int} {ws:List Int} (h0:0<=v) (h1:v < n) (hw:tl[v.toNat]?=some ws):TiedL n (fun a b=>T a b\/(a=v/\b=q)) (tl.set v.toNat (ws ++ [q])):=by
 refine ⟨by rw [List.length_set];exact h.1,fun i us hi w=>?_⟩
 rw [List.getElem?_set] at hi
 by_cases e:v.toNat=i
 ·rw [if_pos e] at hi
  have hl:v.toNat < tl.length:=(List.getElem?_eq_some_iff.mp hw).1
  rw [if_pos (by omega)] at hi
  cases hi
  have hv:(i:Int)=v:=by omega
  rw [List.mem_append,List.mem_singleton,h.2 i ws (by rw [← e];exact hw) w,hv]
  simp
 ·rw [if_neg e] at hi
  rw [h.2 i us hi w]
  exact ⟨.inl,fun z=>z.elim id fun z=>by omega⟩
theorem aoo {tl:List (List Int)} {i:Nat} {ws:List Int}:(tlD tl).set i (ws.map .int)=tlD (tl.set i ws):=by
 unfold tlD;rw [List.map_set]
theorem TiedL.iff {n:Int} {T T':Int->Int->Prop} {tl:List (List Int)} (h:TiedL n T tl) (e:∀ u v,T u v ↔ T' u v):TiedL n T' tl:=⟨h.1,fun i ws hi w=>(h.2 i ws hi w).trans (e _ _)⟩
end VL
namespace VL
open PySem L2
noncomputable def cnt (far:Int->Option Nat):Nat->Nat
 | 0=>0
 | n+1=>cnt far n+(if far (n:Int)=none then 1 else 0)
theorem afo {far:Int->Option Nat} {w:Int} {d:Nat}:∀ {n:Nat},(w:Int) ≥ n->cnt (Gr.label far w d) n=cnt far n
 | 0,_=>rfl
 | n+1,h=>by
  unfold cnt
  rw [afo (by omega),Gr.label_ne (by omega)]
theorem ajn {far:Int->Option Nat} {w:Int} {d:Nat} (h0:0<=w) (hw:far w=none):∀ {n:Nat},w < (n:Int)->cnt (Gr.label far w d) n+1=cnt far n
 | 0,h=>by omega
 | n+1,h=>by
  unfold cnt
  by_cases e:w=n
  ·subst e
   rw [afo (by omega),Gr.label_same,hw];simp
  ·rw [Gr.label_ne (by omega)]
   have:=ajn h0 hw (n:=n) (d:=d) (by omega)
   omega
theorem aop (n:Nat):(List.replicate n [PyData.none]).flatten=lab n (fun _=>none):=by
 apply List.ext_getElem?
 intro i
 by_cases hi:i < n
 ·rw [aed hi]
  have:(List.replicate n [PyData.none]).flatten=List.replicate n PyData.none:=by
   clear hi
   induction n with
   | zero=>rfl
   | succ n ih=>rw [List.replicate_succ,List.flatten_cons,ih,List.replicate_succ];rfl
  rw [this,List.getElem?_replicate,if_pos hi];rfl
 ·rw [List.getElem?_eq_none_iff.mpr (by rw [anw];simp;omega),List.getElem?_eq_none_iff.mpr (by rw [ab8];omega)]
theorem ang {α:Type} {f : α->PyData} {xs:List α}:(xs.map f).isEmpty=xs.isEmpty:=by cases xs <;> rfl
theorem ad8 {xs:List Int} {j:Nat} {u w:Int} (hu:xs[j]?=some u) (hm:w∈xs.take (j+1)):w∈xs.take j\/w=u:=by
 rw [List.take_add_one,hu] at hm
 rcases List.mem_append.mp hm with q | q
 ·exact .inl q
 ·exact .inr (by simpa using q)
theorem arp {n:Nat} {far:Int->Option Nat}:plainDs (lab n far)=true:=by
 rw [ads]
 intro d hd
 obtain ⟨i,_,rfl⟩:=List.mem_map.mp hd
 cases far (i:Int) <;> rfl
theorem aws {n:Nat} {far:Int->Option Nat}:((lab n far).any fun z=>PyData.eqv z .none)=true ↔ ∃ v:Int,0<=v/\v < n/\far v=none:=by
 rw [List.any_eq_true]
 constructor
 ·rintro ⟨d,hd,e⟩
  obtain ⟨i,hi,rfl⟩:=List.mem_map.mp hd
  refine ⟨i,by omega,by have:=List.mem_range.mp hi;omega,?_⟩
  cases h:far (i:Int) with
  | none=>rfl
  | some d=>rw [h] at e;simp [oD,PyData.eqv] at e
 ·rintro ⟨v,h0,h1,h⟩
  refine ⟨oD (far v),?_,by rw [h];rfl⟩
  have:=aed (far:=far) (show v.toNat < n by omega)
  rw [show ((v.toNat:Nat):Int)=v by omega] at this
  exact List.mem_of_getElem? this
def Joined (n:Int) (es:List (Int × Int)):Prop:=∀ v,0<=v->v < n->∃ d,Gr.Dist (Tied es) 0 v d
end VL
namespace DI
open PySem PySem.W
def Raw (h:Heap) (d:Addr) (es:Array DictEntry) (ep:Nat):Prop:=∃ o,h.get? d=some o/\o.ExactDict/\o.data=.dict es ep
theorem Raw.keep {h h':Heap} {d:Addr} {es:Array DictEntry} {ep:Nat} (r:Raw h d es ep) (k:∀ o,h.get? d=some o->h'.get? d=some o):Raw h' d es ep:=let ⟨o,e,x⟩:=r;⟨o,k o e,x⟩
theorem Raw.ty {s:Shared} {d:Addr} {es:Array DictEntry} {ep:Nat} (r:Raw s.heap d es ep):s.TypeIs (.ref d) "dict":=let ⟨o,e,x,_⟩:=r;⟨o,e,x.1⟩
section
variable {prog:Program} {w:World} {A:Around} {E:Value->Shared->Prop} {s:Shared} {d it:Addr} {es:Array DictEntry} {ep i:Nat}
theorem at8 {Q:Value->Shared->Prop} (hd:(d == sysModules)=false) (r:Raw s.heap d es ep)
  (hQ:Q (.ref s.heap.objs.size) { s with heap:=s.heap.push { cls:=.type "dict_keyiterator",data:=.fields #[.ref d,.int 0 0,.int es.size 0,.int ep 0] } }):wpAny (model prog w) A (pyIter (.ref d)) Q E s:=by
 obtain ⟨o,ho,hx,hdat⟩:=id r
 refine wpAny_pyIter_slot r.ty PySem.F.slot_dict_iter (wpAny_call_entry PySem.F.slot_dict_iter r.ty PySem.F.entry_dict_iter ?body (PySem.F.args_dict_iter_1 _))
 case body =>
  unfold Builtin.«dict.__iter__»
  refine wpAny_bind ?slot
  case slot =>
   unfold Builtin.Dict.dictSlotNone
   refine wpAny_bind (wpAny_notOrdered_dict r.ty ?pl)
   case pl =>
    show wpAny _ _ (pure (Value.ref d)) _ _ s
    refine wpAny_pure ?rest
    case rest =>
     show wpAny _ _ (Builtin.Dict.showsAll d >>= _) _ _ s
     unfold Builtin.Dict.showsAll
     rw [if_neg (by rw [hd];exact Bool.false_ne_true)]
     refine wpAny_bind (wpAny_pure (wpAny_bind (wpAny_dictEntries ho hdat (wpAny_bind (wpAny_dictEpoch ho hdat (wpAny_bind (wpAny_newObj_type (wpAny_pure ⟨_,rfl,"dict_keyiterator",_,⟨_,Heap.get?_push_size _ rfl,rfl⟩,PySem.F.slot_dict_keyiterator_next.lookup,?fin⟩))))))))
     case fin=>simpa [rawInt] using hQ
theorem at9 {Q:Option Value->Shared->Prop} (hit:s.heap.IsKeyIter it d i es.size ep) (r:Raw s.heap d es ep) (hi:i < es.size)
  (hQ:∀ h',h'.IsKeyIter it d (i+1) es.size ep->Heap.SameBut it s.heap h'->Q (some es[i].key) { s with heap:=h' }):wpAny (model prog w) A (pyNext (.ref it)) Q E s:=by
 obtain ⟨o,ho,hc,hd⟩:=id hit
 obtain ⟨od,hod,hcd,hdd⟩:=r
 unfold pyNext
 refine wpAny_bind (wpAny_attempt (wpAny_callSpecial?_slot (name:=Str.ofString "__next__") hit.typeIs PySem.F.slot_dict_keyiterator_next (wpAny_call_entry PySem.F.slot_dict_keyiterator_next hit.typeIs PySem.F.entry_dict_keyiterator_next ?b (PySem.F.args_dict_keyiterator_next_1 _))))
 case b =>
  refine wpAny_bind (wpAny_pure (wpAny_bind (wpAny_bind ?c)))
  case c =>
   first | refine wpAny_bind (wpAny_typeNameOfWhole_keyiter hit.typeIs (wpAny_pure (wpAny_bind (wpAny_fieldsOf ho hd ?e)))) | refine wpAny_bind (wpAny_typeNameOf_keyiter hit.typeIs (wpAny_pure (wpAny_bind (wpAny_fieldsOf ho hd ?e))))
   case e =>
    simp only [show Builtin.Dict_items.ownsTuple "dict_keyiterator" = false by decide,Bool.false_eq_true,if_false]
    show wpAny _ _ (if (Value.ref d == Value.none)=true then _ else _) _ _ s;rw [if_neg (show ¬ ((Value.ref d == Value.none)=true) from Bool.false_ne_true)]
    refine wpAny_bind (wpAny_pure (wpAny_bind (wpAny_dictEntries hod hdd ?f)))
    case f =>
     rw [if_neg (by simp)];refine wpAny_bind (wpAny_pure (wpAny_bind (wpAny_dictEpoch hod hdd ?g)))
     case g =>
      rw [if_neg (by simp)];refine wpAny_pure ?h
      case h =>
       simp only [show ¬ ((i:Int) < 0) by omega,if_false,Int.toNat_natCast,Array.getElem?_eq_getElem hi];refine wpAny_bind ?j
       case j =>
        first | refine wpAny_bind (wpAny_typeNameOfWhole_keyiter hit.typeIs (wpAny_pure (wpAny_bind (wpAny_isOneOf_keyiter hit.typeIs ?k)))) | refine wpAny_bind (wpAny_typeNameOf_keyiter hit.typeIs (wpAny_pure (wpAny_bind (wpAny_isOneOf_keyiter hit.typeIs ?k))))
        case k =>
         show wpAny _ _ (setField (.ref it) 1 (rawInt ((i:Int)+1)) >>= _) _ _ s;refine wpAny_bind (wpAny_setField ho hd (by simp) ?l)
         case l =>
          have nx:(s.heap.update it (Obj.mapFields (·.setIfInBounds 1 (rawInt ((i:Int)+1))))).IsKeyIter it d (i+1) es.size ep:=⟨_,Heap.get?_update_self _ ho (Obj.isFreed_of_fields (Obj.data_mapFields hd _)),(Obj.cls_mapFields ..).trans hc,by rw [Obj.data_mapFields hd];simp [rawInt]⟩
          refine wpAny_bind (wpAny_holding (wpAny_bind (wpAny_isOneOf_keyiter (s:={ s with heap:=s.heap.update it (Obj.mapFields (·.setIfInBounds 1 (rawInt ((i:Int)+1)))) }) nx.typeIs ?m)))
          case m=>show wpAny _ _ (pure es[i].key) _ _ _;exact wpAny_pure (wpAny_pure ⟨_,rfl,wpAny_pure (hQ _ nx (Heap.SameBut.update ..))⟩)
theorem awt {Q:Option Value->Shared->Prop} (hh:A.handled=none) (hit:s.heap.IsKeyIter it d es.size es.size ep) (r:Raw s.heap d es ep) (hQ:∀ h',Heap.ExtBut it s.heap h'->Q none { s with heap:=h' }):wpAny (model prog w) A (pyNext (.ref it)) Q E s:=by
 obtain ⟨o,ho,hc,hd⟩:=id hit
 obtain ⟨od,hod,hcd,hdd⟩:=r
 unfold pyNext
 refine wpAny_bind (wpAny_attempt (wpAny_callSpecial?_slot (name:=Str.ofString "__next__") hit.typeIs PySem.F.slot_dict_keyiterator_next (wpAny_call_entry PySem.F.slot_dict_keyiterator_next hit.typeIs PySem.F.entry_dict_keyiterator_next ?b (PySem.F.args_dict_keyiterator_next_1 _))))
 case b =>
  refine wpAny_bind (wpAny_pure (wpAny_bind (wpAny_bind ?c)))
  case c =>
   first | refine wpAny_bind (wpAny_typeNameOfWhole_keyiter hit.typeIs (wpAny_pure (wpAny_bind (wpAny_fieldsOf ho hd ?e)))) | refine wpAny_bind (wpAny_typeNameOf_keyiter hit.typeIs (wpAny_pure (wpAny_bind (wpAny_fieldsOf ho hd ?e))))
   case e =>
    simp only [show Builtin.Dict_items.ownsTuple "dict_keyiterator" = false by decide,Bool.false_eq_true,if_false]
    show wpAny _ _ (if (Value.ref d == Value.none)=true then _ else _) _ _ s;rw [if_neg (show ¬ ((Value.ref d == Value.none)=true) from Bool.false_ne_true)]
    refine wpAny_bind (wpAny_pure (wpAny_bind (wpAny_dictEntries hod hdd ?f)))
    case f =>
     rw [if_neg (by simp)];refine wpAny_bind (wpAny_pure (wpAny_bind (wpAny_dictEpoch hod hdd ?g)))
     case g =>
      rw [if_neg (by simp)];refine wpAny_pure ?h
      case h =>
       simp only [show ¬ ((es.size:Int) < 0) by omega,if_false,Int.toNat_natCast,Array.getElem?_eq_none (Nat.le_refl es.size)];refine wpAny_bind ?j
       case j =>
        first | refine wpAny_bind (wpAny_typeNameOfWhole_keyiter hit.typeIs (wpAny_pure ?k)) | refine wpAny_bind (wpAny_typeNameOf_keyiter hit.typeIs (wpAny_pure ?k))
        case k =>
         show wpAny _ _ (setField (.ref it) 0 .none >>= _) _ _ s;refine wpAny_bind (wpAny_setField ho hd (by simp) ?l)
         case l =>
          show wpAny _ _ (newExc (.type "StopIteration") [] >>= _) _ _ _;refine wpAny_bind ?m
          case m =>
           simp only [newExc,newTuple];refine wpAny_bind (wpAny_newObj_type ?zz2 (by size_fits))
           case zz2 =>
            refine wpAny_bind (m:=firstArgMember _ _) (wpAny_of_eq (a:=Value.none) (by first | rfl | (simp only [firstArgMember];rfl)) (wpAny_newObj_type ?zz1 (by size_fits)))
            case zz1 =>
             simp only [raiseNew];refine wpAny_bind (wpAny_handled ?q)
             case q =>
              rw [show A.in1.handled=none from hh];refine wpAny_bind (wpAny_pure (wpAny_throw ?u1))
              case u1=>refine wpAny_bind (wpAny_isInstance (T:="StopIteration") (b:=true) ⟨_,Heap.get?_push_size _ rfl,rfl⟩ isSubtype_stop ?u2);exact wpAny_pure (hQ _ (((Heap.SameBut.update ..).extBut.push _).push _))
end
theorem walks {prog:Program} {w:World} {A:Around} (hh:A.handled=none) (I d:Addr) (hne:d ≠ I) (es:Array DictEntry) (ep:Nat) :
  Walks prog w A I [I,d] [I] es.size (fun i v=>(es[i]?).map (·.key)=some v) (fun i h=>h.IsKeyIter I d i es.size ep/\Raw h d es ep) where
 sub:=fun b hb=>by simp at hb;simp [hb]
 frame:=fun _ _ _ st hk=>⟨st.1.at fun o e=>hk I (by simp) o e,st.2.keep fun o e=>hk d (by simp) o e⟩
 item:=fun i s Q E hi st hQ=>at9 st.1 st.2 hi fun h' nx sb=>hQ _ h' s.toks (by rw [Array.getElem?_eq_getElem hi];rfl) ⟨nx,st.2.keep fun o e=>sb.extBut d o hne e⟩ fun b o hb e=>sb.extBut b o (fun z=>hb (by simp [z])) e
 done:=fun s Q E st hQ=>awt hh st.1 st.2 fun h' eb=>hQ h' s.toks fun b o hb e=>eb b o (fun z=>hb (by simp [z])) e
 self:=fun _ _ _ _ st hQ=>wpAny_pyIter_keyiter st.1 hQ
end DI
namespace DI
open PySem PySem.W PyProof.Rows
section
variable {prog:Program} {w:World} {A:Around} {E:Value->Shared->Prop} {s:Shared}
theorem src (d:Addr) (es:Array DictEntry) (ep:Nat) (hd:(d == sysModules)=false):KdlSrc prog w "dict" d d es.size (fun i v=>(es[i]?).map (·.key)=some v) (fun h=>Raw h d es ep) where
 type:=fun s r=>r.ty
 there:=fun h r=>let ⟨o,e,_⟩:=r;⟨Heap.lt_size e,Heap.lt_size e⟩
 keep:=fun h h' r k=>r.keep fun o e=>k d (.inl rfl) o e
 notList:=by decide
 notTuple:=by decide
 hint:=fun A E s Q r q=>kdl_hint_dict r.ty q
 iter:=fun A s hh r=>⟨{ cls:=.type "dict_keyiterator",data:=.fields #[.ref d,.int 0 0,.int es.size 0,.int ep 0] },fun i h=>h.IsKeyIter s.heap.objs.size d i es.size ep/\Raw h d es ep,fun E Q q=>at8 hd r q,
  walks hh s.heap.objs.size d (by obtain ⟨o,e,_⟩:=r;exact Nat.ne_of_lt (Heap.lt_size e)) es ep,⟨_,Heap.get?_push_size _ rfl,rfl,rfl⟩,r.keep fun o e=>Heap.get?_push_of_some _ e⟩
end
end DI
namespace TS
open PySem PySem.W PyProof.Rows
section
variable {prog:Program} {w:World} {A:Around} {E:Value->Shared->Prop} {s:Shared}
end
end TS
namespace L2
open PySem PySem.Spec PyProof.Rows
section
variable {X:Cx} {pins:List (Addr × Obj)} {σ:St} {H:Hp} {s:Shared} {h':Heap}
theorem Inv.turnNew {t':Nat} {ch:List Addr} {T:Addr} {o:HO} (I:Inv X pins σ H s) (f:∀ b∈ch,FpOk X pins H b) (k:∀ b u,b ∉ ch->s.heap.get? b=some u->h'.get? b=some u) (hT:s.heap.objs.size<=T) (new:ObjOk X.prog X.w (upd H T o) h' T o) :
  Inv X pins σ (upd H T o) { s with heap:=h',toks:=t' }:=by
 have hn:H T=none:=I.hok.fresh hT
 have nch:∀ b u,H b=some u->b ∉ ch:=fun b u e z=>by rw [(f b z).1] at e;cases e
 refine I.step (g':=s.gens) (d':=s.drawn) (ch:=ch) (fun b hb=>⟨(f b hb).2.2.2.1,(f b hb).2.1,(f b hb).2.2.2.2.1,(f b hb).2.2.2.2.2⟩) (fun b u _ _ hc e _=>k b u hc e) (fun b u _ _ hc e _=>⟨u.slots,k b u hc e⟩)
  (fun b u _ e n=>by rw [aae (Nat.ne_of_lt (Nat.lt_of_lt_of_le (Heap.lt_size e) hT))];exact n) (fun b u hc e=>⟨u,k b u hc e⟩) (fun b xs e=>by rw [aae (aaj e hn)];exact e) (fun b u v e=>by rw [aae (aaj e hn)];exact e)
  (fun b ps e=>⟨#[],by rw [aae (aaj e hn),e];simp⟩) (fun m hm=>?_) (fun b u e=>?_) I.bare
 ·obtain ⟨u,es,ep,ho,r⟩:=hm
  exact ⟨u,es,ep,k _ u (fun z=>(f _ z).2.1 rfl) ho,r⟩
 ·by_cases hb:b=T
  ·subst hb;rw [aah] at e;cases e;exact new
  ·rw [aae hb] at e
   refine (I.hok b u e).stay (fun c v hc q=>k c v ?_ q) (fun c q=>by rw [aae (aaj q hn)];exact q) fun c xs q=>by rw [aae (aaj q hn)];exact q
   rcases hc with z | z
   ·rw [z];exact nch b u e
   ·exact nch c _ z
theorem Inv.turnedL {t':Nat} {ch:List Addr} (I:Inv X pins σ H s) (f:∀ b∈ch,FpOk X pins H b) (k:∀ b u,b ∉ ch->s.heap.get? b=some u->h'.get? b=some u):Inv X pins σ H { s with heap:=h',toks:=t' }:=by
 have nch:∀ b u,H b=some u->b ∉ ch:=fun b u e z=>by rw [(f b z).1] at e;cases e
 refine I.step (g':=s.gens) (d':=s.drawn) (ch:=ch) (fun b hb=>⟨(f b hb).2.2.2.1,(f b hb).2.1,(f b hb).2.2.2.2.1,(f b hb).2.2.2.2.2⟩) (fun b u _ _ hc e _=>k b u hc e) (fun b u _ _ hc e _=>⟨u.slots,k b u hc e⟩) (fun _ _ _ _ n=>n)
  (fun b u hc e=>⟨u,k b u hc e⟩) (fun _ _ e=>e) (fun _ _ _ e=>e) (fun b ps e=>⟨#[],by rw [e];simp⟩) (fun m hm=>?_) (fun b u e=>?_) I.bare
 ·obtain ⟨u,es,ep,ho,r⟩:=hm
  exact ⟨u,es,ep,k _ u (fun z=>(f _ z).2.1 rfl) ho,r⟩
 ·refine (I.hok b u e).stay (fun c v hc q=>k c v ?_ q) (fun _ q=>q) fun _ _ q=>q
  rcases hc with z | z
  ·rw [z];exact nch b u e
  ·exact nch c _ z
end
noncomputable def Itz (K:Frag) (a b:Addr):It :=
 ⟨fun i H=>∃ xs ys x y,SqL K H a xs/\SqL K H b ys/\xs[i]?=some x/\ys[i]?=some y,fun i H v H'=>∃ p x y,v=.ref p/\H p=none/\H'=upd H p (.tup [x,y])/\(∀ xs,SqL K H a xs->xs[i]?=some x)/\∀ ys,SqL K H b ys->ys[i]?=some y,
  fun i H=>∃ xs ys,SqL K H a xs/\SqL K H b ys/\min xs.length ys.length=i⟩
section
variable {X:Cx} {elts:List Expr} {k:Nat} {tpos:Pos}
end
theorem aua {P:Program} {w:World} {K:Frag} {elts:List Expr} {k:Nat} {pos:Pos} (z TI TO i1 i2 l1 l2:Addr) (D:ZipApart z TI TO i1 i2 l1 l2) :
  Turn P w K (.Tuple elts k pos) (Itz K l1 l2) [z,TI,TO,i1,i2] z (fun i h=>IsZip h z TI TO .none/\IsPair h TI (.ref i1) (.ref i2)/\(∃ a b,IsPair h TO a b)/\h.IsListIter i1 l1 i/\h.IsListIter i2 l2 i) where
 mem:=by simp
 obj:=fun i h st b hb=>by
  obtain ⟨hz,hTI,⟨a,b',hTO⟩,⟨o1,e1,c1,d1⟩,⟨o2,e2,c2,d2⟩⟩:=st
  simp only [List.mem_cons,List.not_mem_nil,or_false] at hb
  rcases hb with rfl | rfl | rfl | rfl | rfl
  ·exact ⟨_,hz,fun v y=>by simp at y⟩
  ·exact ⟨_,hTI,fun v y=>by simp at y⟩
  ·exact ⟨_,hTO,fun v y=>by simp at y⟩
  ·exact ⟨o1,e1,fun v y=>by rw [d1] at y;cases y⟩
  ·exact ⟨o2,e2,fun v y=>by rw [d2] at y;cases y⟩
 keep:=fun i h h' st q=>by
  obtain ⟨hz,hTI,⟨a,b',hTO⟩,h1,h2⟩:=st
  exact ⟨q z (by simp) _ hz,q TI (by simp) _ hTI,⟨a,b',q TO (by simp) _ hTO⟩,h1.at fun o x=>q i1 (by simp) o x,h2.at fun o x=>q i2 (by simp) o x⟩
 item:=by
  intro X hP hw hK hc i pins s σ H E I hf st hg
  subst hP hw hK
  obtain ⟨xs,ys,x,y,hq1,hq2,hx,hy⟩:=hg
  obtain ⟨us,rv1,p1,_⟩:=I.list hq1
  obtain ⟨vs,rv2,p2,_⟩:=I.list hq2
  obtain ⟨u,hu,ru⟩:=rv1.get hx
  obtain ⟨v,hv,rv⟩:=rv2.get hy
  have hi:i < min us.toArray.size vs.toArray.size:=by
   have a1:=(List.getElem?_eq_some_iff.mp hu).1
   have a2:=(List.getElem?_eq_some_iff.mp hv).1
   simp;omega
  obtain ⟨hz,hTI,hTO,h1,h2⟩:=st
  have W:=WalksT.zip2 (prog:=X.prog) (w:=X.w) (I.ok.hd hc) z TI TO i1 i2 l1 l2 D us.toArray vs.toArray
  refine W.item i s _ _ hi ⟨hz,hTI,hTO,h1,h2,p1.isList,p2.isList⟩ fun T vals h3 tk hP hT isT mid kk=>⟨_,rfl,?_⟩
  obtain ⟨x',y',hx',hy',rfl⟩:=hP
  have ex:x'=u:=by
   have:us[i]?=some x':=by simpa using hx'
   rw [hu] at this;cases this;rfl
  have ey:y'=v:=by
   have:vs[i]?=some y':=by simpa using hy'
   rw [hv] at this;cases this;rfl
  subst ex ey
  have aT:=W.apart i T _ mid
  have sub:∀ b,b ∉ [z,TI,TO,i1,i2]->b ∉ [z,TO,i1,i2]:=fun b hb y=>hb (by simp at y ⊢;rcases y with y | y | y | y <;> simp [y])
  have Tt:T ∉ [z,TI,TO,i1,i2]:=fun y=>by
   have:=(hf T y).1
   obtain ⟨o,e,_⟩:=isT
   simp only [List.mem_cons,List.not_mem_nil,or_false] at y
   rcases y with rfl | rfl | rfl | rfl | rfl
   ·exact aT (by simp)
   ·exact absurd (Heap.lt_size hTI) (Nat.not_lt.mpr hT)
   ·exact aT (by simp)
   ·exact aT (by simp)
   ·exact aT (by simp)
  refine W.go elts k pos i T { s with heap:=h3,toks:=tk } _ _ mid fun h4 st4 k4=>?_
  have isT4:IsTup h4 T #[x',y']:=by
   obtain ⟨o,e1,e2,n,e3⟩:=isT
   exact ⟨o,k4 T o aT e1,e2,n,e3⟩
  refine ⟨.ref T,upd H T (.tup [x,y]),I.turnNew hf (fun b o hb q=>k4 b o (sub b hb) (kk b o (sub b hb) q)) hT ?_,rfl,⟨T,x,y,rfl,I.hok.fresh hT,rfl,fun zs hz'=>by rw [I.list_inj hz' hq1];exact hx,fun zs hz'=>by rw [I.list_inj hz' hq2];exact hy⟩,⟨st4.1,st4.2.1,st4.2.2.1,st4.2.2.2.1,st4.2.2.2.2.1⟩,fun b hb=>?_⟩
  ·exact ⟨by show (2:Nat)<=sizeLine;decide,[x',y'],.cons ru (.cons rv .nil),isT4⟩
  ·rw [aae]
   ·exact (hf b hb).1
   ·rintro rfl;exact Tt hb
 done:=by
  intro X hP hw hK hc i pins s σ H E I hf st hg
  subst hP hw hK
  obtain ⟨xs,ys,hq1,hq2,hx⟩:=hg
  obtain ⟨us,rv1,p1,_⟩:=I.list hq1
  obtain ⟨vs,rv2,p2,_⟩:=I.list hq2
  obtain ⟨hz,hTI,hTO,h1,h2⟩:=st
  have W:=WalksT.zip2 (prog:=X.prog) (w:=X.w) (I.ok.hd hc) z TI TO i1 i2 l1 l2 D us.toArray vs.toArray
  have ei:min us.toArray.size vs.toArray.size=i:=by
   rw [← hx,rv1.length,rv2.length];simp
  have sub:∀ b,b ∉ [z,TI,TO,i1,i2]->b ∉ [z,TO,i1,i2]:=fun b hb y=>hb (by simp at y ⊢;rcases y with y | y | y | y <;> simp [y])
  rw [← ei] at h1 h2
  exact W.done s _ _ ⟨hz,hTI,hTO,h1,h2,p1.isList,p2.isList⟩ fun h3 tk kk=>⟨rfl,I.turnedL (t':=tk) hf fun b o hb q=>kk b o (sub b hb) q⟩
 self:=fun A i s Q E st h=>wpAny_pyIter_zip st.1 h
theorem azg {n a b:Nat} (h1:a < n) (h2:b < n):ZipApart (n+4) (n+2) (n+3) n (n+1) a b:=by constructor <;> (show (_:Nat) ≠ _;omega)
section
variable {X:Cx} {elts:List Expr} {k:Nat} {tpos:Pos}
def iZip (K:Frag) (ta:TA):TI:=fun σ H R=>ta σ H fun vs H1=>∃ a b xs ys,vs=[.ref a,.ref b]/\SqL K H1 a xs/\SqL K H1 b ys/\R (Itz K a b) H1
theorem azh {a b:Expr} {ta:TA} {p pos:Pos} (hg:Gl X "zip") (hm:X.mg "zip" = none) (ha:PA X [a,b] ta) (hs:starEach [a,b] X.env=[(false,eval a X.env),(false,eval b X.env)]:=by rfl) (hs2:starEach [b] X.env=[(false,eval b X.env)]:=by rfl):PI X (.Tuple elts k tpos) (.Call (.Name "zip" p) [a,b] [] pos) (iZip X.K ta):=by
 intro pins s σ H R I h
 refine Call_ (ady I hg hm ayj (PyProof.Rows.callWith_type1 (thn (ha pos pins s σ H _ I h) fun us s1 ⟨vs,H1,I1,r1,a,b,xs,ys,ev,hq1,hq2,q⟩=>?_) (by rw [hs,hs2]) (by rw [hs2];rfl)))
 subst ev
 obtain ⟨u,c,rfl,ru,rc⟩:=ahh r1
 cases ru
 cases rc
 obtain ⟨_,_,p1,_⟩:=I1.list hq1
 obtain ⟨_,_,p2,_⟩:=I1.list hq2
 have l1:a < s1.heap.objs.size:=by obtain ⟨o,n,e,_⟩:=p1;exact Heap.lt_size e
 have l2:b < s1.heap.objs.size:=by obtain ⟨o,n,e,_⟩:=p2;exact Heap.lt_size e
 refine call_zip_2 p1.isList p2.isList fun h2 hz hTI hTO h1 h3 hsz kp=>?_
 refine wpAny_pyIter_zip hz ⟨s1.heap.objs.size+4,[s1.heap.objs.size+4,s1.heap.objs.size+2,s1.heap.objs.size+3,s1.heap.objs.size,s1.heap.objs.size+1],_,_,H1,rfl,I1.kept (t':=s1.toks) kp,aua _ _ _ _ _ a b (azg l1 l2),⟨hz,hTI,⟨_,_,hTO⟩,h1,h3⟩,fun c hc=>?_,q⟩
 have hc':s1.heap.objs.size<=c:=by
  simp only [List.mem_cons,List.not_mem_nil,or_false] at hc
  rcases hc with rfl | rfl | rfl | rfl | rfl
  ·exact Nat.le_add_right _ 4
  ·exact Nat.le_add_right _ 2
  ·exact Nat.le_add_right _ 3
  ·exact Nat.le_refl _
  ·exact Nat.le_add_right _ 1
 exact I1.fpOk hc' (I1.hok.fresh hc')
end
theorem aoq:∀ {xs:List V} {us:List Value},xs.length=us.length->(∀ (i:Nat) v u,xs[i]?=some v->us[i]?=some u->RelV v u)->Vals xs us
 | [],[],_,_ => .nil
 | [],_ :: _,h,_=>by simp at h
 | _ :: _,[],h,_=>by simp at h
 | x :: xs,u :: us,h,k => .cons (k 0 x u rfl rfl) (aoq (by simpa using h) fun i v w h1 h2=>k (i+1) v w (by simpa using h1) (by simpa using h2))
theorem anh (prog:Program) (w:World) (A:Around) {bs:List Bool} {us:List Value} (r:Vals (bs.map V.bl) us):TruthOf prog w A (fun i v=>us.toArray[i]?=some v) (fun i=>bs.getD i false):=by
 intro i v s Q E hP h
 have hv:us[i]?=some v:=by simpa using hP
 have hi:i < us.length:=(List.getElem?_eq_some_iff.mp hv).1
 have hb:i < bs.length:=by have:=r.length;simp at this;omega
 obtain ⟨u,hu,ru⟩:=r.get (i:=i) (x:=.bl bs[i]) (by simp [hb])
 rw [hv] at hu;cases hu
 cases (show v=Value.bool bs[i] from ru)
 have e:bs.getD i false=bs[i]:=by simp [List.getD,hb]
 have h':Q (bs.getD i false) s:=h
 rw [e] at h'
 exact wpAny_truthy_bool h'
section
variable {X:Cx}
theorem arq (bs:List Bool):((List.range bs.length).all fun i=>bs.getD i false)=bs.all id:=by
 rw [Bool.eq_iff_iff,List.all_eq_true,List.all_eq_true]
 constructor
 ·intro h b hb
  obtain ⟨i,hi,e⟩:=List.mem_iff_getElem.mp hb
  have:=h i (List.mem_range.mpr hi)
  simp [List.getD,hi,e] at this
  exact this
 ·intro h i hi
  have hi':=List.mem_range.mp hi
  have:=h bs[i] (List.getElem_mem hi')
  simp [List.getD,hi'];exact this
def rAll (K:Frag):List V->Hp->VK->Prop:=fun xs H Q=>∃ (a:Addr) (bs:List Bool),xs=[.ref a]/\SqL K H a (bs.map V.bl)/\Q (.bl (bs.all id)) H
theorem ajo (hc:X.calm=true):abe X (.builtin "all") (rAll X.K):=by
 intro pins s σ H xs us Q I r h
 obtain ⟨a,bs,rfl,ha,q⟩:=h
 obtain ⟨u,rfl,ru⟩:=ade r
 cases ru
 obtain ⟨its,r1,p1,_⟩:=I.list ha
 have hl:a < s.heap.objs.size:=by obtain ⟨o,n,e,_⟩:=p1;exact Heap.lt_size e
 have hz:its.toArray.size=bs.length:=by have:=r1.length;simp at this;simp [this]
 refine call_all_walk (wpAny_pyIter_list p1.isList ⟨_,[s.heap.objs.size,a],_,_,_,_,_,rfl,Walks.list (A:=X.A.in1) (I.ok.hd hc) _ a (Nat.ne_of_lt hl) its.toArray,⟨⟨_,Heap.get?_push_size _ rfl,rfl,rfl⟩,p1.isList.push _⟩,anh _ _ _ r1,fun h2 tk kp=>?_⟩)
 rw [hz,arq]
 refine ⟨.bl _,H,I.kept fun b o e=>kp b o (fun z=>?_) (Heap.get?_push_of_some _ e),rfl,q⟩
 exact absurd (Heap.lt_size e) (by rw [List.mem_singleton.mp z];exact Nat.lt_irrefl _)
def al5 (K:Frag):List V->Hp->VK->Prop:=fun xs H Q=>∃ p ys,xs=[.ref p]/\(SqL K H p ys\/SqT K H p ys)/\∀ l,H l=none->Q (.ref l) (upd H l (.lst ys))
theorem apv:abe X (.type "list") (al5 X.K):=ak4
def ars (ta:TA):TE:=fun σ H Q=>ta σ H fun vs H1=>∃ j:Int,vs=[.int j]/\0<=j/\j<=1000000/\∀ l,H1 l=none->Q (.ref l) (upd H1 l (.lst ((List.range j.toNat).map fun (i:Nat)=>V.int (i:Int))))
theorem aub {a:Expr} {ta:TA} {p1 p2 pos pos2:Pos} (hg:Gl X "list") (hm:X.mg "list" = none) (hg2:Gl X "range") (hm2:X.mg "range" = none) (hc:X.calm=true) (ha:PA X [a] ta) (hs:starEach [a] X.env=[(false,eval a X.env)]:=by rfl)
  (hs2:starEach [.Call (.Name "range" p2) [a] [] pos2] X.env=[(false,eval (.Call (.Name "range" p2) [a] [] pos2) X.env)]:=by rfl):PE X (.Call (.Name "list" p1) [.Call (.Name "range" p2) [a] [] pos2] [] pos) (ars ta):=by
 intro pins s σ H Q I h
 refine Call_ (ady I hg hm aec (PyProof.Rows.callWith_type1 ?_ hs2 rfl))
 rw [hs2]
 refine Calls.spliced_cons (Call_ (ady I hg2 hm2 boot_range (PyProof.Rows.callWith_type1 (thn (ha pos2 pins s σ H _ I h) fun us s1 ⟨vs,H1,I1,r1,j,ev,j0,j1,q⟩=>?_) hs rfl)))
 subst ev
 obtain ⟨u,rfl,t,rfl⟩:=ade r1
 refine call_range_1 (Calls.spliced_nil ?_)
 have hr:IsRange (s1.heap.push { cls:=.type "range",data:=.fields #[.int 0 s1.toks,.int j t,.int 1 (s1.toks+1)] }) s1.heap.objs.size 0 j 1 s1.toks t (s1.toks+1):=Heap.get?_push_size _ rfl
 have hn:Builtin.Range.rangeSize 0 j 1=((j.toNat:Nat):Int):=by rw [rangeSize_one];split <;> omega
 refine call_list_range (s:={ s1 with heap:=s1.heap.push { cls:=.type "range",data:=.fields #[.int 0 s1.toks,.int j t,.int 1 (s1.toks+1)] },toks:=s1.toks+1+1 }) (I1.ok.hd hc) hr (small_one (by omega) (by omega) (by omega) (by omega)) hn (by omega) fun h2 tk acc c kp hS items=>?_
 have k2:∀ b o,s1.heap.get? b=some o->h2.get? b=some o:=fun b o e=>kp b o (Heap.get?_push_of_some _ e)
 have hfree:s1.heap.objs.size<=(s1.heap.push { cls:=.type "range",data:=.fields #[.int 0 s1.toks,.int j t,.int 1 (s1.toks+1)] }).objs.size:=by rw [Heap.size_push];exact Nat.le_succ _
 refine ⟨.ref _,_,I1.laid (t':=tk) (o:=.lst ((List.range j.toNat).map fun (i:Nat)=>V.int (i:Int))) k2 hfree ?_,rfl,q _ (I1.hok.fresh hfree)⟩
 refine ⟨by rw [List.length_map,List.length_range];exact Nat.le_of_lt (VL.big (by omega)),acc.toList,c,?_,by simpa using hS⟩
 obtain ⟨h1,h2'⟩:=items
 refine aoq (by simp [h1]) fun i v u hv hu=>?_
 have hu':acc[i]?=some u:=by simpa using hu
 obtain ⟨t',e'⟩:=h2' i u hu'
 rw [List.getElem?_map] at hv
 have hi:i < j.toNat:=by
  have:=(Array.getElem?_eq_some_iff.mp hu').1
  omega
 rw [List.getElem?_eq_getElem (by simpa using hi)] at hv
 simp at hv
 subst hv
 exact ⟨t',by rw [e'];simp⟩
end
section
variable {X:Cx} {pins:List (Addr × Obj)} {σ:St} {H:Hp} {s:Shared}
end
theorem KT.get {H:Hp}:∀ {kvs:List (List Key × V)} {xs:List (List Key × Addr × Value)} {i:Nat} {p:List Key × V},KT H kvs xs->kvs[i]?=some p->∃ q,xs[i]?=some q/\p.1=q.1/\H q.2.1=some (.tup (p.1.map kV))
 | _,_,_,_,.nil,e=>by simp at e
 | _,_,0,_,.cons r _,e=>by simp at e;subst e;exact ⟨_,rfl,r.1,r.2.1⟩
 | _,_,i+1,p,.cons _ t,e=>by
  obtain ⟨q,h1,h2⟩:=KT.get (i:=i) (p:=p) t (by simpa using e)
  exact ⟨q,by simpa using h1,h2⟩
section
variable {X:Cx} {tg:Expr}
end
end L2
namespace VL
open PySem PySem.Spec L2
noncomputable def zipD (xs ys:List PyData):List PyData:=(xs.zip ys).map fun p => .tuple [p.1,p.2]
theorem auc {xs ys:List PyData} {i:Nat} {d:PyData} (h:(zipD xs ys)[i]?=some d):∃ x y,xs[i]?=some x/\ys[i]?=some y/\d=.tuple [x,y]:=by
 unfold zipD at h
 rw [List.getElem?_map] at h
 cases e:(xs.zip ys)[i]? with
 | none=>rw [e] at h;cases h
 | some p =>
  rw [e] at h
  cases h
  obtain ⟨h1,h2⟩:=List.getElem?_zip_eq_some.mp e
  exact ⟨p.1,p.2,h1,h2,rfl⟩
theorem Out.tup2 {G H:Hp} {p:Addr} {x y:V} {d e:PyData} (g:Same G H) (h:H p=none) (r1:Rp G x d) (r2:Rp G y e):Out G H (.ref p) (upd G p (.tup [x,y])) (upd H p (.tup [x,y])) (.st (.tuple [d,e])) (fun _=>False):=Out.newT g h (.cons r1 (.cons r2 .nil))
section
variable {B:Bs} {env:En} {QI:List PyData->En->Prop} {QO:Sl->En->Prop} {Q':PyData->En->Prop} {K:Frag} {i:Nat} {ta:TA}
theorem awu (h:EvA B ta env fun vs e=>∃ xs ys,vs=[.list xs,.list ys]/\QI (zipD xs ys) e):EvI B (iZip K ta) env QI:=fun σ G H F R I k =>
 h σ G H F _ I fun vs G1 H1 F1 ds e1 I1 g1 r1 z_=>by
  obtain ⟨xs,ys,ed,q1⟩:=z_
  subst ed
  cases r1 with
  | cons r t =>
   cases t with
   | cons r2 t =>
    cases t
    cases r with
    | @lst a us _ ha rs =>
     cases r2 with
     | @lst b ws _ hb rs2 =>
      have hl:(zipD xs ys).length=min us.length ws.length:=by simp [zipD,rs.length,rs2.length]
      refine ⟨a,b,us,ws,rfl,SqL.of (I1.gh _ _ ha),SqL.of (I1.gh _ _ hb),k _ G1 H1 F1 _ e1 I1 g1 ⟨fun i G' H' g h hi=>?_,fun i G' H' g h hi=>?_,fun i G' H' x H'' d g h ft hd y=>?_⟩ q1⟩
      ·have h1:i < us.length:=by omega
       have h2:i < ws.length:=by omega
       exact ⟨us,ws,us[i],ws[i],SqL.of (h _ _ (g _ _ ha)),SqL.of (h _ _ (g _ _ hb)),List.getElem?_eq_getElem h1,List.getElem?_eq_getElem h2⟩
      ·exact ⟨us,ws,SqL.of (h _ _ (g _ _ ha)),SqL.of (h _ _ (g _ _ hb)),by rw [← hl];exact hi.symm⟩
      ·obtain ⟨p,v,w,rfl,hp,rfl,hv,hw⟩:=y
       obtain ⟨dx,dy,hx,hy,rfl⟩:=auc hd
       obtain ⟨u,hu,ru⟩:=rs.get hx
       obtain ⟨u2,hu2,ru2⟩:=rs2.get hy
       have e1:=hv us (SqL.of (h _ _ (g _ _ ha)))
       have e2:=hw ws (SqL.of (h _ _ (g _ _ hb)))
       rw [hu] at e1;cases e1
       rw [hu2] at e2;cases e2
       exact ⟨_,Out.tup2 h hp (ru.same g) (ru2.same g)⟩
theorem RpT.len {G:Hp}:∀ {kvs:List (List Key × V)} {es:List (List Key × PyData)},RpT G kvs es->kvs.length=es.length/\kvs.map (·.1)=es.map (·.1)
 | _,_,.nil=>⟨rfl,rfl⟩
 | _,_,.cons _ t=>by
  obtain ⟨h1,h2⟩:=RpT.len t
  exact ⟨by simp [h1],by simp [h2]⟩
@[reducible] noncomputable def tiD (ns:List Int):PyData:=.tuple (ns.map .int)
def lexS (pss:List (List Int)):Prop:=pss.Pairwise fun x y=>HT.lexLt y x=false
theorem afj {G H:Hp} (ft:FT G H):∀ {vs:List V},(∀ v∈vs,TupI H v)->Rps G vs ((vs.map (kH H)).map tiD)
 | [],_ => .nil
 | v :: vs,h=>by
  obtain ⟨t,ns,rfl,e,_⟩:=h v List.mem_cons_self
  rw [List.map_cons,List.map_cons,ahs e]
  have:(ns.map V.int)=(ns.map (fun i=>(Sum.inl i:Key))).map kV:=by rw [List.map_map];rfl
  refine .cons (.tup ?_ (Rps.ints ns)) (afj ft fun u hu=>h u (List.mem_cons_of_mem _ hu))
  rw [this];exact ft t _ (by rw [← this];exact e)
theorem adx {G H:Hp} (gh:Same G H):∀ {vs:List V} {pss:List (List Int)},Rps G vs (pss.map tiD)->(∀ ns∈pss,ns ≠ [])->(∀ v∈vs,TupI H v)/\vs.map (kH H)=pss
 | _,[],.nil,_=>⟨fun v hv=>by simp at hv,rfl⟩
 | v :: vs,ns :: pss,.cons r t,hn=>by
  obtain ⟨i1,i2⟩:=adx gh t fun ms hm=>hn ms (List.mem_cons_of_mem _ hm)
  cases r with
  | tup h rs =>
   have:=Rps.ints_inv rs
   subst this
   have e:=gh _ _ h
   refine ⟨fun u hu=>?_,by rw [List.map_cons,ahs e,i2]⟩
   rcases List.mem_cons.mp hu with rfl | hu
   ·exact ⟨_,ns,rfl,e,hn ns List.mem_cons_self⟩
   ·exact i1 u hu
theorem art {pss:List (List Int)} (hn:∀ ns∈pss,ns ≠ []) (h:EvA B ta env fun ds e=>ds=[.list (pss.map tiD)]/\∀ qss:List (List Int),qss.Perm pss->lexS qss->QO (.own (OL (qss.map tiD))) e):EvO B (tCB (af0 K) ta) env QO:=fun σ G H F Q I k =>
 h σ G H F _ I fun vs G1 H1 F1 ds e1 I1 g1 r1 z_=>by
  obtain ⟨ed,q1⟩:=z_
  subst ed
  cases r1 with
  | cons r t =>
   cases t
   cases r with
   | @lst a us _ ha rs =>
    obtain ⟨t1,t2⟩:=adx I1.gh rs hn
    refine ⟨a,us,rfl,SqL.of (I1.gh _ _ ha),t1,fun ws p hp hs hf=>?_⟩
    have tw:∀ v∈ws,TupI H1 v:=fun v hv=>t1 v (hp.mem_iff.mp hv)
    have o:=Out.newL I1.gh hf (afj I1.ft tw)
    refine k _ _ _ F1 _ _ e1 (I1.out o).1 (g1.trans o.gg) (I1.out o).2 (q1 _ ?_ ?_)
    ·have:=hp.map (kH H1);rw [t2] at this;exact this
    ·unfold lexS;rw [List.pairwise_map];exact hs
end
section
variable {B:Bs} {env:En} {QO:Sl->En->Prop} {Q':PyData->En->Prop} {K:Frag} {i:Nat} {ta:TA} {R:Sl->Prop}
theorem Rps.bools_inv {G:Hp}:∀ {bs:List Bool} {vs:List V},Rps G vs (bs.map PyData.bool)->vs=bs.map V.bl
 | [],_,.nil=>rfl
 | b :: bs,_,.cons r t=>by
  cases r
  rw [Rps.bools_inv t];rfl
theorem aor {bs:List Bool} (h:R (.st (.bool (bs.all id)))):OpA (rAll K) [.list (bs.map .bool)] R:=fun G H vs Q gh rs k=>by
 cases rs with
 | cons r t =>
  cases t
  cases r with
  | lst ha ra =>
   have:=Rps.bools_inv ra
   subst this
   exact ⟨_,bs,rfl,SqL.of (gh _ _ ha),k _ _ _ _ _ (Out.refl gh (.bl _)) h⟩
theorem aud {ds:List PyData} (h:R (.own (OL ds))):OpA (al5 K) [.list ds] R:=fun G H vs Q gh rs k=>by
 cases rs with
 | cons r t =>
  cases t
  cases r with
  | lst ha ra=>exact ⟨_,_,rfl,.inl (SqL.of (gh _ _ ha)),fun p hp=>k _ _ _ _ _ (Out.newL gh hp ra) h⟩
theorem aru {G:Hp} (n:Nat):Rps G ((List.range n).map fun (i:Nat)=>V.int (i:Int)) (rngD 0 n):=by
 unfold rngD
 refine al4 (by simp) fun i v d hv hd=>?_
 rw [List.getElem?_map] at hv hd
 cases e:(List.range n)[i]? with
 | none=>rw [e] at hv;cases hv
 | some m=>rw [e] at hv hd;cases hv;cases hd;show Rp G (.int (m:Int)) (.int (0+(m:Int)));rw [Int.zero_add];exact .int _
theorem arv (h:EvA B ta env fun ds e=>∃ j:Int,ds=[.int j]/\0<=j/\j<=1000000/\QO (.own (OL (rngD 0 j.toNat))) e):EvO B (ars ta) env QO:=fun σ G H F Q I k =>
 h σ G H F _ I fun vs G1 H1 F1 ds e1 I1 g1 r1 z_=>by
  obtain ⟨j,ed,j0,j1,q1⟩:=z_
  subst ed
  obtain rfl:vs=[V.int j]:=Rps.ints_inv (ns:=[j]) r1
  refine ⟨j,rfl,j0,j1,fun p hp=>?_⟩
  have o:=Out.newL I1.gh hp (aru j.toNat)
  exact k _ _ _ F1 _ _ e1 (I1.out o).1 (g1.trans o.gg) (I1.out o).2 q1
end
section
variable {κ:Type} [DecidableEq κ] {α:Type}
noncomputable def valD (es:List (κ × α)) (k : κ):Option α:=(es.find? fun e=>decide (e.1=k)).map (·.2)
noncomputable def putD (es:List (κ × α)) (k : κ) (d : α):List (κ × α):=if (es.any fun e=>decide (e.1=k))=true then es.map (fun e=>if e.1=k then (e.1,d) else e) else es ++ [(k,d)]
end
theorem RpK.val {G:Hp} {k:Key}:∀ {kvs:List (Key × V)} {es:List (Key × PyData)},RpK G kvs es->(valD es k=none->valV kvs k=none)/\∀ d,valD es k=some d->∃ v,valV kvs k=some v/\Rp G v d
 | _,_,.nil=>⟨fun _=>rfl,fun d h=>by cases h⟩
 | _,_,.cons (k:=k') r t=>by
  obtain ⟨i1,i2⟩:=RpK.val (k:=k) t
  by_cases e:k'=k
  ·refine ⟨fun h=>by simp [valD,e] at h,fun d h=>?_⟩
   simp [valD,e] at h
   subst h
   exact ⟨_,by simp [valV,e],r⟩
  ·refine ⟨fun h=>?_,fun d h=>?_⟩
   ·simp [valV,e];simp [valD,e] at h
    have:=i1 (by simp [valD];exact h)
    simpa [valV] using this
   ·obtain ⟨v,h1,h2⟩:=i2 d (by simpa [valD,e] using h)
    exact ⟨v,by simpa [valV,e] using h1,h2⟩
theorem RpK.any {G:Hp} {k:Key}:∀ {kvs:List (Key × V)} {es:List (Key × PyData)},RpK G kvs es->(kvs.any fun e=>decide (e.1=k))=es.any fun e=>decide (e.1=k)
 | _,_,.nil=>rfl
 | _,_,.cons r t=>by simp [RpK.any t]
theorem RpK.map {G:Hp} {k:Key} {v:V} {d:PyData} (h:Rp G v d):∀ {kvs:List (Key × V)} {es:List (Key × PyData)},RpK G kvs es->RpK G (kvs.map fun e=>if e.1=k then (e.1,v) else e) (es.map fun e=>if e.1=k then (e.1,d) else e)
 | _,_,.nil => .nil
 | _,_,.cons (k:=k') r t=>by
  by_cases e:k'=k
  ·simp only [List.map_cons,e,if_true];exact .cons h (RpK.map h t)
  ·simp only [List.map_cons,e,if_false];exact .cons r (RpK.map h t)
theorem RpK.append {G:Hp}:∀ {a b:List (Key × V)} {c d:List (Key × PyData)},RpK G a c->RpK G b d->RpK G (a ++ b) (c ++ d)
 | _,_,_,_,.nil,s=>s
 | _,_,_,_,.cons r t,s => .cons r (RpK.append t s)
theorem RpT.any {G:Hp} {k:List Key}:∀ {kvs:List (List Key × V)} {es:List (List Key × PyData)},RpT G kvs es->(kvs.any fun e=>decide (e.1=k))=es.any fun e=>decide (e.1=k)
 | _,_,.nil=>rfl
 | _,_,.cons r t=>by simp [RpT.any t]
theorem RpT.map {G:Hp} {k:List Key} {v:V} {d:PyData} (h:Rp G v d):∀ {kvs:List (List Key × V)} {es:List (List Key × PyData)},RpT G kvs es->RpT G (kvs.map fun e=>if e.1=k then (e.1,v) else e) (es.map fun e=>if e.1=k then (e.1,d) else e)
 | _,_,.nil => .nil
 | _,_,.cons (k:=k') r t=>by
  by_cases e:k'=k
  ·simp only [List.map_cons,e,if_true];exact .cons h (RpT.map h t)
  ·simp only [List.map_cons,e,if_false];exact .cons r (RpT.map h t)
theorem RpT.append {G:Hp}:∀ {a b:List (List Key × V)} {c d:List (List Key × PyData)},RpT G a c->RpT G b d->RpT G (a ++ b) (c ++ d)
 | _,_,_,_,.nil,s=>s
 | _,_,_,_,.cons r t,s => .cons r (RpT.append t s)
theorem RpK.length {G:Hp}:∀ {kvs:List (Key × V)} {es:List (Key × PyData)},RpK G kvs es->kvs.length=es.length
 | _,_,.nil=>rfl
 | _,_,.cons _ t=>by simp [RpK.length t]
section
variable {B:Bs} {env:En} {QO:Sl->En->Prop} {Q':PyData->En->Prop} {D':VEnds} {i:Nat} {te ty tv td:TE}
theorem arw (q:QO (.own (OD [])) env):EvO B aqx env QO:=fun σ G H F Q I k p hp=>by
 have o:=Out.newD (ds:=[]) I.gh hp .nil
 exact k _ _ _ F _ _ env (I.out o).1 o.gg (I.out o).2 q
end
section
variable {B:Bs} {env:En} {QO:Sl->En->Prop} {Q':PyData->En->Prop} {QE:En->Prop} {D':VEnds} {K:Frag} {i:Nat} {ta:TA}
theorem arx (h:EvA B ta env fun ds e=>∃ ns:List Int,ds=[.list (ns.map .int)]/\ns.length < 64/\∀ ns':List Int,ns'.Perm ns->ns'.Pairwise (·<=·)->QO (.own (OL (ns'.map .int))) e):EvO B (tCB (alf K) ta) env QO:=fun σ G H F Q I k =>
 h σ G H F _ I fun vs G1 H1 F1 ds e1 I1 g1 r1 z_=>by
  obtain ⟨ns,ed,hl,q1⟩:=z_
  subst ed
  cases r1 with
  | cons r t =>
   cases t
   cases r with
   | @lst a us _ ha rs =>
    have:=Rps.ints_inv rs
    subst this
    refine ⟨a,ns,rfl,SqL.of (I1.gh _ _ ha),hl,fun ns' p hp hs hf=>?_⟩
    have o:=Out.newL I1.gh hf (Rps.ints ns')
    exact k _ _ _ F1 _ _ e1 (I1.out o).1 (g1.trans o.gg) (I1.out o).2 (q1 _ hp hs)
theorem a0s {xs ys:List PyData} {R:List PyData->List PyData->Prop} (h:R xs ys):∃ us vs,[PyData.list xs,.list ys]=[.list us,.list vs]/\R us vs:=⟨xs,ys,rfl,h⟩
theorem awv {j:Int} {R:Int->Prop} (h0:0<=j) (h1:j<=1000000) (h:R j):∃ i:Int,[PyData.int j]=[.int i]/\0<=i/\i<=1000000/\R i:=⟨j,rfl,h0,h1,h⟩
end
def ltP (p q:Int × Int):Prop:=p.1 < q.1\/(p.1=q.1/\p.2 < q.2)
@[reducible] noncomputable def p2 (p:Int × Int):List Int:=[p.1,p.2]
theorem lex2 (p q:Int × Int):HT.lexLt (p2 p) (p2 q)=true ↔ ltP p q:=by
 obtain ⟨a,b⟩:=p
 obtain ⟨c,d⟩:=q
 simp [p2,HT.lexLt,ltP]
 split <;> omega
theorem ah1 {qss:List (List Int)} {ps:List (Int × Int)} (h:qss.Perm (ps.map p2)):∃ qs:List (Int × Int),qss=qs.map p2/\qs.Perm ps:=by
 refine ⟨qss.map fun l=>(l.getD 0 0,l.getD 1 0),?_,?_⟩
 ·rw [List.map_map]
  symm
  conv=>rhs;rw [← List.map_id qss]
  apply List.map_congr_left
  intro l hl
  obtain ⟨p,_,rfl⟩:=List.mem_map.mp (h.mem_iff.mp hl)
  rfl
 ·have:=h.map fun l=>(l.getD 0 0,l.getD 1 0)
  rw [List.map_map] at this
  have e:((fun l:List Int=>(l.getD 0 0,l.getD 1 0)) ∘ p2)=id:=by funext p;rfl
  rw [e,List.map_id] at this
  exact this
def Rise (es:List (Int × Int)):Prop:=es.Pairwise ltP
theorem agn (p:Int × Int):¬ ltP p p:=by unfold ltP;omega
theorem aww (p q:Int × Int):ltP p q\/p=q\/ltP q p:=by
 obtain ⟨a,b⟩:=p
 obtain ⟨c,d⟩:=q
 unfold ltP
 simp only [Prod.mk.injEq]
 omega
theorem ary {p q r:Int × Int} (h:ltP p q) (g:ltP q r):ltP p r:=by unfold ltP at *;omega
theorem aiz {qs ps:List (Int × Int)} (hp:qs.Perm ps) (hn:ps.Nodup) (hs:lexS (qs.map p2)):Rise qs:=by
 have hn':qs.Nodup:=hp.nodup_iff.mpr hn
 unfold lexS at hs
 rw [List.pairwise_map] at hs
 unfold Rise
 refine (List.Pairwise.and hs hn').imp fun {p q} h=>?_
 have h1:¬ ltP q p:=fun z=>by rw [(lex2 q p).mpr z] at h;exact absurd h.1 (by simp)
 rcases aww p q with z | z | z
 ·exact z
 ·exact absurd z h.2
 ·exact absurd z h1
theorem Rise.nodup {es:List (Int × Int)} (h:Rise es):es.Nodup:=h.imp fun {p q} z (e:p=q)=>agn q (by rw [e] at z;exact z)
theorem Rise.eq:∀ {as bs:List (Int × Int)},Rise as->Rise bs->(∀ p,p∈as ↔ p∈bs)->as=bs
 | [],[],_,_,_=>rfl
 | [],b :: _,_,_,h=>by have:=(h b).mpr List.mem_cons_self;simp at this
 | a :: _,[],_,_,h=>by have:=(h a).mp List.mem_cons_self;simp at this
 | a :: as,b :: bs,ha,hb,h=>by
  obtain ⟨ha1,ha2⟩:=List.pairwise_cons.mp ha
  obtain ⟨hb1,hb2⟩:=List.pairwise_cons.mp hb
  have e:a=b:=by
   rcases List.mem_cons.mp ((h a).mp List.mem_cons_self) with e | e
   ·exact e
   ·rcases List.mem_cons.mp ((h b).mpr List.mem_cons_self) with e2 | e2
    ·exact e2.symm
    ·exact absurd (ary (ha1 b e2) (hb1 a e)) (agn a)
  subst e
  have:=Rise.eq ha2 hb2 fun p=>by
   have hp:=h p
   simp only [List.mem_cons] at hp
   constructor
   ·intro m
    rcases hp.mp (.inr m) with e | e
    ·subst e;exact absurd (ha1 p m) (agn p)
    ·exact e
   ·intro m
    rcases hp.mpr (.inr m) with e | e
    ·subst e;exact absurd (hb1 p m) (agn p)
    ·exact e
  rw [this]
structure WebOk (n:Int) (es:List (Int × Int)):Prop where
 lo:1<=n
 hi:n<=60
 inn:∀ p∈es,0<=p.1/\p.1 < p.2/\p.2 < n
 rise:Rise es
theorem aet {n:Nat} {es:List (Int × Int)} (hn:es.Nodup) (hi:∀ p∈es,0<=p.1/\p.1 < (n:Int)/\0<=p.2/\p.2 < (n:Int)):es.length<=n * n:=by
 have h1:(es.map fun (p:Int × Int)=>p.1 * (n:Int)+p.2).Nodup:=by
  unfold List.Nodup
  rw [List.pairwise_map]
  refine List.Pairwise.imp_of_mem ?_ hn
  intro p q hp hq hne e
  have a:=hi p hp
  have b:=hi q hq
  apply hne
  have e1:p.1=q.1:=by
   rcases Int.lt_trichotomy p.1 q.1 with z | z | z
   ·have:(p.1+1) * n<=q.1 * n:=Int.mul_le_mul_of_nonneg_right (by omega) (by omega)
    rw [Int.add_mul] at this;omega
   ·exact z
   ·have:(q.1+1) * n<=p.1 * n:=Int.mul_le_mul_of_nonneg_right (by omega) (by omega)
    rw [Int.add_mul] at this;omega
  rw [e1] at e
  exact Prod.ext e1 (by omega)
 have:=L2.few_places (n * n) _ h1 fun v hv=>by
  obtain ⟨p,hp,rfl⟩:=List.mem_map.mp hv
  have a:=hi p hp
  have h2:0<=p.1 * (n:Int):=Int.mul_nonneg a.1 (by omega)
  have h3:(p.1+1) * (n:Int)<=n * n:=Int.mul_le_mul_of_nonneg_right (by omega) (by omega)
  rw [Int.add_mul] at h3
  push_cast
  omega
 simpa using this
theorem WebOk.len {n:Int} {es:List (Int × Int)} (h:WebOk n es):es.length<=3600:=by
 have:=aet (n:=n.toNat) h.rise.nodup fun p hp=>by have:=h.inn p hp;have:=h.lo;omega
 have h2:n.toNat<=60:=by have:=h.hi;omega
 exact Nat.le_trans this (Nat.mul_le_mul h2 h2)
noncomputable def kE (ps:List (Int × Int)):List (List Key × PyData):=ps.map fun p=>([Sum.inl p.1,Sum.inl p.2],.bool true)
noncomputable def addP (ps:List (Int × Int)) (p:Int × Int):List (Int × Int):=if p∈ps then ps else ps ++ [p]
theorem addP_mem {ps:List (Int × Int)} {p q:Int × Int}:q∈addP ps p ↔ q∈ps\/q=p:=by
 unfold addP
 split
 ·rename_i h
  exact ⟨.inl,fun z=>z.elim id fun e=>e ▸ h⟩
 ·simp
theorem apw {ps:List (Int × Int)} {p:Int × Int} (h:ps.Nodup):(addP ps p).Nodup:=by
 unfold addP
 split
 ·exact h
 ·rename_i hn
  rw [List.nodup_append]
  exact ⟨h,by simp,fun x hx y hy=>by simp at hy;subst hy;rintro rfl;exact hn hx⟩
theorem ae7 (ps:List (Int × Int)):(ps.map p2).map tiD=ps.map prD:=by rw [List.map_map];rfl
theorem apx {ps:List (Int × Int)}:∀ ns∈ps.map p2,ns ≠ []:=fun ns h=>by
 obtain ⟨p,_,rfl⟩:=List.mem_map.mp h
 simp
section
variable {B:Bs} {env:En} {QO:Sl->En->Prop} {K:Frag} {i:Nat} {ta:TA}
theorem aeu {ps:List (Int × Int)} (h:EvA B ta env fun ds e=>ds=[.list (ps.map prD)]/\∀ qs:List (Int × Int),qs.Perm ps->lexS (qs.map p2)->QO (.own (OL (qs.map prD))) e):EvO B (tCB (af0 K) ta) env QO :=
 art (pss:=ps.map p2) apx fun σ G H F Q I k=>h σ G H F Q I fun vs G' H' F' ds e I' g r ⟨h1,q⟩=>k vs G' H' F' ds e I' g r ⟨by rw [ae7];exact h1,fun qss hp hs=>by
  obtain ⟨qs,rfl,hq⟩:=ah1 hp
  rw [ae7];exact q qs hq hs⟩
end
noncomputable def OW (d:PyData) (ds:List PyData):Own where
 P:=fun G H v F=>∃ t l u vs,v=.ref t/\H t=some (.tup [u,.ref l])/\Rp G u d/\H l=some (.lst vs)/\Rps G vs ds/\∀ b,F b ↔ b=t\/b=l
 mono:=fun ⟨t,l,u,vs,e,h1,r1,h2,r2,f⟩ g hh=>⟨t,l,u,vs,e,hh t _ ((f t).mpr (.inl rfl)) h1,r1.same g,hh l _ ((f l).mpr (.inr rfl)) h2,r2.same g,f⟩
 dom:=fun ⟨t,l,u,vs,e,h1,r1,h2,r2,f⟩ b z=>by
  rcases (f b).mp z with rfl | rfl
  ·exact ⟨_,h1⟩
  ·exact ⟨_,h2⟩
theorem al6 {d:PyData} {ds:List PyData}:Frz (OW d ds) (.tuple [d,.list ds]):=fun G H v F ⟨t,l,u,vs,e,h1,r1,h2,r2,f⟩ n g=>by
 subst e
 exact .tup (by rw [adu ((f t).mpr (.inl rfl))];exact h1) (.cons (r1.same (abd n)) (.cons (.lst (by rw [adu ((f l).mpr (.inr rfl))];exact h2) (r2.same (abd n))) .nil))
theorem a0t {d:PyData} {ds:List PyData} {R:PyData->Prop} (h:R (.tuple [d,.list ds])):FQ (.own (OW d ds)) R:=⟨_,al6,h⟩
section
variable {B:Bs} {env:En} {QO:Sl->En->Prop} {Q':PyData->En->Prop} {K:Frag} {i j:Nat} {ta te:TE}
theorem al7 {u:V} {l:Addr} {ks:List Key}:HO.tup [u,.ref l] ≠ .tup (ks.map kV):=by
 intro z
 injection z with z
 match ks,z with
 | [],z=>cases z
 | [_],z=>cases z
 | [_,k],z =>
  simp at z
  cases k <;> simp [kV] at z
 | _ :: _ :: _ :: _,z=>simp at z
theorem aue {ds0:List PyData} (h0:env[j]?=some (some (.own (OL ds0)))) (h:Ev B ta env fun d e1=>∃ ds,e1[j]?=some (some (.own (OL ds)))/\QO (.own (OW d ds)) (e1.set j none)):EvO B (tTup (aay ta (aay (tVar j) tNil))) env QO:=fun σ G H F Q I k =>
 h σ G H F _ I fun v G1 H1 F1 d e1 I1 g1 r1 z_=>by
  obtain ⟨ds,ej,q⟩:=z_
  obtain ⟨w,hw,⟨l,vs,rfl,hl,rs,hf⟩,hb⟩:=I1.sl j _ ej
  refine ⟨_,hw,⟨by show (2:Nat)<=sizeLine;decide,fun p hp=>?_⟩⟩
  have Fl:F1 j l:=(hf l).mpr rfl
  have pl:p ≠ l:=(aaj hl hp).symm
  have D:=I1.drop j
  have nF:∀ m a,(a=p\/a=l)->¬ putF F1 j (fun _=>False) m a:=fun m a ha z=>by
   by_cases hm:m=j
   ·subst hm;exact putF_same.mp z
   ·rw [aa6 hm] at z
    rcases ha with rfl | rfl
    ·exact I1.no_f hp m z
    ·exact hm (I1.fd m j a z Fl)
  have J:VI B G1 (upd H1 p (.tup [v,.ref l])) σ (e1.set j none) (putF F1 j fun _=>False):=D.grow (Same.refl _) (I1.gh.trans (aa9 hp)) (aa9 hp) (fun a o e => .inl e) fun a ks e=>by
   by_cases z:a=p
   ·subst z;rw [aah] at e;exact absurd (Option.some.inj e) al7
   ·rw [aae z] at e;exact I1.ft a ks e
  refine k _ G1 _ _ (fun a=>a=p\/a=l) (.own (OW d ds)) _ J g1 ⟨⟨p,l,v,vs,rfl,aah,r1,by rw [aae pl.symm];exact hl,rs,fun b=>Iff.rfl⟩,fun a z=>?_,fun a z=>?_,fun a z=>?_,fun m a z=>nF m a z⟩ q
  ·rcases z with rfl | rfl
   ·exact I1.no_b hp
   ·exact hb a Fl
  ·rcases z with rfl | rfl
   ·exact I1.no_g hp
   ·exact I1.fg j a Fl
  ·rcases z with rfl | rfl
   ·exact ⟨_,aah⟩
   ·exact ⟨_,by rw [aae pl.symm];exact hl⟩
theorem x_ow {ds:List PyData} {e1:En} {R:List PyData->Prop} (e:e1[j]?=some (some (.own (OL ds)))) (q:R ds):∃ ds,e1[j]?=some (some (.own (OL ds)))/\R ds:=⟨ds,e,q⟩
end
section
variable {B:Bs} {env:En} {Q':PyData->En->Prop} {D':VEnds} {i:Nat} {ty tv:TE}
end
section
variable {R:Sl->Prop} {K:Frag}
theorem awx {p q:Int × Int} (h:R (.st (.bool (HT.lexLt (p2 p) (p2 q))))):Op2 (rLtT K) (prD p) (prD q) R:=fun G H vx vy Q gh rx ry k=>by
 cases rx with
 | tup ha ra =>
  cases ry with
  | tup hb rb =>
   have e1:=Rps.ints_inv (ns:=p2 p) ra
   have e2:=Rps.ints_inv (ns:=p2 q) rb
   subst e1 e2
   exact ⟨_,_,p2 p,p2 q,rfl,rfl,SqT.of (gh _ _ ha),SqT.of (gh _ _ hb),k _ _ _ _ _ (Out.refl gh (.bl _)) h⟩
end
theorem af3 (p:Int × Int):aap (prD p)=true:=rfl
theorem adh (ps:List (Int × Int)):plainDs (ps.map prD)=true:=by
 rw [ads]
 intro d hd
 obtain ⟨p,_,rfl⟩:=List.mem_map.mp hd
 rfl
theorem aos (p q:Int × Int):PyData.eqv (prD p) (prD q)=decide (p=q):=by
 rw [Bool.eq_iff_iff,afx _ _ rfl rfl,decide_eq_true_iff]
 constructor
 ·intro h
  simp [prD] at h
  exact Prod.ext h.1 h.2
 ·rintro rfl;rfl
theorem ai0 (ps:List (Int × Int)) (q:Int × Int):((ps.map prD).any fun z=>PyData.eqv z (prD q))=decide (q∈ps):=by
 rw [Bool.eq_iff_iff,List.any_eq_true,decide_eq_true_iff]
 constructor
 ·rintro ⟨d,hd,e⟩
  obtain ⟨p,hp,rfl⟩:=List.mem_map.mp hd
  rw [aos] at e
  rw [← of_decide_eq_true e];exact hp
 ·intro h
  exact ⟨prD q,List.mem_map.mpr ⟨q,h,rfl⟩,by rw [aos];exact decide_eq_true rfl⟩
theorem agx {ds:List PyData} {m:Nat} (h:∀ d∈ds,d.depth<=m):PyData.depthAll ds<=m:=by
 induction ds with
 | nil=>simp [PyData.depthAll]
 | cons d ds ih =>
  simp only [PyData.depthAll]
  exact Nat.max_le.mpr ⟨h d List.mem_cons_self,ih fun e he=>h e (List.mem_cons_of_mem _ he)⟩
theorem ad5 (p:Int × Int):(prD p).depth<=1:=by simp [prD,PyData.depth,PyData.depthAll]
theorem ag9 {d:PyData} (h:aap d=true):PyData.eqv d d=true:=(afx d d h h).mpr rfl
end VL
namespace VL
theorem al8 {α:Type} (R : α->α->Prop) (tr:∀ {a b c},R a b->R b c->R a c) {xs:List α}:xs.Pairwise R ↔ ∀ i (h:i+1 < xs.length),R (xs[i]'(by omega)) xs[i+1]:=by
 constructor
 ·intro h i hi
  exact List.pairwise_iff_getElem.mp h i (i+1) (by omega) hi (by omega)
 ·intro h
  rw [List.pairwise_iff_getElem]
  intro i j hi hj hij
  induction j with
  | zero=>omega
  | succ j ih =>
   by_cases e:i=j
   ·subst e;exact h i hj
   ·exact tr (ih (by omega) (by omega)) (h j hj)
end VL
namespace VL
open PySem PySem.Spec L2
section
variable {B:Bs} {env:En} {Q':PyData->En->Prop} {K:Frag} {E:XK} {i:Nat}
theorem al9 {f:VP} {t:TA} {A0:Own} (h0:Has env i A0) (h:EvA B t env fun ds e1=>∃ A d,Has e1 i A/\Frz A d/\f (.st d :: ds.map Sl.st) fun s=>∃ d',s=.st d'/\afi d'=true/\Q' d' e1):Ev B (acb (spP K f) [] E (aay (tVar i) t)) env Q':=fun σ G H F Q I k=>by
 unfold acb
 simp only [List.append_nil]
 obtain ⟨v,hv,_⟩:=I.has h0
 refine ⟨v,hv,h σ G H F _ I fun vs G1 H1 F1 ds e1 I1 g1 r1 ⟨A,d,hA,fz,q1⟩=>?_⟩
 obtain ⟨v',hv',ap⟩:=I1.has hA
 rw [hv] at hv';cases hv'
 have js:=abd (H:=H1) (I1.fg i)
 refine ⟨jn G1 H1 (F1 i),_,_,aku I1.gh,fun a ks e=>js _ _ (I1.ft a ks e),.cons (s:=.st d) (fz _ _ _ _ ap (I1.fg i) I1.gh) (ArgsOk.of (r1.same js)),q1,fun s q u G' H' Fv o=>?_⟩
 obtain ⟨d',rfl,hs,q⟩:=q
 obtain ⟨G4,g4,I4⟩:=I1.moment js o
 exact k u G4 H' F1 d' e1 I4 (g1.trans g4) (aiw o.ok.1 hs) q
end
end VL
namespace VL
open PySem L2
theorem a0u {B:Bs} {t:TS} {D':VEnds} {e:En} (h:EvS B t D' e):EvS B t D' e:=h
theorem a0v {B:Bs} {g:TG} {s:Sl} {e:En} {Q:En->Prop} (h:EvG B g s e Q):EvG B g s e Q:=h
theorem azi {B:Bs} {g:TGs} {s:List PyData} {e:En} {Q:En->Prop} (h:EvGs B g s e Q):EvGs B g s e Q:=h
theorem g_Ev {B:Bs} {t:TE} {e:En} {Q:PyData->En->Prop} (h:Ev B t e Q):Ev B t e Q:=h
theorem a0w {B:Bs} {t:TE} {e:En} {Q:Sl->En->Prop} (h:EvO B t e Q):EvO B t e Q:=h
theorem a0x {B:Bs} {t:TT} {e:En} {Q:Bool->En->Prop} (h:EvT B t e Q):EvT B t e Q:=h
theorem a0y {B:Bs} {t:TA} {e:En} {Q:List PyData->En->Prop} (h:EvA B t e Q):EvA B t e Q:=h
theorem a0z {B:Bs} {t:TI} {e:En} {Q:List PyData->En->Prop} (h:EvI B t e Q):EvI B t e Q:=h
theorem a00 {r:R2} {x y:PyData} {R:Sl->Prop} (h:Op2 r x y R):Op2 r x y R:=h
theorem a01 {r:V->Hp->VK->Prop} {x:PyData} {R:Sl->Prop} (h:Op1 r x R):Op1 r x R:=h
theorem a02 {r:List V->Hp->VK->Prop} {x:List PyData} {R:Sl->Prop} (h:OpA r x R):OpA r x R:=h
theorem g_FQ {s:Sl} {R:PyData->Prop} (h:FQ s R):FQ s R:=h
theorem awy {ds:List PyData} {R:List PyData->Prop} (h:akv ds R):akv ds R:=h
theorem awz {ds:List PyData} {R:List PyData->Prop} (h:akw ds R):akw ds R:=h
structure PsOk (n:Int) (ps:List (Int × Int)):Prop where
 nd:ps.Nodup
 inn:∀ p∈ps,0<=p.1/\p.1 < p.2/\p.2 < n
theorem PsOk.nil (n:Int):PsOk n []:=⟨List.nodup_nil,fun p hp=>by simp at hp⟩
theorem PsOk.add {n a b:Int} {ps:List (Int × Int)} (h:PsOk n ps) (h0:0<=a) (h1:a < b) (h2:b < n):PsOk n (addP ps (a,b)) :=
 ⟨apw h.nd,fun p hp=>by
  rcases addP_mem.mp hp with q | q
  ·exact h.inn p q
  ·subst q;exact ⟨h0,h1,h2⟩⟩
theorem PsOk.len {n:Int} {ps:List (Int × Int)} (h:PsOk n ps) (hn:n<=100):ps.length<=10000:=by
 by_cases h0:0<=n
 ·have:=aet (n:=n.toNat) h.nd fun p hp=>by have:=h.inn p hp;omega
  have h2:n.toNat<=100:=by omega
  exact Nat.le_trans this (Nat.mul_le_mul h2 h2)
 ·cases ps with
  | nil=>simp
  | cons p r=>have:=h.inn p List.mem_cons_self;omega
def Tr (n:Int) (ps:List (Int × Int)):Prop:=∀ k,1<=k->k < n->∃ h,0<=h/\h < k/\(h,k)∈ps
theorem Tr.add {n:Int} {ps:List (Int × Int)} {p:Int × Int} (h:Tr n ps):Tr n (addP ps p):=fun k k1 k2=>by
 obtain ⟨x,a,b,c⟩:=h k k1 k2
 exact ⟨x,a,b,addP_mem.mpr (.inl c)⟩
def Conn (n:Int) (T:Int->Int->Prop):Prop:=∀ u v,0<=u->u < n->0<=v->v < n->∃ k,Gr.Walk T u k v
theorem Tr.conn {n:Int} {ps:List (Int × Int)} (h:Tr n ps):Conn n (Tied ps):=by
 have key:∀ (m:Nat) (v:Int),v=m->v < n->∃ k,Gr.Walk (Tied ps) 0 k v:=by
  intro m
  induction m using Nat.strongRecOn with
  | ind m ih =>
   intro v hv hn
   by_cases h0:m=0
   ·subst h0;have:v=0:=by omega
    subst this;exact ⟨0,.refl⟩
   ·obtain ⟨x,a,b,c⟩:=h v (by omega) hn
    obtain ⟨k,w⟩:=ih x.toNat (by omega) x (by omega) (by omega)
    exact ⟨k+1,.step w (.inl c)⟩
 intro u v u0 u1 v0 v1
 obtain ⟨k,w⟩:=key u.toNat u (by omega) u1
 obtain ⟨j,x⟩:=key v.toNat v (by omega) v1
 exact ⟨k+j,(w.rev fun _ _ t=>t.symm).app x⟩
theorem Conn.joined {n:Int} {es:List (Int × Int)} (h:Conn n (Tied es)) (h0:0 < n):Joined n es:=fun v v0 v1=>by
 obtain ⟨k,w⟩:=h 0 v (by omega) (by omega) v0 v1
 obtain ⟨d,_,hd⟩:=Gr.Dist.of_walk w
 exact ⟨d,hd⟩
theorem Joined.conn {n:Int} {es:List (Int × Int)} (h:Joined n es):Conn n (Tied es):=fun u v u0 u1 v0 v1=>by
 obtain ⟨d,hd⟩:=h u u0 u1
 obtain ⟨e,he⟩:=h v v0 v1
 exact ⟨d+e,(hd.1.rev fun _ _ t=>t.symm).app he.1⟩
theorem Conn.mono {n:Int} {T T':Int->Int->Prop} (h:Conn n T) (g:∀ u v,T u v->T' u v):Conn n T':=fun u v u0 u1 v0 v1=>by
 obtain ⟨k,w⟩:=h u v u0 u1 v0 v1
 exact ⟨k,w.rec .refl fun _ t ih => .step ih (g _ _ t)⟩
def Order (n:Int) (row:List Int):Prop:=row.Perm ((List.range n.toNat).map fun (i:Nat)=>(i:Int))
theorem Order.len {n:Int} {row:List Int} (h:Order n row):row.length=n.toNat:=by have:=h.length_eq;simpa using this
theorem Order.nodup {n:Int} {row:List Int} (h:Order n row):row.Nodup:=by
 refine h.nodup_iff.mpr ?_
 unfold List.Nodup
 rw [List.pairwise_map]
 exact List.nodup_range.imp fun {a b} hab e=>hab (by omega)
theorem Order.mem {n:Int} {row:List Int} (h:Order n row) {v:Int}:v∈row ↔ 0<=v/\v < n:=by
 rw [h.mem_iff,List.mem_map]
 constructor
 ·rintro ⟨i,hi,rfl⟩
  have:=List.mem_range.mp hi
  omega
 ·rintro ⟨h0,h1⟩
  exact ⟨v.toNat,List.mem_range.mpr (by omega),by omega⟩
theorem Order.get {n:Int} {row:List Int} (h:Order n row) {a:Int} (h0:0<=a) (h1:a < n):∃ x,row[a.toNat]?=some x/\atI row a=some x/\0<=x/\x < n:=by
 have hl:a.toNat < row.length:=by rw [h.len];omega
 have e:row[a.toNat]?=some row[a.toNat]:=List.getElem?_eq_getElem hl
 have:=h.mem.mp (List.mem_of_getElem? e)
 exact ⟨_,e,agm h0 e,this.1,this.2⟩
theorem Order.inj {n:Int} {row:List Int} (h:Order n row) {a b x:Int} (a0:0<=a) (b0:0<=b) (ha:row[a.toNat]?=some x) (hb:row[b.toNat]?=some x):a=b:=by
 obtain ⟨l1,e1⟩:=List.getElem?_eq_some_iff.mp ha
 obtain ⟨l2,e2⟩:=List.getElem?_eq_some_iff.mp hb
 have:=nodup_ix h.nodup l1 l2 (e1.trans e2.symm)
 omega
theorem Order.id (n:Int):Order n ((List.range n.toNat).map fun (i:Nat)=>(i:Int)):=List.Perm.refl _
noncomputable def aa4 (row:List Int) (a:Int):Int:=row.getD a.toNat 0
noncomputable def reP (row:List Int) (p:Int × Int):Int × Int:=if aa4 row p.1 < aa4 row p.2 then (aa4 row p.1,aa4 row p.2) else (aa4 row p.2,aa4 row p.1)
theorem Order.at {n:Int} {row:List Int} (h:Order n row) {a:Int} (h0:0<=a) (h1:a < n):row[a.toNat]?=some (aa4 row a)/\0<=aa4 row a/\aa4 row a < n:=by
 obtain ⟨x,e,_,x0,x1⟩:=h.get h0 h1
 have:aa4 row a=x:=by unfold aa4;rw [List.getD_eq_getElem?_getD,e];rfl
 rw [this];exact ⟨e,x0,x1⟩
theorem Order.atI {n:Int} {row:List Int} (h:Order n row) {a:Int} (h0:0<=a) (h1:a < n):L2.atI row a=some (aa4 row a):=agm h0 (h.at h0 h1).1
theorem Order.ne {n:Int} {row:List Int} (h:Order n row) {a b:Int} (a0:0<=a) (a1:a < n) (b0:0<=b) (b1:b < n) (hab:a ≠ b):aa4 row a ≠ aa4 row b:=fun e=>by
 have h1:=(h.at a0 a1).1
 have h2:=(h.at b0 b1).1
 rw [e] at h1
 exact hab (h.inj a0 b0 h1 h2)
theorem PsOk.re {n:Int} {ps:List (Int × Int)} {row:List Int} (h:PsOk n ps) (o:Order n row):PsOk n (ps.map (reP row)):=by
 have inn:∀ p∈ps,0<=(reP row p).1/\(reP row p).1 < (reP row p).2/\(reP row p).2 < n:=fun p hp=>by
  obtain ⟨p0,p1,p2⟩:=h.inn p hp
  have a:=o.at p0 (by omega)
  have b:=o.at (a:=p.2) (by omega) p2
  have ne:=o.ne p0 (by omega) (by omega) p2 (by omega)
  unfold reP
  split <;> dsimp only <;> omega
 refine ⟨?_,fun q hq=>by obtain ⟨p,hp,rfl⟩:=List.mem_map.mp hq;exact inn p hp⟩
 unfold List.Nodup
 rw [List.pairwise_map]
 refine List.Pairwise.imp_of_mem ?_ h.nd
 intro p q hp hq hne e
 apply hne
 obtain ⟨p0,p1,p2⟩:=h.inn p hp
 obtain ⟨q0,q1,q2⟩:=h.inn q hq
 have inj:∀ a b,0<=a->a < n->0<=b->b < n->aa4 row a=aa4 row b->a=b:=fun a b a0 a1 b0 b1 e=>by
  apply Classical.byContradiction
  intro hab
  exact o.ne a0 a1 b0 b1 hab e
 have d1:=inj p.1 q.1 p0 (by omega) q0 (by omega)
 have d2:=inj p.2 q.2 (by omega) p2 (by omega) q2
 have d3:=inj p.1 q.2 p0 (by omega) (by omega) q2
 have d4:=inj p.2 q.1 (by omega) p2 q0 (by omega)
 unfold reP at e
 split at e <;> split at e <;> simp only [Prod.mk.injEq] at e
 ·exact Prod.ext (d1 e.1) (d2 e.2)
 ·have:=d3 e.1;have:=d4 e.2;omega
 ·have:=d4 e.1;have:=d3 e.2;omega
 ·exact Prod.ext (d1 e.2) (d2 e.1)
theorem Tied.re {ps:List (Int × Int)} {row:List Int} {u v:Int} (h:Tied ps u v):Tied (ps.map (reP row)) (aa4 row u) (aa4 row v):=by
 have key:∀ a b,(a,b)∈ps->Tied (ps.map (reP row)) (aa4 row a) (aa4 row b):=fun a b hm=>by
  have:=List.mem_map_of_mem (f:=reP row) hm
  unfold reP at this
  dsimp only at this
  split at this
  ·exact .inl this
  ·exact .inr this
 rcases h with h | h
 ·exact key u v h
 ·exact (key v u h).symm
theorem Conn.re {n:Int} {ps:List (Int × Int)} {row:List Int} (h:Conn n (Tied ps)) (o:Order n row):Conn n (Tied (ps.map (reP row))):=fun u v u0 u1 v0 v1=>by
 have back:∀ x,0<=x->x < n->∃ a,0<=a/\a < n/\aa4 row a=x:=fun x x0 x1=>by
  obtain ⟨i,hi,e⟩:=List.mem_iff_getElem.mp (o.mem.mpr ⟨x0,x1⟩)
  refine ⟨i,by omega,by rw [o.len] at hi;omega,?_⟩
  unfold aa4
  simp [hi,e]
 obtain ⟨a,a0,a1,rfl⟩:=back u u0 u1
 obtain ⟨b,b0,b1,rfl⟩:=back v v0 v1
 obtain ⟨k,w⟩:=h a b a0 a1 b0 b1
 exact ⟨k,w.rec .refl fun _ t ih => .step ih t.re⟩
theorem Tied.perm {qs ps:List (Int × Int)} (h:qs.Perm ps) {u v:Int}:Tied qs u v ↔ Tied ps u v:=by unfold Tied;rw [h.mem_iff,h.mem_iff]
theorem auf {n:Int} {ps qs:List (Int × Int)} (h0:1<=n) (h1:n<=60) (h:PsOk n ps) (hp:qs.Perm ps) (hs:lexS (qs.map p2)):WebOk n qs:=⟨h0,h1,fun p hm=>h.inn p (hp.mem_iff.mp hm),aiz hp h.nd hs⟩
theorem WebOk.ps {n:Int} {es:List (Int × Int)} (h:WebOk n es):PsOk n es:=⟨h.rise.nodup,h.inn⟩
theorem ah2 {α:Type}:∀ {l:List α} {k:Nat} {x : α},l[k]?=some x->(x :: l.eraseIdx k).Perm l
 | [],_,_,h=>by simp at h
 | a :: l,0,x,h=>by simp at h;subst h;exact List.Perm.refl _
 | a :: l,k+1,x,h=>by
  have ih:=ah2 (l:=l) (k:=k) (x:=x) (by simpa using h)
  exact (List.Perm.swap a x _).trans (ih.cons a)
theorem apy {n:Int} {row left:List Int} {k:Nat} {x:Int} (h:Order n (row ++ left)) (hx:left[k]?=some x):Order n ((row ++ [x]) ++ left.eraseIdx k):=by
 refine List.Perm.trans ?_ h
 rw [List.append_assoc]
 refine List.Perm.append_left row ?_
 exact ah2 hx
section
variable {B:Bs} {env:En} {g:TG} {tif:TT} {te:TE} {K:Frag} {src:List (Option Nat)} {ds:List PyData} {e1:En} {R:List PyData->En->Prop}
end
theorem aw0 (n:Nat):rngD 0 n=((List.range n).map fun (i:Nat)=>(i:Int)).map PyData.int:=by simp [rngD]
theorem aug {B:Bs} {t:TS} {D':VEnds} {env:En} (J:En->Prop) (h:EvS B t { D' with nx:=J } env) (k:∀ e,J e->D'.nx e):EvS B t D' env:=fun σ G H F D I r=>h σ G H F D I ⟨fun σ G' H F env I' g q=>r.nx _ _ _ _ _ I' g (k _ q),r.rt,r.bk,r.ct⟩
theorem abv {B:Bs} {g:TG} {A:Own} {d:PyData} {env:En} {QE:En->Prop} (f:Frz A d) (h:EvG B g (.st d) env QE):EvG B g (.own A) env QE:=fun σ G H F v Fv Q I x k =>
 h σ _ H F v _ Q (I.freeze x.fb x.fd x.fg) (ad3 (f G H v Fv x.ok x.fg I.gh)) fun σ' G' H' F' e' I' g' q=>k σ' G' H' F' e' I' ((abd x.fg).trans g') q
theorem cutR {R X:Prop} (h:R->X) (r:R):X:=h r
end VL
namespace VL
open PySem PySem.Spec L2
def Sls (K:Frag) (G:Hp) (σ:St) (e:En):Prop:=∀ (j:Nat) (s:Sl),e[j]?=some (some s)->∃ v,σ[j]?=some (some v)/\((∃ d,s=.st d/\Rp G v d)\/∃ (ns:List Int) (a:Addr),s=.scr ns/\v=.ref a/\SqL K G a (ns.map V.int))
theorem Sls.same {K:Frag} {G G':Hp} {σ:St} {e:En} (h:Sls K G σ e) (g:Same G G'):Sls K G' σ e:=fun j s es=>by
 obtain ⟨v,hv,q⟩:=h j s es
 refine ⟨v,hv,?_⟩
 rcases q with ⟨d,e1,r⟩ | ⟨ns,a,e1,e2,r⟩
 ·exact .inl ⟨d,e1,r.same g⟩
 ·exact .inr ⟨ns,a,e1,e2,g.seq r⟩
section
variable {B:Bs} {env:En}
end
section
variable {B:Bs} {env:En} {Q':PyData->En->Prop} {QO:Sl->En->Prop} {c:TT} {ta tb:TE}
end
end VL
namespace VL
open PySem PySem.Spec L2 PyProof.Rows
end VL
namespace VL
open PySem PySem.Spec L2
section
variable {B:Bs} {env:En} {QO:Sl->En->Prop} {i:Nat}
end
section
variable {X:Cx}
end
section
variable {R:Sl->Prop}
end
end VL
namespace L2
open PySem PySem.Spec PyProof.Rows
noncomputable def isV (k:Int):Value->Bool
 | .int a _=>decide (a=k)
 | _=>false
theorem ama {ns:List Int} {us:List Value} (r:Vals (ns.map V.int) us) (k:Int):∀ i (h:i < us.length) (h':i < ns.length),isV k us[i]=decide (ns[i]=k):=by
 induction ns generalizing us with
 | nil=>intro i h h';simp at h'
 | cons n ns ih =>
  rw [List.map_cons] at r
  cases r with
  | cons r1 r2 =>
   obtain ⟨t,e⟩:=r1
   subst e
   intro i h h'
   cases i with
   | zero=>rfl
   | succ i=>exact ih r2 i (by simpa using h) (by simpa using h')
theorem apz {ns:List Int} {us:List Value} (r:Vals (ns.map V.int) us) (k:Int) (t:Tok):∀ y∈us,MeetsSeq.EqGives y (.int k t) (isV k y):=by
 induction ns generalizing us with
 | nil=>rw [List.map_nil] at r;cases r;intro y hy;simp at hy
 | cons n ns ih =>
  rw [List.map_cons] at r
  cases r with
  | cons r1 r2 =>
   obtain ⟨u,e⟩:=r1
   subst e
   intro y hy
   rcases List.mem_cons.mp hy with rfl | hy
   ·exact MeetsSeq.EqGives.int n k u t
   ·exact ih r2 y hy
section
variable {X:Cx}
def arz:V->List V->Hp->VK->Prop:=fun x vs H Q=>∃ (l:Addr) (ns:List Int) (k:Int) (j:Nat),x=.ref l/\vs=[.int k]/\H l=some (.lst (ns.map V.int))/\ns[j]?=some k/\(∀ m,m < j->ns[m]? ≠ some k)/\Q (.int j) H
theorem afk:MtM X "list.index" arz:=by
 intro pins s σ H x vs v us Q I rx rv h
 obtain ⟨l,ns,k,j,rfl,rfl,hH,hj,hno,q⟩:=h
 cases rx
 obtain ⟨u,rfl,ru⟩:=rv.one
 obtain ⟨t,rfl⟩:=ru
 obtain ⟨z,its,n,r,hl,e⟩:=I.lstM hH
 rw [List.length_map] at hl z
 obtain ⟨hj1,hj2⟩:=List.getElem?_eq_some_iff.mp hj
 have hz:sizeLine < 2 ^ 62:=by decide
 refine call_meets F.slot_list_index ⟨_,e,rfl⟩ F.entry_list_index (F.args_list_index_2 _ _)
  (MeetsSeq.list_index l its.toArray n (.int k t) (isV k) (fun y hy=>apz r k t y (by simpa using hy)) j (by rw [List.size_toArray];omega) (by omega) ?_ (fun m hm hlt=>?_)) ⟨e,?_⟩
 ·rw [List.getElem_toArray,ama r k j (by omega) hj1,decide_eq_true hj2]
 ·have hm':m < ns.length:=by omega
  rw [List.getElem_toArray,ama r k m (by omega) hm']
  exact decide_eq_false fun e=>hno m hlt (by rw [List.getElem?_eq_getElem hm',e])
 ·exact ⟨.int j,H,I.tok _,⟨_,rfl⟩,q⟩
variable {e est:Expr} {te:TE} {ts:TO} {pos p2:Pos}
end
end L2
namespace VL
open PySem PySem.Spec L2
section
variable {B:Bs} {env:En} {QO:Sl->En->Prop} {Q':PyData->En->Prop} {te tl:TE} {ts:TO} {K:Frag} {i:Nat}
theorem auh (h:Ev B tl env fun x e1=>∃ ns:List Int,x=.list (ns.map .int)/\Ev B te e1 fun y e2=>∃ (k:Int) (j:Nat),y=.int k/\ns[j]?=some k/\(∀ m,m < j->ns[m]? ≠ some k)/\Q' (.int j) e2):Ev B (tBM K "list" arz tl (aay te tNil)) env Q':=fun σ G H F Q I k =>
 h σ G H F _ I fun v G1 H1 F1 d e1 I1 g1 r1 z_=>by
  obtain ⟨ns,ed,q1⟩:=z_
  subst ed
  cases r1 with
  | @lst a vs _ ha rs =>
   have ev:vs=ns.map V.int:=rs.ints_inv
   subst ev
   refine ⟨.inl ⟨rfl,_,SqL.of (I1.gh _ _ ha)⟩,q1 σ G1 H1 F1 _ I1 fun u G2 H2 F2 y e2 I2 g2 r2 ⟨c,j,ey,h1,h2,q⟩=>?_⟩
   subst ey
   cases r2
   exact ⟨a,ns,c,j,rfl,rfl,I2.gh _ _ (g2 _ _ ha),h1,h2,k _ G2 H2 F2 _ e2 I2 (g1.trans g2) (.int _) q⟩
end
theorem ave {α:Type} [DecidableEq α]:∀ {as bs:List α},as.Nodup->(∀ a∈as,a∈bs)->as.length<=bs.length
 | [],_,_,_=>Nat.zero_le _
 | a :: as,bs,hn,hs=>by
  have ha:a∈bs:=hs a (List.mem_cons_self ..)
  have hn':=List.nodup_cons.mp hn
  have h:=ave (bs:=bs.erase a) hn'.2 fun x hx=>(List.mem_erase_of_ne (show x ≠ a from fun e=>hn'.1 (by rw [← e];exact hx))).mpr (hs x (List.mem_cons_of_mem _ hx))
  rw [List.length_erase_of_mem ha] at h
  have:0 < bs.length:=List.length_pos_of_mem ha
  simp only [List.length_cons]
  omega
structure But (n:Int) (es rem:List (Int × Int)):Prop where
 rise:Rise es
 inn:∀ p∈es,0<=p.1/\p.1 < p.2/\p.2 < n
 all:∀ p:Int × Int,0<=p.1->p.1 < p.2->p.2 < n->p∈es\/p∈rem
theorem But.len {n:Int} {es rem:List (Int × Int)} (h:But n es rem) (hn:8<=n) (hr:rem.length<=5):2<=es.length:=by
 have:=ave (as:=[((0:Int),(1:Int)),(0,2),(0,3),(0,4),(0,5),(0,6),(0,7)]) (bs:=es ++ rem) (by decide) (fun p hp=>by
  have:0<=p.1/\p.1 < p.2/\p.2 < 8:=by
   simp only [List.mem_cons,List.not_mem_nil,or_false] at hp
   rcases hp with rfl | rfl | rfl | rfl | rfl | rfl | rfl <;> decide
  exact List.mem_append.mpr (h.all p this.1 this.2.1 (by omega)))
 simp at this
 omega
theorem But.web {n:Int} {es rem:List (Int × Int)} (h:But n es rem) (hn:8<=n) (h2:n<=60):WebOk n es:=⟨by omega,h2,h.inn,h.rise⟩
end VL
namespace PopT
open PySem PyProof.Rows
section
variable {prog:Program} {w:World} {K:Type} [DecidableEq K] {knd:HeapKind prog w K} {A:Around} {E:Value->Shared->Prop} {s:Shared}
end
end PopT
namespace L2
open PySem PySem.Spec PySem.W PyProof.Rows
theorem KT.at {H:Hp} {kvs:List (List Key × V)} {xs:List (List Key × Addr × Value)} (r:KT H kvs xs):∀ {j:Nat} {k:List Key} {v:V},kvs[j]?=some (k,v)->∃ p:Addr × Value,xs[j]?=some (k,p)/\RelV v p.2:=by
 induction r with
 | nil=>intro j k v e;simp at e
 | @cons p q ps qs hq t ih =>
  intro j k v e
  cases j with
  | zero =>
   have e:p=(k,v):=by simpa using e
   subst e
   exact ⟨q.2,by rw [List.getElem?_cons_zero,show k=q.1 from hq.1],hq.2.2⟩
  | succ j=>exact ih (by simpa using e)
theorem KT.erase {H:Hp} {kvs:List (List Key × V)} {xs:List (List Key × Addr × Value)} (r:KT H kvs xs):∀ (j:Nat),KT H (kvs.eraseIdx j) (xs.eraseIdx j):=by
 induction r with
 | nil=>intro j;exact .nil
 | @cons p q ps qs hq t ih =>
  intro j
  cases j with
  | zero=>exact t
  | succ j=>exact .cons hq (ih j)
section
variable {X:Cx} {pins:List (Addr × Obj)} {σ:St} {H:Hp} {s:Shared} {a b:Addr} {A:Around} {E:Value->Shared->Prop}
end
section
variable {X:Cx} {o e f:Expr} {apos cpos:Pos} {td ty tx:TE}
end
end L2
namespace DNe
open PySem PyProof.Rows
end DNe
namespace L2
open PySem PySem.Spec PySem.W PyProof.Rows
end L2
namespace DNe
open PySem PyProof.Rows
section
variable {prog:Program} {w:World} {A:Around} {E:Value->Shared->Prop} {s:Shared}
end
end DNe
namespace L2
open PySem PySem.Spec PySem.W PyProof.Rows
end L2
namespace VL
open PySem PySem.Spec L2
section
variable {B:Bs} {env:En} {Q':PyData->En->Prop} {QO:Sl->En->Prop} {i:Nat} {ty:TE}
theorem RpT.at {G:Hp}:∀ {kvs:List (List Key × V)} {es:List (List Key × PyData)},RpT G kvs es->∀ {j:Nat} {ks:List Key} {d:PyData},es[j]?=some (ks,d)->∃ v,kvs[j]?=some (ks,v)/\Rp G v d
 | _,_,.nil,j,ks,d,e=>by simp at e
 | _,_,.cons (k:=k) (v:=v) (d:=d0) h t,0,ks,d,e=>by
  have e:(k,d0)=(ks,d):=by simpa using e
  cases e
  exact ⟨v,rfl,h⟩
 | _,_,.cons h t,j+1,ks,d,e=>by
  obtain ⟨v,e1,r⟩:=RpT.at t (j:=j) (by simpa using e)
  exact ⟨v,by simpa using e1,r⟩
theorem RpT.erase {G:Hp}:∀ {kvs:List (List Key × V)} {es:List (List Key × PyData)},RpT G kvs es->∀ (j:Nat),RpT G (kvs.eraseIdx j) (es.eraseIdx j)
 | _,_,.nil,_ => .nil
 | _,_,.cons _ t,0=>t
 | _,_,.cons h t,j+1 => .cons h (RpT.erase t j)
@[reducible] noncomputable def ago (es:List (Key × PyData)):PyData:=.dict (es.map fun p=>(kD p.1,p.2))
theorem aw1 {a b:Key} (h:kD a=kD b):a=b:=by
 cases a <;> cases b <;> simp [kD] at h <;> rw [h]
theorem ar0:∀ {es fs:List (Key × PyData)},es.map (fun p=>(kD p.1,p.2))=fs.map (fun p=>(kD p.1,p.2))->es=fs
 | [],[],_=>rfl
 | [],_ :: _,h=>by simp at h
 | _ :: _,[],h=>by simp at h
 | (a,x) :: es,(b,y) :: fs,h=>by
  simp only [List.map_cons,List.cons.injEq,Prod.mk.injEq] at h
  rw [aw1 h.1.1,h.1.2,ar0 h.2]
theorem aw2 {G:Hp} {v:V} {es:List (Key × PyData)} (r:Rp G v (ago es)) (hne:es ≠ []):∃ a kvs,v=.ref a/\G a=some (.dK kvs)/\RpK G kvs es:=by
 cases r with
 | dk h rk e=>exact ⟨_,_,rfl,h,by rw [ar0 e];exact rk⟩
 | @dt a kvs es' ds h rt e =>
  cases es with
  | nil=>exact absurd rfl hne
  | cons p es =>
   cases es' with
   | nil=>simp at e
   | cons q es' =>
    simp only [List.map_cons,List.cons.injEq,Prod.mk.injEq] at e
    have:=e.1.1
    obtain ⟨k,x⟩:=p
    cases k <;> simp [kD] at this
end
end VL
namespace DictL
open PySem PyProof.Rows
section
variable {prog:Program} {w:World} {A:Around} {R:Result->Shared->Prop} {I:Addr} {fp wr:List Addr} {n:Nat} {P:Nat->Value->Prop} {St:Nat->Heap->Prop} {K:Type} [DecidableEq K] {knd:KeyKind prog w K}
end
section
variable {prog:Program} {w:World} {A:Around} {E:Value->Shared->Prop} {s:Shared}
end
section
variable {prog:Program} {w:World} {A:Around} {E:Value->Shared->Prop} {s:Shared} {K:Type} [DecidableEq K] {knd:KeyKind prog w K}
end
end DictL
namespace L2
open PySem PySem.W PyProof.Rows
noncomputable def dkOf:List (Int × V)->List (Key × V):=fun kvs=>kvs.map fun p=>(.inl p.1,p.2)
section
variable {K:Type} [DecidableEq K]
end
section
variable {X:Cx}
end
end L2
namespace VL
open PySem PySem.Spec L2
section
variable {B:Bs} {env:En} {QO:Sl->En->Prop} {Q':PyData->En->Prop} {D':VEnds} {K:Frag} {i:Nat}
end
section
variable {B:Bs} {env:En} {QO:Sl->En->Prop} {Q':PyData->En->Prop} {K:Frag} {i:Nat}
end
theorem ajp {α:Type} {K:Frag} {src:List (Option Nat)} {e1:En} {te:TE} {tif:TT} {R:List PyData->En->Prop} {xs:List α} {f : α->PyData} (g : α->PyData) (p : α->Bool) (hno:noIo (aat src e1)=true) (hl:xs.length<=999999)
  (h:∀ x∈xs,∀ B':Bs,B'.K=K->EvT B' tif (some (.st (f x)) :: aat src e1) fun b e3=>b=p x/\e3=some (.st (f x)) :: aat src e1/\(b=true->Ev B' te (some (.st (f x)) :: aat src e1) fun y e4=>y=g x/\e4=some (.st (f x)) :: aat src e1))
  (hR:R ((xs.filter p).map g) e1):LcV K (none :: src) (aba 0) tif te (xs.map f) e1 R:=by
 have hno':noIo (aat (none :: src) e1)=true:=by
  show ((none :: aat src e1).all fun s => !isIo s)=true
  rw [List.all_cons]
  exact (Bool.and_eq_true _ _).mpr ⟨rfl,hno⟩
 refine ⟨fun i ys e=>ys=((xs.take i).filter p).map g/\∃ o,e=stO o :: aat src e1,⟨by simp,none,rfl⟩,?_,?_,?_⟩
 ·rintro i ys e ⟨_,o,rfl⟩
  exact ⟨⟨isIo_stO.symm,ada⟩,ad4 adw⟩
 ·rintro i d ys e hd ⟨rfl,o,rfl⟩ B' hB
  rw [List.getElem?_map] at hd
  cases hx:xs[i]? with
  | none=>rw [hx] at hd;cases hd
  | some x =>
  rw [hx] at hd
  cases hd
  have hi:i < xs.length:=(List.getElem?_eq_some_iff.mp hx).1
  have et:xs.take (i+1)=xs.take i ++ [x]:=by rw [List.take_add_one,hx];rfl
  refine aa7 ?_
  show EvT B' tif (some (.st (f x)) :: aat src e1) _
  intro σ G H F Q I k
  refine h x (List.mem_of_getElem? hx) B' hB σ G H F Q I fun b G' H' F' e3 I' g' ⟨hb,he,hq⟩=>k b G' H' F' e3 I' g' ?_
  subst he
  by_cases hp:b=true
  ·rw [if_pos hp]
   intro σ G H F Q I k
   refine hq hp σ G H F Q I fun v G' H' F' d' e4 I' g' r' ⟨hy,he4⟩=>k v G' H' F' d' e4 I' g' r' ?_
   subst hy he4
   refine ⟨?_,?_,some _,rfl⟩
   ·have:=List.length_filter_le p (xs.take i)
    simp only [List.length_map]
    have h2:(xs.take i).length<=i:=by simp;omega
    omega
   ·rw [et,List.filter_append,List.map_append]
    have:p x=true:=by rw [← hb];exact hp
    simp [this]
  ·rw [if_neg hp]
   refine ⟨?_,some _,rfl⟩
   rw [et,List.filter_append,List.map_append]
   have:p x=false:=by rw [← hb];simpa using hp
   simp [this]
 ·rintro ys e ⟨rfl,o,rfl⟩
  rw [agj hno',List.length_map,List.take_length]
  exact hR
section
variable {B:Bs} {env:En} {QO:Sl->En->Prop} {Q':PyData->En->Prop} {K:Frag} {i:Nat}
theorem aui {ta tb:TE} (h:Ev B ta env fun d e1=>EvO B tb e1 fun s e2=>∃ ds,s=.own (OL ds)/\QO (.own (OW d ds)) e2):EvO B (tTup (aay ta (aay tb tNil))) env QO:=fun σ G H F Q I k =>
 h σ G H F _ I fun v G1 H1 F1 d e1 I1 g1 r1 h2=>h2 σ G1 H1 F1 _ I1 fun w G2 H2 F2 Fv s e2 I2 g2 x z_=>by
  obtain ⟨ds,es,q⟩:=z_
  subst es
  obtain ⟨l,vs,rfl,hl,rs,hf⟩:=x.ok
  refine ⟨show (2:Nat)<=sizeLine by rw [sizeLine_eq];decide,fun p hp=>?_⟩
  have pl:p ≠ l:=(aaj hl hp).symm
  have J:VI B G2 (upd H2 p (.tup [v,.ref l])) σ e2 F2:=I2.grow (Same.refl _) (I2.gh.trans (aa9 hp)) (aa9 hp) (fun a o e => .inl e) fun a ks e=>by
   by_cases z:a=p
   ·subst z;rw [aah] at e;exact absurd (Option.some.inj e) al7
   ·rw [aae z] at e;exact I2.ft a ks e
  refine k _ G2 _ _ (fun a=>a=p\/a=l) (.own (OW d ds)) _ J (g1.trans g2) ⟨⟨p,l,v,vs,rfl,aah,r1.same g2,by rw [aae pl.symm];exact hl,rs,fun b=>Iff.rfl⟩,fun a z=>?_,fun a z=>?_,fun a z=>?_,fun m a z=>?_⟩ q
  ·rcases z with rfl | rfl
   ·exact I2.no_b hp
   ·exact x.fb a ((hf a).mpr rfl)
  ·rcases z with rfl | rfl
   ·exact I2.no_g hp
   ·exact x.fg a ((hf a).mpr rfl)
  ·rcases z with rfl | rfl
   ·exact ⟨_,aah⟩
   ·exact ⟨_,by rw [aae pl.symm];exact hl⟩
  ·rcases z with rfl | rfl
   ·exact I2.no_f hp m
   ·exact x.fd m a ((hf a).mpr rfl)
end
end VL
namespace L2
open PySem PySem.W PyProof.Rows
section
variable {X:Cx}
end
end L2
namespace VL
open PySem PySem.Spec L2
section
variable {B:Bs} {env:En} {Q':PyData->En->Prop} {R:Sl->Prop} {td:TE}
end
end VL
namespace SS
open PySem
theorem ai1 {l:List Nat} (hr:l.Pairwise (· < ·)) {i j:Nat} (hij:i<=j) (hj:j < l.length):l[i]'(by omega)<=l[j]:=by
 by_cases e:i=j
 ·subst e;exact Nat.le_refl _
 ·exact Nat.le_of_lt (List.pairwise_iff_getElem.mp hr i j (by omega) hj (by omega))
theorem aha (xs:Array Nat) (j:Nat) (hr:xs.toList.Pairwise (· < ·)):∀ (fuel lo hi:Nat),hi - lo<=fuel->lo<=hi->hi<=xs.size->(∀ i (h:i < xs.toList.length),i < lo->xs.toList[i] < j)->(∀ i (h:i < xs.toList.length),hi<=i->j<=xs.toList[i]) ->
  SetTable.below.go xs j fuel lo hi<=xs.size/\(∀ i (h:i < xs.toList.length),i < SetTable.below.go xs j fuel lo hi->xs.toList[i] < j)/\(∀ i (h:i < xs.toList.length),SetTable.below.go xs j fuel lo hi<=i->j<=xs.toList[i])
 | 0,lo,hi,h1,h2,h3,h4,h5=>by
  unfold SetTable.below.go
  have:lo=hi:=by omega
  subst this
  exact ⟨h3,h4,h5⟩
 | fuel+1,lo,hi,h1,h2,h3,h4,h5=>by
  unfold SetTable.below.go
  by_cases hl:lo < hi
  ·rw [if_pos hl]
   have hm:(lo+hi) / 2 < xs.size:=by omega
   have hm':(lo+hi) / 2 < xs.toList.length:=by simpa using hm
   have eg:xs.getD ((lo+hi) / 2) j=xs.toList[(lo+hi) / 2]:=by simp [Array.getD,hm]
   dsimp only
   rw [eg]
   split
   ·rename_i hlt
    refine aha xs j hr fuel _ hi (by omega) (by omega) h3 (fun i h hi'=>?_) h5
    exact Nat.lt_of_le_of_lt (ai1 hr (by omega) hm') hlt
   ·rename_i hge
    refine aha xs j hr fuel lo _ (by omega) (by omega) (by omega) h4 (fun i h hi'=>?_)
    exact Nat.le_trans (by omega) (ai1 hr hi' h)
  ·rw [if_neg hl]
   have:lo=hi:=by omega
   subst this
   exact ⟨h3,h4,h5⟩
theorem below_ok (xs:Array Nat) (j:Nat) (hr:xs.toList.Pairwise (· < ·)) :
  SetTable.below xs j<=xs.size/\(∀ i (h:i < xs.toList.length),i < SetTable.below xs j->xs.toList[i] < j)/\(∀ i (h:i < xs.toList.length),SetTable.below xs j<=i->j<=xs.toList[i]) :=
 aha xs j hr _ 0 _ (by omega) (by omega) (Nat.le_refl _) (fun i h hi=>by omega) (fun i h hi=>by simp at h;omega)
theorem ap0 (xs:Array Nat) (hr:xs.toList.Pairwise (· < ·)) (i:Nat) (hi:i < xs.toList.length):SetTable.below xs (xs.toList[i] + 1)=i+1:=by
 obtain ⟨h1,h2,h3⟩:=below_ok xs (xs.toList[i] + 1) hr
 rcases Nat.lt_trichotomy (SetTable.below xs (xs.toList[i] + 1)) (i+1) with h | h | h
 ·have:=h3 i hi (by omega);omega
 ·exact h
 ·have hs:i+1 < xs.toList.length:=by simp;omega
  have a:=h2 (i+1) hs (by omega)
  have b:=List.pairwise_iff_getElem.mp hr i (i+1) hi hs (by omega)
  omega
theorem ap1 (xs:Array Nat) (hr:xs.toList.Pairwise (· < ·)):SetTable.below xs 0=0:=by
 obtain ⟨h1,h2,h3⟩:=below_ok xs 0 hr
 rcases Nat.eq_zero_or_pos (SetTable.below xs 0) with h | h
 ·exact h
 ·have:=h2 0 (by simp;omega) (by omega);omega
theorem put_rise {xs:Array Nat} {j:Nat} (hr:xs.toList.Pairwise (· < ·)) (hn:xs[SetTable.below xs j]? ≠ some j):(SetTable.insertAt xs (SetTable.below xs j) j).toList.Pairwise (· < ·):=by
 obtain ⟨h1,h2,h3⟩:=below_ok xs j hr
 rw [SetTable.toList_insertAt]
 generalize SetTable.below xs j=p at h1 h2 h3 hn ⊢
 rw [← Array.getElem?_toList] at hn
 generalize xs.toList=l at hr h2 h3 hn ⊢
 have lo:∀ x∈l.take p,x < j:=fun x hx=>by
  obtain ⟨i,hi,e⟩:=List.mem_take_iff_getElem.mp hx
  rw [← e];exact h2 i (by omega) (by omega)
 have up:∀ x∈l.drop p,j < x:=fun x hx=>by
  obtain ⟨i,hi,e⟩:=List.mem_drop_iff_getElem.mp hx
  have hp:p < l.length:=by omega
  have ne:l[p] ≠ j:=fun e=>hn (by rw [List.getElem?_eq_getElem hp,e])
  have a:=h3 p hp (Nat.le_refl _)
  have b:=ai1 hr (show p<=p+i by omega) (by omega:p+i < l.length)
  have e':l[p+i]=x:=by rw [← e]
  omega
 rw [List.pairwise_append]
 refine ⟨hr.sublist (List.take_sublist _ _),List.pairwise_cons.mpr ⟨up,hr.sublist (List.drop_sublist _ _)⟩,fun a ha b hb=>?_⟩
 rcases List.mem_cons.mp hb with rfl | hb
 ·exact lo a ha
 ·exact Nat.lt_trans (lo a ha) (up b hb)
structure TbI (bt:Bool) (t:SetTable):Prop where
 led:bt=false->t.led=true
 dum:t.dummies = #[]
 ris:t.plain=true->t.place.toList.Pairwise (· < ·)
theorem TbI.fresh (bt:Bool) (f m:Nat):TbI bt (.fresh f m (!bt)):=⟨fun h=>by subst h;rfl,rfl,fun _=>List.Pairwise.nil⟩
theorem has_nil (j:Nat):SetTable.has #[] j=false:=by unfold SetTable.has;simp
theorem TbI.put {bt:Bool} {t:SetTable} (x:TbI bt t) {j:Nat} (hs:t.slot j=.empty):TbI bt (t.put j).1:=by
 refine ⟨x.led,?_,fun h=>?_⟩
 ·show (if SetTable.has t.dummies j=true then _ else t.dummies) = #[]
  rw [x.dum,has_nil];rfl
 ·show (SetTable.insertAt t.place (SetTable.below t.place j) j).toList.Pairwise (· < ·)
  refine put_rise (x.ris h) fun e=>?_
  unfold SetTable.slot at hs
  dsimp only at hs
  rw [e] at hs
  simp at hs
theorem live_rise (owner:Array (Option Nat)) (m:Nat):(((List.range m).filterMap fun j=>(owner.getD j none).map (j,·)).map (·.1)).Pairwise (· < ·):=by
 rw [List.pairwise_map,List.pairwise_filterMap]
 refine List.pairwise_lt_range.imp ?_
 intro a b hab p hp q hq
 cases h1:owner.getD a none with
 | none=>rw [h1] at hp;cases hp
 | some i =>
  cases h2:owner.getD b none with
  | none=>rw [h2] at hq;cases hq
  | some k=>rw [h1] at hp;rw [h2] at hq;cases hp;cases hq;exact hab
theorem ajq {α:Type} (next:Nat->Nat):∀ (n k:Nat) (left:List α) (out:Array α),left.length=n->(pickOrder.go next n k left out).toList.Perm (out.toList ++ left)
 | 0,k,left,out,h=>by
  unfold pickOrder.go
  rw [List.eq_nil_of_length_eq_zero h];simp
 | n+1,k,left,out,h=>by
  unfold pickOrder.go
  have hl:next k % left.length < left.length:=Nat.mod_lt _ (by omega)
  rw [List.getElem?_eq_getElem hl]
  dsimp only
  refine (ajq next n (k+1) _ _ (by rw [List.length_eraseIdx];split <;> omega)).trans ?_
  rw [Array.toList_push,List.append_assoc]
  refine List.Perm.append_left _ ?_
  have e:left=left.take (next k % left.length) ++ left[next k % left.length] :: left.drop (next k % left.length+1):=by
   rw [← List.drop_eq_getElem_cons hl,List.take_append_drop]
  rw [List.eraseIdx_eq_take_drop_succ]
  refine List.Perm.trans ?_ (List.Perm.of_eq e.symm)
  rw [List.singleton_append]
  exact List.perm_middle.symm
theorem ai2 {α:Type} (next:Nat->Nat) (xs:Array α):(pickOrder next xs).toList.Perm xs.toList:=by
 unfold pickOrder
 simpa using ajq next xs.size 0 xs.toList #[] (by simp)
end SS
namespace SS
open PySem PySem.W PyProof.Rows
section
variable {prog:Program} {w:World} {A:Around} {E:Value->Shared->Prop} {s:Shared}
noncomputable def bt (w:World):Bool:=w.params.followText "set-order"
noncomputable def kE (e:Int × Value):Int:=match e.2 with | .int k _=>k | _=>0
def a03 (prog:Program) (w:World) (e:Int × Value):Prop:=e.1=(intKind prog w).hash (kE e)/\∃ t,e.2=.int (kE e) t
def SetR (prog:Program) (w:World) (a:Addr) (es:Array (Int × Value)) (ep:Nat) (t:SetTable) (h:Heap):Prop :=
 ∃ o,h.get? a=some o/\o.ExactSet/\o.data=.set es ep t/\t.fits es.size=true/\TbI (bt w) t
def SetI (prog:Program) (w:World) (a:Addr) (L:List Int) (h:Heap):Prop:=∃ es ep t,SetR prog w a es ep t h/\(∀ e∈es.toList,a03 prog w e)/\(es.toList.map kE).Perm L
theorem SetR.at {a:Addr} {es:Array (Int × Value)} {ep:Nat} {t:SetTable} {h h':Heap} (x:SetR prog w a es ep t h) (k:∀ o,h.get? a=some o->h'.get? a=some o):SetR prog w a es ep t h':=let ⟨o,e,r⟩:=x;⟨o,k o e,r⟩
theorem SetI.at {a:Addr} {L:List Int} {h h':Heap} (x:SetI prog w a L h) (k:∀ o,h.get? a=some o->h'.get? a=some o):SetI prog w a L h':=let ⟨es,ep,t,r,p⟩:=x;⟨es,ep,t,r.at k,p⟩
theorem SetR.put {a:Addr} {es es':Array (Int × Value)} {ep:Nat} {t t':SetTable} {h:Heap} (x:SetR prog w a es ep t h) (hf:t'.fits es'.size=true) (hT:TbI (bt w) t'):SetR prog w a es' (ep+1) t' (h.update a (Obj.putSet es' t')):=by
 obtain ⟨o,ho,hx,hd,_⟩:=x
 have hg':(h.update a (Obj.putSet es' t')).get? a=some { o with data:=.set es' (ep+1) t' }:=by
  have:=Heap.get?_update_self (Obj.putSet es' t') ho (by rw [putSet_of es' t' hd];rfl)
  rw [putSet_of es' t' hd] at this;exact this
 exact ⟨_,hg',hx,rfl,hf,hT⟩
end
section
variable {prog:Program} {w:World} {A:Around} {E:Value->Shared->Prop} {s:Shared}
noncomputable def ab6 (w:World):Obj:={ cls:=.type "set",dict:=none,data:=.set #[] 0 (.fresh 0 0 (!bt w)) }
theorem auj (a:Value) {Q₁:Value->Shared->Prop} (h:Q₁ (.ref s.heap.objs.size) { s with heap:=s.heap.push (ab6 w) }) :
  codeAny (model prog w) A (.call (.builtin "set.__new__") ⟨[.type "set",a],[]⟩) (wants Q₁ E) s:=by
 refine codeAny_of_tree ?_
 show wpAny _ A.in1 (do checkBuiltinCall "set.__new__" ⟨[.type "set",a],[]⟩;again (.builtin "set.__new__" ⟨[.type "set",a],[]⟩)) _ _ s
 refine wpAny_bind (wpAny_of_eq (PySem.F.newCall_set_1 a) (wpAny_pure ⟨plainId_quiet PySem.F.plain_set_new _,codeAny_builtin PySem.F.entry_set_new ?_⟩))
 rw [Around.under_plainId PySem.F.plain_set_new _]
 unfold Builtin.«set.__new__» Builtin.Frozenset.newClass
 have hsub:=sub_set_self
 obtain ⟨hp,g,d,tk,os⟩:=s
 dsimp only
 wp_walk
 refine wpAny_askSetting (wpAny_pure ?_)
 dsimp only
 simp only [newObj]
 refine wpAny_bind (wpAny_alloc (wpAny_pure ?_))
 exact wpAny_pure h
section
variable {R:Result->Shared->Prop} {I:Addr} {fp wr:List Addr} {n:Nat} {P:Nat->Value->Prop} {St:Nat->Heap->Prop}
end
end
theorem slot_it_next:Slot "set_iterator" "__next__" "set_iterator.__next__" :=
 .of (owner:="set_iterator") (n:="__next__") (by rw [typeLookup_type,builtinLookup_eq_fast];kernel_rfl) (by decide +kernel) (by decide +kernel) (by decide +kernel)
  (by first | exact .inl (by decide +kernel) | exact .inr (by decide +kernel)) (by rw [isSubtype_type];kernel_rfl)
theorem af4:Slot "set_iterator" "__iter__" "set_iterator.__iter__" :=
 .of (owner:="set_iterator") (n:="__iter__") (by rw [typeLookup_type,builtinLookup_eq_fast];kernel_rfl) (by decide +kernel) (by decide +kernel) (by decide +kernel)
  (by first | exact .inl (by decide +kernel) | exact .inr (by decide +kernel)) (by rw [isSubtype_type];kernel_rfl)
theorem amb:Manifest.owners.lookup (String.ofList ['r','o','t','a','r','e','t','i','_','t','e','s'].reverse)=some Manifest.sig_set_iterator:=by kernel_rfl
theorem amc (a:Value):argsOk "set_iterator.__next__" ⟨[a],[]⟩:=by
 unfold argsOk;rw [signature?_of (id:="set_iterator.__next__") (n:=['_','_','t','x','e','n','_','_']) (o:=['r','o','t','a','r','e','t','i','_','t','e','s']) (by kernel_rfl) amb];kernel_rfl
theorem amd (a:Value):argsOk "set_iterator.__iter__" ⟨[a],[]⟩:=by
 unfold argsOk;rw [signature?_of (id:="set_iterator.__iter__") (n:=['_','_','r','e','t','i','_','_']) (o:=['r','o','t','a','r','e','t','i','_','t','e','s']) (by kernel_rfl) amb];kernel_rfl
theorem akf:entryFor table "set_iterator.__next__" = some Builtin.«set_iterator.__next__»:=entryFor_of_tree (by kernel_rfl)
theorem akg:entryFor table "set_iterator.__iter__" = some Builtin.«dict_keyiterator.__iter__»:=entryFor_alias (id':="dict_keyiterator.__iter__") (by kernel_rfl) rfl (by decide +kernel) (by kernel_rfl)
theorem ai3:entryFor table "set.__iter__" = some Builtin.«frozenset.__iter__»:=entryFor_alias (id':="frozenset.__iter__") (by kernel_rfl) rfl (by decide +kernel) (by kernel_rfl)
section
variable {prog:Program} {w:World} {A:Around} {E:Value->Shared->Prop} {s:Shared} {a I:Addr} {es:Array (Int × Value)} {ep:Nat} {t:SetTable}
def IsIt (h:Heap) (I:Addr) (vs:Array Value):Prop:=∃ o,h.get? I=some o/\o.cls=.type "set_iterator"/\o.data=.fields vs
theorem IsIt.ty {vs:Array Value} (x:IsIt s.heap I vs):s.TypeIs (.ref I) "set_iterator":=let ⟨o,e,c,_⟩:=x;⟨o,e,c⟩
theorem IsIt.at {h h':Heap} {vs:Array Value} (x:IsIt h I vs) (k:∀ o,h.get? I=some o->h'.get? I=some o):IsIt h' I vs:=let ⟨o,e,r⟩:=x;⟨o,k o e,r⟩
theorem SetR.ty (x:SetR prog w a es ep t s.heap):s.TypeIs (.ref a) "set":=let ⟨o,e,c,_⟩:=x;⟨o,e,c.1⟩
theorem ado {Q:(Array (Int × Value) × Nat × SetTable)->Shared->Prop} (x:SetR prog w a es ep t s.heap) (h:Q (es,ep,t) s):wpAny (model prog w) A (setState a) Q E s:=let ⟨_,ho,_,hd,hf,_⟩:=x;wpAny_setState_of ho hd hf h
theorem afl {Q:Array (Int × Value)->Shared->Prop} (x:SetR prog w a es ep t s.heap) (h:Q es s):wpAny (model prog w) A (setEntries a) Q E s:=by
 unfold setEntries;exact wpAny_bind (ado x (wpAny_pure h))
theorem ame {Q:Nat->Shared->Prop} (x:SetR prog w a es ep t s.heap) (h:Q ep s):wpAny (model prog w) A (setEpoch a) Q E s:=by
 unfold setEpoch;exact wpAny_bind (ado x (wpAny_pure h))
theorem ai4 {Q:Bool->Shared->Prop} (h:Q (bt w) s):wpAny (model prog w) A setsByText Q E s:=by
 unfold setsByText;exact wpAny_bind (wpAny_askSetting (wpAny_pure h))
theorem ar1 {M:Model} {src:Source} {n:Nat} {Q:Nat->Shared->Prop} (hn:0 < n) (h:∀ i d,i < n->Q i { s with drawn:=d }):wpAny M A (choose src n) Q E s:=fun Γ p _=>by
 unfold choose
 rw [Sem.wp_choose]
 exact ⟨by omega,h _ _ (Nat.mod_lt _ hn)⟩
theorem aot {α:Type} {M:Model}:∀ (n:Nat) (xs:List α) (s:Shared) (Q:List α->Shared->Prop),xs.length=n->(∀ ys d,ys.Perm xs->Q ys { s with drawn:=d })->wpAny M A (drawOrder n xs) Q E s
 | 0,xs,s,Q,hn,h=>by
  unfold drawOrder
  rw [List.eq_nil_of_length_eq_zero hn] at h
  exact wpAny_pure (h [] s.drawn (List.Perm.refl _))
 | n+1,[],s,Q,hn,h=>by cases hn
 | n+1,x :: xs,s,Q,hn,h=>by
  unfold drawOrder
  refine wpAny_bind (ar1 (by simp) fun i d hi=>?_)
  rw [List.getElem?_eq_getElem hi]
  dsimp only
  refine wpAny_bind (aot n _ _ _ (by rw [List.length_eraseIdx];split <;> omega) fun ys d' hp=>wpAny_pure ?_)
  refine h _ d' ?_
  have e:(x :: xs)=(x :: xs).take i ++ (x :: xs)[i] :: (x :: xs).drop (i+1):=by
   rw [← List.drop_eq_getElem_cons hi,List.take_append_drop]
  refine (hp.cons _).trans ?_
  rw [List.eraseIdx_eq_take_drop_succ]
  refine List.Perm.trans ?_ (List.Perm.of_eq e.symm)
  exact List.perm_middle.symm
noncomputable def dr (w:World) (es:Array (Int × Value)) (t:SetTable):Bool:=!bt w && (!t.plain && decide (es.size > 1))
noncomputable def itO (f:Value) (a:Addr) (n ep:Nat):Obj:={ cls:=.type "set_iterator",data:=.fields #[f,rawInt (0:Nat),.ref a,rawInt n,rawInt ep] }
noncomputable def tuO (pl:List Nat):Obj:={ cls:=.type "tuple",data:=.seq (pl.map fun (i:Nat)=>rawInt i).toArray }
theorem aw3 {Q:Value->Shared->Prop} (x:SetR prog w a es ep t s.heap) (hz:es.size<=sizeLine)
  (h1:dr w es t=false->Q (.ref s.heap.objs.size) { s with heap:=s.heap.push (itO (rawInt (0:Nat)) a es.size ep) })
  (h2:dr w es t=true->∀ pl d,pl.Perm (List.range es.size)->Q (.ref (s.heap.objs.size+1)) { s with heap:=(s.heap.push (tuO pl)).push (itO (.ref s.heap.objs.size) a es.size ep),drawn:=d }):wpAny (model prog w) A (pyIter (.ref a)) Q E s:=by
 refine wpAny_pyIter_slot x.ty PySem.F.slot_set_iter (wpAny_call_entry PySem.F.slot_set_iter x.ty ai3 ?body (PySem.F.args_set_iter_1 _))
 unfold Builtin.«frozenset.__iter__»
 show wpAny _ _ (Builtin.Frozenset.sizeOf a >>= _) _ _ s
 unfold Builtin.Frozenset.sizeOf
 refine wpAny_bind (wpAny_bind (afl x (wpAny_pure ?_)))
 unfold setDrawn
 refine wpAny_bind (wpAny_bind (ado x (wpAny_bind (ai4 (wpAny_pure ?_)))))
 show wpAny _ _ (if dr w es t=true then _ else _) _ _ s
 cases hd:dr w es t
 ·rw [if_neg (by decide)]
  refine wpAny_bind (wpAny_pure (wpAny_bind (ame x ?_)))
  unfold newFields
  refine wpAny_bind (wpAny_newObj_type (wpAny_pure ⟨_,rfl,"set_iterator",_,⟨_,Heap.get?_push_size _ rfl,rfl⟩,slot_it_next.lookup,h1 hd⟩))
 ·rw [if_pos rfl]
  refine wpAny_bind (aot es.size (List.range es.size) s _ (by simp) fun pl d hp=>?_)
  refine wpAny_bind (wpAny_newTuple ?_ (by rw [List.length_map,hp.length_eq,List.length_range];exact hz))
  refine wpAny_bind (ame (x.at fun o e=>Heap.get?_push_of_some _ e) ?_)
  unfold newFields
  refine wpAny_bind (wpAny_newObj_type (wpAny_pure ⟨_,rfl,"set_iterator",_,⟨_,Heap.get?_push_size _ rfl,rfl⟩,slot_it_next.lookup,?_⟩))
  have:=h2 hd pl d hp
  simp only [Heap.size_push]
  exact this
end
section
variable {prog:Program} {w:World} {A:Around} {E:Value->Shared->Prop} {s:Shared} {a I:Addr} {es:Array (Int × Value)} {ep:Nat} {t:SetTable}
noncomputable def ord (w:World) (a:Addr) (es:Array (Int × Value)) (ep:Nat):List (Int × Value):=if bt w=true then (pickOrder (w.params.setOrder a ep) es).toList else es.toList
theorem ord_perm:(ord w a es ep).Perm es.toList:=by
 unfold ord;split
 ·exact ai2 _ _
 ·exact List.Perm.refl _
noncomputable def sl (t:SetTable):Nat->Nat
 | 0=>0
 | i+1=>t.place.getD i 0+1
theorem ap2 (x:SetR prog w a es ep t s.heap) (hb:bt w=false) (hd:dr w es t=false):t.place.toList.Pairwise (· < ·):=by
 obtain ⟨o,_,_,_,hf,hT⟩:=x
 unfold dr at hd
 rw [hb] at hd
 cases hp:t.plain with
 | true=>exact hT.ris hp
 | false =>
  rw [hp] at hd
  have h1:es.size<=1:=by simpa using hd
  have h2:t.place.toList.length<=1:=by
   simp only [SetTable.fits,Bool.and_eq_true,beq_iff_eq] at hf
   rw [Array.length_toList];omega
  match hl:t.place.toList with
  | []=>exact .nil
  | [y]=>exact List.pairwise_singleton _ _
  | y :: z :: r=>rw [hl] at h2;simp at h2
theorem aw4 {slot i:Nat} {Q:Option (Value × Nat)->Shared->Prop} (x:SetR prog w a es ep t s.heap) (hd:dr w es t=false) (hs:bt w=false->slot=sl t i) (hi:i<=es.size)
  (h1:∀ e nx,(ord w a es ep)[i]?=some e->(bt w=false->nx=sl t (i+1))->Q (some (e.2,nx)) s) (h2:i=es.size->Q none s):wpAny (model prog w) A (setNext a slot i ep) Q E s:=by
 unfold setNext
 refine wpAny_bind (ado x ?_)
 dsimp only
 refine wpAny_bind (ai4 ?_)
 cases hb:bt w with
 | true =>
  rw [if_pos rfl]
  rw [if_neg (by simp)]
  refine wpAny_bind ?_
  unfold setWalk
  refine wpAny_bind (ado x ?_)
  dsimp only
  refine wpAny_bind (ai4 ?_)
  rw [hb,if_pos rfl]
  refine wpAny_bind (wpAny_askSetting (wpAny_pure (wpAny_pure ?_)))
  show Q ((pickOrder (w.params.setOrder a ep) es)[i]?.map fun e=>(e.2,slot)) s
  have eo:ord w a es ep=(pickOrder (w.params.setOrder a ep) es).toList:=by unfold ord;rw [hb,if_pos rfl]
  rw [← Array.getElem?_toList,← eo]
  cases he:(ord w a es ep)[i]? with
  | none =>
   refine h2 ?_
   have:=List.getElem?_eq_none_iff.mp he
   rw [ord_perm.length_eq,Array.length_toList] at this
   omega
  | some e=>exact h1 e slot he fun z=>by rw [hb] at z;cases z
 | false =>
  rw [if_neg (by decide)]
  have hpr:=ap2 x hb hd
  obtain ⟨o,ho,hx,hdt,hf,hT⟩:=id x
  have hps:t.place.size=es.size:=by
   simp only [SetTable.fits,Bool.and_eq_true,beq_iff_eq] at hf;exact hf.1
  have hbl:SetTable.below t.place slot=i:=by
   rw [hs hb]
   cases i with
   | zero=>exact ap1 _ hpr
   | succ j =>
    have hj:j < t.place.toList.length:=by rw [Array.length_toList];omega
    have e:t.place.getD j 0=t.place.toList[j]:=by simp [Array.getD,show j < t.place.size by omega]
    show SetTable.below t.place (t.place.getD j 0+1)=j+1
    rw [e];exact ap0 _ hpr j hj
  refine wpAny_bind (wpAny_pure ?_)
  have hdr:(!t.plain && decide (es.size > 1))=false:=by unfold dr at hd;rw [hb] at hd;exact hd
  show wpAny _ _ (if (!t.plain && decide (es.size > 1))=true then _ else _) _ _ s
  rw [hdr,if_neg (by decide)]
  refine wpAny_bind ?_
  show wpAny _ _ (if (!t.led && !es.isEmpty)=true then _ else _) _ _ s
  rw [hT.led hb]
  rw [if_neg (by simp)]
  refine wpAny_pure ?_
  rw [hbl]
  have eo:ord w a es ep=es.toList:=by unfold ord;rw [hb,if_neg (by decide)]
  rcases Nat.lt_or_ge i es.size with hlt | hge
  ·have e1:es[i]?=some es[i]:=Array.getElem?_eq_getElem hlt
   have e2:t.place[i]?=some t.place[i]:=Array.getElem?_eq_getElem (by omega)
   rw [e1,e2]
   refine wpAny_pure (h1 es[i] _ (by rw [eo,Array.getElem?_toList];exact e1) fun _=>?_)
   show t.place[i] + 1=t.place.getD i 0+1
   simp [Array.getD,show i < t.place.size by omega]
  ·have e1:es[i]?=none:=Array.getElem?_eq_none_iff.mpr hge
   rw [e1]
   exact wpAny_pure (h2 (by omega))
theorem upd2 {h:Heap} {f x b n e:Value} {i:Value} (hit:IsIt h I #[f,i,x,n,e]) (j:Nat) (v:Value) (vs:Array Value) (hv : #[f,i,x,n,e].setIfInBounds j v=vs):IsIt (h.update I (Obj.mapFields (·.setIfInBounds j v))) I vs:=by
 obtain ⟨o,ho,hc,hd⟩:=hit
 exact ⟨_,Heap.get?_update_self _ ho (Obj.isFreed_of_fields (Obj.data_mapFields hd _)),(Obj.cls_mapFields ..).trans hc,by rw [Obj.data_mapFields hd,hv]⟩
theorem adp {vs:Array Value} {i:Nat} {x:Value} {Q:Unit->Shared->Prop} (hit:IsIt s.heap I vs) (hi:i < vs.size) (h:Q () { s with heap:=s.heap.update I (Obj.mapFields (·.setIfInBounds i x)) }):wpAny (model prog w) A (setField (.ref I) i x) Q E s:=by
 obtain ⟨o,ho,hc,hd⟩:=hit
 exact wpAny_setField ho hd hi h
theorem aou {vs:Array Value} {Q:Option Value->Shared->Prop} (hit:IsIt s.heap I vs)
  (h:wpAny (model prog w) A.in1 (Builtin.«set_iterator.__next__» ⟨[.ref I],[]⟩) (fun fin s'=>∃ v,fin=.done (.ret v)/\Q (some v) s') (fun e s'=>wpAny (model prog w) A (do if ← isInstance e (.type "StopIteration") then pure none else throw e) Q E s') s) :
  wpAny (model prog w) A (pyNext (.ref I)) Q E s:=by
 unfold pyNext
 refine wpAny_bind (wpAny_attempt (wpAny_callSpecial?_slot (name:=Str.ofString "__next__") hit.ty slot_it_next (wpAny_call_entry slot_it_next hit.ty akf ?b (amc _))))
 case b =>
  refine wpAny_mono h ?_ ?_
  ·rintro fin s' ⟨v,rfl,q⟩
   exact ⟨v,rfl,wpAny_pure q⟩
  ·intro e s' q;exact q
theorem aov {Q:Option Value->Shared->Prop} {F:Type} {Qf:F->Shared->Prop} (hh:A.handled=none) (h:∀ h',(∀ b o,s.heap.get? b=some o->h'.get? b=some o)->Q none { s with heap:=h' }) :
  wpAny (model prog w) A.in1 (newExc (.type "StopIteration") [] >>= fun e=>(raiseNew e:Sem F)) Qf (fun e s'=>wpAny (model prog w) A (do if ← isInstance e (.type "StopIteration") then pure none else throw e) Q E s') s:=by
 refine wpAny_bind ?_
 simp only [newExc,newTuple];refine wpAny_bind (wpAny_newObj_type ?_ (by size_fits))
 refine wpAny_bind (m:=firstArgMember _ _) (wpAny_of_eq (a:=Value.none) (by first | rfl | (simp only [firstArgMember];rfl)) (wpAny_newObj_type ?_ (by size_fits)))
 simp only [raiseNew];refine wpAny_bind (wpAny_handled ?_)
 rw [show A.in1.handled=none from hh];refine wpAny_bind (wpAny_pure (wpAny_throw ?_))
 refine wpAny_bind (wpAny_isInstance (T:="StopIteration") (b:=true) ⟨_,Heap.get?_push_size _ rfl,rfl⟩ isSubtype_stop ?_)
 exact wpAny_pure (h _ fun b o e=>Heap.get?_push_of_some _ (Heap.get?_push_of_some _ e))
theorem aow {slot i:Nat} {Q:Option Value->Shared->Prop} (hh:A.handled=none) (hne:a ≠ I) (hit:IsIt s.heap I #[rawInt slot,rawInt i,.ref a,rawInt es.size,rawInt ep]) (x:SetR prog w a es ep t s.heap) (hd:dr w es t=false) (hs:bt w=false->slot=sl t i) (hi:i<=es.size)
  (h1:∀ e (nx:Nat) h',(ord w a es ep)[i]?=some e->(bt w=false->nx=sl t (i+1))->IsIt h' I #[rawInt nx,rawInt ((i+1:Nat):Int),.ref a,rawInt es.size,rawInt ep]->(∀ b o,b ≠ I->s.heap.get? b=some o->h'.get? b=some o)->Q (some e.2) { s with heap:=h' })
  (h2:i=es.size->∀ h',(∀ b o,b ≠ I->s.heap.get? b=some o->h'.get? b=some o)->Q none { s with heap:=h' }):wpAny (model prog w) A (pyNext (.ref I)) Q E s:=by
 refine aou hit ?_
 obtain ⟨o,ho,hc,hdt⟩:=id hit
 unfold Builtin.«set_iterator.__next__»
 refine wpAny_bind (wpAny_pure (wpAny_bind (wpAny_fieldsOf ho hdt ?_)))
 show wpAny _ _ (setEntries a >>= _) _ _ s
 refine wpAny_bind (afl x ?_)
 rw [if_neg (by simp)]
 show wpAny _ _ (setNext a slot i ep >>= _) _ _ s
 refine wpAny_bind (aw4 x hd hs hi (fun e nx he hn=>?_) fun hz=>?_)
 ·dsimp only
  refine wpAny_bind (adp hit (by simp) ?_)
  have hit1:=upd2 (b:=.none) hit 0 (rawInt nx) #[rawInt nx,rawInt i,.ref a,rawInt es.size,rawInt ep] rfl
  refine wpAny_bind (adp (s:={ s with heap:=_ }) hit1 (by simp) ?_)
  have hit2:=upd2 (b:=.none) hit1 1 (rawInt ((i+1:Nat):Int)) #[rawInt nx,rawInt ((i+1:Nat):Int),.ref a,rawInt es.size,rawInt ep] rfl
  refine wpAny_pure ⟨_,rfl,h1 e nx _ he hn hit2 fun b o hb e=>?_⟩
  exact (Heap.get?_update_other _ _ (Ne.symm hb)).trans ((Heap.get?_update_other _ _ (Ne.symm hb)).trans e)
 ·dsimp only
  refine wpAny_bind (adp hit (by simp) ?_)
  refine aov (s:={ s with heap:=s.heap.update I _ }) hh fun h' k=>h2 hz h' fun b o hb e=>k b o ((Heap.get?_update_other _ _ (Ne.symm hb)).trans e)
theorem aox {vs:Array Value} {Q:Value->Shared->Prop} (hit:IsIt s.heap I vs) (h:Q (.ref I) s):wpAny (model prog w) A (pyIter (.ref I)) Q E s:=by
 refine wpAny_pyIter_slot hit.ty af4 (wpAny_call_entry af4 hit.ty akg ?_ (amd _))
 show wpAny _ _ (ret (.ref I)) _ _ s
 exact wpAny_pure ⟨_,rfl,"set_iterator",_,hit.ty,slot_it_next.lookup,h⟩
theorem walks (hh:A.handled=none) (hne:a ≠ I) (hd:dr w es t=false):Walks prog w A I [I,a] [I] es.size (fun i v=>((ord w a es ep).map (·.2))[i]?=some v)
  (fun i h=>∃ slot:Nat,IsIt h I #[rawInt slot,rawInt i,.ref a,rawInt es.size,rawInt ep]/\SetR prog w a es ep t h/\(bt w=false->slot=sl t i)) where
 sub:=fun b hb=>by simp at hb;simp [hb]
 frame:=fun _ _ _ st hk=>let ⟨slot,h1,h2,h3⟩:=st;⟨slot,h1.at fun o e=>hk I (by simp) o e,h2.at fun o e=>hk a (by simp) o e,h3⟩
 item:=fun i s Q E hi st hQ=>by
  obtain ⟨slot,h1,h2,h3⟩:=st
  refine aow hh hne h1 h2 hd h3 (Nat.le_of_lt hi) (fun e nx h' he hn hit k=>?_) fun hz=>by omega
  exact hQ _ h' s.toks (by rw [List.getElem?_map,he];rfl) ⟨nx,hit,h2.at fun o e=>k a o hne e,hn⟩ fun b o hb e=>k b o (fun z=>hb (by simp [z])) e
 done:=fun s Q E st hQ=>by
  obtain ⟨slot,h1,h2,h3⟩:=st
  refine aow hh hne h1 h2 hd h3 (Nat.le_refl _) (fun e nx h' he hn hit k=>?_) fun hz h' k=>hQ h' s.toks fun b o hb e=>k b o (fun z=>hb (by simp [z])) e
  have:=(List.getElem?_eq_some_iff.mp he).1
  rw [ord_perm.length_eq,Array.length_toList] at this
  omega
 self:=fun _ _ _ _ st hQ=>let ⟨_,h1,_,_⟩:=st;aox h1 hQ
theorem avf {i:Nat} {tu:Addr} {pl:List Nat} {Q:Option Value->Shared->Prop} (hh:A.handled=none) (hit:IsIt s.heap I #[.ref tu,rawInt i,.ref a,rawInt es.size,rawInt ep]) (hT:s.heap.get? tu=some (tuO pl)) (x:SetR prog w a es ep t s.heap) (hp:pl.Perm (List.range es.size)) (hi:i<=es.size)
  (h1:∀ e h' j,pl[i]?=some j->es[j]?=some e->IsIt h' I #[.ref tu,rawInt ((i+1:Nat):Int),.ref a,rawInt es.size,rawInt ep]->(∀ b o,b ≠ I->s.heap.get? b=some o->h'.get? b=some o)->Q (some e.2) { s with heap:=h' })
  (h2:i=es.size->∀ h',(∀ b o,b ≠ I->s.heap.get? b=some o->h'.get? b=some o)->Q none { s with heap:=h' }):wpAny (model prog w) A (pyNext (.ref I)) Q E s:=by
 refine aou hit ?_
 obtain ⟨o,ho,hc,hdt⟩:=id hit
 unfold Builtin.«set_iterator.__next__»
 refine wpAny_bind (wpAny_pure (wpAny_bind (wpAny_fieldsOf ho hdt ?_)))
 show wpAny _ _ (setEntries a >>= _) _ _ s
 refine wpAny_bind (afl x ?_)
 rw [if_neg (by simp)]
 show wpAny _ _ (seqItems? (.ref tu) >>= _) _ _ s
 refine wpAny_bind (wpAny_seqItems hT rfl ?_)
 dsimp only
 have hlen:pl.length=es.size:=by rw [hp.length_eq,List.length_range]
 have ei:(rawInt (i:Int))=.int i 0:=rfl
 rcases Nat.lt_or_ge i es.size with hlt | hge
 ·have hj:pl[i]?=some pl[i]:=List.getElem?_eq_getElem (by omega)
  have e1:(pl.map fun (i:Nat)=>rawInt i).toArray[(i:Int).toNat]?=some (rawInt pl[i]):=by
   rw [Int.toNat_natCast,List.getElem?_toArray,List.getElem?_map,hj];rfl
  rw [e1]
  have hm:pl[i] < es.size:=List.mem_range.mp (hp.mem_iff.mp (List.getElem_mem _))
  have e2:es[pl[i]]?=some es[pl[i]]:=Array.getElem?_eq_getElem hm
  show wpAny _ _ (setNextDrawn a pl[i] ep >>= _) _ _ s
  unfold setNextDrawn
  refine wpAny_bind (wpAny_bind (ado x ?_))
  dsimp only
  rw [if_neg (by simp),e2]
  refine wpAny_pure ?_
  refine wpAny_bind (adp hit (by simp) ?_)
  have hit1:=upd2 (b:=.none) hit 1 (rawInt ((i+1:Nat):Int)) #[.ref tu,rawInt ((i+1:Nat):Int),.ref a,rawInt es.size,rawInt ep] rfl
  exact wpAny_pure ⟨_,rfl,h1 _ _ _ hj e2 hit1 fun b o hb e=>(Heap.get?_update_other _ _ (Ne.symm hb)).trans e⟩
 ·have e1:(pl.map fun (i:Nat)=>rawInt i).toArray[(i:Int).toNat]?=none:=by
   rw [Int.toNat_natCast,List.getElem?_toArray,List.getElem?_map,List.getElem?_eq_none_iff.mpr (by omega)];rfl
  rw [e1]
  dsimp only
  refine wpAny_bind (adp hit (by simp) ?_)
  have hit1:=upd2 (b:=.none) hit 0 (rawInt 0) #[rawInt 0,rawInt i,.ref a,rawInt es.size,rawInt ep] rfl
  refine wpAny_bind (adp (s:={ s with heap:=_ }) hit1 (by simp) ?_)
  refine aov (s:={ s with heap:=(s.heap.update I _).update I _ }) hh fun h' k=>h2 (by omega) h' fun b o hb e=>k b o ((Heap.get?_update_other _ _ (Ne.symm hb)).trans ((Heap.get?_update_other _ _ (Ne.symm hb)).trans e))
noncomputable def ordD (es:Array (Int × Value)) (pl:List Nat):List Value:=pl.map fun j=>(es.toList.map (·.2)).getD j .none
theorem ar2 {pl:List Nat} (hp:pl.Perm (List.range es.size)):(ordD es pl).Perm (es.toList.map (·.2)):=by
 refine (hp.map _).trans (List.Perm.of_eq ?_)
 refine List.ext_getElem (by simp) fun i h1 h2=>?_
 have:i < es.size:=by simpa using h1
 simp [List.getD_eq_getElem?_getD,this]
theorem azj {tu:Addr} {pl:List Nat} (hh:A.handled=none) (hne:a ≠ I) (hnt:tu ≠ I) (hp:pl.Perm (List.range es.size)):Walks prog w A I [I,a,tu] [I] es.size (fun i v=>(ordD es pl)[i]?=some v)
  (fun i h=>IsIt h I #[.ref tu,rawInt i,.ref a,rawInt es.size,rawInt ep]/\SetR prog w a es ep t h/\h.get? tu=some (tuO pl)) where
 sub:=fun b hb=>by simp at hb;simp [hb]
 frame:=fun _ _ _ st hk=>let ⟨h1,h2,h3⟩:=st;⟨h1.at fun o e=>hk I (by simp) o e,h2.at fun o e=>hk a (by simp) o e,hk tu (by simp) _ h3⟩
 item:=fun i s Q E hi st hQ=>by
  obtain ⟨h1,h2,h3⟩:=st
  refine avf hh h1 h3 h2 hp (Nat.le_of_lt hi) (fun e h' j hj he hit k=>?_) fun hz=>by omega
  refine hQ _ h' s.toks ?_ ⟨hit,h2.at fun o e=>k a o hne e,k tu _ hnt h3⟩ fun b o hb e=>k b o (fun z=>hb (by simp [z])) e
  unfold ordD
  rw [List.getElem?_map,hj]
  simp [List.getD_eq_getElem?_getD,he]
 done:=fun s Q E st hQ=>by
  obtain ⟨h1,h2,h3⟩:=st
  refine avf hh h1 h3 h2 hp (Nat.le_refl _) (fun e h' j hj he hit k=>?_) fun hz h' k=>hQ h' s.toks fun b o hb e=>k b o (fun z=>hb (by simp [z])) e
  have:=(List.getElem?_eq_some_iff.mp hj).1
  rw [hp.length_eq,List.length_range] at this
  omega
 self:=fun _ _ _ _ st hQ=>aox st.1 hQ
end
section
variable {prog:Program} {w:World} {A:Around} {E:Value->Shared->Prop} {s:Shared} {a:Addr} {es:Array (Int × Value)} {ep:Nat} {t:SetTable}
theorem aw5 {Q:Bool->Shared->Prop} (hT:s.TypeIs (.ref a) "set") (h:Q false s):wpAny (model prog w) A (Builtin.List.listLengthHint (.ref a)) Q E s:=by
 unfold Builtin.List.listLengthHint
 refine wpAny_bind (wpAny_specialOf hT PySem.F.slot_set_len.lookup ?_)
 generalize hid:("set.__len__" : String)=id0
 wp_delta
 rw [show splitId id0=some ("set","__len__") from by subst hid;decide +kernel]
 subst hid
 refine wpAny_bind (wpAny_isInstance (T:="set") (b:=true) hT sub_set_self ?_)
 refine wpAny_ite_split (fun hab=>absurd hab (by decide)) (fun _=>?_)
 refine wpAny_ite_split (fun _=>?_) (fun hab=>absurd (by decide +kernel) hab)
 refine wpAny_bind (wpAny_typeOf hT ?_)
 exact wpAny_pure h
theorem auk {vals:List Value} {acc:Array Value} (h:ItemsOf (fun i v=>vals[i]?=some v) acc vals.length):acc.toList=vals:=by
 obtain ⟨h1,h2⟩:=h
 refine List.ext_getElem (by simpa using h1) fun i a1 a2=>?_
 have:=h2 i acc.toList[i] (by rw [← Array.getElem?_toList];exact List.getElem?_eq_getElem a1)
 exact (Option.some.inj ((List.getElem?_eq_getElem a2).symm.trans this)).symm
theorem azk {R:Result->Shared->Prop} (hh:A.handled=none) (x:SetR prog w a es ep t s.heap) (hz:es.size<=sizeLine) (S:Addr) (hSa:S ≠ a) (res:Value) (c₀:Nat) (hS:s.heap.get? S=some { cls:=.type "list",data:=.seq #[] c₀ })
  (hR:∀ h' tk d acc c,(∀ b o,b ≠ S->s.heap.get? b=some o->h'.get? b=some o)->h'.get? S=some { cls:=.type "list",dict:=none,data:=.seq acc c,slots:=#[] }->acc.toList.Perm (es.toList.map (·.2))->R (.ok (.ret res)) { s with heap:=h',toks:=tk,drawn:=d }) :
  wpAny (model prog w) A.in1 (Builtin.List.listExtendWith (.ref S) (.ref a) res)
   (fun fin s'=>match fin with | .done f=>R (.ok f) s' | .again c'=>c'.quiet=true/\codeAny (model prog w) A c' R s') (fun e s'=>R (.error e) s') s:=by
 have key:∀ (I:Addr) (fp:List Addr) (St:Nat->Heap->Prop) (vals:List Value) (d:Drawn) (h:Heap) (c₁:Nat) (tk:Nat),Walks prog w A.in1 I fp [I] es.size (fun i v=>vals[i]?=some v) St->S ∉ fp->s.heap.objs.size<=I->vals.Perm (es.toList.map (·.2))->St 0 h->(∀ b o,b ≠ S->s.heap.get? b=some o->h.get? b=some o) ->
   h.get? S=some { cls:=.type "list",data:=.seq #[] c₁ }->codeAny (model prog w) A (.builtin "list.extend.loop" ⟨[.ref S,.ref I,res],[]⟩) R { s with heap:=h,toks:=tk,drawn:=d }:=by
  intro I fp St vals d h c₁ tk W hSf hI hp hst hk hS₁
  refine codeAny_extend_loopS W.toS hz S hSf res es.size 0 _ #[] c₁ rfl (Nat.zero_le _) hst hS₁ (ItemsOf.nil _) fun s' acc' c' hm hS' hacc=>?_
  have hl:es.size=vals.length:=by rw [hp.length_eq,List.length_map,Array.length_toList]
  rw [hl] at hacc
  rw [Moved.eq_with hm]
  refine hR s'.heap s'.toks d acc' c' (fun b o hb e=>hm.heap b o (fun hmem=>?_) (hk b o hb e)) hS' (by rw [auk hacc];exact hp)
  rcases List.mem_cons.mp hmem with e' | hmem
  ·exact hb e'
  ·rw [List.mem_singleton] at hmem
   subst hmem
   exact absurd (Heap.lt_size e) (Nat.not_lt.mpr hI)
 have hSlt:=Heap.lt_size hS
 have halt:a < s.heap.objs.size:=let ⟨_,e,_⟩:=x;Heap.lt_size e
 unfold Builtin.List.listExtendWith
 refine wpAny_bind (wpAny_typeOf (T:="set") x.ty ?_)
 have h1:Builtin.List.listSameRef (.ref S) (.ref a)=false:=by simp [Builtin.List.listSameRef,hSa]
 have h2:(Value.type "set" == Value.type "list")=false:=by decide
 have h3:(Value.type "set" == Value.type "tuple")=false:=by decide
 simp only [h1,h2,h3,Bool.or_false,Bool.false_eq_true,if_false]
 have touch:∀ (rm:Bool) (I:Addr) (fp:List Addr) (St:Nat->Heap->Prop) (vals:List Value) (d:Drawn) (h:Heap),Walks prog w A.in1 I fp [I] es.size (fun i v=>vals[i]?=some v) St->S ∉ fp->s.heap.objs.size<=I->vals.Perm (es.toList.map (·.2))->St 0 h->(∀ b o,s.heap.get? b=some o->h.get? b=some o)->
   wpAny (model prog w) A.in1 (holding [.ref I] (Builtin.List.listLengthHint (.ref a)) >>= fun room=>if (room || rm)=true then (rule "list.extend.makes-room" >>= fun _=>Builtin.List.listTouch (.ref S) >>= fun _=>again (.builtin "list.extend.loop" ⟨[.ref S,.ref I,res],[]⟩)) else again (.builtin "list.extend.loop" ⟨[.ref S,.ref I,res],[]⟩)) (fun fin s'=>match fin with | .done f=>R (.ok f) s' | .again c'=>c'.quiet=true/\codeAny (model prog w) A c' R s') (fun e s'=>R (.error e) s') { s with heap:=h,drawn:=d }:=by
  intro rm I fp St vals d h W hSf hI hp st hk
  have hS₁:=hk _ _ hS
  refine wpAny_bind (wpAny_holding (aw5 (s:={ s with heap:=h,drawn:=d }) (SetR.ty (s:={ s with heap:=h,drawn:=d }) (x.at fun o e=>hk a o e)) ?_))
  refine wpAny_ite_split (fun _=>?_) (fun _=>wpAny_pure ⟨plainId_quiet PySem.F.plain_extend_loop _,key I fp St vals d h c₀ _ W hSf hI hp st (fun b o _ e=>hk b o e) hS₁⟩)
  refine wpAny_bind (wpAny_rule ?_)
  refine wpAny_bind ?_
  show wpAny _ _ (updateSeq S (·.push .none) >>= fun _=>updateSeq S (·.pop)) _ _ _
  refine wpAny_bind (wpAny_updateSeq hS₁ rfl ?_)
  have hS₂:=Heap.get?_update_self (Obj.mapSeq (·.push Value.none)) hS₁ rfl
  refine wpAny_updateSeq (hz:=by seq_fits) hS₂ rfl ?_
  have hS₃:=Heap.get?_update_self (Obj.mapSeq (·.pop)) hS₂ rfl
  refine wpAny_pure ⟨plainId_quiet PySem.F.plain_extend_loop _,key I fp St vals d _ _ _ W hSf hI hp ?_ (fun b o hb e=>?_) hS₃⟩
  ·refine W.frame 0 _ _ st fun b hb o e=>?_
   have hbS:b ≠ S:=fun h=>hSf (h ▸ hb)
   exact (Heap.get?_update_other _ _ (Ne.symm hbS)).trans ((Heap.get?_update_other _ _ (Ne.symm hbS)).trans e)
  ·exact (Heap.get?_update_other _ _ (Ne.symm hb)).trans ((Heap.get?_update_other _ _ (Ne.symm hb)).trans (hk b o e))
 refine wpAny_bind (aw3 x hz (fun hd=>?_) fun hd pl d hp=>?_)
 ·exact touch _ s.heap.objs.size _ _ ((ord w a es ep).map (·.2)) s.drawn _ (walks (A:=A.in1) (prog:=prog) (w:=w) (t:=t) (ep:=ep) hh (Nat.ne_of_lt halt) hd) (by simp only [List.mem_cons,List.not_mem_nil,or_false,not_or];exact ⟨Nat.ne_of_lt hSlt,hSa⟩) (Nat.le_refl _) (ord_perm.map _)
   ⟨0,⟨_,Heap.get?_push_size _ rfl,rfl,rfl⟩,x.at fun o e=>Heap.get?_push_of_some _ e,fun _=>rfl⟩ fun b o e=>Heap.get?_push_of_some _ e
 ·refine touch _ (s.heap.objs.size+1) _ _ (ordD es pl) d _ (azj (A:=A.in1) (prog:=prog) (w:=w) (t:=t) (ep:=ep) (tu:=s.heap.objs.size) hh (Nat.ne_of_lt (Nat.lt_succ_of_lt halt)) (Nat.ne_of_lt (Nat.lt_succ_self _)) hp) (by simp only [List.mem_cons,List.not_mem_nil,or_false,not_or];exact ⟨Nat.ne_of_lt (Nat.lt_succ_of_lt hSlt),hSa,Nat.ne_of_lt hSlt⟩) (Nat.le_succ _) (ar2 hp)
   ⟨⟨itO (.ref s.heap.objs.size) a es.size ep,?_,rfl,rfl⟩,x.at fun o e=>Heap.get?_push_of_some _ (Heap.get?_push_of_some _ e),Heap.get?_push_of_some _ (Heap.get?_push_size _ rfl)⟩ fun b o e=>Heap.get?_push_of_some _ (Heap.get?_push_of_some _ e)
  have:=Heap.get?_push_size (s.heap.push (tuO pl)) (o:=itO (.ref s.heap.objs.size) a es.size ep) rfl
  rw [Heap.size_push] at this
  exact this
theorem ani {Q:List Value->Shared->Prop} (hh:A.handled=none) (x:SetR prog w a es ep t s.heap) (hz:es.size<=sizeLine)
  (hQ:∀ h' tk d (vs:List Value),(∀ b o,s.heap.get? b=some o->h'.get? b=some o)->s.heap.objs.size<=h'.objs.size->vs.Perm (es.toList.map (·.2))->Q vs { s with heap:=h',toks:=tk,drawn:=d }):wpAny (model prog w) A (collect (.ref a)) Q E s:=by
 unfold collect
 refine wpAny_bind (wpAny_runValue (codeAny_builtin PySem.F.entry_proto_collect ?a1))
 case a1 =>
  rw [Around.under_plainId PySem.F.plain_proto_collect _];show wpAny _ A.in1 (newList [] >>= fun l=>again (.builtin "list.__iadd__" ⟨[l,.ref a],[]⟩)) _ _ s
  refine wpAny_bind (wpAny_newObj_type (wpAny_pure ⟨plainId_quiet PySem.F.plain_list_iadd _,codeAny_builtin PySem.F.entry_list_iadd ?a2⟩))
  case a2 =>
   rw [Around.under_plainId PySem.F.plain_list_iadd _];show wpAny _ A.in1 (Builtin.List.listExtendWith (.ref s.heap.objs.size) (.ref a) (.ref s.heap.objs.size)) _ _ _
   have hS:(s.heap.push { cls:=.type "list",data:=.seq ([]:List Value).toArray }).get? s.heap.objs.size=some { cls:=.type "list",data:=.seq #[] 0 }:=Heap.get?_push_size _ rfl
   have halt:a < s.heap.objs.size:=let ⟨_,e,_⟩:=x;Heap.lt_size e
   refine azk (R:=wants (fun v s'=>wpAny (model prog w) A (match v with | .ref a=>(do match (← load a).data with | .seq xs _=>pure xs.toList | _=>unsupported "internal:collect") | _=>unsupported "internal:collect") Q E s') E) (s:={ s with heap:=s.heap.push { cls:=.type "list",data:=.seq ([]:List Value).toArray } }) hh (x.at fun o e=>Heap.get?_push_of_some _ e) hz s.heap.objs.size (Nat.ne_of_gt halt) _ 0 hS (fun h' tk d acc c k hS' hacc=>?a3)
   case a3 =>
    show wpAny (model prog w) A _ Q E _
    refine wpAny_bind (wpAny_load hS' ?a4)
    case a4=>exact wpAny_pure (hQ h' tk d acc.toList (fun b o e=>k b o (Nat.ne_of_lt (Heap.lt_size e)) (Heap.get?_push_of_some _ e)) (Nat.le_of_lt (Heap.lt_size hS')) hacc)
end
section
variable {prog:Program} {w:World} {A:Around} {E:Value->Shared->Prop} {s:Shared} {a:Addr}
end
end SS
namespace L2
open PySem PySem.W PyProof.Rows
section
variable {X:Cx}
theorem Inv.drawn' {pins:List (Addr × Obj)} {σ:St} {H:Hp} {s:Shared} (I:Inv X pins σ H s) (d:Drawn):Inv X pins σ H { s with drawn:=d }:=⟨I.ok,I.os,I.bare,I.base,I.loc,I.cell,I.free,I.freeC,I.pin,I.hok,I.len⟩
end
end L2
namespace VL
open PySem PySem.Spec L2
section
variable {B:Bs} {env:En} {QO:Sl->En->Prop} {K:Frag} {ta:TA} {P:Program} {w:World}
end
end VL
namespace SH
open PySem PySem.SetTable
noncomputable def it:Nat->Nat->Nat
 | 0,x=>x
 | n+1,x=>it n (5 * x+1)
theorem ah3:∀ (a b x:Nat),it (a+b) x=it b (it a x)
 | 0,b,x=>by rw [Nat.zero_add];rfl
 | a+1,b,x=>by rw [Nat.add_right_comm];exact ah3 a b (5 * x+1)
theorem azl (m:Nat):∃ c d:Nat,∀ x,it (2 ^ m) x=(1+2 ^ (m+2) * c) * x+2 ^ m * (2 * d+1):=by
 induction m with
 | zero=>exact ⟨1,0,fun x=>by show 5 * x+1=_;omega⟩
 | succ m ih =>
  obtain ⟨c,d,h⟩:=ih
  refine ⟨c+2 ^ (m+1) * (c * c),d+2 ^ m * c * (2 * d+1),fun x=>?_⟩
  rw [show 2 ^ (m+1)=2 ^ m+2 ^ m by rw [Nat.pow_succ];omega,ah3,h,h]
  have e1:2 ^ (m+2)=4 * 2 ^ m:=by rw [Nat.pow_add];omega
  have e2:2 ^ (m+1+2)=8 * 2 ^ m:=by rw [Nat.pow_add,Nat.pow_succ];omega
  rw [e1,e2]
  generalize 2 ^ m=P
  grind
theorem azm (m:Nat) (x j:Nat):∃ r,r < 2 ^ m/\it r x % 2 ^ m=j % 2 ^ m:=by
 induction m with
 | zero=>exact ⟨0,by decide,by rw [Nat.pow_zero,Nat.mod_one,Nat.mod_one]⟩
 | succ m ih =>
  obtain ⟨r,hr,e⟩:=ih
  obtain ⟨c,d,h⟩:=azl m
  have hp:0 < 2 ^ m:=Nat.pow_pos (by decide)
  have e2:2 ^ (m+1)=2 ^ m * 2:=Nat.pow_succ ..
  have e4:2 ^ (m+2)=2 ^ m * 4:=by rw [Nat.pow_add]
  rw [e2]
  have m1:=Nat.mod_mul (x:=it r x) (a:=2 ^ m) (b:=2)
  have m2:=Nat.mod_mul (x:=j) (a:=2 ^ m) (b:=2)
  by_cases hq:it r x / 2 ^ m % 2=j / 2 ^ m % 2
  ·exact ⟨r,by omega,by rw [m1,m2,e,hq]⟩
  ·refine ⟨r+2 ^ m,by omega,?_⟩
   rw [ah3,h,e4]
   have e5:(1+2 ^ m * 4 * c) * it r x+2 ^ m * (2 * d+1)=it r x+2 ^ m * (4 * (c * it r x)+2 * d+1):=by
    generalize 2 ^ m=P
    grind
   rw [e5,Nat.mod_mul,m2,Nat.add_mul_mod_self_left,e,Nat.add_mul_div_left _ _ hp]
   have:(it r x / 2 ^ m+(4 * (c * it r x)+2 * d+1)) % 2=j / 2 ^ m % 2:=by
    generalize c * it r x=z
    omega
   rw [this]
theorem aw6 (r x:Nat):it (r+1) x=5 * it r x+1:=by rw [ah3];rfl
noncomputable def adv (mask:Nat) (p:Probe):Probe:=if p.more > 0 then { p with j:=p.j+1,more:=p.more - 1 } else { p with j:=(leap mask p.i p.perturb).1,more:=runEnd mask (leap mask p.i p.perturb).1 - (leap mask p.i p.perturb).1,i:=(leap mask p.i p.perturb).1,perturb:=(leap mask p.i p.perturb).2 }
noncomputable def pr0 (mask:Nat) (h:Int):Probe:={ j:=bits h % (mask+1),more:=runEnd mask (bits h % (mask+1)) - bits h % (mask+1),i:=bits h % (mask+1),perturb:=bits h,dummy:=none }
noncomputable def pr (mask:Nat) (h:Int):Nat->Probe
 | 0=>pr0 mask h
 | k+1=>adv mask (pr mask h k)
theorem amf (mask:Nat) (h:Int):∀ k,(pr mask h k).dummy=none
 | 0=>rfl
 | k+1=>by
  have:=amf mask h k
  show (adv mask (pr mask h k)).dummy=none
  unfold adv
  split <;> exact this
noncomputable def lp (mask:Nat) (h:Int):Nat->Nat × Nat
 | 0=>(bits h % (mask+1),bits h)
 | n+1=>leap mask (lp mask h n).1 (lp mask h n).2
noncomputable def pAt (mask:Nat) (q:Nat × Nat) (a:Nat):Probe:={ j:=q.1+a,more:=runEnd mask q.1 - q.1 - a,i:=q.1,perturb:=q.2,dummy:=none }
theorem azn (mask i:Nat):runEnd mask i - i<=9:=by unfold runEnd;split <;> omega
theorem amg {mask:Nat} {h:Int} {s:Nat} {q:Nat × Nat} (e:pr mask h s=pAt mask q 0):∀ a,a<=runEnd mask q.1 - q.1->pr mask h (s+a)=pAt mask q a
 | 0,_=>e
 | a+1,ha=>by
  have ih:=amg e a (by omega)
  show adv mask (pr mask h (s+a))=_
  rw [ih]
  unfold adv pAt
  rw [if_pos (by show runEnd mask q.1 - q.1 - a > 0;omega)]
  show Probe.mk _ _ _ _ _=Probe.mk _ _ _ _ _
  congr 1
theorem aw7 {mask:Nat} {h:Int} {s:Nat} {q:Nat × Nat} (e:pr mask h s=pAt mask q 0):pr mask h (s+(runEnd mask q.1 - q.1)+1)=pAt mask (leap mask q.1 q.2) 0:=by
 have:=amg e _ (Nat.le_refl _)
 show adv mask (pr mask h (s+_))=_
 rw [this]
 unfold adv pAt
 rw [if_neg (by show ¬ (runEnd mask q.1 - q.1 - (runEnd mask q.1 - q.1) > 0);omega)]
 rfl
noncomputable def sp (mask:Nat) (h:Int):Nat->Nat
 | 0=>0
 | n+1=>sp mask h n+(runEnd mask (lp mask h n).1 - (lp mask h n).1)+1
theorem avg (mask:Nat) (h:Int):∀ n,sp mask h n<=10 * n
 | 0=>Nat.le_refl _
 | n+1=>by
  have:=avg mask h n
  have:=azn mask (lp mask h n).1
  unfold sp
  omega
theorem ap3 (mask:Nat) (h:Int):∀ n,pr mask h (sp mask h n)=pAt mask (lp mask h n) 0
 | 0=>rfl
 | n+1=>aw7 (ap3 mask h n)
theorem aoy (mask:Nat) (h:Int):∀ n,(lp mask h n).2=bits h / 32 ^ n
 | 0=>by show bits h=_;rw [Nat.pow_zero,Nat.div_one]
 | n+1=>by
  show (lp mask h n).2 / 32=_
  rw [aoy mask h n,Nat.div_div_eq_div_mul,Nat.pow_succ]
theorem aw8 (h:Int):bits h < 2 ^ 64:=by
 unfold bits
 have h1:=Int.emod_nonneg h (show (2 ^ 64:Int) ≠ 0 by decide)
 have h2:=Int.emod_lt_of_pos h (show (0:Int) < 2 ^ 64 by decide)
 omega
theorem aw9 (mask:Nat) (h:Int) (r:Nat):(lp mask h (13+r)).2=0:=by
 rw [aoy]
 apply Nat.div_eq_of_lt
 refine Nat.lt_of_lt_of_le (aw8 h) ?_
 rw [Nat.pow_add]
 exact Nat.le_trans (show 2 ^ 64<=32 ^ 13 by decide) (Nat.le_mul_of_pos_right _ (Nat.pow_pos (by decide)))
theorem avh (mask:Nat) (h:Int):∀ r,(lp mask h (13+r)).1 % (mask+1)=it r (lp mask h 13).1 % (mask+1)
 | 0=>rfl
 | r+1=>by
  show ((lp mask h (13+r)).1 * 5+1+(lp mask h (13+r)).2 / 32) % (mask+1) % (mask+1)=_
  rw [aw9,aw6,Nat.mod_mod,show 0 / 32=0 from rfl,Nat.add_zero,Nat.add_mod,Nat.mul_mod,avh mask h r,← Nat.mul_mod,← Nat.add_mod,Nat.mul_comm]
theorem avi (mask:Nat) (h:Int):∀ n,(lp mask h n).1 < mask+1
 | 0=>Nat.mod_lt _ (Nat.succ_pos _)
 | n+1=>Nat.mod_lt _ (Nat.succ_pos _)
theorem ar3 {mask m:Nat} (hm:mask+1=2 ^ m) (h:Int) (j:Nat) (hj:j<=mask):∃ n,n < mask+14/\(lp mask h n).1=j:=by
 obtain ⟨r,hr,e⟩:=azm m (lp mask h 13).1 j
 refine ⟨13+r,by omega,?_⟩
 have h1:=avh mask h r
 rw [hm,e,← hm,Nat.mod_eq_of_lt (avi mask h _),Nat.mod_eq_of_lt (show j < mask+1 by omega)] at h1
 exact h1
theorem azo {mask m:Nat} (hm:mask+1=2 ^ m) (h:Int) (j:Nat) (hj:j<=mask):∃ k,k < 10 * turns mask/\(pr mask h k).j=j:=by
 obtain ⟨n,hn,e⟩:=ar3 hm h j hj
 refine ⟨sp mask h n,?_,by rw [ap3];exact e⟩
 have:=avg mask h n
 unfold turns
 omega
structure TOk (t:SetTable):Prop where
 ris:t.place.toList.Pairwise (· < ·)
 dum:t.dummies = #[]
 le:∀ j∈t.place.toList,j<=t.mask
 two:∃ m,t.mask+1=2 ^ m
 room:t.place.size<=t.mask
theorem ad6 {t:SetTable} (x:TOk t) {j i:Nat}:t.slot j=.live i ↔ t.place.toList[i]?=some j:=by
 have hb:=SS.below_ok t.place j x.ris
 unfold slot
 dsimp only
 rw [x.dum,SS.has_nil]
 constructor
 ·intro h
  split at h
  ·rename_i e
   cases h
   have e:=eq_of_beq e
   rw [Array.getElem?_toList]
   exact e
  ·cases h
 ·intro h
  obtain ⟨hi,e⟩:=List.getElem?_eq_some_iff.mp h
  have hbi:below t.place j=i:=by
   rcases Nat.lt_trichotomy (below t.place j) i with hl | hl | hl
   ·have h1:=hb.2.2 (below t.place j) (by omega) (Nat.le_refl _)
    have h2:=List.pairwise_iff_getElem.mp x.ris (below t.place j) i (by omega) hi hl
    omega
   ·exact hl
   ·have:=hb.2.1 i hi hl
    omega
  rw [hbi,if_pos (by rw [← Array.getElem?_toList,h];exact beq_self_eq_true _)]
theorem ah4 {t:SetTable} (x:TOk t) (j:Nat):t.slot j=.empty\/∃ i,t.slot j=.live i:=by
 unfold slot
 dsimp only
 rw [x.dum,SS.has_nil]
 split
 ·exact .inr ⟨_,rfl⟩
 ·exact .inl rfl
theorem adi {t:SetTable} (x:TOk t) {j:Nat}:t.slot j=.empty ↔ j ∉ t.place.toList:=by
 constructor
 ·intro h hm
  obtain ⟨i,hi⟩:=List.getElem?_of_mem hm
  rw [(ad6 x).mpr hi] at h
  cases h
 ·intro h
  rcases ah4 x j with e | ⟨i,e⟩
  ·exact e
  ·exact absurd (List.mem_of_getElem? ((ad6 x).mp e)) h
theorem ar4 {t:SetTable} (x:TOk t):∃ j,j<=t.mask/\t.slot j=.empty:=by
 apply Classical.byContradiction
 intro hn
 have hall:∀ j∈List.range (t.mask+1),j∈t.place.toList:=fun j hj=>by
  have hj:=List.mem_range.mp hj
  apply Classical.byContradiction
  intro h
  exact hn ⟨j,by omega,(adi x).mpr h⟩
 have:=List.Nodup.length_le_of_subset List.nodup_range hall
 rw [List.length_range,Array.length_toList] at this
 have:=x.room
 omega
theorem amh {t:SetTable} (x:TOk t) {ha:Nat->Int} {h:Int}:∀ (fuel k:Nat),(∃ k1,k<=k1/\k1 < k+fuel/\t.slot (pr t.mask h k1).j=.empty) ->
  ∃ k1,k<=k1/\k1 < k+fuel/\(∀ k',k<=k'->k' < k1->∃ i,t.slot (pr t.mask h k').j=.live i/\ha i ≠ h) /\
   ((t.slot (pr t.mask h k1).j=.empty ∧ probe.go t ha h fuel (pr t.mask h k)=some (.empty (pr t.mask h k1).j none)) ∨
    ∃ i,t.slot (pr t.mask h k1).j=.live i/\ha i=h/\probe.go t ha h fuel (pr t.mask h k)=some (.candidate (pr t.mask h k1).j i (pr t.mask h (k1+1))))
 | 0,k,⟨k1,h1,h2,_⟩=>by omega
 | fuel+1,k,⟨k1,h1,h2,h3⟩=>by
  rcases ah4 x (pr t.mask h k).j with e | ⟨i,e⟩
  ·refine ⟨k,Nat.le_refl _,by omega,fun k' a b=>by omega,.inl ⟨e,?_⟩⟩
   unfold probe.go
   rw [e,amf]
  ·by_cases hi:ha i=h
   ·refine ⟨k,Nat.le_refl _,by omega,fun k' a b=>by omega,.inr ⟨i,e,hi,?_⟩⟩
    unfold probe.go
    rw [e]
    dsimp only
    rw [if_pos (by rw [hi];exact beq_self_eq_true _)]
    rfl
   ·have hk1:k+1<=k1:=by
     rcases Nat.lt_or_eq_of_le h1 with h | h
     ·exact h
     ·rw [← h,e] at h3;cases h3
    obtain ⟨k2,a1,a2,a3,a4⟩:=amh x (ha:=ha) (h:=h) fuel (k+1) ⟨k1,hk1,by omega,h3⟩
    have eg:probe.go t ha h (fuel+1) (pr t.mask h k)=probe.go t ha h fuel (pr t.mask h (k+1)):=by
     conv=>lhs;unfold probe.go
     rw [e]
     dsimp only
     rw [if_neg (by intro z;exact hi (eq_of_beq z))]
     rfl
    refine ⟨k2,by omega,by omega,fun k' b1 b2=>?_,?_⟩
    ·rcases Nat.lt_or_eq_of_le b1 with b | b
     ·exact a3 k' (by omega) b2
     ·exact ⟨i,by rw [← b];exact e,hi⟩
    ·rw [eg]
     exact a4
def HI (t:SetTable) (es:List (Int × Value)):Prop:=es.length=t.place.size/\∀ (i:Nat) (e:Int × Value) (j:Nat),es[i]?=some e->t.place.toList[i]?=some j->∃ k,(pr t.mask e.1 k).j=j/\∀ k',k' < k->t.slot (pr t.mask e.1 k').j ≠ .empty
theorem HI.found {t:SetTable} {es:List (Int × Value)} (x:TOk t) (hI:HI t es) {h:Int} {k1:Nat} (he:t.slot (pr t.mask h k1).j=.empty) {i:Nat} {e:Int × Value} (hi:es[i]?=some e) (hh:e.1=h):∃ k,k < k1/\t.slot (pr t.mask h k).j=.live i:=by
 have hl:i < t.place.toList.length:=by rw [Array.length_toList,← hI.1];exact (List.getElem?_eq_some_iff.mp hi).1
 obtain ⟨k,e1,e2⟩:=hI.2 i e _ hi (List.getElem?_eq_getElem hl)
 rw [hh] at e1 e2
 have hs:t.slot (pr t.mask h k).j=.live i:=(ad6 x).mpr (by rw [e1];exact List.getElem?_eq_getElem hl)
 refine ⟨k,?_,hs⟩
 rcases Nat.lt_trichotomy k k1 with a | a | a
 ·exact a
 ·subst a;rw [he] at hs;cases hs
 ·exact absurd he (e2 k1 a)
theorem ins_get {α:Type} (l:List α) (p:Nat) (x : α) (hp:p<=l.length) (i:Nat):(l.take p ++ x :: l.drop p)[i]?=if i < p then l[i]? else if i=p then some x else l[i - 1]?:=by
 have hlen:(l.take p).length=p:=by rw [List.length_take];omega
 by_cases h1:i < p
 ·rw [if_pos h1,List.getElem?_append_left (by omega),List.getElem?_take,if_pos h1]
 ·rw [if_neg h1,List.getElem?_append_right (by omega),hlen]
  by_cases h2:i=p
  ·rw [if_pos h2,h2,Nat.sub_self];rfl
  ·rw [if_neg h2]
   obtain ⟨d,hd⟩:∃ d,i - p=d+1:=⟨i - p - 1,by omega⟩
   rw [hd,List.getElem?_cons_succ,List.getElem?_drop,show p+d=i - 1 by omega]
theorem ad7 (t:SetTable) (j:Nat):(t.put j).1.place.toList=t.place.toList.take (below t.place j) ++ j :: t.place.toList.drop (below t.place j):=SetTable.toList_insertAt ..
theorem aul (t:SetTable) (j:Nat):(t.put j).1.mask=t.mask:=rfl
theorem TOk.put {t:SetTable} (x:TOk t) {j:Nat} (hj:j<=t.mask) (he:t.slot j=.empty) (hr:t.place.size+1<=t.mask):TOk (t.put j).1:=by
 have hb:=SS.below_ok t.place j x.ris
 refine ⟨?_,?_,fun q hq=>?_,x.two,?_⟩
 ·refine SS.put_rise x.ris fun e=>?_
  exact (adi x).mp he (by rw [← Array.getElem?_toList] at e;exact List.mem_of_getElem? e)
 ·show (if has t.dummies j=true then _ else t.dummies) = #[]
  rw [x.dum,SS.has_nil];rfl
 ·rw [ad7] at hq
  rcases List.mem_append.mp hq with h | h
  ·exact x.le q (List.mem_of_mem_take h)
  ·rcases List.mem_cons.mp h with h | h
   ·rw [h];exact hj
   ·exact x.le q (List.mem_of_mem_drop h)
 ·have:(t.put j).1.place.toList.length=t.place.toList.length+1:=by
   rw [ad7,List.length_append,List.length_cons,List.length_take,List.length_drop]
   have:=hb.1
   simp only [Array.length_toList]
   omega
  simp only [Array.length_toList] at this
  rw [this]
  exact hr
theorem HI.put {t:SetTable} {es:List (Int × Value)} (x:TOk t) (hI:HI t es) {j:Nat} (hj:j<=t.mask) (hr:t.place.size+1<=t.mask) {e:Int × Value} {k1:Nat} (ej:(pr t.mask e.1 k1).j=j) (he:t.slot j=.empty) (hk:∀ k',k' < k1->t.slot (pr t.mask e.1 k').j ≠ .empty) :
  HI (t.put j).1 (es.take (below t.place j) ++ e :: es.drop (below t.place j)):=by
 have hb:=SS.below_ok t.place j x.ris
 have x':=x.put hj he hr
 have hle:es.length=t.place.toList.length:=by rw [Array.length_toList];exact hI.1
 have hbl:below t.place j<=t.place.toList.length:=by rw [Array.length_toList];exact hb.1
 have hmono:∀ q,t.slot q ≠ .empty->(t.put j).1.slot q ≠ .empty:=fun q hq z=>by
  rw [adi x'] at z
  refine hq ((adi x).mpr fun hm=>z ?_)
  rw [ad7]
  rw [← List.take_append_drop (below t.place j) t.place.toList] at hm
  rcases List.mem_append.mp hm with h | h
  ·exact List.mem_append_left _ h
  ·exact List.mem_append_right _ (List.mem_cons_of_mem _ h)
 refine ⟨?_,fun i e' j' hi hj'=>?_⟩
 ·have h1:(t.put j).1.place.toList.length=es.length+1:=by
   rw [ad7,List.length_append,List.length_cons,List.length_take,List.length_drop]
   omega
  rw [← Array.length_toList,h1,List.length_append,List.length_cons,List.length_take,List.length_drop]
  omega
 ·rw [ad7,ins_get _ _ _ hbl] at hj'
  rw [ins_get _ _ _ (by omega)] at hi
  rw [aul]
  by_cases h1:i < below t.place j
  ·rw [if_pos h1] at hi hj'
   obtain ⟨k,a1,a2⟩:=hI.2 i e' j' hi hj'
   exact ⟨k,a1,fun k' hk'=>hmono _ (a2 k' hk')⟩
  ·rw [if_neg h1] at hi hj'
   by_cases h2:i=below t.place j
   ·rw [if_pos h2] at hi hj'
    cases hi
    cases hj'
    exact ⟨k1,ej,fun k' hk'=>hmono _ (hk k' hk')⟩
   ·rw [if_neg h2] at hi hj'
    obtain ⟨k,a1,a2⟩:=hI.2 (i - 1) e' j' hi hj'
    exact ⟨k,a1,fun k' hk'=>hmono _ (a2 k' hk')⟩
noncomputable def ow (owner:Array (Option Nat)) (j:Nat):Option Nat:=owner.getD j none
theorem ap4 (f:Nat->Bool):∀ (n:Nat),(∃ k,(List.range n).find? f=some k/\k < n/\f k=true/\∀ k',k' < k->f k'=false)\/((List.range n).find? f=none/\∀ k',k' < n->f k'=false):=fun n=>by
 cases h:(List.range n).find? f with
 | none =>
  refine .inr ⟨rfl,fun k' hk=>?_⟩
  have:=List.find?_eq_none.mp h k' (List.mem_range.mpr hk)
  simpa using this
 | some k =>
  refine .inl ⟨k,rfl,List.mem_range.mp (List.mem_of_find?_eq_some h),List.find?_some h,fun k' hk=>?_⟩
  rw [List.find?_range_eq_some] at h
  have:=h.2.2 k' hk
  simpa using this
theorem aoz {mask:Nat} {owner:Array (Option Nat)} (hsz:owner.size=mask+1) {h:Int} {ne je:Nat} (hne:(lp mask h ne).1=je) (hje:ow owner je=none) (hjm:je<=mask):∀ (fuel n:Nat),n+fuel > ne->n<=ne->(∀ s',s' < sp mask h n->ow owner (pr mask h s').j ≠ none) ->
  ∃ s,layClean.free mask owner fuel (lp mask h n).1 (lp mask h n).2=some (pr mask h s).j/\ow owner (pr mask h s).j=none/\(pr mask h s).j<=mask/\∀ s',s' < s->ow owner (pr mask h s').j ≠ none
 | 0,n,h1,h2,_=>by omega
 | fuel+1,n,h1,h2,hall=>by
  have hl:=avi mask h n
  have hrun:runEnd mask (lp mask h n).1<=mask/\(lp mask h n).1<=runEnd mask (lp mask h n).1:=by unfold runEnd;split <;> omega
  have hg:∀ j,j<=mask->owner.getD j (some 0)=ow owner j:=fun j hj=>by
   unfold ow
   simp [Array.getD,hsz,show j < mask+1 by omega]
  have hat:∀ a,a<=runEnd mask (lp mask h n).1 - (lp mask h n).1->(pr mask h (sp mask h n+a)).j=(lp mask h n).1+a:=fun a ha=>by rw [amg (ap3 mask h n) a ha];rfl
  have hrest:∀ K,K<=runEnd mask (lp mask h n).1 - (lp mask h n).1+1->(∀ k',k' < K->(owner.getD ((lp mask h n).1+k') (some 0)).isNone=false)->∀ s',s' < sp mask h n+K->ow owner (pr mask h s').j ≠ none:=fun K hK hf s' hs'=>by
   by_cases hs:s' < sp mask h n
   ·exact hall s' hs
   ·obtain ⟨a,rfl⟩:∃ a,s'=sp mask h n+a:=⟨s' - sp mask h n,by omega⟩
    rw [hat a (by omega),← hg _ (by omega)]
    intro z
    have:=hf a (by omega)
    rw [z] at this
    cases this
  unfold layClean.free
  rcases ap4 (fun k=>(owner.getD ((lp mask h n).1+k) (some 0)).isNone) (runEnd mask (lp mask h n).1+1 - (lp mask h n).1) with ⟨k,e,hk,hfk,hfb⟩ | ⟨e,hf⟩
  ·rw [e]
   refine ⟨sp mask h n+k,by rw [hat k (by omega)],?_,by rw [hat k (by omega)];omega,hrest k (by omega) hfb⟩
   rw [hat k (by omega),← hg _ (by omega)]
   simpa using hfk
  ·rw [e]
   have hne':n ≠ ne:=fun z=>by
    subst z
    have:=hf 0 (by omega)
    rw [Nat.add_zero,hne,hg je hjm,hje] at this
    cases this
   have ih:=aoz hsz hne hje hjm fuel (n+1) (by omega) (by omega) (fun s' hs'=>hrest _ (Nat.le_refl _) (fun k' hk'=>hf k' (by omega)) s' (by
    have:sp mask h (n+1)=sp mask h n+(runEnd mask (lp mask h n).1 - (lp mask h n).1)+1:=rfl
    omega))
   exact ih
structure Lay (mask:Nat) (hs:List Int) (owner:Array (Option Nat)):Prop where
 sz:owner.size=mask+1
 at':∀ k h,hs[k]?=some h->∃ s,(pr mask h s).j<=mask/\ow owner (pr mask h s).j=some k/\∀ s',s' < s->ow owner (pr mask h s').j ≠ none
 un:∀ j k,ow owner j=some k->k < hs.length
 inj:∀ j j' k,ow owner j=some k->ow owner j'=some k->j=j'
theorem azp {owner:Array (Option Nat)} {j:Nat} (h:owner.size<=j):ow owner j=none:=by
 unfold ow
 simp [Array.getD,show ¬ (j < owner.size) by omega]
theorem Lay.start (mask:Nat):Lay mask [] (Array.replicate (mask+1) none):=by
 have hn:∀ j,ow (Array.replicate (mask+1) none) j=none:=fun j=>by
  unfold ow
  simp only [Array.getD]
  split
  ·simp
  ·rfl
 exact ⟨by simp,fun k h hk=>by simp at hk,fun j k e=>(by rw [hn] at e;cases e),fun j j' k e=>(by rw [hn] at e;cases e)⟩
theorem Lay.gap {mask:Nat} {hs:List Int} {owner:Array (Option Nat)} (x:Lay mask hs owner) (hl:hs.length<=mask):∃ j,j<=mask/\ow owner j=none:=by
 apply Classical.byContradiction
 intro hn
 have hall:∀ j,j<=mask->∃ k,ow owner j=some k:=fun j hj=>by
  cases e:ow owner j with
  | some k=>exact ⟨k,rfl⟩
  | none=>exact absurd ⟨j,hj,e⟩ hn
 have hnd:((List.range (mask+1)).map fun j=>(ow owner j).getD 0).Nodup:=by
  rw [List.Nodup,List.pairwise_map]
  refine List.Pairwise.imp_of_mem (fun {a b} ha hb hab=>?_) List.nodup_range
  obtain ⟨k,hk⟩:=hall a (by have:=List.mem_range.mp ha;omega)
  obtain ⟨k',hk'⟩:=hall b (by have:=List.mem_range.mp hb;omega)
  rw [hk,hk']
  intro e
  have e:k=k':=e
  subst e
  exact hab (x.inj a b k hk hk')
 have:=List.Nodup.length_le_of_subset (l₂:=List.range hs.length) hnd fun k hk=>by
  obtain ⟨j,hj,rfl⟩:=List.mem_map.mp hk
  obtain ⟨k,e⟩:=hall j (by have:=List.mem_range.mp hj;omega)
  rw [e]
  exact List.mem_range.mpr (x.un j k e)
 rw [List.length_map,List.length_range,List.length_range] at this
 omega
theorem af5 {owner:Array (Option Nat)} {j q:Nat} {o:Option Nat} (hj:j < owner.size):ow (owner.setIfInBounds j o) q=if q=j then o else ow owner q:=by
 unfold ow
 simp only [Array.getD,Array.size_setIfInBounds]
 by_cases e:q=j
 ·subst e
  simp [hj]
 ·rw [if_neg e]
  split
  ·rename_i hq
   simp [Array.getElem_setIfInBounds,hq,Ne.symm e]
  ·rfl
theorem Lay.next {mask m:Nat} (hm:mask+1=2 ^ m) {hs:List Int} {owner:Array (Option Nat)} (x:Lay mask hs owner) (hl:hs.length<=mask) (h:Int) :
  ∃ j,layClean.free mask owner (turns mask) (bits h % (mask+1)) (bits h)=some j/\Lay mask (hs ++ [h]) (owner.setIfInBounds j (some hs.length)):=by
 obtain ⟨je,hje,he⟩:=x.gap hl
 obtain ⟨ne,hne,el⟩:=ar3 hm h je hje
 obtain ⟨s,e1,e2,e3,e4⟩:=aoz x.sz el he hje (turns mask) 0 (by unfold turns;omega) (Nat.zero_le _) (fun s' hs'=>by cases hs')
 have hjs:(pr mask h s).j < owner.size:=by rw [x.sz];omega
 have hmono:∀ q,ow owner q ≠ none->ow (owner.setIfInBounds (pr mask h s).j (some hs.length)) q ≠ none:=fun q hq=>by
  rw [af5 hjs]
  split
  ·simp
  ·exact hq
 refine ⟨_,e1,⟨by rw [Array.size_setIfInBounds];exact x.sz,fun k h' hk=>?_,fun j k e=>?_,fun j j' k e e'=>?_⟩⟩
 ·by_cases hkl:k < hs.length
  ·rw [List.getElem?_append_left hkl] at hk
   obtain ⟨s2,a1,a2,a3⟩:=x.at' k h' hk
   refine ⟨s2,a1,?_,fun s' hs'=>hmono _ (a3 s' hs')⟩
   rw [af5 hjs,if_neg (fun z=>by rw [z,e2] at a2;cases a2)]
   exact a2
  ·have hk2:=(List.getElem?_eq_some_iff.mp hk).1
   rw [List.length_append] at hk2
   simp at hk2
   have:k=hs.length:=by omega
   subst this
   rw [List.getElem?_append_right (Nat.le_refl _),Nat.sub_self] at hk
   cases hk
   exact ⟨s,e3,by rw [af5 hjs,if_pos rfl],fun s' hs'=>hmono _ (e4 s' hs')⟩
 ·rw [af5 hjs] at e
  rw [List.length_append]
  split at e
  ·cases e;simp
  ·have:=x.un j k e;omega
 ·rw [af5 hjs] at e e'
  split at e
  ·rename_i h1
   cases e
   split at e'
   ·rename_i h2;rw [h1,h2]
   ·have:=x.un j' _ e';omega
  ·split at e'
   ·cases e'
    have:=x.un j _ e;omega
   ·exact x.inj j j' k e e'
theorem ami {mask m:Nat} (hm:mask+1=2 ^ m):∀ (rest pre:List Int) (owner:Array (Option Nat)),Lay mask pre owner->pre.length+rest.length<=mask+1 ->
  ∃ owner',rest.foldl (fun (acc:Option (Array (Option Nat) × Nat)) h=>do
   let (owner,k) ← acc
   let j ← layClean.free mask owner (turns mask) (bits h % (mask+1)) (bits h)
   pure (owner.setIfInBounds j (some k),k+1)) (some (owner,pre.length))=some (owner',pre.length+rest.length)/\Lay mask (pre ++ rest) owner'
 | [],pre,owner,x,_=>⟨owner,rfl,by rw [List.append_nil];exact x⟩
 | h :: rest,pre,owner,x,hl=>by
  rw [List.length_cons] at hl
  obtain ⟨j,e,y⟩:=x.next hm (by omega) h
  obtain ⟨o',a1,a2⟩:=ami hm rest (pre ++ [h]) _ y (by rw [List.length_append,List.length_singleton];omega)
  refine ⟨o',?_,by rw [List.append_assoc] at a2;exact a2⟩
  rw [List.length_append,List.length_singleton] at a1
  rw [List.foldl_cons,List.length_cons]
  have e0:(do
   let (owner,k) ← (some (owner,pre.length):Option (Array (Option Nat) × Nat))
   let j ← layClean.free mask owner (turns mask) (bits h % (mask+1)) (bits h)
   pure (owner.setIfInBounds j (some k),k+1))=some (owner.setIfInBounds j (some pre.length),pre.length+1):=by
   show (layClean.free mask owner (turns mask) (bits h % (mask+1)) (bits h) >>= fun j=>pure (owner.setIfInBounds j (some pre.length),pre.length+1))=_
   rw [e]
   rfl
  rw [e0,a1]
  congr 2
  omega
theorem azq {mask m:Nat} (hm:mask+1=2 ^ m) (hs:Array Int) (hl:hs.size<=mask+1):∃ owner,layClean mask hs=some owner/\Lay mask hs.toList owner:=by
 obtain ⟨o,e,x⟩:=ami hm hs.toList [] _ (Lay.start mask) (by simpa using hl)
 refine ⟨o,?_,by simpa using x⟩
 unfold layClean
 rw [← Array.foldl_toList]
 have e':hs.toList.foldl (fun (acc:Option (Array (Option Nat) × Nat)) h=>do
   let (owner,k) ← acc
   let j ← layClean.free mask owner (turns mask) (bits h % (mask+1)) (bits h)
   pure (owner.setIfInBounds j (some k),k+1)) (some (Array.replicate (mask+1) none,0))=_:=e
 rw [e']
 rfl
noncomputable def live (owner:Array (Option Nat)) (mask:Nat):List (Nat × Nat):=(List.range (mask+1)).filterMap fun j=>(owner.getD j none).map (j,·)
theorem live_mem {owner:Array (Option Nat)} {mask j k:Nat}:(j,k)∈live owner mask ↔ j<=mask/\ow owner j=some k:=by
 unfold live ow
 rw [List.mem_filterMap]
 constructor
 ·rintro ⟨j',hj,e⟩
  have hj:=List.mem_range.mp hj
  cases h:owner.getD j' none with
  | none=>rw [h] at e;cases e
  | some k'=>rw [h] at e;cases e;exact ⟨by omega,h⟩
 ·rintro ⟨hj,e⟩
  exact ⟨j,List.mem_range.mpr (by omega),by rw [e];rfl⟩
theorem axa {mask:Nat} {hs:List Int} {owner:Array (Option Nat)} (x:Lay mask hs owner):((live owner mask).map (·.2)).Nodup:=by
 rw [List.Nodup,List.pairwise_map]
 have h1:((live owner mask).map (·.1)).Pairwise (· < ·):=SS.live_rise owner (mask+1)
 rw [List.pairwise_map] at h1
 refine List.Pairwise.imp_of_mem (fun {a b} ha hb hab e=>?_) h1
 obtain ⟨j,k⟩:=a
 obtain ⟨j',k'⟩:=b
 have e:k=k':=e
 subst e
 have:=x.inj j j' k (live_mem.mp ha).2 (live_mem.mp hb).2
 have hab:j < j':=hab
 omega
theorem ar5 {mask:Nat} {hs:List Int} {owner:Array (Option Nat)} (x:Lay mask hs owner):((live owner mask).map (·.2)).Perm (List.range hs.length):=by
 refine (List.perm_ext_iff_of_nodup (axa x) List.nodup_range).mpr fun k=>?_
 rw [List.mem_map,List.mem_range]
 constructor
 ·rintro ⟨⟨j,k'⟩,h,rfl⟩
  exact x.un j _ (live_mem.mp h).2
 ·intro h
  obtain ⟨s,a1,a2,_⟩:=x.at' k _ (List.getElem?_eq_getElem h)
  exact ⟨((pr mask hs[k] s).j,k),live_mem.mpr ⟨a1,a2⟩,rfl⟩
theorem ajr {α:Type} (xs:List α) (d : α):∀ (l:List Nat),(∀ k∈l,k < xs.length)->l.filterMap (xs[·]?)=l.map fun k=>xs.getD k d
 | [],_=>rfl
 | k :: l,h=>by
  have hk:=h k List.mem_cons_self
  rw [List.filterMap_cons,List.getElem?_eq_getElem hk,List.map_cons,ajr xs d l fun q hq=>h q (List.mem_cons_of_mem _ hq),List.getD_eq_getElem?_getD,List.getElem?_eq_getElem hk]
  rfl
theorem axb {mask m finger moves:Nat} {led plain:Bool} (hm:mask+1=2 ^ m) (es:Array (Int × Value)) (hl:es.size<=mask) :
  ∃ t order es',laid mask finger moves led plain (es.map (·.1))=some (t,order)/\order.filterMap (es[·]?)=es'/\es'.size=es.size/\es'.toList.Perm es.toList/\TOk t/\HI t es'.toList/\t.mask=mask/\t.place.size=es.size/\t.led=led/\t.plain=plain:=by
 obtain ⟨owner,e,x⟩:=azq hm (es.map (·.1)) (by simp;omega)
 have hlen:(es.map (·.1)).toList.length=es.size:=by simp
 have hp:=ar5 x
 rw [hlen] at hp
 have hll:(live owner mask).length=es.size:=by have:=hp.length_eq;simpa using this
 have hout:=ajr es.toList (0,Value.none) ((live owner mask).map (·.2)) fun k hk=>by rw [Array.length_toList];exact List.mem_range.mp (hp.mem_iff.mp hk)
 have hes:((((live owner mask).map (·.2)).toArray).filterMap (es[·]?)).toList=((live owner mask).map (·.2)).map fun k=>es.toList.getD k (0,.none):=by
  rw [← hout]
  simp
 have hpl:(((live owner mask).map (·.1)).toArray).toList=(live owner mask).map (·.1):=by simp
 have x':TOk { mask,place:=((live owner mask).map (·.1)).toArray,dummies:=#[],finger,led,moves,plain }:=by
  refine ⟨by show (((live owner mask).map (·.1)).toArray).toList.Pairwise _;rw [hpl];exact SS.live_rise owner (mask+1),rfl,fun j hj=>?_,⟨m,hm⟩,?_⟩
  ·have hj:j∈(live owner mask).map (·.1):=by simpa using hj
   obtain ⟨⟨j',k⟩,h,rfl⟩:=List.mem_map.mp hj
   exact (live_mem.mp h).1
  ·simp only [List.size_toArray,List.length_map]
   omega
 refine ⟨_,_,_,by unfold laid;rw [e];rfl,rfl,?_,?_,x',⟨?_,fun i q j hi hj=>?_⟩,rfl,?_,rfl,rfl⟩
 ·rw [← Array.length_toList]
  refine Eq.trans (congrArg List.length hes) ?_
  rw [List.length_map,List.length_map]
  exact hll
 ·refine (List.Perm.of_eq hes).trans ?_
  have h2:es.toList=(List.range es.size).map fun k=>es.toList.getD k (0,.none):=by
   refine List.ext_getElem? fun k=>?_
   rw [List.getElem?_map]
   by_cases hk:k < es.size
   ·rw [List.getElem?_range hk,List.getElem?_eq_getElem (by rw [Array.length_toList];exact hk),Option.map_some,List.getD_eq_getElem?_getD,List.getElem?_eq_getElem (by rw [Array.length_toList];exact hk)]
    rfl
   ·rw [List.getElem?_eq_none (by rw [Array.length_toList];omega),List.getElem?_eq_none (by rw [List.length_range];omega)]
    rfl
  refine (hp.map _).trans ?_
  rw [← h2]
 ·refine Eq.trans (congrArg List.length hes) ?_
  rw [List.length_map,List.length_map]
  simp
 ·have hi:=(congrArg (·[i]?) hes).symm.trans hi
  have hj:((live owner mask).map (·.1))[i]?=some j:=by simpa using hj
  rw [List.map_map,List.getElem?_map] at hi
  rw [List.getElem?_map] at hj
  cases hli:(live owner mask)[i]? with
  | none=>rw [hli] at hj;cases hj
  | some p =>
   obtain ⟨j',k⟩:=p
   rw [hli] at hi hj
   cases hj
   have hjk:=live_mem.mp (List.mem_of_getElem? hli)
   have hkl:k < es.size:=by have:=x.un _ _ hjk.2;rwa [hlen] at this
   have hq:q=es.toList.getD k (0,.none):=by simpa using hi.symm
   have hh:(es.map (·.1)).toList[k]?=some q.1:=by
    rw [hq,Array.toList_map,List.getElem?_map,List.getElem?_eq_getElem (by rw [Array.length_toList];exact hkl),List.getD_eq_getElem?_getD,List.getElem?_eq_getElem (by rw [Array.length_toList];exact hkl)]
    rfl
   obtain ⟨s,a1,a2,a3⟩:=x.at' k _ hh
   refine ⟨s,x.inj _ _ k a2 hjk.2,fun s' hs' z=>?_⟩
   have hn:=a3 s' hs'
   cases ho:ow owner (pr mask q.1 s').j with
   | none=>exact hn ho
   | some k' =>
    have hjm:(pr mask q.1 s').j<=mask:=by
     apply Classical.byContradiction
     intro hgt
     rw [azp (by rw [x.sz];omega)] at ho
     cases ho
    refine (adi x').mp z ?_
    show _∈(((live owner mask).map (·.1)).toArray).toList
    rw [hpl]
    exact List.mem_map.mpr ⟨_,live_mem.mpr ⟨hjm,ho⟩,rfl⟩
 ·simp only [List.size_toArray,List.length_map]
  exact hll
theorem amj (n:Nat):∀ (fuel a:Nat),n < 2 ^ (a+fuel)->∃ b,sizeAbove.go n fuel (2 ^ a)=2 ^ b/\n < 2 ^ b/\a<=b/\(2 ^ b=2 ^ a\/2 ^ b<=2 * n)
 | 0,a,h=>⟨a,rfl,by simpa using h,Nat.le_refl _,.inl rfl⟩
 | fuel+1,a,h=>by
  unfold sizeAbove.go
  by_cases hs:2 ^ a<=n
  ·rw [if_pos hs,← Nat.pow_succ]
   obtain ⟨b,h1,h2,h3,h4⟩:=amj n fuel (a+1) (by rw [show a+1+fuel=a+(fuel+1) by omega];exact h)
   refine ⟨b,h1,h2,by omega,.inr ?_⟩
   rcases h4 with h4 | h4
   ·rw [h4,Nat.pow_succ];omega
   ·exact h4
  ·rw [if_neg hs]
   exact ⟨a,rfl,by omega,Nat.le_refl _,.inl rfl⟩
theorem aum {n:Nat} (h:n<=100000):∃ m,sizeAbove n=2 ^ m/\n < 2 ^ m/\3<=m/\(2 ^ m=8\/2 ^ m<=2 * n):=by
 obtain ⟨b,h1,h2,h3,h4⟩:=amj n 64 3 (Nat.lt_of_le_of_lt h (by decide))
 exact ⟨b,h1,h2,h3,h4⟩
theorem ar6 {m n:Nat} (h:2 ^ m<=2 * n) (hn:n < 8192):2 ^ m<=8192:=by
 apply Classical.byContradiction
 intro hc
 have:13 < m:=(Nat.pow_lt_pow_iff_right (a:=2) (by decide)).mp (by show 2 ^ 13 < 2 ^ m;omega)
 have:=Nat.pow_le_pow_right (n:=2) (by decide) (show 14<=m by omega)
 omega
end SH
namespace SH
open PySem PySem.W PyProof.Rows
section
variable {prog:Program} {w:World} {A:Around} {E:Value->Shared->Prop} {s:Shared} {U:Addr->Prop}
noncomputable abbrev TK (prog:Program) (w:World):=tupleKind (intKind prog w)
theorem agy {ks:List Int} {a:Addr} {Q:Bool->Shared->Prop} (hk:(TK prog w).is s.heap ks a) (h:Q false s):wpAny (model prog w) A (ofAClassStatement 8 (.ref a)) Q E s:=by
 have hT:=IsTupleKey.typeIs hk
 obtain ⟨o,items,n,ho,_,hd,hi⟩:=hk
 unfold ofAClassStatement
 refine wpAny_bind (wpAny_typeOf hT ?_)
 show wpAny _ _ (pure true >>= _) _ _ s
 refine wpAny_bind (wpAny_pure ?_)
 simp only [Bool.not_true,Bool.false_eq_true,if_false]
 refine wpAny_bind (wpAny_seqItems ho hd ?_)
 refine wpAny_bind ?_
 show wpAny _ _ (forIn items _ _) _ _ s
 rw [← Array.forIn_toList]
 refine wpAny_forIn_list _ (fun rest r s'=>r.1=none/\s'=s/\∀ v∈rest,carriedByValue v=true) _ ?_ ?_ _ _ ⟨rfl,rfl,hi.byValue⟩
 ·rintro v rest r s' ⟨hr,rfl,hall⟩
  have hv:=hall v List.mem_cons_self
  have e:ofAClassStatement 7 v=pure false:=by
   cases v <;> first | (simp [carriedByValue] at hv;done) | (unfold ofAClassStatement;rfl)
  rw [e]
  refine wpAny_bind (wpAny_pure ?_)
  simp only [Bool.false_eq_true,if_false]
  exact wpAny_pure ⟨rfl,rfl,fun u hu'=>hall u (List.mem_cons_of_mem _ hu')⟩
 ·rintro ⟨r1,r2⟩ s' ⟨hr,rfl,_⟩
  simp only at hr
  subst hr
  exact wpAny_pure h
theorem ap5 {ks:List Int} {vs:List Value} (h:ItemsAre (intKind prog w) ks vs):∀ v∈vs,∃ i t,v=.int i t:=by
 induction h with
 | nil=>intro v hv;cases hv
 | cons h1 _ ih =>
  intro v hv
  rcases List.mem_cons.mp hv with rfl | hv
  ·obtain ⟨t,rfl⟩:=Value.isInt_shape h1
   exact ⟨_,t,rfl⟩
  ·exact ih v hv
theorem anj {ks:List Int} {a:Addr} {Q:Bool->Shared->Prop} (hk:(TK prog w).is s.heap ks a) (h:Q true s):wpAny (model prog w) A (hashByValue 8 (.ref a)) Q E s:=by
 have hT:=IsTupleKey.typeIs hk
 obtain ⟨o,items,n,ho,_,hd,hi⟩:=hk
 unfold hashByValue
 refine wpAny_bind (wpAny_specialOf hT F.slot_tuple_hash.lookup ?_)
 show wpAny _ _ (seqItems? (.ref a) >>= _) _ _ s
 refine wpAny_bind (wpAny_seqItems ho hd ?_)
 refine wpAny_bind ?_
 show wpAny _ _ (forIn items _ _) _ _ s
 rw [← Array.forIn_toList]
 refine wpAny_forIn_list _ (fun rest r s'=>r.1=none/\s'=s/\∀ v∈rest,∃ i t,v=Value.int i t) _ ?_ ?_ _ _ ⟨rfl,rfl,ap5 hi⟩
 ·rintro v rest r s' ⟨hr,rfl,hall⟩
  obtain ⟨i,t,rfl⟩:=hall v List.mem_cons_self
  have e:hashByValue 7 (.int i t)=pure true:=by unfold hashByValue;rfl
  rw [e]
  refine wpAny_bind (wpAny_pure ?_)
  simp only [Bool.not_true,Bool.false_eq_true,if_false]
  exact wpAny_pure ⟨rfl,rfl,fun u hu'=>hall u (List.mem_cons_of_mem _ hu')⟩
 ·rintro ⟨r1,r2⟩ s' ⟨hr,rfl,_⟩
  simp only at hr
  subst hr
  exact wpAny_pure h
theorem azr {k0:List Int} {b0:Addr} {stored:List Value} {Q:Bool->Shared->Prop} (hk:(TK prog w).is s.heap k0 b0) (hst:∀ v∈stored,∃ k b,v=.ref b/\(TK prog w).is s.heap k b) (h:Q false s):wpAny (model prog w) A (searchCouldBeSeen (.ref b0) stored) Q E s:=by
 unfold searchCouldBeSeen
 refine wpAny_bind ?_
 refine wpAny_forIn_list _ (fun rest r s'=>r.1=none/\s'=s/\∀ v∈rest,∃ k b,v=.ref b/\(TK prog w).is s.heap k b) _ ?_ ?_ _ _ ⟨rfl,rfl,hst⟩
 ·rintro v rest r s' ⟨hr,rfl,hall⟩
  obtain ⟨k,b,rfl,hb⟩:=hall v List.mem_cons_self
  have hrest:∀ u∈rest,∃ k b,u=Value.ref b/\(TK prog w).is s'.heap k b:=fun u hu'=>hall u (List.mem_cons_of_mem _ hu')
  dsimp only
  split
  ·exact wpAny_pure ⟨rfl,rfl,hrest⟩
  ·refine wpAny_bind ((TK prog w).quiet hk ?_)
   simp only [Bool.not_true,Bool.false_eq_true,if_false]
   refine wpAny_bind ((TK prog w).quiet hb ?_)
   simp only [Bool.not_true,Bool.false_eq_true,if_false]
   refine wpAny_bind (agy hk ?_)
   simp only [Bool.false_eq_true,if_false]
   refine wpAny_bind (agy hb ?_)
   simp only [Bool.false_eq_true,if_false]
   exact wpAny_pure ⟨rfl,rfl,hrest⟩
 ·rintro ⟨r1,r2⟩ s' ⟨hr,rfl,_⟩
  simp only at hr
  subst hr
  exact wpAny_pure h
theorem a04 (mask:Nat) (h:Int):∀ k,(pr mask h k).j+(pr mask h k).more<=mask:=fun k=>by
 have run:∀ i,i < mask+1->i+(SetTable.runEnd mask i - i)<=mask:=fun i hi=>by unfold SetTable.runEnd;split <;> omega
 induction k with
 | zero=>exact run _ (Nat.mod_lt _ (Nat.succ_pos _))
 | succ k ih =>
  show (adv mask (pr mask h k)).j+(adv mask (pr mask h k)).more<=mask
  unfold adv
  split
  ·dsimp only;omega
  ·exact run _ (Nat.mod_lt _ (Nat.succ_pos _))
structure ST (prog:Program) (w:World) (U:Addr->Prop) (a:Addr) (es:Array (Int × Value)) (ep:Nat) (t:SetTable) (ks:List (List Int)) (h:Heap):Prop where
 r:SS.SetR prog w a es ep t h
 ok:TOk t
 hi:HI t es.toList
 pl:t.plain=true
 msk:7<=t.mask/\t.mask<=8191
 len:ks.length=es.size
 gd:∀ (i:Nat) e k,es.toList[i]?=some e->ks[i]?=some k->∃ b,e=((TK prog w).hash k,.ref b)/\(TK prog w).is h k b/\U b
 nd:ks.Nodup
theorem ST.stored {a:Addr} {es:Array (Int × Value)} {ep:Nat} {t:SetTable} {ks:List (List Int)} {h:Heap} (x:ST prog w U a es ep t ks h) {e:Int × Value} (he:e∈es.toList):∃ k b,e=((TK prog w).hash k,.ref b)/\(TK prog w).is h k b/\U b:=by
 obtain ⟨i,hi⟩:=List.getElem?_of_mem he
 have hl:i < ks.length:=by rw [x.len,← Array.length_toList];exact (List.getElem?_eq_some_iff.mp hi).1
 obtain ⟨b,h1,h2⟩:=x.gd i e _ hi (List.getElem?_eq_getElem hl)
 exact ⟨_,b,h1,h2⟩
theorem ank {a b0:Addr} {es:Array (Int × Value)} {ep:Nat} {t:SetTable} {ks:List (List Int)} {kx:List Int} {Q:SetFound->Shared->Prop} (hu:(TK prog w).room A) (x:ST prog w U a es ep t ks s.heap) (hk:(TK prog w).is s.heap kx b0)
  (h1:kx∈ks->Q (.there none) s) (h2:kx ∉ ks->∀ k1,(pr t.mask ((TK prog w).hash kx) k1).j<=t.mask->t.slot (pr t.mask ((TK prog w).hash kx) k1).j=.empty->(∀ k',k' < k1->t.slot (pr t.mask ((TK prog w).hash kx) k').j ≠ .empty)->Q (.free (pr t.mask ((TK prog w).hash kx) k1).j false) s) :
  ∀ (fuel k0:Nat) (stand:Option SetTable.Probe),fuel+k0 > 10 * SetTable.turns t.mask->stand.getD (t.probeStart ((TK prog w).hash kx))=pr t.mask ((TK prog w).hash kx) k0->(∀ k',k' < k0->∃ i,t.slot (pr t.mask ((TK prog w).hash kx) k').j=.live i/\ks[i]? ≠ some kx) ->
   wpAny (model prog w) A (setSearchFrom a (.ref b0) ((TK prog w).hash kx) true fuel stand) Q E s:=by
 obtain ⟨o,ho,hx,hd,hf,hT⟩:=id x.r
 generalize hhx:(TK prog w).hash kx=hx0 at *
 obtain ⟨je,hje,hjee⟩:=ar4 x.ok
 obtain ⟨m,hm⟩:=x.ok.two
 obtain ⟨ke,hke,ekj⟩:=azo hm hx0 je hje
 have hgw:t.gaveWay=false:=by
  unfold SetTable.gaveWay
  have:m ≠ 0:=fun z=>by rw [z] at hm;have:=x.msk.1;simp at hm;omega
  obtain ⟨m',rfl⟩:=Nat.exists_eq_succ_of_ne_zero this
  rw [Nat.pow_succ] at hm
  have:t.mask % 2=1:=by omega
  rw [this];rfl
 intro fuel
 induction fuel with
 | zero =>
  intro k0 stand hfu _ hinv
  exfalso
  obtain ⟨i,hi,_⟩:=hinv ke (by omega)
  rw [ekj,hjee] at hi
  cases hi
 | succ fuel ih =>
  intro k0 stand hfu hst hinv
  have hk0:k0<=ke:=by
   apply Classical.byContradiction
   intro hc
   obtain ⟨i,hi,_⟩:=hinv ke (by omega)
   rw [ekj,hjee] at hi
   cases hi
  unfold setSearchFrom
  refine wpAny_bind (wpAny_setState_of ho hd hf ?_)
  dsimp only
  rw [hgw]
  simp only [Bool.false_eq_true,if_false]
  rw [hst]
  obtain ⟨k1,a1,a2,a3,a4⟩:=amh x.ok (ha:=fun i=>(es[i]?.map (·.1)).getD 0) (h:=hx0) (10 * SetTable.turns t.mask) k0 ⟨ke,hk0,by omega,by rw [ekj];exact hjee⟩
  have hbefore:∀ k',k' < k1->∃ i,t.slot (pr t.mask hx0 k').j=.live i/\ks[i]? ≠ some kx:=fun k' hk'=>by
   by_cases hkk:k' < k0
   ·exact hinv k' hkk
   ·obtain ⟨i,hi,hne⟩:=a3 k' (by omega) hk'
    refine ⟨i,hi,fun hks=>?_⟩
    have hpl:=(ad6 x.ok).mp hi
    have hil:i < es.toList.length:=by rw [x.hi.1,← Array.length_toList];exact (List.getElem?_eq_some_iff.mp hpl).1
    obtain ⟨b,e1,_⟩:=x.gd i _ _ (List.getElem?_eq_getElem hil) hks
    apply hne
    rw [← Array.getElem?_toList,List.getElem?_eq_getElem hil,e1]
    exact hhx
  generalize hp:t.probe _ hx0 (pr t.mask hx0 k0)=pp
  rcases a4 with ⟨e,ep'⟩ | ⟨i,e,hei,ep'⟩
  ·have hpp:pp=some (.empty (pr t.mask hx0 k1).j none):=hp.symm.trans ep'
   subst hpp
   dsimp only
   refine wpAny_pure (h2 (fun hm=>?_) k1 ?_ e fun k' hk' z=>?_)
   ·obtain ⟨i,hi⟩:=List.getElem?_of_mem hm
    have hil:i < es.toList.length:=by rw [Array.length_toList,← x.len];exact (List.getElem?_eq_some_iff.mp hi).1
    obtain ⟨b,e1,_⟩:=x.gd i _ _ (List.getElem?_eq_getElem hil) hi
    obtain ⟨k,hk,hs⟩:=x.hi.found x.ok e (List.getElem?_eq_getElem hil) (by rw [e1];exact hhx)
    obtain ⟨i',hs',hne⟩:=hbefore k hk
    rw [hs] at hs'
    cases hs'
    exact hne hi
   ·exact Nat.le_trans (Nat.le_add_right _ _) (a04 t.mask hx0 k1)
   ·obtain ⟨i,hi,_⟩:=hbefore k' hk'
    rw [z] at hi
    cases hi
  ·have hpp:pp=some (.candidate (pr t.mask hx0 k1).j i (pr t.mask hx0 (k1+1))):=hp.symm.trans ep'
   subst hpp
   have hpl:=(ad6 x.ok).mp e
   have hil:i < es.toList.length:=by rw [x.hi.1,← Array.length_toList];exact (List.getElem?_eq_some_iff.mp hpl).1
   have hikl:i < ks.length:=by rw [x.len,← Array.length_toList];exact hil
   obtain ⟨b,e1,e2⟩:=x.gd i _ _ (List.getElem?_eq_getElem hil) (List.getElem?_eq_getElem hikl)
   have hes:es[i]?=some ((TK prog w).hash ks[i],.ref b):=by rw [← Array.getElem?_toList,List.getElem?_eq_getElem hil,e1]
   have rest:wpAny (model prog w) A (do
     let some (_,y):=es[i]? | unsupported "internal:set-entry"
     let equal ← holding [y] (eqBool y (.ref b0))
     let (es',_,t') ← setState a
     if true && equal then return .there none
     let some same:=t'.sameMemory t.moves t.mask | unsupported "set.changed-during-lookup:is-the-new-block-at-the-old-address"
     let still ← match (if same then t'.slot (pr t.mask hx0 k1).j else .empty) with
      | .live i'=>match es'[i']? with
       | some (_,y')=>do pure (if ← isSame y' y then some i' else none)
       | none=>pure none
      | _=>pure none
     match still with
     | none=>rule "set.search.anew";setSearchFrom a (.ref b0) hx0 true fuel none
     | some i'=>if equal then return .there (some i') else setSearchFrom a (.ref b0) hx0 true fuel (some (pr t.mask hx0 (k1+1)))) Q E s:=by
    rw [hes]
    dsimp only
    refine wpAny_bind (wpAny_holding ((TK prog w).eqBool hu e2.1 hk ?_))
    refine wpAny_bind (wpAny_setState_of ho hd hf ?_)
    dsimp only
    by_cases heq:ks[i]=kx
    ·rw [decide_eq_true heq]
     simp only [Bool.and_self,if_true]
     exact wpAny_pure (h1 (by rw [← heq];exact List.getElem_mem hikl))
    ·rw [decide_eq_false heq]
     simp only [Bool.and_false,Bool.false_eq_true,if_false]
     have hsm:t.sameMemory t.moves t.mask=some true:=by
      unfold SetTable.sameMemory
      rw [if_pos (beq_self_eq_true _)]
     rw [hsm]
     dsimp only
     rw [if_pos rfl,e]
     dsimp only
     rw [hes]
     dsimp only
     refine wpAny_bind (wpAny_isSame_ref_self ?_)
     refine wpAny_bind (wpAny_pure ?_)
     rw [if_pos rfl]
     dsimp only
     refine ih (k1+1) (some _) (by omega) rfl fun k' hk'=>?_
     rcases Nat.lt_or_eq_of_le (Nat.le_of_lt_succ hk') with hlt | heq'
     ·exact hbefore k' hlt
     ·refine ⟨i,by rw [heq'];exact e,fun z=>heq ?_⟩
      rw [List.getElem?_eq_getElem hikl] at z
      exact Option.some.inj z
   dsimp only
   cases hled:t.led with
   | true =>
    simp only [Bool.not_true,Bool.false_eq_true,if_false]
    exact rest
   | false =>
    simp only [Bool.not_false,if_true]
    refine wpAny_bind (azr hk (fun v hv=>?_) ?_)
    ·obtain ⟨q,hq,rfl⟩:=List.mem_map.mp hv
     have hq:q∈es.toList:=by
      have:=Array.mem_toList_iff.mp hq
      exact Array.mem_toList_iff.mpr (Array.mem_filter.mp this).1
     obtain ⟨k,b,rfl,hb⟩:=x.stored hq
     exact ⟨k,b,rfl,hb.1⟩
    ·simp only [Bool.false_eq_true,if_false]
     exact rest
theorem ST.at {a:Addr} {es:Array (Int × Value)} {ep:Nat} {t:SetTable} {ks:List (List Int)} {h h':Heap} (x:ST prog w U a es ep t ks h) (k:∀ o,h.get? a=some o->h'.get? a=some o) (kt:∀ b ks,U b->(TK prog w).is h ks b->(TK prog w).is h' ks b):ST prog w U a es ep t ks h' :=
 ⟨x.r.at k,x.ok,x.hi,x.pl,x.msk,x.len,fun i e q h1 h2=>let ⟨b,e1,e2⟩:=x.gd i e q h1 h2;⟨b,e1,kt b q e2.2 e2.1,e2.2⟩,x.nd⟩
def SetT (prog:Program) (w:World) (U:Addr->Prop) (a:Addr) (L:List (List Int)) (h:Heap):Prop:=∃ es ep t ks,ST prog w U a es ep t ks h/\t.place.size * 5 < t.mask * 3/\ks.Perm L
theorem amk {a b:Addr} {ks:List Int} {h h':Heap} (hs:Heap.SameBut a h h') (hk:(TK prog w).is h ks b) {o:Obj} (ho:h.get? a=some o) (hx:o.ExactSet):(TK prog w).is h' ks b:=by
 obtain ⟨ob,items,n,e1,e2,r⟩:=hk
 refine ⟨ob,items,n,?_,e2,r⟩
 rw [hs.2 b fun z=>?_]
 ·exact e1
 ·subst z
  rw [ho] at e1
  cases e1
  rw [hx.1] at e2
  exact absurd e2 (by decide)
theorem ao0 {t:SetTable} {n:Nat} (x:TOk t) (h:t.place.size=n):t.fits n=true:=by
 unfold SetTable.fits SetTable.fill
 rw [x.dum,h,beq_self_eq_true,Bool.true_and,decide_eq_true_eq]
 have:=x.room
 show n+0<=t.mask
 omega
theorem aml {α:Type} (l:List α) (x : α) (p:Nat):(l.take p ++ x :: l.drop p).Perm (x :: l):=by
 have h:=List.perm_middle (a:=x) (l₁:=l.take p) (l₂:=l.drop p)
 rw [List.take_append_drop] at h
 exact h
theorem aun {a:Addr} {es:Array (Int × Value)} {ep:Nat} {t:SetTable} {ks:List (List Int)} {Q:Unit->Shared->Prop} (x:ST prog w U a es ep t ks s.heap) (hz:es.size<=2040) (h1:1<=es.size)
  (h:∀ h',Heap.SameBut a s.heap h'->∀ es' ep' t' ks',ST prog w U a es' ep' t' ks' h'->t'.place.size * 5 < t'.mask * 3->ks'.Perm ks->Q () { s with heap:=h' }):wpAny (model prog w) A (setRelay a (SetTable.grown es.size)) Q E s:=by
 obtain ⟨o,ho,hx,hd,hf,hT⟩:=id x.r
 have hgr:SetTable.grown es.size=es.size * 4:=by unfold SetTable.grown;rw [if_neg (by omega)]
 rw [hgr]
 obtain ⟨m,em,hm1,hm2,hm3⟩:=aum (n:=es.size * 4) (by omega)
 have h8:8<=2 ^ m:=Nat.pow_le_pow_right (n:=2) (by decide) hm2
 have hle:2 ^ m<=8192:=by
  rcases hm3 with h | h
  ·omega
  ·exact ar6 h (by omega)
 unfold setRelay
 refine wpAny_bind (wpAny_setState_of ho hd hf ?_)
 dsimp only
 rw [em,if_neg (by rw [sizeLine_eq];omega)]
 obtain ⟨t2,order,es2,e1,e2,e3,e4,ok2,hi2,em2,eps,el,epl⟩:=axb (mask:=2 ^ m - 1) (m:=m) (finger:=t.finger) (moves:=t.movedTo (2 ^ m - 1)) (led:=t.led) (plain:=t.plain) (by omega) es (by omega)
 have er:t.relaid (es.map (·.1)) (es.size * 4)=some (t2,order):=by
  unfold SetTable.relaid
  rw [em]
  exact e1
 rw [er]
 refine wpAny_bind ?_
 show wpAny _ _ (do
  let es':=order.filterMap (es[·]?)
  if es'.size != es.size then unsupported "internal:set-table-lost-an-element"
  pure (es',t2)) _ _ _
 rw [e2]
 dsimp only
 rw [if_neg (by rw [e3];simp)]
 refine wpAny_pure ?_
 dsimp only
 refine wpAny_storeSet_of ho hd ?_ (by rw [e3,sizeLine_eq];omega)
 have sb:=Heap.SameBut.update s.heap a (Obj.putSet es2 t2)
 have r2:=x.r.put (es':=es2) (t':=t2) (ao0 ok2 (by rw [e3];exact eps)) ⟨fun hb=>by rw [el];exact hT.led hb,ok2.dum,fun _=>ok2.ris⟩
 have kk:∀ q b,(TK prog w).is s.heap q b->(TK prog w).is (s.heap.update a (Obj.putSet es2 t2)) q b:=fun q b hq=>amk sb hq ho hx
 have hkey:∃ f:Int × Value->List Int,∀ e∈es.toList,∃ b,e=((TK prog w).hash (f e),.ref b)/\(TK prog w).is s.heap (f e) b/\U b:=by
  have:=Classical.skolem (p:=fun (e:Int × Value) (k:List Int)=>e∈es.toList->∃ b,e=((TK prog w).hash k,Value.ref b)/\(TK prog w).is s.heap k b/\U b)
  exact this.mp fun e=>by
   by_cases he:e∈es.toList
   ·obtain ⟨k,b,h1,h2⟩:=x.stored he
    exact ⟨k,fun _=>⟨b,h1,h2⟩⟩
   ·exact ⟨[],fun z=>absurd z he⟩
 obtain ⟨f,hff⟩:=hkey
 have hks:ks=es.toList.map f:=by
  refine List.ext_getElem? fun i=>?_
  rw [List.getElem?_map]
  by_cases hi:i < ks.length
  ·have hil:i < es.toList.length:=by rw [Array.length_toList,← x.len];exact hi
   rw [List.getElem?_eq_getElem hi,List.getElem?_eq_getElem hil,Option.map_some]
   obtain ⟨b,g1,g2⟩:=x.gd i _ _ (List.getElem?_eq_getElem hil) (List.getElem?_eq_getElem hi)
   obtain ⟨b',g3,g4⟩:=hff _ (List.getElem_mem hil)
   have hbb:Value.ref b=.ref b':=(Prod.ext_iff.mp (g1.symm.trans g3)).2
   cases hbb
   rw [(TK prog w).inj g2.1 g4.1]
  ·rw [List.getElem?_eq_none (by omega),List.getElem?_eq_none (by rw [Array.length_toList,← x.len];omega)]
   rfl
 have hpk:(es2.toList.map f).Perm ks:=by rw [hks];exact e4.map f
 refine h _ sb es2 _ t2 (es2.toList.map f) ⟨r2,ok2,hi2,by rw [epl];exact x.pl,by omega,by rw [List.length_map,Array.length_toList],fun i e k g1 g2=>?_,hpk.nodup_iff.mpr x.nd⟩ (by omega) hpk
 rw [List.getElem?_map,g1] at g2
 cases g2
 obtain ⟨b,q1,q2⟩:=hff e (e4.mem_iff.mp (List.mem_of_getElem? g1))
 exact ⟨b,q1,kk _ b q2.1,q2.2⟩
theorem ar7 {a b0:Addr} {L:List (List Int)} {kx:List Int} {Q:Bool->Shared->Prop} (hu:(TK prog w).room A) (x:SetT prog w U a L s.heap) (hk:(TK prog w).is s.heap kx b0) (hU:U b0) (hb:L.length+1<=2040)
  (h:∀ b h',Heap.SameBut a s.heap h'->SetT prog w U a (if kx∈L then L else L ++ [kx]) h'->Q b { s with heap:=h' }):wpAny (model prog w) A (setAddHashed a (.ref b0) ((TK prog w).hash kx)) Q E s:=by
 obtain ⟨es,ep,t,ks,x,hnf,hp⟩:=x
 obtain ⟨o,ho,hx,hd,hf,hT⟩:=id x.r
 have hsz:es.size=L.length:=by rw [← hp.length_eq,x.len]
 have hps:t.place.size=es.size:=by have:=x.hi.1;rw [Array.length_toList] at this;omega
 unfold setAddHashed setAddHashedIn
 refine wpAny_holding (wpAny_bind (wpAny_setState_of ho hd hf ?_))
 dsimp only
 have hns:byScan (.ref b0) es=false:=rfl
 rw [hns]
 simp only [Bool.false_eq_true,if_false]
 unfold setSearch
 refine wpAny_bind (ank hu x hk (fun hm=>?_) (fun hm k1 hj he hbf=>?_) 100000 0 none ?_ rfl fun k' hk'=>absurd hk' (Nat.not_lt_zero _))
 ·refine wpAny_pure ?_
  have e:s={ s with heap:=s.heap }:=by cases s;rfl
  have:=h false s.heap (Heap.SameBut.refl a s.heap) (by rw [if_pos (hp.mem_iff.mp hm)];exact ⟨es,ep,t,ks,x,hnf,hp⟩)
  rw [e];exact this
 ·have hmL:kx ∉ L:=fun z=>hm (hp.mem_iff.mpr z)
  have hroom:t.place.size+1<=t.mask:=by have:=x.msk.1;omega
  obtain ⟨j,hjd⟩:∃ j,j=(pr t.mask ((TK prog w).hash kx) k1).j:=⟨_,rfl⟩
  rw [← hjd] at hj he ⊢
  dsimp only
  refine wpAny_bind (wpAny_setState_of ho hd hf ?_)
  dsimp only
  have hpl1:(t.put j).1.plain=true:=x.pl
  rw [if_pos hpl1]
  refine wpAny_bind (anj hk ?_)
  rw [if_pos rfl]
  have hbl:=(SS.below_ok t.place j x.ok.ris).1
  obtain ⟨es1,hes1⟩:∃ es1,es1=SetTable.insertAt es (t.put j).2 ((TK prog w).hash kx,Value.ref b0):=⟨_,rfl⟩
  have hes1l:es1.toList=es.toList.take (SetTable.below t.place j) ++ ((TK prog w).hash kx,Value.ref b0) :: es.toList.drop (SetTable.below t.place j):=by rw [hes1];exact SetTable.toList_insertAt ..
  have hsz1:es1.size=es.size+1:=by
   rw [← Array.length_toList,hes1l,List.length_append,List.length_cons,List.length_take,List.length_drop,Array.length_toList]
   omega
  have ok1:=x.ok.put hj he hroom
  have hi1:HI (t.put j).1 es1.toList:=by
   rw [hes1l]
   exact x.hi.put x.ok hj hroom (e:=((TK prog w).hash kx,Value.ref b0)) (k1:=k1) hjd.symm he hbf
  have hps1:(t.put j).1.place.size=es1.size:=by have:=hi1.1;rw [Array.length_toList] at this;exact this.symm
  have hfits:(t.put j).1.fits es1.size=true:=ao0 ok1 hps1
  rw [← hes1]
  refine wpAny_bind (wpAny_storeSet_of ho hd ?_ (by rw [hsz1];rw [sizeLine_eq];omega))
  have r1:=x.r.put (es':=es1) (t':=(t.put j).1) hfits (hT.put he)
  have sb1:=Heap.SameBut.update s.heap a (Obj.putSet es1 (t.put j).1)
  have kk:∀ q b,(TK prog w).is s.heap q b->(TK prog w).is (s.heap.update a (Obj.putSet es1 (t.put j).1)) q b:=fun q b hq=>amk sb1 hq ho hx
  have x1:ST prog w U a es1 (ep+1) (t.put j).1 (ks.take (SetTable.below t.place j) ++ kx :: ks.drop (SetTable.below t.place j)) (s.heap.update a (Obj.putSet es1 (t.put j).1)):=by
   have hkb:SetTable.below t.place j<=ks.length:=by rw [x.len];omega
   have heb:SetTable.below t.place j<=es.toList.length:=by rw [Array.length_toList];omega
   refine ⟨r1,ok1,hi1,hpl1,x.msk,?_,fun i e k h1 h2=>?_,?_⟩
   ·rw [List.length_append,List.length_cons,List.length_take,List.length_drop,hsz1,← x.len]
    omega
   ·rw [hes1l,ins_get _ _ _ heb] at h1
    rw [ins_get _ _ _ hkb] at h2
    by_cases c1:i < SetTable.below t.place j
    ·rw [if_pos c1] at h1 h2
     obtain ⟨b,g1,g2⟩:=x.gd i e k h1 h2
     exact ⟨b,g1,kk k b g2.1,g2.2⟩
    ·rw [if_neg c1] at h1 h2
     by_cases c2:i=SetTable.below t.place j
     ·rw [if_pos c2] at h1 h2
      cases h1
      cases h2
      exact ⟨b0,rfl,kk kx b0 hk,hU⟩
     ·rw [if_neg c2] at h1 h2
      obtain ⟨b,g1,g2⟩:=x.gd (i - 1) e k h1 h2
      exact ⟨b,g1,kk k b g2.1,g2.2⟩
   ·refine (aml ks kx _).nodup_iff.mpr (List.nodup_cons.mpr ⟨hm,x.nd⟩)
  have hp1:(ks.take (SetTable.below t.place j) ++ kx :: ks.drop (SetTable.below t.place j)).Perm (L ++ [kx]):=(aml ks kx _).trans ((hp.cons kx).trans (List.perm_append_singleton kx L).symm)
  by_cases hfull:(t.put j).1.tooFull=true
  ·rw [if_pos (by rw [hfull];rfl)]
   rw [← hsz1]
   refine wpAny_bind (aun (s:={ s with heap:=s.heap.update a (Obj.putSet es1 (t.put j).1) }) x1 (by omega) (by omega) fun h' sb2 es2 ep2 t2 ks2 x2 hnf2 hp2=>?_)
   refine wpAny_pure (h true h' (sb1.trans sb2) ?_)
   rw [if_neg hmL]
   exact ⟨es2,ep2,t2,ks2,x2,hnf2,hp2.trans hp1⟩
  ·rw [if_neg (by intro z;exact hfull (by simpa using z))]
   refine wpAny_pure ?_
   refine h true _ sb1 ?_
   rw [if_neg hmL]
   refine ⟨es1,ep+1,_,_,x1,?_,hp1⟩
   unfold SetTable.tooFull SetTable.fill at hfull
   rw [ok1.dum] at hfull
   simp at hfull
   omega
 ·have:=x.msk.2
  unfold SetTable.turns
  omega
end
end SH
namespace SH
open PySem PySem.W PyProof.Rows SS
section
variable {prog:Program} {w:World} {A:Around} {E:Value->Shared->Prop} {s:Shared} {U:Addr->Prop}
theorem axc (h:Heap):SetT prog w U h.objs.size [] (h.push (ab6 w)):=by
 have tok:TOk (SetTable.fresh 0 0 (!bt w)):=⟨List.Pairwise.nil,rfl,fun j hj=>(nomatch hj),⟨3,rfl⟩,Nat.zero_le _⟩
 have hi:HI (SetTable.fresh 0 0 (!bt w)) ([]:List (Int × Value)):=⟨rfl,fun i e j hi=>(nomatch hi)⟩
 exact ⟨#[],0,_,[],⟨⟨_,Heap.get?_push_size _ rfl,⟨rfl,rfl,rfl⟩,rfl,rfl,TbI.fresh _ _ _⟩,tok,hi,rfl,⟨Nat.le_refl 7,show (7:Nat)<=8191 by decide⟩,rfl,fun i e k hi=>(nomatch hi),List.nodup_nil⟩,show (0:Nat) * 5 < 7 * 3 by decide,.refl _⟩
section
variable {R:Result->Shared->Prop} {I:Addr} {fp wr:List Addr} {n:Nat} {P:Nat->Value->Prop} {St:Nat->Heap->Prop}
theorem a05 (W:Walks prog w A.in1 I fp wr n P St) (S:Addr) (hSf:S ∉ fp) (hu:(TK prog w).room A.in1) (h0:Heap) (val:Nat->List Int) (tup:Nat->Addr) (hval:∀ i v,P i v->v=.ref (tup i)) (hU:∀ i,i < n->U (tup i)) (hUw:∀ b,U b->b ≠ S/\b ∉ wr) (hb:n+1<=2040)
  (hkey:∀ h',(∀ b o,b ≠ S->b ∉ wr->h0.get? b=some o->h'.get? b=some o)->∀ i,i < n->(TK prog w).is h' (val i) (tup i)) :
  ∀ (k i:Nat) (s:Shared) (L:List (List Int)),n - i=k->i<=n->St i s.heap->(∀ b o,b ≠ S->b ∉ wr->h0.get? b=some o->s.heap.get? b=some o)->SetT prog w U S L s.heap->L.Nodup->L.length<=i->(∀ x,x∈L ↔ ∃ j,j < i/\val j=x) ->
   (∀ h' tk L',(∀ b o,b ≠ S->b ∉ wr->s.heap.get? b=some o->h'.get? b=some o)->SetT prog w U S L' h'->L'.Nodup->L'.length<=n->(∀ x,x∈L' ↔ ∃ j,j < n/\val j=x)->R (.ok (.ret .none)) { s with heap:=h',toks:=tk }) ->
   codeAny (model prog w) A (.builtin "set.update.loop" ⟨[.ref S,.ref I],[]⟩) R s:=by
 have hSw:S ∉ wr:=fun h=>hSf (W.sub _ h)
 have mv:∀ {h h':Heap} {L:List (List Int)},SetT prog w U S L h->(∀ b o,b ∉ wr->h.get? b=some o->h'.get? b=some o)->SetT prog w U S L h':=fun {h h' L} x hm=>by
  obtain ⟨es,ep,t,ks,x,r⟩:=x
  exact ⟨es,ep,t,ks,x.at (fun o e=>hm S o hSw e) (fun b ks hb ⟨o,items,m,e,q⟩=>⟨o,items,m,hm b o (hUw b hb).2 e,q⟩),r⟩
 intro k
 induction k with
 | zero =>
  intro i s L hk hi hst h00 hS hnd hlen hmem hR
  have hin:i=n:=by omega
  subst hin
  refine codeAny_builtin PyProof.Rows.F.entry_set_update_loop ?_
  rw [Around.under_plainId PyProof.Rows.F.plain_set_update_loop _]
  show wpAny _ A.in1 (pyNext (.ref I) >>= _) _ _ s
  refine wpAny_bind (W.done s _ _ hst fun h' tk hk=>?_)
  show wpAny _ A.in1 (ret Value.none) _ _ _
  exact wpAny_pure (hR h' tk L (fun b o _ hb e=>hk b o hb e) (mv hS hk) hnd hlen hmem)
 | succ k ih =>
  intro i s L hk hi hst h00 hS hnd hlen hmem hR
  have hlt:i < n:=by omega
  refine codeAny_builtin PyProof.Rows.F.entry_set_update_loop ?_
  rw [Around.under_plainId PyProof.Rows.F.plain_set_update_loop _]
  show wpAny _ A.in1 (pyNext (.ref I) >>= _) _ _ s
  refine wpAny_bind (W.item i s _ _ hlt hst fun v h1 tk hP hst' hk1=>?_)
  have ev:=hval i v hP
  subst ev
  have hS':SetT prog w U S L h1:=mv hS hk1
  have h01:∀ b o,b ≠ S->b ∉ wr->h0.get? b=some o->h1.get? b=some o:=fun b o b1 b2 e=>hk1 b o b2 (h00 b o b1 b2 e)
  show wpAny _ A.in1 (holding [Value.ref (tup i)] (setAdd S (.ref (tup i))) >>= _) _ _ _
  refine wpAny_bind (wpAny_holding ?_)
  unfold setAdd
  refine wpAny_holding ?_
  refine wpAny_bind ((TK prog w).pyHash hu (hkey h1 h01 i hlt) ?_)
  refine ar7 (s:={ s with heap:=h1,toks:=tk+(TK prog w).draws (val i) }) hu hS' (hkey h1 h01 i hlt) (hU i hlt) (by omega) fun b h' hsb hS2=>?_
  refine wpAny_pure ⟨plainId_quiet PyProof.Rows.F.plain_set_update_loop _,ih (i+1) _ _ (by omega) hlt (W.frame _ h1 _ hst' fun b hb o e=>?_) (fun b o b1 b2 e=>?_) hS2 ?_ ?_ ?_ fun h'' tk'' L' hk'' hS'' n1 n2 n3=>?_⟩
  ·rw [hsb.2 b (fun h:b=S=>hSf (by rw [← h];exact hb))];exact e
  ·show h'.get? b=some o
   rw [hsb.2 b b1];exact h01 b o b1 b2 e
  ·split
   ·exact hnd
   ·rename_i hm
    rw [List.nodup_append]
    refine ⟨hnd,by simp,fun a ha b hb=>?_⟩
    rw [List.mem_singleton] at hb;subst hb
    exact fun z=>hm (z ▸ ha)
  ·split
   ·omega
   ·rw [List.length_append,List.length_singleton];omega
  ·intro x
   have key:x∈(if val i∈L then L else L ++ [val i]) ↔ x∈L\/x=val i:=by
    split
    ·rename_i hm;exact ⟨.inl,fun h=>h.elim id fun e=>e ▸ hm⟩
    ·simp
   rw [key,hmem x]
   constructor
   ·rintro (⟨j,a,b⟩ | rfl)
    ·exact ⟨j,by omega,b⟩
    ·exact ⟨i,by omega,rfl⟩
   ·rintro ⟨j,a,b⟩
    by_cases e:j=i
    ·subst e;exact .inr b.symm
    ·exact .inl ⟨j,by omega,b⟩
  ·refine hR h'' tk'' L' (fun b o b1 b2 e=>hk'' b o b1 b2 ?_) hS'' n1 n2 n3
   show h'.get? b=some o
   rw [hsb.2 b b1]
   exact hk1 b o b2 e
end
theorem call_setT {U:Addr->Prop} {l:Addr} {items:Array Value} {n:Nat} {val:Nat->List Int} {tup:Nat->Addr} {Q:Value->Shared->Prop}
  (hh:A.handled=none) (hu:(TK prog w).room A.in1.in1.in1) (hl:s.heap.IsList l items) (hP:∀ (i:Nat) (v:Value),items[i]?=some v->v=Value.ref (tup i)) (hi:∀ i,i < items.size->(TK prog w).is s.heap (val i) (tup i)) (hU:∀ i,i < items.size->U (tup i)) (hUl:∀ b,U b->b < s.heap.objs.size) (hb:items.size+1<=2040)
  (h:∀ (h':Heap) (tk:Nat) (L:List (List Int)),SetT prog w U s.heap.objs.size L h'->L.Nodup->L.length<=items.size->(∀ x,x∈L ↔ ∃ j,j < items.size/\val j=x) ->
   (∀ b o,s.heap.get? b=some o->h'.get? b=some o)->Q (.ref s.heap.objs.size) { s with heap:=h',toks:=tk }) :
  wpAny (model prog w) A (call (.type "set") [.ref l]) Q E s:=by
 obtain ⟨c,tl,hmro⟩:=PySem.F.called_set.mro
 have hmade:=PySem.F.called_set.made
 have hsub:=PySem.F.called_set.sub
 refine wpAny_call (codeAny_of_tree ?_)
 show wpAny _ _ (callAny (.type "set") _) _ _ _
 refine wpAny_pure ⟨Code.quiet_builtin _ (by decide +kernel),codeAny_builtin PySem.F.entry_type_call ?_⟩
 rw [Around.under_plain (weight_type_call_type "set" [.ref l] []) rfl]
 have h1:=PySem.F.called_set.notType
 have h2:=PySem.F.called_set.canCreate
 have hct:=PySem.F.typeCall_set_1 (.ref l)
 repeat (any_goals (first | assumption | wp_step))
 refine codeAny_mono (auj (.ref l) (E:=E) (Q₁:=fun obj s₁=>obj=.ref s.heap.objs.size/\s₁={ s with heap:=s.heap.push (ab6 w) }) ⟨rfl,rfl⟩) fun r s₁ hr=>?_
 cases r with
 | error e=>exact hr
 | ok fl =>
  cases fl with
  | ret obj =>
   obtain ⟨rfl,rfl⟩:=hr
   have hS:(s.heap.push (ab6 w)).get? s.heap.objs.size=some (ab6 w):=Heap.get?_push_size _ rfl
   have hT:Shared.TypeIs { s with heap:=s.heap.push (ab6 w) } (.ref s.heap.objs.size) "set":=⟨_,hS,rfl⟩
   have hli:=PySem.F.called_set.init.lookup
   have hbi:=PySem.F.called_set.init.bind (.ref s.heap.objs.size)
   repeat (any_goals (first | assumption | wp_step))
   refine codeAny_mono (codeAny_call_builtin (R:=wants (fun r s₂=>r=.none/\∃ h' tk L,s₂={ s with heap:=h',toks:=tk }/\SetT prog w U s.heap.objs.size L h'/\L.Nodup/\L.length<=items.size/\(∀ x,x∈L ↔ ∃ j,j < items.size/\val j=x) /\
     (∀ b o,s.heap.get? b=some o->h'.get? b=some o)) E) PySem.F.called_set.init.plain PySem.F.entry_set_init (check_set_init_1 hT ?_)) fun r₂ s₂ hr₂=>?_
   ·obtain ⟨ol,hol,hcl,nl,hdl⟩:=hl
    obtain ⟨ocls,odict,odata,oslots⟩:=ol
    simp only at hcl hdl
    subst hcl;subst hdl
    have hol':(s.heap.push (ab6 w)).get? l=some { cls:=.type "list",dict:=odict,data:=.seq items nl,slots:=oslots }:=Heap.get?_push_of_some _ hol
    have hsls:=PySem.F.sub_list_set
    have hslf:=PySem.F.sub_list_frozenset
    have hne:(Value.type "list" == Value.type "dict")=false:=by decide
    have hl1:(s.heap.push (ab6 w)).IsList l items:=⟨_,hol',rfl,nl,rfl⟩
    unfold Builtin.«set.__init__» noKeywords Builtin.Frozenset.updateFrom
    generalize hPI:pyIter=PI
    unfold ab6 at *
    wp_walk
    subst hPI
    refine wpAny_pyIter_list hl1 ?_
    refine wpAny_bind (wpAny_runValue ?_)
    have hlS:l < s.heap.objs.size:=Heap.lt_size hol
    have hh3:A.in1.in1.in1.handled=none:=by simp [hh]
    have hneI:l ≠ (s.heap.push (ab6 w)).objs.size:=by
     rw [Heap.size_push];exact Nat.ne_of_lt (Nat.lt_succ_of_lt hlS)
    have hSf:s.heap.objs.size ∉ [(s.heap.push (ab6 w)).objs.size,l]:=by
     rw [Heap.size_push];simp only [List.mem_cons,List.mem_singleton,List.not_mem_nil,or_false,not_or]
     exact ⟨Nat.ne_of_lt (Nat.lt_succ_self _),Nat.ne_of_gt hlS⟩
    have hts:∀ i,i < items.size->tup i < s.heap.objs.size:=fun i h=>let ⟨_,_,_,e,_⟩:=hi i h;Heap.lt_size e
    refine a05 (U:=U) (Walks.list hh3 _ l hneI items) s.heap.objs.size hSf hu s.heap val tup hP hU (fun b hb=>⟨Nat.ne_of_lt (hUl b hb),by rw [List.mem_singleton,Heap.size_push];exact Nat.ne_of_lt (Nat.lt_succ_of_lt (hUl b hb))⟩) hb
     (fun h' kp i h=>let ⟨o,its,m,e,q⟩:=hi i h;⟨o,its,m,kp _ o (Nat.ne_of_lt (Heap.lt_size e)) (by rw [List.mem_singleton,Heap.size_push];exact Nat.ne_of_lt (Nat.lt_succ_of_lt (Heap.lt_size e))) e,q⟩)
     (items.size - 0) 0 _ [] (by omega) (Nat.zero_le _)
     ⟨⟨_,Heap.get?_push_size _ rfl,rfl,rfl⟩,(hl1.push _)⟩ (fun b o _ _ e=>Heap.get?_push_of_some _ (Heap.get?_push_of_some _ e)) (let ⟨es,ep,t,ks,x,r⟩:=axc s.heap;⟨es,ep,t,ks,x.at (fun o e=>Heap.get?_push_of_some _ e) (fun b ks hb ⟨o,its,m,e,q⟩=>⟨o,its,m,Heap.get?_push_of_some _ e,q⟩),r⟩) List.nodup_nil (Nat.le_refl _) (fun x=>by simp) fun h' tk L hk hS' n1 n2 n3=>?_
    show wpAny _ _ _ _ _ _
    refine wpAny_pure ?_
    show wpAny _ _ (ret Value.none) _ _ _
    refine wpAny_pure ⟨rfl,h',tk,L,rfl,hS',n1,n2,n3,fun b o e=>?_⟩
    have hlt:=Heap.lt_size e
    have hb1:b ≠ s.heap.objs.size:=Nat.ne_of_lt hlt
    have hb2:b ≠ (s.heap.push (ab6 w)).objs.size:=by
     rw [Heap.size_push];exact Nat.ne_of_lt (Nat.lt_succ_of_lt hlt)
    exact hk b o hb1 (by rw [List.mem_singleton];exact hb2) (Heap.get?_push_of_some _ (Heap.get?_push_of_some _ e))
   ·cases r₂ with
    | error e=>exact hr₂
    | ok fl₂ =>
     cases fl₂ with
     | ret r =>
      obtain ⟨rfl,h',tk,L,rfl,hS',n1,n2,n3,hk'⟩:=hr₂
      repeat (any_goals (first | assumption | wp_step))
      exact h _ _ _ hS' n1 n2 n3 hk'
     | _=>exact hr₂.elim
  | _=>exact hr.elim
end
section
variable {prog:Program} {w:World} {A:Around} {E:Value->Shared->Prop} {s:Shared} {a:Addr}
def SetB (prog:Program) (w:World) (a:Addr) (bs:List Addr) (h:Heap):Prop:=∃ es ep t,SetR prog w a es ep t h/\(es.toList.map (·.2)).Perm (bs.map Value.ref)
theorem sorted_setT {bs:List Addr} {Q:Value->Shared->Prop} (hh:A.handled=none) (x:SetB prog w a bs s.heap) (hb:bs.length<=4000)
  (hκ:∀ vs:List Value,vs.Perm (bs.map Value.ref)->2<=vs.length->∀ h' tk d,(∀ b o,s.heap.get? b=some o->h'.get? b=some o)->∃ κ S R,(∀ (Q:SortKind->Shared->Prop),Q κ { s with heap:=h',toks:=tk,drawn:=d }->wpAny (model prog w) A.in1.in1 (keyKind' vs.toArray) Q E { s with heap:=h',toks:=tk,drawn:=d })/\TS.Cmp (model prog w) A.in1.in1 E { s with heap:=h',toks:=tk,drawn:=d } κ S R/\(∀ v∈vs,S (v,v)) /\
   ∀ (out:List Value) p h'' e,out.Perm vs->out.Pairwise (fun x y=>R (y,y) (x,x)=false)->(∀ b o,s.heap.get? b=some o->h''.get? b=some o)->s.heap.objs.size<=p->h''.get? p=some (seqObj "list" out.toArray e)->Q (.ref p) { s with heap:=h'',toks:=tk,drawn:=d })
  (h1:∀ (vs:List Value) p h'' e tk d,vs.Perm (bs.map Value.ref)->vs.length < 2->(∀ b o,s.heap.get? b=some o->h''.get? b=some o)->s.heap.objs.size<=p->h''.get? p=some (seqObj "list" vs.toArray e)->Q (.ref p) { s with heap:=h'',toks:=tk,drawn:=d }) :
  wpAny (model prog w) A (call (.builtin "sorted") [.ref a]) Q E s:=by
 obtain ⟨es,ep,t,x,hp⟩:=x
 have hsz:es.size=bs.length:=by have:=hp.length_eq;simpa using this
 have hline:es.size<=sizeLine:=by rw [sizeLine_eq];omega
 refine Calls.call_function_entry kind_sorted plain_sorted entry_sorted (args_sorted1 _) ?_
 unfold Builtin.«sorted»
 refine wpAny_bind (m:=checkCount "sorted" 1 1 _) (wpAny_pure (wpAny_bind (ani (A:=A.in1) hh x hline fun g tk d vs kp hs hv=>?_)))
 have hvp:=hv.trans hp
 have hlen:vs.length=bs.length:=by rw [hvp.length_eq,List.length_map]
 have hlz:vs.length<=sizeLine:=by rw [hlen,sizeLine_eq];omega
 refine wpAny_bind (wpAny_newList ?_ hlz)
 have hoL:(g.push (seqObj "list" vs.toArray 0)).get? g.objs.size=some (seqObj "list" vs.toArray 0):=Heap.get?_push_size _ rfl
 have keep:∀ b o,s.heap.get? b=some o->(g.push (seqObj "list" vs.toArray 0)).get? b=some o:=fun b o e=>Heap.get?_push_of_some _ (kp b o e)
 have fin:∀ out:List Value,(∀ b o,s.heap.get? b=some o->(sortedHeap (g.push (seqObj "list" vs.toArray 0)) g.objs.size vs out.toArray).get? b=some o):=fun out b o q=>by
  have lt:=Heap.lt_size (kp b o q)
  rw [sortedHeap_old (Nat.ne_of_lt lt) (by rw [size_push'];exact Nat.lt_succ_of_lt lt)]
  exact keep b o q
 refine wpAny_bind (wpAny_holding (wpAny_call_entry slot_list_sort ⟨_,hoL,rfl⟩ entry_list_sort ?body (args_list_sort _)))
 case body =>
  refine TS.list_sort_any (s:={ s with heap:=g.push (seqObj "list" vs.toArray 0),toks:=tk,drawn:=d }) hoL hlz (fun hge h' kq=>?_) fun hlt=>?_
  ·obtain ⟨κ,S,R,hk,C,hS,hfin⟩:=hκ vs hvp hge h' tk d fun b o e=>kq b o (Nat.ne_of_lt (Heap.lt_size (kp b o e))) (keep b o e)
   refine ⟨κ,S,R,hk,C,hS,fun out q1 q2=>⟨_,rfl,wpAny_pure ⟨_,rfl,?_⟩⟩⟩
   obtain ⟨e,he⟩:=sortedHeap_at (vs:=vs) (out:=out.toArray) (n:=0) hoL
   exact hfin out _ _ e q1 q2 (fin out) hs he
  ·refine ⟨_,rfl,wpAny_pure ⟨_,rfl,?_⟩⟩
   obtain ⟨e,he⟩:=sortedHeap_at (vs:=vs) (out:=vs.toArray) (n:=0) hoL
   exact h1 vs _ _ e tk d hvp hlt (fin vs) hs he
end
end SH
namespace L2
open PySem PySem.W PyProof.Rows
def avj (P:Program) (w:World) (K:Frag):List V->Hp->VK->Prop:=fun xs H Q=>∃ (a:Addr) (ts:List Addr) (ps:List (List Int)),xs=[.ref a]/\SqL K H a (ts.map V.ref)/\ts.length=ps.length/\ps.length<=2030 /\
 (∀ (i:Nat) t k,ts[i]?=some t->ps[i]?=some k->H t=some (.tup (k.map V.int))) /\
 ∀ (bs:List Addr) (L:List (List Int)) (p:Addr),bs.length=L.length->L.length<=ps.length->(∀ (i:Nat) b k,bs[i]?=some b->L[i]?=some k->H b=some (.tup (k.map V.int)))->L.Nodup->(∀ x,x∈L ↔ x∈ps)->H p=none->Q (.ref p) (upd H p (.ext (SH.SetB P w p bs)))
def ao1 (P:Program) (w:World):List V->Hp->VK->Prop:=fun xs H Q=>∃ (a:Addr) (bs:List Addr),xs=[.ref a]/\H a=some (.ext (SH.SetB P w a bs))/\bs.length<=4000/\(∀ b∈bs,TupI H (.ref b)) /\
 ∀ (vs':List V) (p:Addr),vs'.Perm (bs.map V.ref)->vs'.Pairwise (fun x y=>HT.lexLt (kH H y) (kH H x)=false)->H p=none->Q (.ref p) (upd H p (.lst vs'))
section
variable {X:Cx}
theorem amm {P:Program} {w:World}:∀ {its:List Value} {k:List Int},IntsAre its k->ItemsAre (intKind P w) k its
 | _,_,.nil => .nil
 | _,_,.cons i tk h => .cons (intKind_is _ _ _ _) (amm h)
theorem avk {H:Hp} {h:Heap} {P:Program} {w:World} (ok:HOk P w H h) {t:Addr} {k:List Int} (e:H t=some (.tup (k.map V.int))):(SH.TK P w).is h k t:=by
 obtain ⟨_,its,rv,o,e1,e2,n,e3⟩:=(show ObjOk P w H h t (.tup (k.map V.int)) from ok t _ e)
 refine ⟨o,its.toArray,n,e1,e2,e3,?_⟩
 have hi:IntsAre its k:=by simpa using (acj rv:IntsAre its.toArray.toList k)
 show ItemsAre (intKind P w) k its.toArray.toList
 rw [List.toList_toArray]
 exact amm hi
theorem call_setT (hc:X.calm=true) (hu:X.A.units+64 < cLine):abe X (.type "set") (avj X.prog X.w X.K):=by
 intro pins s σ H xs us Q I r h
 obtain ⟨a,ts,ps,rfl,ha,hl,hz,ht,q⟩:=h
 obtain ⟨u,rfl,ru⟩:=ade r
 cases ru
 obtain ⟨its,rv,p1,_⟩:=I.list ha
 have hlen:its.length=ts.length:=by have:=rv.length;rw [List.length_map] at this;omega
 have hsz:its.toArray.size=ts.length:=by simp [hlen]
 have g1:∀ {i},i < ts.length->ts[i]?=some (ts.getD i 0):=fun {i} hi=>by rw [List.getD_eq_getElem?_getD,List.getElem?_eq_getElem hi];rfl
 have g2:∀ {i},i < ts.length->ps[i]?=some (ps.getD i []):=fun {i} hi=>by rw [List.getD_eq_getElem?_getD,List.getElem?_eq_getElem (show i < ps.length by omega)];rfl
 have hH:∀ i,i < ts.length->H (ts.getD i 0)=some (.tup ((ps.getD i []).map V.int)):=fun i hi=>ht i _ _ (g1 hi) (g2 hi)
 refine SH.call_setT (n:=0) (U:=fun b=>b∈ts) (items:=its.toArray) (val:=fun i=>ps.getD i []) (tup:=fun i=>ts.getD i 0) (I.ok.hd hc) (by show X.A.units+1+1+1 < cLine;omega) p1.isList (fun i v hv=>?_) (fun i hi=>avk I.hok (hH i (by omega))) (fun i hi=>List.mem_of_getElem? (g1 (by omega))) (fun b hb=>?_) (by omega) fun h' tk L hS nd nl hm kp=>?_
 ·have hv:its[i]?=some v:=by simpa using hv
  have hi:=(List.getElem?_eq_some_iff.mp hv).1
  have e1:(ts.map V.ref)[i]?=some (.ref (ts.getD i 0)):=by rw [List.getElem?_map,g1 (by omega)];rfl
  obtain ⟨u,hu,ru⟩:=rv.get e1
  rw [hv] at hu
  cases hu
  exact ru
 ·obtain ⟨i,hi⟩:=List.getElem?_of_mem hb
  have hil:=(List.getElem?_eq_some_iff.mp hi).1
  have:=hH i hil
  rw [List.getD_eq_getElem?_getD,hi] at this
  exact ObjOk.lt (I.hok _ _ this)
 ·obtain ⟨es,ep,t,ks,x,_,hpk⟩:=hS
  have hkey:∀ (i:Nat) (e:Int × Value) k,es.toList[i]?=some e->ks[i]?=some k->∃ b,e.2=.ref b/\H b=some (.tup (k.map V.int)):=fun i e k h1 h2=>by
   obtain ⟨b,e1,e2,e3⟩:=x.gd i e k h1 h2
   refine ⟨b,by rw [e1],?_⟩
   obtain ⟨j,hj⟩:=List.getElem?_of_mem e3
   have hjl:=(List.getElem?_eq_some_iff.mp hj).1
   have hb:=hH j hjl
   rw [List.getD_eq_getElem?_getD,hj] at hb
   have hb:H b=some (.tup ((ps.getD j []).map V.int)):=hb
   have h3:=avk (I.hok.kept kp) hb
   rw [(SH.TK X.prog X.w).inj e2 h3]
   exact hb
  have hbs:∃ bs:List Addr,es.toList.map (·.2)=bs.map Value.ref/\bs.length=ks.length/\∀ (i:Nat) b k,bs[i]?=some b->ks[i]?=some k->H b=some (.tup (k.map V.int)):=by
   refine ⟨es.toList.map fun e=>match e.2 with | .ref b=>b | _=>0,?_,?_,fun i b k h1 h2=>?_⟩
   ·rw [List.map_map]
    refine List.map_congr_left fun e he=>?_
    obtain ⟨i,hi⟩:=List.getElem?_of_mem he
    have hil:i < ks.length:=by rw [x.len,← Array.length_toList];exact (List.getElem?_eq_some_iff.mp hi).1
    obtain ⟨b,e1,_⟩:=hkey i e _ hi (List.getElem?_eq_getElem hil)
    simp only [Function.comp,e1]
   ·rw [List.length_map,x.len,Array.length_toList]
   ·rw [List.getElem?_map] at h1
    cases he:es.toList[i]? with
    | none=>rw [he] at h1;cases h1
    | some e =>
     rw [he] at h1
     obtain ⟨b',e1,e2⟩:=hkey i e k he h2
     rw [Option.map_some,e1] at h1
     cases h1
     exact e2
  obtain ⟨bs,b1,b2,b3⟩:=hbs
  have hfr:=I.hok.fresh (a:=s.heap.objs.size) (Nat.le_refl _)
  have hSB:SH.SetB X.prog X.w s.heap.objs.size bs h':=⟨es,ep,t,x.r,by rw [b1]⟩
  refine ⟨.ref s.heap.objs.size,_,I.laid (t':=tk) (o:=.ext (SH.SetB X.prog X.w s.heap.objs.size bs)) kp (Nat.le_refl _) ⟨hSB,?_,fun h1 h2 ⟨es,ep,t,y,r⟩ k=>⟨es,ep,t,y.at k,r⟩⟩,rfl,q bs ks _ b2 ?_ b3 x.nd (fun y=>?_) hfr⟩
  ·obtain ⟨o,e,_⟩:=x.r
   exact ⟨o,e⟩
  ·rw [hpk.length_eq];omega
  ·rw [hpk.mem_iff,hm]
   constructor
   ·rintro ⟨j,hj,e⟩
    rw [← e]
    exact List.mem_of_getElem? (g2 (by omega))
   ·intro hy
    obtain ⟨j,hj⟩:=List.getElem?_of_mem hy
    have hjl:=(List.getElem?_eq_some_iff.mp hj).1
    exact ⟨j,by omega,by rw [List.getD_eq_getElem?_getD,hj];rfl⟩
theorem anl (hc:X.calm=true):abe X (.builtin "sorted") (ao1 X.prog X.w):=by
 intro pins s σ H xs us Q I r h
 obtain ⟨a,bs,rfl,ha,hz,hT,q⟩:=h
 obtain ⟨u,rfl,ru⟩:=ade r
 cases ru
 obtain ⟨hS,_,_⟩:=(show ObjOk X.prog X.w H s.heap a (.ext (SH.SetB X.prog X.w a bs)) from I.hok a _ ha)
 have hrefs:∀ {us:List Value},us.Perm (bs.map Value.ref)->∀ u∈us,∃ b,u=.ref b/\b∈bs:=fun {us} hp u hu=>by
  obtain ⟨b,hb,rfl⟩:=List.mem_map.mp (hp.mem_iff.mp hu)
  exact ⟨b,rfl,hb⟩
 have hvals:∀ {us:List Value},us.Perm (bs.map Value.ref)->Vals (us.map acv) us/\(∀ v∈us.map acv,TupI H v)/\(us.map acv).Perm (bs.map V.ref):=fun {us} hp=>by
  refine ⟨afz fun u hu=>let ⟨b,e,_⟩:=hrefs hp u hu;⟨b,e⟩,fun v hv=>?_,?_⟩
  ·obtain ⟨u,hu,rfl⟩:=List.mem_map.mp hv
   obtain ⟨b,rfl,hb⟩:=hrefs hp u hu
   exact hT b hb
  ·have:=hp.map acv
   rw [List.map_map] at this
   exact this
 have fin:∀ (us out:List Value) p h'' e tk d,us.Perm (bs.map Value.ref)->out.Perm us->(out.map acv).Pairwise (fun x y=>HT.lexLt (kH H y) (kH H x)=false)->(∀ b o,s.heap.get? b=some o->h''.get? b=some o)->s.heap.objs.size<=p->h''.get? p=some (seqObj "list" out.toArray e)->EP X pins σ Q (.ref p) { s with heap:=h'',toks:=tk,drawn:=d }:=by
  intro us out p h'' e tk d hp ho hs kp hpp he
  obtain ⟨v1,v2,v3⟩:=hvals (ho.trans hp)
  have hl:out.length=bs.length:=by rw [(ho.trans hp).length_eq,List.length_map]
  have J:=I.laid (t':=tk) (o:=.lst (out.map acv)) kp hpp (show ObjOk X.prog X.w _ h'' p (.lst (out.map acv)) from ⟨by rw [List.length_map,hl,sizeLine_eq];omega,out,e,v1,by rw [he]⟩)
  exact ⟨.ref p,_,J.drawn' d,rfl,q _ _ v3 hs (I.hok.fresh hpp)⟩
 refine SH.sorted_setT (I.ok.hd hc) hS hz (fun vs hp hge h' tk d kp=>?_) fun vs p h'' e tk d hp hlt kp hpp he=>?_
 ·obtain ⟨v1,v2,v3⟩:=hvals hp
  obtain ⟨⟨fs,k1,k2,k3⟩,k4⟩:=ag5 I kp v1 v2
  have hne:(Value.type "int" != Value.type "tuple")=true:=by rfl
  refine ⟨tuples' true,TS.tS h' (fun a=>kH H (.ref a)),TS.tR (fun a=>kH H (.ref a)),fun Q' hq=>?_,TS.cmp_tups (s:={ s with heap:=h',toks:=tk,drawn:=d }) (fun a=>kH H (.ref a)),fun v hv=>?_,fun out p h'' e ho hs kq hpp he=>fin vs out p h'' e tk d hp ho ?_ kq hpp he⟩
  ·refine PySem.W.kat_kind (T:=.type "int") (s:={ s with heap:=h',toks:=tk,drawn:=d }) k1 (by omega) (fun v hv=>?_) (by rfl) ?_
   ·obtain ⟨i,t,rfl⟩:=k3 v hv
    exact .now
   ·rw [hne];exact hq
  ·obtain ⟨a,e,ht⟩:=k4 v hv
   exact ⟨rfl,a,e,ht⟩
  ·rw [List.pairwise_map]
   refine List.Pairwise.imp_of_mem ?_ hs
   intro x y hx hy hr
   obtain ⟨ax,rfl,_⟩:=hrefs (ho.trans hp) x hx
   obtain ⟨ay,rfl,_⟩:=hrefs (ho.trans hp) y hy
   exact hr
 ·exact fin vs vs p h'' e tk d hp (List.Perm.refl _) (alw (by rw [List.length_map];exact hlt)) kp hpp he
end
end L2
namespace VL
open PySem PySem.Spec L2
section
variable {B:Bs} {env:En} {QO:Sl->En->Prop} {K:Frag} {ta:TA} {P:Program} {w:World}
theorem ap6 (h:EvA B ta env fun ds e=>∃ ps:List (Int × Int),ds=[.list (ps.map prD)]/\ps.length<=2030/\∀ qs:List (Int × Int),qs.Nodup->(∀ x,x∈qs ↔ x∈ps)->lexS (qs.map p2)->QO (.own (OL (qs.map prD))) e):EvO B (tCB (ao1 P w) (aay (tCB (avj P w K) ta) tNil)) env QO:=fun σ G H F Q I k =>
 h σ G H F _ I fun vs G1 H1 F1 ds e1 I1 g1 r1 z_=>by
  obtain ⟨ps,ed,hl,q1⟩:=z_
  subst ed
  cases r1 with
  | cons r t =>
   cases t
   cases r with
   | @lst a us _ ha rs =>
    rw [← ae7] at rs
    obtain ⟨t1,t2⟩:=adx I1.gh rs apx
    have hus:us.length=ps.length:=by have:=congrArg List.length t2;simpa using this
    obtain ⟨ts,ets⟩:∃ ts:List Addr,us=ts.map V.ref:=⟨us.map fun v=>match v with | .ref b=>b | _=>0,by
     rw [List.map_map]
     conv=>lhs;rw [← List.map_id us]
     refine List.map_congr_left fun v hv=>?_
     obtain ⟨b,_,rfl,_⟩:=t1 v hv
     rfl⟩
    subst ets
    have htl:ts.length=ps.length:=by simpa using hus
    have hk:∀ (i:Nat) t q,ts[i]?=some t->(ps.map p2)[i]?=some q->H1 t=some (.tup (q.map V.int)):=fun i t q h1 h2=>by
     have h3:(ts.map V.ref)[i]?=some (.ref t):=by rw [List.getElem?_map,h1];rfl
     obtain ⟨b,ns,e,hb,_⟩:=t1 _ (List.mem_of_getElem? h3)
     cases e
     have h4:((ts.map V.ref).map (kH H1))[i]?=some (kH H1 (.ref t)):=by rw [List.getElem?_map,h3];rfl
     rw [t2,h2,ahs hb] at h4
     cases h4
     exact hb
    refine ⟨a,ts,ps.map p2,rfl,SqL.of (I1.gh _ _ ha),by rw [List.length_map];exact htl,by rw [List.length_map];exact hl,hk,fun bs L p hbl hll hbk nd hm hf=>?_⟩
    rw [List.length_map] at hll
    have J:=I1.aside (p:=p) (o:=.ext (SH.SetB P w p bs)) (fun _ z=>nomatch z) (I1.no_g hf) (fun j z=>I1.no_f hf j z) (I1.no_b hf)
    have hb2:∀ (i:Nat) b q,bs[i]?=some b->L[i]?=some q->upd H1 p (.ext (SH.SetB P w p bs)) b=some (.tup (q.map V.int)):=fun i b q h1 h2=>by
     have:=hbk i b q h1 h2
     rw [aae (aaj this hf)]
     exact this
    have hLp:∀ q∈L,∃ x∈ps,q=p2 x:=fun q hq=>by
     obtain ⟨x,hx,e⟩:=List.mem_map.mp ((hm q).mp hq)
     exact ⟨x,hx,e.symm⟩
    have hbT:∀ b∈bs,TupI (upd H1 p (.ext (SH.SetB P w p bs))) (.ref b):=fun b hb=>by
     obtain ⟨i,hi⟩:=List.getElem?_of_mem hb
     have hil:i < L.length:=by rw [← hbl];exact (List.getElem?_eq_some_iff.mp hi).1
     refine ⟨b,L[i],rfl,hb2 i b _ hi (List.getElem?_eq_getElem hil),?_⟩
     obtain ⟨x,_,e⟩:=hLp _ (List.getElem_mem hil)
     rw [e]
     simp
    have hbL:(bs.map V.ref).map (kH (upd H1 p (.ext (SH.SetB P w p bs))))=L:=by
     refine List.ext_getElem? fun i=>?_
     rw [List.getElem?_map,List.getElem?_map]
     by_cases hi:i < bs.length
     ·rw [List.getElem?_eq_getElem hi,List.getElem?_eq_getElem (show i < L.length by omega),Option.map_some,Option.map_some,ahs (hb2 i _ _ (List.getElem?_eq_getElem hi) (List.getElem?_eq_getElem (by omega)))]
     ·rw [List.getElem?_eq_none (by omega),List.getElem?_eq_none (show L.length<=i by omega)]
      rfl
    refine ⟨p,bs,rfl,aah,by omega,hbT,fun ws p' hp hs hf'=>?_⟩
    have tw:∀ v∈ws,TupI (upd H1 p (.ext (SH.SetB P w p bs))) v:=fun v hv=>by
     obtain ⟨b,hb,rfl⟩:=List.mem_map.mp (hp.mem_iff.mp hv)
     exact hbT b hb
    have o:=Out.newL J.gh hf' (afj J.ft tw)
    have hqp:(ws.map (kH (upd H1 p (.ext (SH.SetB P w p bs))))).Perm L:=by
     have:=hp.map (kH (upd H1 p (.ext (SH.SetB P w p bs))))
     rw [hbL] at this
     exact this
    obtain ⟨qs,eqs⟩:∃ qs:List (Int × Int),ws.map (kH (upd H1 p (.ext (SH.SetB P w p bs))))=qs.map p2:=⟨(ws.map (kH (upd H1 p (.ext (SH.SetB P w p bs))))).map fun l=>(l.getD 0 0,l.getD 1 0),by
     rw [List.map_map]
     conv=>lhs;rw [← List.map_id (ws.map (kH (upd H1 p (.ext (SH.SetB P w p bs)))))]
     refine List.map_congr_left fun q hq=>?_
     obtain ⟨x,_,rfl⟩:=hLp q (hqp.mem_iff.mp hq)
     rfl⟩
    rw [eqs] at hqp o
    rw [ae7] at o
    have p2i:∀ x y:Int × Int,p2 x=p2 y->x=y:=fun x y e=>by
     obtain ⟨a,b⟩:=x
     obtain ⟨c,d⟩:=y
     simp [p2] at e
     rw [e.1,e.2]
    refine k _ _ _ F1 _ _ e1 (J.out o).1 (g1.trans o.gg) (J.out o).2 (q1 qs ?_ (fun x=>?_) ?_)
    ·have:=hqp.nodup_iff.mpr nd
     rw [List.Nodup,List.pairwise_map] at this
     exact this.imp fun {x y} h e=>h (by rw [e])
    ·constructor
     ·intro hx
      obtain ⟨y,hy,e⟩:=hLp _ (hqp.mem_iff.mp (List.mem_map_of_mem hx))
      rw [p2i x y e]
      exact hy
     ·intro hx
      obtain ⟨y,hy,e⟩:=List.mem_map.mp (hqp.mem_iff.mpr ((hm (p2 x)).mpr (List.mem_map_of_mem hx)))
      rw [← p2i y x e]
      exact hy
    ·rw [← eqs]
     unfold lexS
     rw [List.pairwise_map]
     exact hs
end
end VL
namespace L2
open PySem PySem.W PyProof.Rows
def ap7 (td ty tx:TE):TE:=fun σ H Q=>td σ H fun x H1=>∃ a,x=.ref a/\IsD H1 a/\ty σ H1 fun y H2=>tx σ H2 fun z H3=>∃ kvs k,H3 a=some (.dK kvs)/\y=kV k/\kvs.length < sizeLine/\(∀ v,valV kvs k=some v->Q v H3)/\(valV kvs k=none->Q z (upd H3 a (.dK (putK kvs k z))))
section
variable {X:Cx} {pins:List (Addr × Obj)} {σ:St} {H:Hp} {s:Shared} {a:Addr} {kvs:List (Key × V)} {k:Key} {A:Around} {E:Value->Shared->Prop}
theorem auo {z:V} {u r:Value} {Q:Value->Shared->Prop} (I:Inv X pins σ H s) (e:H a=some (.dK kvs)) (ry:RelV (kV k) u) (rz:RelV z r) (hl:kvs.length < sizeLine)
  (h1:∀ v w' s',valV kvs k=some v->Inv X pins σ H s'->RelV v w'->Q w' s') (h2:∀ s',valV kvs k=none->Inv X pins σ (upd H a (.dK (putK kvs k z))) s'->Q r s') :
  wpAny (model X.prog X.w) A (call (.builtin "dict.setdefault") [.ref a,u,r]) Q E s:=by
 obtain ⟨hz,hd,vs,rel,dd⟩:=a0c I.hok e
 refine call_meetsIn PySem.F.slot_dict_setdefault dd.typeIs PySem.F.entry_dict_setdefault (PySem.F.args_dict_setdefault_3 _ _ _) (kt_meets_setdefault (abg X.prog X.w) a (apg ry) hd r)
  ⟨vs,dd,by rw [← rel.length];exact hz,fun v hv=>?_,fun hn h' dd' hs=>?_⟩
 ·have hr:=rel.val k
  rw [hv] at hr
  cases hval:valV kvs k with
  | none=>rw [hval] at hr;cases hr
  | some x =>
   rw [hval] at hr
   exact h1 x v _ hval (I.tok _) hr
 ·have hr:=rel.val k
  rw [hn] at hr
  cases hval:valV kvs k with
  | some x=>rw [hval] at hr;cases hr
  | none =>
   have hp:putK kvs k z=kvs ++ [(k,z)]:=by
    unfold putK
    rw [ag0,hval]
    rfl
   have hst:stored vs k r=vs ++ [(k,r)]:=stored_absent hn r
   refine h2 _ hval ?_
   obtain ⟨q,hq⟩:∃ q,h'.get? a=some q:=let ⟨o,_,_,e,_⟩:=dd';⟨o,e⟩
   refine avu I (by rw [e];exact True.intro) hs ⟨q,hq⟩ (ax9 (by rw [hp,List.length_append];simp;omega) hd (vs:=vs ++ [(k,r)]) (by rw [hp];exact Paired.snoc rel ⟨rfl,rz⟩) (by rw [← hst];exact dd'))
end
section
variable {X:Cx} {o e f:Expr} {apos cpos:Pos} {td ty tx:TE}
theorem ao2 (ho:PE X o td) (he:PE X e ty) (hf:PE X f tx) (m:M2 X o "setdefault" apos e f cpos):PE X (.Call (.Attribute o "setdefault" apos) [e,f] [] cpos) (ap7 td ty tx):=by
 intro pins s σ H Q I h
 refine wpAny_Call_method m.base m.few m.line PySem.F.plainAttrs_dict PySem.F.slot_dict_setdefault PySem.F.type_dict_setdefault (thn (ho pins s σ H _ I h) fun u s1 ⟨x,H1,I1,rx,a,ex,d,q1⟩=>?_)
 subst ex
 obtain rfl:u=Value.ref a:=rx
 obtain ⟨t1,t2,_⟩:=aqy I1 d
 refine ⟨t1,t2,?_⟩
 rw [m.trees]
 refine Calls.callWith_builtin rfl (Calls.evalArgs_plain (Calls.spliced_cons (thn (he pins s1 σ H1 _ I1 q1) fun iv s2 ⟨y,H2,I2,ry,q2⟩ =>
  Calls.spliced_cons (thn (hf pins s2 σ H2 _ I2 q2) fun fv s3 ⟨z,H3,I3,rz,kvs,k,ea,ey,hl,q3,q4⟩=>Calls.spliced_nil ?_))))
 subst ey
 exact auo I3 ea ry rz hl (fun v w' s' hv I4 rw'=>⟨v,H3,I4,rw',q3 v hv⟩) fun s' hv I4=>⟨z,_,I4,rz,q4 hv⟩
end
end L2
namespace VL
open PySem PySem.Spec L2
noncomputable def zipK:List (Int × List PyData)->List Addr->List (Int × V)
 | p :: es,a :: as=>(p.1,.ref a) :: zipK es as
 | _,_=>[]
theorem ahb {k:Int}:∀ {es:List (Int × List PyData)} {as:List Addr} {i:Nat} {ds:List PyData} {b:Addr},(es.map (·.1)).Nodup->es[i]?=some (k,ds)->as[i]?=some b->valV (dkOf (zipK es as)) (.inl k)=some (.ref b)
 | [],_,i,_,_,_,h,_=>by simp at h
 | _ :: _,[],i,_,_,_,_,h=>by simp at h
 | p :: es,a :: as,0,ds,b,nd,h1,h2=>by
  simp at h1 h2
  subst h1 h2
  exact afb (p:=(Sum.inl k,V.ref a)) rfl
 | p :: es,a :: as,i+1,ds,b,nd,h1,h2=>by
  rw [List.map_cons,List.nodup_cons] at nd
  have h1':es[i]?=some (k,ds):=by simpa using h1
  have hne:¬ ((Sum.inl p.1:Key)=Sum.inl k):=fun e=>nd.1 (by rw [Sum.inl.inj e];exact List.mem_map.mpr ⟨_,List.mem_of_getElem? h1',rfl⟩)
  show valV ((Sum.inl p.1,V.ref a) :: dkOf (zipK es as)) _=_
  rw [aeh (p:=(Sum.inl p.1,V.ref a)) hne]
  exact ahb nd.2 h1' (by simpa using h2)
theorem ajs {k:Int}:∀ {es:List (Int × List PyData)} {as:List Addr},(∀ p∈es,p.1 ≠ k)->valV (dkOf (zipK es as)) (.inl k)=none
 | [],_,_=>by simp [zipK];rfl
 | _ :: _,[],_=>rfl
 | p :: es,a :: as,h=>by
  have hne:¬ ((Sum.inl p.1:Key)=Sum.inl k):=fun e=>h p List.mem_cons_self (Sum.inl.inj e)
  show valV ((Sum.inl p.1,V.ref a) :: dkOf (zipK es as)) _=_
  rw [aeh (p:=(Sum.inl p.1,V.ref a)) hne]
  exact ajs fun q hq=>h q (List.mem_cons_of_mem _ hq)
theorem ajt {p:Int × List PyData} {a:Addr}:∀ {es:List (Int × List PyData)} {as:List Addr},es.length=as.length->zipK (es ++ [p]) (as ++ [a])=zipK es as ++ [(p.1,.ref a)]
 | [],[],_=>rfl
 | [],_ :: _,h=>by simp at h
 | _ :: _,[],h=>by simp at h
 | q :: es,b :: as,h=>by
  show (q.1,V.ref b) :: zipK (es ++ [p]) (as ++ [a])=_
  rw [ajt (by simpa using h)]
  rfl
theorem aju:∀ {es fs:List (Int × List PyData)} {as:List Addr},es.map (·.1)=fs.map (·.1)->zipK es as=zipK fs as
 | [],[],_,_=>rfl
 | [],_ :: _,_,h=>by simp at h
 | _ :: _,[],_,h=>by simp at h
 | p :: es,q :: fs,[],h=>rfl
 | p :: es,q :: fs,a :: as,h=>by
  rw [List.map_cons,List.map_cons,List.cons.injEq] at h
  show (p.1,V.ref a) :: zipK es as=(q.1,V.ref a) :: zipK fs as
  rw [h.1,aju h.2]
theorem amn:∀ {es:List (Int × List PyData)} {as:List Addr},es.length=as.length->(zipK es as).length=es.length
 | [],_,_=>by simp [zipK]
 | _ :: _,[],h=>by simp at h
 | p :: es,a :: as,h=>by
  show (zipK es as).length+1=es.length+1
  rw [amn (by simpa using h)]
noncomputable def OKL (es:List (Int × List PyData)):Own where
 P:=fun G H v F=>∃ (a:Addr) (as:List Addr),v=.ref a/\H a=some (.dK (dkOf (zipK es as)))/\(es.map fun q:Int × List PyData=>q.1).Nodup/\as.Nodup/\a ∉ as/\es.length=as.length/\(∀ (i:Nat) b p,as[i]?=some b->es[i]?=some p->∃ vs,H b=some (.lst vs)/\Rps G vs p.2)/\∀ b,F b ↔ b=a\/b∈as
 mono:=fun ⟨a,as,e,h,n0,n1,n2,l,r,f⟩ g hh=>⟨a,as,e,hh a _ ((f a).mpr (.inl rfl)) h,n0,n1,n2,l,fun i b p hb hd=>by
  obtain ⟨vs,h1,h2⟩:=r i b p hb hd
  exact ⟨vs,hh b _ ((f b).mpr (.inr (List.mem_of_getElem? hb))) h1,h2.same g⟩,f⟩
 dom:=fun ⟨a,as,e,h,n0,n1,n2,l,r,f⟩ b z=>by
  rcases (f b).mp z with rfl | z
  ·exact ⟨_,h⟩
  ·obtain ⟨i,hi,e⟩:=List.mem_iff_getElem.mp z
   have hb:as[i]?=some b:=by rw [List.getElem?_eq_getElem hi,e]
   obtain ⟨vs,h1,_⟩:=r i b _ hb (List.getElem?_eq_getElem (by rw [l];exact hi))
   exact ⟨_,h1⟩
theorem ar8 {G H:Hp} {v:V} {F:Addr->Prop} (h:(OD []).P G H v F):(OKL []).P G H v F:=by
 obtain ⟨a,kvs,e,h,r,f⟩:=h
 cases r
 exact ⟨a,[],e,h,List.nodup_nil,List.nodup_nil,by simp,rfl,fun i b p hb=>by simp at hb,fun b=>by rw [f b];simp⟩
theorem ao3 {G:Hp}:∀ {es:List (Int × List PyData)} {as:List Addr},es.length=as.length->(∀ (i:Nat) b p,as[i]?=some b->es[i]?=some p->Rp G (.ref b) (.list p.2))->RpK G (dkOf (zipK es as)) (es.map fun p=>(.inl p.1,.list p.2))
 | [],_,_,_=>by simp [zipK];exact .nil
 | _ :: _,[],h,_=>by simp at h
 | p :: es,a :: as,h,q => .cons (q 0 a p rfl rfl) (ao3 (by simpa using h) fun i b p h1 h2=>q (i+1) b p (by simpa using h1) (by simpa using h2))
@[reducible] noncomputable def kvG (es:List (Int × List PyData)):List (Key × PyData):=es.map fun p=>(.inl p.1,.list p.2)
theorem axd {es:List (Int × List PyData)}:Frz (OKL es) (ago (kvG es)):=fun G H v F ⟨a,as,e,h,n0,n1,n2,l,r,f⟩ n g=>by
 subst e
 refine .dk (by rw [adu ((f a).mpr (.inl rfl))];exact h) (ao3 l fun i b p hb hp=>?_) rfl
 obtain ⟨vs,h1,h2⟩:=r i b p hb hp
 exact .lst (by rw [adu ((f b).mpr (.inr (List.mem_of_getElem? hb)))];exact h1) (h2.same (abd n))
section
variable {B:Bs} {env:En} {QO:Sl->En->Prop} {Q':PyData->En->Prop} {D':VEnds} {K:Frag} {i:Nat}
theorem axe {t:TS} (i:Nat) (e:env[i]?=some (some (.own (OD [])))) (q:EvS B t D' (env.set i (some (.own (OKL []))))):EvS B t D' env:=fun σ G H F D I r=>q σ G H F D (I.weakO e fun _ _ _ _=>ar8) r
theorem ap8 {es:List (Int × List PyData)} {l j:Nat} {k:Int} {y:PyData} (e:env[i]?=some (some (.own (OKL es)))) (ek:env[l]?=some (some (.st (.int k)))) (ey:env[j]?=some (some (.st y)))
  (hel:es.length<=900000) (hds:∀ p∈es,p.2.length<=900000)
  (q1:∀ (n:Nat) (ds:List PyData),es[n]?=some (k,ds)->Q' .none (env.set i (some (.own (OKL (es.set n (k,ds ++ [y])))))))
  (q2:(∀ p∈es,p.1 ≠ k)->Q' .none (env.set i (some (.own (OKL (es ++ [(k,[y])])))))):Ev B (tBM K "list" ac7 (ap7 (tVar i) (tVar l) (tLst tNil)) (aay (tVar j) tNil)) env Q':=fun σ G H F Q I kk=>by
 obtain ⟨v,hv,⟨a,as,rfl,h,n0,n1,n2,ln,r,f⟩,_⟩:=I.sl i _ e
 obtain ⟨vk,hvk,rk,_⟩:=I.sl l _ ek
 obtain ⟨vy,hvy,ry,_⟩:=I.sl j _ ey
 cases rk
 refine ⟨_,hv,a,rfl,.inl ⟨_,.inl h⟩,_,hvk,by decide,fun p hp=>?_⟩
 have ap:a ≠ p:=aaj h hp
 have has:∀ b∈as,∃ vs,H b=some (.lst vs):=fun b hb=>by
  obtain ⟨i,hi⟩:=List.getElem?_of_mem hb
  obtain ⟨vs,h1,_⟩:=r i b _ hi (List.getElem?_eq_getElem (show i < es.length by rw [ln];exact (List.getElem?_eq_some_iff.mp hi).1))
  exact ⟨vs,h1⟩
 have pas:p ∉ as:=fun hb=>by obtain ⟨vs,h1⟩:=has p hb;rw [h1] at hp;cases hp
 have hzl:(dkOf (zipK es as)).length < sizeLine:=by
  unfold dkOf
  rw [List.length_map,amn ln,sizeLine_eq]
  omega
 refine ⟨dkOf (zipK es as),.inl k,by rw [aae ap];exact h,rfl,hzl,fun v hval=>?_,fun hval=>?_⟩
 ·-- the key is there
  have hex:∃ (n:Nat) (ds:List PyData),es[n]?=some (k,ds):=by
   apply Classical.byContradiction
   intro hno
   rw [ajs fun q hq z=>?_] at hval
   ·cases hval
   ·obtain ⟨m,hm⟩:=List.getElem?_of_mem hq
    exact hno ⟨m,q.2,by rw [hm,← z]⟩
  obtain ⟨n,ds,hn⟩:=hex
  have hnl:n < as.length:=by rw [← ln];exact (List.getElem?_eq_some_iff.mp hn).1
  have hb:as[n]?=some as[n]:=List.getElem?_eq_getElem hnl
  generalize as[n]'hnl=b at hb
  have hbm:b∈as:=List.mem_of_getElem? hb
  rw [ahb n0 hn hb] at hval
  cases hval
  obtain ⟨vs,h1,h2⟩:=r n b _ hb hn
  have bp:b ≠ p:=fun z=>pas (z ▸ hbm)
  have hab:a ≠ b:=fun z=>n2 (z ▸ hbm)
  have hl2:=hds _ (List.mem_of_getElem? hn)
  have J0:=I.aside (p:=p) (o:=.lst []) (fun _ z=>nomatch z) (I.no_g hp) (fun j z=>I.no_f hp j z) (I.no_b hp)
  have h1':upd H p (.lst []) b=some (.lst vs):=by rw [aae bp];exact h1
  refine ⟨.inl ⟨rfl,_,SqL.of h1'⟩,_,hvy,ac8 h1' (by rw [h2.length,sizeLine_eq];have:ds.length<=900000:=hl2;omega) ?_⟩
  have J:=J0.change (A:=OKL (es.set n (k,ds ++ [y]))) (H2:=upd (upd H p (.lst [])) b (.lst (vs ++ [vy]))) (F2:=F i) (os':=.own (OKL (es.set n (k,ds ++ [y])))) i e hv (fun c o hc ec=>by rw [aae (fun z:c=b=>hc ((f c).mpr (.inr (by rw [z];exact hbm))))];exact ec)
   (fun c o ec=>by
    by_cases z:c=b
    ·rw [z];exact ⟨_,aah⟩
    ·rw [aae z];exact ⟨o,ec⟩)
   (fun c z=>⟨.inl z,by
    by_cases y:c=b
    ·rw [y];exact ⟨_,aah⟩
    ·rw [aae y];exact J0.fo i c z⟩) ?_ (fun c ks e=>by
    by_cases z:c=b
    ·subst z;rw [aah] at e;cases e
    ·rw [aae z] at e;exact J0.ft c ks e) (.inl ⟨rfl,_,rfl⟩)
  ·exact kk _ G _ _ _ _ J (Same.refl _) .non (q1 n ds hn)
  ·have hk:(es.set n (k,ds ++ [y])).map (·.1)=es.map (·.1):=by
    refine List.ext_getElem? fun m=>?_
    rw [List.getElem?_map,List.getElem?_map,List.getElem?_set]
    by_cases hm:n=m
    ·subst hm
     rw [if_pos rfl,if_pos (show n < es.length by rw [ln];exact hnl),hn]
     rfl
    ·rw [if_neg hm]
   refine ⟨a,as,rfl,?_,by rw [hk];exact n0,n1,n2,by rw [List.length_set];exact ln,fun m c q hc hq=>?_,f⟩
   ·rw [aae hab,aae ap,aju hk]
    exact h
   ·by_cases hm:m=n
    ·subst hm
     rw [hb] at hc;cases hc
     rw [List.getElem?_set,if_pos rfl,if_pos (show m < es.length by rw [ln];exact hnl)] at hq
     cases hq
     exact ⟨_,aah,h2.append (.cons ry .nil)⟩
    ·rw [List.getElem?_set,if_neg (fun z=>hm z.symm)] at hq
     obtain ⟨us,h3,h4⟩:=r m c q hc hq
     refine ⟨us,?_,h4⟩
     have hcm:=List.mem_of_getElem? hc
     rw [aae,aae (fun z:c=p=>pas (z ▸ hcm))]
     ·exact h3
     ·rintro rfl
      obtain ⟨l1,e1⟩:=List.getElem?_eq_some_iff.mp hb
      obtain ⟨l2,e2⟩:=List.getElem?_eq_some_iff.mp hc
      exact hm (nodup_ix n1 l2 l1 (e2.trans e1.symm))
 ·-- a new key
  have hno:∀ q∈es,q.1 ≠ k:=fun q hq z=>by
   obtain ⟨m,hm⟩:=List.getElem?_of_mem hq
   have hml:m < as.length:=by rw [← ln];exact (List.getElem?_eq_some_iff.mp hm).1
   have:=ahb (k:=k) (ds:=q.2) n0 (by rw [hm,← z]) (List.getElem?_eq_getElem hml)
   rw [this] at hval
   cases hval
  have hput:putK (dkOf (zipK es as)) (.inl k) (.ref p)=dkOf (zipK (es ++ [(k,[y])]) (as ++ [p])):=by
   rw [ajt ln]
   unfold putK
   rw [ag0,hval]
   unfold dkOf
   rw [List.map_append]
   rfl
  rw [hput]
  have pa:p ≠ a:=ap.symm
  have h1':upd (upd H p (.lst [])) a (.dK (dkOf (zipK (es ++ [(k,[y])]) (as ++ [p])))) p=some (.lst []):=by rw [aae pa,aah]
  refine ⟨.inl ⟨rfl,_,SqL.of h1'⟩,_,hvy,ac8 h1' (show (0:Nat) < sizeLine by rw [sizeLine_eq];decide) ?_⟩
  have J:=I.change (A:=OKL (es ++ [(k,[y])])) (H2:=upd (upd (upd H p (.lst [])) a (.dK (dkOf (zipK (es ++ [(k,[y])]) (as ++ [p]))))) p (.lst ([] ++ [vy]))) (F2:=fun c=>F i c\/c=p) (os':=.own (OKL (es ++ [(k,[y])]))) i e hv (fun c o hc ec=>by
    rw [aae (aaj ec hp),aae (fun z:c=a=>hc ((f c).mpr (.inl z))),aae (aaj ec hp)]
    exact ec)
   (fun c o ec=>by
    by_cases z:c=p
    ·rw [z];exact ⟨_,aah⟩
    ·rw [aae z]
     by_cases z2:c=a
     ·rw [z2];exact ⟨_,aah⟩
     ·rw [aae z2,aae z];exact ⟨o,ec⟩)
   (fun c z=>by
    rcases z with z | z
    ·refine ⟨.inl z,?_⟩
     obtain ⟨o,ec⟩:=I.fo i c z
     rw [aae (aaj ec hp)]
     by_cases z2:c=a
     ·rw [z2];exact ⟨_,aah⟩
     ·rw [aae z2,aae (aaj ec hp)];exact ⟨o,ec⟩
    ·subst z
     exact ⟨.inr hp,_,aah⟩) ?_ (fun c ks e=>by
    by_cases z:c=p
    ·subst z;rw [aah] at e;cases e
    ·rw [aae z] at e
     by_cases z2:c=a
     ·subst z2;rw [aah] at e;cases e
     ·rw [aae z2,aae z] at e;exact I.ft c ks e) (.inl ⟨rfl,_,rfl⟩)
  ·exact kk _ G _ _ _ _ J (Same.refl _) .non (q2 hno)
  ·refine ⟨a,as ++ [p],rfl,by rw [aae ap,aah],?_,?_,?_,by rw [List.length_append,List.length_append,ln];rfl,fun m c q hc hq=>?_,fun c=>?_⟩
   ·rw [List.map_append,List.nodup_append]
    refine ⟨n0,by simp,fun x hx z hz=>?_⟩
    obtain ⟨q,hq,rfl⟩:=List.mem_map.mp hx
    have:z=k:=by simpa using hz
    rw [this]
    exact hno q hq
   ·rw [List.nodup_append]
    refine ⟨n1,by simp,fun x hx z hz=>?_⟩
    have:z=p:=by simpa using hz
    rw [this]
    exact fun e=>pas (e ▸ hx)
   ·intro z
    rcases List.mem_append.mp z with z | z
    ·exact n2 z
    ·exact ap (List.mem_singleton.mp z)
   ·by_cases hm:m < as.length
    ·rw [List.getElem?_append_left hm] at hc
     rw [List.getElem?_append_left (by omega)] at hq
     obtain ⟨us,h3,h4⟩:=r m c q hc hq
     have hcm:=List.mem_of_getElem? hc
     refine ⟨us,?_,h4⟩
     rw [aae (fun z:c=p=>pas (z ▸ hcm)),aae (fun z:c=a=>n2 (z ▸ hcm)),aae (fun z:c=p=>pas (z ▸ hcm))]
     exact h3
    ·have hm2:m=as.length:=by
      have:=(List.getElem?_eq_some_iff.mp hc).1
      simp at this
      omega
     subst hm2
     rw [List.getElem?_append_right (Nat.le_refl _),Nat.sub_self] at hc
     rw [← ln,List.getElem?_append_right (Nat.le_refl _),Nat.sub_self] at hq
     cases hc
     cases hq
     exact ⟨_,aah,.cons ry .nil⟩
   ·show (F i c\/c=p) ↔ _
    rw [f c,List.mem_append,List.mem_singleton]
    exact or_assoc
noncomputable def aev (es:List (Int × List PyData)) (k:Int):List PyData:=((es.find? fun p=>decide (p.1=k)).map (·.2)).getD []
theorem axf (es:List (Int × List PyData)) (k:Int):valD (kvG es) (.inl k)=(es.find? fun p=>decide (p.1=k)).map fun p => .list p.2:=by
 unfold valD kvG
 rw [List.find?_map,Option.map_map]
 congr 1
 apply congrFun (congrArg List.find? (funext fun p=>?_))
 simp [Function.comp]
theorem ar9 {es:List (Int × List PyData)} {l:Nat} {k:Int} {s1:Sl} (e:env[i]?=some (some s1)) (hs:(s1=.own (OKL [])/\es=[])\/(s1=.st (ago (kvG es))/\es ≠ [])) (ek:env[l]?=some (some (.st (.int k)))) (q1:aev es k=[]->QO (.own (OL [])) env) (q2:QO (.st (.list (aev es k))) env):EvO B (ahk (tVar i) (tVar l) (tLst tNil)) env QO:=fun σ G H F Q I kk=>by
 obtain ⟨v,hv,rv⟩:=I.sl i _ e
 obtain ⟨vk,hvk,rk,_⟩:=I.sl l _ ek
 cases rk
 rcases hs with ⟨rfl,rfl⟩ | ⟨rfl,hne⟩
 ·obtain ⟨⟨a,as,rfl,h,n0,n1,n2,ln,r,f⟩,_⟩:=rv
  refine ⟨_,hv,a,rfl,.inl ⟨_,.inl h⟩,_,hvk,by decide,fun p hp=>⟨none,.inl ⟨_,.inl k,.inl (by rw [aae (aaj h hp)];exact h),rfl,rfl⟩,?_⟩⟩
  have o:=Out.newL (xs:=[]) (ds:=[]) I.gh hp .nil
  exact kk _ _ _ F _ _ env (I.out o).1 o.gg (I.out o).2 (q1 rfl)
 ·obtain ⟨a,kvs,rfl,ha,rk⟩:=aw2 rv.1 (by cases es with | nil=>exact absurd rfl hne | cons p es=>exact List.cons_ne_nil _ _)
  have ha':=I.gh _ _ ha
  refine ⟨_,hv,a,rfl,.inl ⟨kvs,.inl ha'⟩,_,hvk,by decide,fun p hp=>⟨valV kvs (.inl k),.inl ⟨kvs,.inl k,.inl (by rw [aae (aaj ha' hp)];exact ha'),rfl,rfl⟩,?_⟩⟩
  have hval:=axf es k
  cases hf:es.find? fun p=>decide (p.1=k) with
  | none =>
   rw [hf] at hval
   rw [(RpK.val rk).1 hval]
   have o:=Out.newL (xs:=[]) (ds:=[]) I.gh hp .nil
   exact kk _ _ _ F _ _ env (I.out o).1 o.gg (I.out o).2 (q1 (by unfold aev;rw [hf];rfl))
  | some q =>
   rw [hf] at hval
   obtain ⟨w,hw,rw'⟩:=(RpK.val rk).2 _ hval
   rw [hw]
   have J:=I.aside (p:=p) (o:=.lst []) (fun _ z=>nomatch z) (I.no_g hp) (fun j z=>I.no_f hp j z) (I.no_b hp)
   have e2:aev es k=q.2:=by unfold aev;rw [hf];rfl
   rw [e2] at q2
   exact kk _ _ _ F _ _ env J (Same.refl _) (ad3 rw') q2
theorem asa {QI:List PyData->En->Prop} {es:List (Int × List PyData)} {l:Nat} {k:Int} {s1:Sl} (e:env[i]?=some (some s1)) (hs:(s1=.own (OKL [])/\es=[])\/(s1=.st (ago (kvG es))/\es ≠ [])) (ek:env[l]?=some (some (.st (.int k)))) (q:QI (aev es k) env):EvI B (apa K (ahk (tVar i) (tVar l) (tLst tNil))) env QI :=
 al0 (ab7 (ar9 e hs ek (fun h=>aer ⟨_,rfl,by rw [h] at q;exact q⟩) (avb ⟨_,rfl,q⟩)))
end
theorem ap9 {B:Bs} {env:En} {QO:Sl->En->Prop} {K:Frag} {ta:TA} (h:EvA B ta env fun ds e=>∃ ps:List (Int × Int),ds=[.list (ps.map prD)]/\∀ qs:List (Int × Int),qs.Perm ps->lexS (qs.map p2)->QO (.own (OL (qs.map prD))) e):EvO B (tCB (af0 K) ta) env QO:=fun σ G H F Q I k =>
 h σ G H F _ I fun vs G1 H1 F1 ds e1 I1 g1 r1 z_=>by
  obtain ⟨ps,ed,q1⟩:=z_
  rw [← ae7] at ed
  subst ed
  cases r1 with
  | cons r t =>
   cases t
   cases r with
   | @lst a us _ ha rs =>
    obtain ⟨t1,t2⟩:=adx I1.gh rs apx
    refine ⟨a,us,rfl,SqL.of (I1.gh _ _ ha),t1,fun ws p hp hs hf=>?_⟩
    have tw:∀ v∈ws,TupI H1 v:=fun v hv=>t1 v (hp.mem_iff.mp hv)
    have o:=Out.newL I1.gh hf (afj I1.ft tw)
    have hp':=hp.map (kH H1)
    rw [t2] at hp'
    obtain ⟨qs,e2,hq⟩:=ah1 hp'
    refine k _ _ _ F1 _ _ e1 (I1.out o).1 (g1.trans o.gg) (I1.out o).2 ?_
    rw [e2,ae7]
    refine q1 qs hq ?_
    rw [← e2]
    unfold lexS;rw [List.pairwise_map];exact hs
noncomputable def isLT:PyData->Bool
 | .list _ | .tuple _=>true
 | _=>false
theorem azs {K:Frag} (d:PyData):PySem.W.kitAny K (.type (tyD d)) (["list","tuple"].map Value.type)=some (isLT d):=by
 cases d with
 | none=>exact ake
 | bool _=>exact arc
 | int _=>exact ati
 | str _=>exact atj
 | list _=>exact ard
 | tuple _=>exact apq
 | dict _=>exact arf
theorem axg {B:Bs} {env:En} {Q':PyData->En->Prop} {te:TE} {K:Frag} (h:Ev B te env fun d e=>Q' (.bool (isLT d)) e):Ev B (tCB (ava K) (aay te (aay (tTup (aay (tC (.ty "list")) (aay (tC (.ty "tuple")) tNil))) tNil))) env Q':=fun σ G H F Q I k =>
 h σ G H F _ I fun v G1 H1 F1 d e1 I1 g1 r1 q1=>by
  refine ⟨by decide,fun p hp=>?_⟩
  refine ⟨v,p,["list","tuple"],_,_,rfl,aah,avd (r1.same (I1.gh.trans (aa9 hp))),azs d,?_⟩
  refine k _ G1 _ F1 _ e1 (I1.grow (Same.refl _) (I1.gh.trans (aa9 hp)) (aa9 hp) (fun a o e => .inl e) fun a ks e=>?_) g1 (.bl _) q1
  by_cases z:a=p
  ·subst z
   rw [aah] at e
   cases ks with
   | nil=>cases e
   | cons x ks=>cases x <;> cases e
  ·rw [aae z] at e
   exact I1.ft a ks e
section
variable {B:Bs} {env:En} {QO:Sl->En->Prop} {Q':PyData->En->Prop} {K:Frag} {E:XK} {i:Nat}
end
end VL
namespace HT
open PySem PySem.Spec PySem.Calls PyProof.Rows PySem.W
section
variable {prog:Program} {w:World} {A:Around} {E:Value->Shared->Prop} {s:Shared}
theorem unpack_star {l:Addr} {items:Array Value} {i:Nat} {Q:List Value->Shared->Prop} (hl:s.heap.IsList l items) (hh:A.handled=none) (hi:i<=items.size) (hz:items.size<=sizeLine)
  (h:∀ h' tk,Heap.ExtBut s.heap.objs.size s.heap h'->Q (items.toList.take i ++ [.ref h'.objs.size]) { s with heap:=h'.push { cls:=.type "list",data:=.seq (items.toList.drop i).toArray },toks:=tk }):wpAny (model prog w) A (unpackItems (.ref l) (i+1) (some i)) Q E s:=by
 have hlt:l ≠ s.heap.objs.size:=by obtain ⟨o,ho,_⟩:=hl;exact Nat.ne_of_lt (Heap.lt_size ho)
 unfold unpackItems
 refine wpAny_bind ?_
 unfold notIterableAtAll
 refine wpAny_bind (wpAny_specialOf hl.typeIs slot_list_iter.lookup ?_)
 refine wpAny_pure ?_
 simp only [Bool.false_eq_true,if_false]
 refine wpAny_bind (wpAny_holding (wpAny_pyIter_list hl ?_))
 refine wpAny_bind (wpAny_holding (kun_draw hlt i 0 _ _ ⟨_,Heap.get?_push_size _ rfl,rfl,rfl⟩ (hl.push _) (by omega) fun h₁ hit₁ hs₁=>?_))
 have hl₁:h₁.IsList l items:=(hl.push _).extBut hs₁.extBut hlt
 rw [Nat.zero_add] at hit₁
 have hit₁':=hit₁
 obtain ⟨oi,hoi,_⟩:=hit₁'
 have hl₁':=hl₁
 obtain ⟨ol,hol,_⟩:=hl₁'
 rw [List.drop_zero]
 have hfl:(items.toList.take i).length=i:=by rw [List.length_take,Array.length_toList];omega
 rw [if_neg (show ¬ ((items.toList.take i).length < i) by rw [hfl];omega)]
 refine wpAny_bind (wpAny_holding (kun_collect (s:={ s with heap:=h₁ }) (T:="list_iterator") (.inr (.inr (.inl rfl))) (Walks.list (A:=A.in1) hh s.heap.objs.size l hlt items) (fun j u st=>st.1.typeIs) (k:=i) (by omega) ⟨hit₁,hl₁⟩ (Heap.lt_size hoi) (Heap.lt_size hol) (fun h₂ tk hk=>?_) hz))
 have hrl:(items.toList.drop i).length=items.size - i:=by rw [List.length_drop,Array.length_toList]
 have hmid:(items.toList.drop i).length - (i+1 - 1 - i)=(items.toList.drop i).length:=by omega
 show wpAny _ _ (if (items.toList.drop i).length < i+1 - 1 - i then _ else _) _ _ _
 rw [if_neg (by omega)]
 show wpAny _ _ (newList ((items.toList.drop i).take ((items.toList.drop i).length - (i+1 - 1 - i))) >>= fun d=>pure (items.toList.take i ++ [d] ++ (items.toList.drop i).drop ((items.toList.drop i).length - (i+1 - 1 - i)))) _ _ _
 rw [hmid,List.take_length,List.drop_length]
 have he:Heap.ExtBut s.heap.objs.size s.heap h₂:=fun b o hb e=>hk b o hb (hs₁.extBut b o hb (Heap.get?_push_of_some _ e))
 refine wpAny_bind (wpAny_newList ?_ (by rw [hrl];omega))
 refine wpAny_pure ?_
 rw [List.append_nil]
 exact h h₂ tk he
end
end HT
namespace L2
open PySem PySem.Spec PyProof.Rows
section
variable {X:Cx}
def avl (K:Frag) (g1 g2:TG):TG:=fun v σ H Q=>∃ a x xs,v=.ref a/\SqL K H a (x :: xs)/\∀ p,H p=none->g1 x σ (upd H p (.lst xs)) fun σ1 H1=>g2 (.ref p) σ1 H1 Q
theorem axh {e1 e2:Expr} {k:Nat} {g1 g2:TG} {pos sp:Pos} (hc:X.calm=true) (h1:PG X e1 g1) (h2:PG X e2 g2)
  (hn:(assignEach [e1,.Starred e2 sp] X.env).length=1+1:=by rfl) (hst:(assignEach [e1,.Starred e2 sp] X.env).findIdx? (·.1)=some 1:=by rfl) (hm:(assignEach [e1,.Starred e2 sp] X.env).map (·.2)=[assign e1 X.env,assign e2 X.env]:=by rfl) :
  PG X (.Tuple [e1,.Starred e2 sp] k pos) (avl X.K g1 g2):=by
 intro pins s σ H v u Q I r hw
 obtain ⟨a,x,xs,e0,hq,hw⟩:=hw
 subst e0
 cases r
 obtain ⟨its,rv,ht,hz⟩:=I.list hq
 cases rv with
 | @cons _ v0 _ vr r0 rr =>
  rw [assign_Tuple]
  refine wpAny_bind (wpAny_standAt ?_)
  unfold unpack
  rw [hn,hst,hm]
  have hrl:=rr.length
  have hz1:(v0 :: vr).length<=sizeLine:=by simp at hz ⊢;omega
  refine wpAny_bind (wpAny_holding (HT.unpack_star ht.isList (I.ok.hd hc) (by simp) (by simpa using hz1) fun h' tk hx=>?_))
  have I1:Inv X pins σ H { s with heap:=h',toks:=tk }:=I.kept (t':=tk) fun b o e=>hx b o (Nat.ne_of_lt (Heap.lt_size e)) e
  have hf:H h'.objs.size=none:=I1.hok.fresh (Nat.le_refl _)
  have I2:=I1.laid (t':=tk) (o:=.lst xs) (h':=h'.push { cls:=.type "list",data:=.seq vr.toArray }) (fun b u e=>Heap.get?_push_of_some _ e) (Nat.le_refl h'.objs.size) ⟨by simp at hz1;omega,vr,0,rr,Heap.get?_push_size _ rfl⟩
  show wpAny _ _ (assignInOrder [assign e1 X.env,assign e2 X.env] [v0,.ref h'.objs.size]) _ _ _
  refine assignInOrder_cons (thn (h1 pins _ σ _ _ _ _ I2 r0 (hw _ hf)) fun _ s1 ⟨σ1,H1,I3,q1⟩=>?_)
  refine assignInOrder_cons (thn (h2 pins s1 σ1 H1 _ _ _ I3 (show RelV (.ref h'.objs.size) (.ref h'.objs.size) from rfl) q1) fun _ s2 ⟨σ2,H2,I4,q2⟩=>?_)
  exact assignInOrder_nil ⟨σ2,H2,I4,q2⟩
end
end L2
namespace VL
open PySem PySem.Spec L2
section
variable {B:Bs} {env:En} {K:Frag} {QE:En->Prop}
theorem aup {i:Nat} {g2:TG} {d:PyData} {ds:List PyData} (h:EvG B g2 (.own (OL ds)) (env.set i (some (.st d))) QE):EvG B (avl K (aba i) g2) (.st (.list (d :: ds))) env QE:=fun σ G H F v Fv Q I x k=>by
 obtain ⟨r,_⟩:=x.ok
 cases r with
 | lst ha rs =>
  cases rs with
  | cons r0 rr =>
   refine ⟨_,_,_,rfl,SqL.of (I.gh _ _ ha),fun p hp=>?_⟩
   have o:=Out.newL I.gh hp rr
   have I2:=(I.out o).1
   have X2:=(I.out o).2
   have I3:=I2.store (ad3 r0) i
   refine h _ _ _ _ _ _ _ I3 ⟨X2.ok,X2.fb,X2.fg,X2.fo,fun j a z y=>?_⟩ k
   by_cases hj:j=i
   ·subst hj;exact (putF_same.mp y).elim
   ·rw [aa6 hj] at y;exact X2.fd j a z y
end
noncomputable def stS:Option Sl->Option Sl
 | some (.st d)=>some (.st d)
 | some (.scr ns)=>some (.scr ns)
 | _=>none
noncomputable def momE (env:En) (i:Nat) (d:PyData):En:=(env.map stS).set i (some (.st d))
section
variable {B:Bs} {env:En} {QO:Sl->En->Prop} {Q':PyData->En->Prop} {K:Frag} {i j:Nat} {ta te:TE}
theorem asb {A:Own} {d:PyData} (hA:Has env i A) (fz:Frz A d) (h:∀ B':Bs,B'.K=B.K->Ev B' te (momE env i d) fun d' _=>afi d'=true/\Q' d' env):Ev B te env Q':=fun σ G H F Q I k=>by
 obtain ⟨v,hv,ap⟩:=I.has hA
 have js:=abd (H:=H) (I.fg i)
 let B':Bs:={ K:=B.K,G:=jn G H (F i),H:=H,R:=H,S:=σ,F:=fun _ _=>False }
 have hi:i < env.length:=by
  rcases hA with e | e <;> exact (List.getElem?_eq_some_iff.mp e).1
 have J:VI B' (jn G H (F i)) H σ (momE env i d) (fun _ _=>False):={
  gh:=aku I.gh
  g0:=Same.refl _
  gn:=fun a o e => .inl e
  rs:=Same.refl _
  rb:=Same.refl _
  bh:=fun a o e=>⟨o,e⟩
  fg:=fun _ _ z=>z.elim
  fr:=fun _ _ z=>z.elim
  fd:=fun _ _ _ z=>z.elim
  fo:=fun _ _ z=>z.elim
  sl:=fun m s e=>by
   unfold momE at e
   by_cases hm:m=i
   ·subst hm
    rw [List.getElem?_set,if_pos rfl,if_pos (by simpa using hi)] at e
    cases e
    exact ⟨v,hv,fz _ _ _ _ ap (I.fg m) I.gh,fun _ z=>z⟩
   ·rw [List.getElem?_set,if_neg (fun z=>hm z.symm),List.getElem?_map] at e
    cases em:env[m]? with
    | none=>rw [em] at e;cases e
    | some o =>
     rw [em] at e
     cases o with
     | none=>cases e
     | some t =>
      obtain ⟨u,hu,q⟩:=I.sl m t em
      cases t with
      | st d'=>cases e;exact ⟨u,hu,q.1.same js,fun _ z=>z⟩
      | scr ns =>
       cases e
       obtain ⟨⟨a,ea,sq⟩,_⟩:=q
       exact ⟨u,hu,⟨a,ea,js.seq sq⟩,fun _ z=>z⟩
      | own A'=>cases e
      | io A'=>cases e
  ln:=by simp [momE,I.ln]
  ft:=fun a ks e=>js _ _ (I.ft a ks e) }
 refine h B' rfl σ _ H _ Q J fun w G2 H2 F2 d' e2 I2 g2 r2 ⟨hs,q⟩=>?_
 have o:Out (jn G H (F i)) H w G2 H2 (.st d') (fun _=>False):={
  gg:=g2
  gh:=I2.gh
  hh:=I2.rs
  gn:=I2.gn
  fn:=fun _ z=>z.elim
  fg:=fun _ z=>z.elim
  fo:=fun _ z=>z.elim
  ok:=⟨r2,fun _ z=>z⟩
  ft:=fun _=>I2.ft }
 obtain ⟨G4,g4,I4⟩:=I.moment js o
 exact k w G4 H2 F d' env I4 g4 (aiw r2 hs) q
noncomputable def OV (ds:List PyData) (d:PyData):Own where
 P:=fun G H v F=>∃ t l u vs,v=.ref t/\H t=some (.tup [.ref l,u])/\Rp G u d/\H l=some (.lst vs)/\Rps G vs ds/\∀ b,F b ↔ b=t\/b=l
 mono:=fun ⟨t,l,u,vs,e,h1,r1,h2,r2,f⟩ g hh=>⟨t,l,u,vs,e,hh t _ ((f t).mpr (.inl rfl)) h1,r1.same g,hh l _ ((f l).mpr (.inr rfl)) h2,r2.same g,f⟩
 dom:=fun ⟨t,l,u,vs,e,h1,r1,h2,r2,f⟩ b z=>by
  rcases (f b).mp z with rfl | rfl
  ·exact ⟨_,h1⟩
  ·exact ⟨_,h2⟩
theorem asc {d:PyData} {ds:List PyData}:Frz (OV ds d) (.tuple [.list ds,d]):=fun G H v F ⟨t,l,u,vs,e,h1,r1,h2,r2,f⟩ n g=>by
 subst e
 exact .tup (by rw [adu ((f t).mpr (.inl rfl))];exact h1) (.cons (.lst (by rw [adu ((f l).mpr (.inr rfl))];exact h2) (r2.same (abd n))) (.cons (r1.same (abd n)) .nil))
theorem a06 {d:PyData} {ds:List PyData} {R:PyData->Prop} (h:R (.tuple [.list ds,d])):FQ (.own (OV ds d)) R:=⟨_,asc,h⟩
theorem asd {u:V} {l:Addr} {ks:List Key}:HO.tup [.ref l,u] ≠ .tup (ks.map kV):=by
 intro z
 injection z with z
 match ks,z with
 | [],z=>cases z
 | [k],z=>simp at z
 | k :: _ :: _,z =>
  simp at z
  cases k <;> simp [kV] at z
theorem auq {ds0:List PyData} (h0:env[j]?=some (some (.own (OL ds0)))) (h:Ev B ta env fun d e1=>e1[j]?=some (some (.own (OL ds0)))/\QO (.own (OV ds0 d)) (e1.set j none)):EvO B (tTup (aay (tVar j) (aay ta tNil))) env QO:=fun σ G H F Q I k=>by
 obtain ⟨w0,hw0,⟨l0,vs0,rfl,hl0,rs0,hf0⟩,hb0⟩:=I.sl j _ h0
 refine ⟨_,hw0,h σ G H F _ I fun v G1 H1 F1 d e1 I1 g1 r1 ⟨ej,q⟩=>?_⟩
 obtain ⟨w,hw,⟨l,vs,rfl,hl,rs,hf⟩,hb⟩:=I1.sl j _ ej
 rw [hw0] at hw
 cases hw
 refine ⟨by show (2:Nat)<=sizeLine;decide,fun p hp=>?_⟩
 have Fl:F1 j l0:=(hf l0).mpr rfl
 have pl:p ≠ l0:=(aaj hl hp).symm
 have D:=I1.drop j
 have nF:∀ m a,(a=p\/a=l0)->¬ putF F1 j (fun _=>False) m a:=fun m a ha z=>by
  by_cases hm:m=j
  ·subst hm;exact putF_same.mp z
  ·rw [aa6 hm] at z
   rcases ha with rfl | rfl
   ·exact I1.no_f hp m z
   ·exact hm (I1.fd m j a z Fl)
 have J:VI B G1 (upd H1 p (.tup [.ref l0,v])) σ (e1.set j none) (putF F1 j fun _=>False):=D.grow (Same.refl _) (I1.gh.trans (aa9 hp)) (aa9 hp) (fun a o e => .inl e) fun a ks e=>by
  by_cases z:a=p
  ·subst z;rw [aah] at e;exact absurd (Option.some.inj e) asd
  ·rw [aae z] at e;exact I1.ft a ks e
 refine k _ G1 _ _ (fun a=>a=p\/a=l0) (.own (OV ds0 d)) _ J g1 ⟨⟨p,l0,v,vs,rfl,aah,r1,by rw [aae pl.symm];exact hl,rs,fun b=>Iff.rfl⟩,fun a z=>?_,fun a z=>?_,fun a z=>?_,fun m a z=>nF m a z⟩ q
 ·rcases z with rfl | rfl
  ·exact I1.no_b hp
  ·exact hb a Fl
 ·rcases z with rfl | rfl
  ·exact I1.no_g hp
  ·exact I1.fg j a Fl
 ·rcases z with rfl | rfl
  ·exact ⟨_,aah⟩
  ·exact ⟨_,by rw [aae pl.symm];exact hl⟩
theorem anm {d:PyData} {ds:List PyData} {a b:Int} (h0:env[i]?=some (some (.own (OV ds d)))) (hl:ds.length<=999999) (q:Q' .none (env.set i (some (.own (OV (ds ++ [.tuple [.int a,.int b]]) d))))):Ev B (tBM K "list" ac7 (tOp (ab3 K) (tVar i) (tC (.int 0))) (aay (tTup (aay (tC (.int a)) (aay (tC (.int b)) tNil))) tNil)) env Q':=fun σ G H F Q I k=>by
 obtain ⟨v,hv,⟨t,l,u,vs,rfl,h1,r1,h2,r2,f⟩,hb⟩:=I.sl i _ h0
 refine ⟨_,hv,alg h1 at0 ⟨.inl ⟨rfl,_,SqL.of h2⟩,?_⟩⟩
 refine ⟨by show (2:Nat)<=sizeLine;decide,fun p hp=>?_⟩
 have o:=Out.newT (ds:=[.int a,.int b]) I.gh hp (.cons (.int a) (.cons (.int b) .nil))
 have I2:=(I.out o).1
 have tl:t ≠ l:=az8 h1 h2 (by intro z;cases z)
 have lp:l ≠ p:=aaj h2 hp
 have tp:t ≠ p:=aaj h1 hp
 have hl2:upd H p (.tup [.int a,.int b]) l=some (.lst vs):=by rw [aae lp];exact h2
 have ht2:upd H p (.tup [.int a,.int b]) t=some (.tup [.ref l,u]):=by rw [aae tp];exact h1
 refine ac8 hl2 (by rw [r2.length];exact big (by omega)) ?_
 have J:=I2.change (A:=OV (ds ++ [.tuple [.int a,.int b]]) d) (H2:=upd (upd H p (.tup [.int a,.int b])) l (.lst (vs ++ [.ref p]))) (F2:=F i) (os':=.own (OV (ds ++ [.tuple [.int a,.int b]]) d)) i h0 hv (fun c w hc ec=>by rw [aae (fun z:c=l=>hc ((f c).mpr (.inr z)))];exact ec)
  (fun c w ec=>by
   by_cases z:c=l
   ·rw [z];exact ⟨_,aah⟩
   ·rw [aae z];exact ⟨w,ec⟩)
  (fun c z=>⟨.inl z,by
   by_cases y:c=l
   ·rw [y];exact ⟨_,aah⟩
   ·rw [aae y];exact I2.fo i c z⟩) ?_ (fun c ks e=>by
   by_cases z:c=l
   ·subst z;rw [aah] at e;cases e
   ·rw [aae z] at e;exact I2.ft c ks e) (.inl ⟨rfl,_,rfl⟩)
 ·exact k _ _ _ _ _ _ J o.gg .non q
 ·have rp2:Rp (upd G p (.tup [.int a,.int b])) (.ref p) (.tuple [.int a,.int b]):=o.ok.1
  exact ⟨t,l,u,_,rfl,by rw [aae tl];exact ht2,r1.same o.gg,aah,(r2.same o.gg).append (.cons rp2 .nil),f⟩
end
end VL
namespace G
open PySem L2 VL
noncomputable def top (i:Nat):Stmt:=PySem.Challenge.pw_fewties_k26_hub_ties_told.main.body.getD i (.Pass ⟨0,0,0,0⟩)
noncomputable abbrev s_is_whole:Stmt:=top 7
noncomputable abbrev s_is_between:Stmt:=top 8
noncomputable abbrev s_need_number:Stmt:=top 9
noncomputable abbrev s_is_place:Stmt:=top 10
noncomputable abbrev s_is_tie:Stmt:=top 11
noncomputable abbrev s_are_ties:Stmt:=top 12
noncomputable abbrev s_is_rising:Stmt:=top 13
noncomputable abbrev s_tied_places:Stmt:=top 14
noncomputable abbrev s_far_from:Stmt:=top 15
noncomputable abbrev s_need_place:Stmt:=top 16
noncomputable abbrev s_all_far:Stmt:=top 17
noncomputable abbrev s_is_joined:Stmt:=top 18
noncomputable abbrev s_need_joined:Stmt:=top 20
noncomputable abbrev s_far_rows:Stmt:=top 21
noncomputable abbrev s_most_far:Stmt:=top 22
noncomputable abbrev s_farthest_two:Stmt:=top 23
noncomputable abbrev s_with_ties:Stmt:=top 25
noncomputable abbrev s_hubs_for:Stmt:=top 28
noncomputable abbrev s_hub_ties:Stmt:=top 29
noncomputable abbrev s_law_cell:Stmt:=top 31
noncomputable abbrev s_law_store:Stmt:=top 32
noncomputable abbrev s_law_take:Stmt:=top 33
noncomputable abbrev s_law_tree_ties:Stmt:=top 34
noncomputable abbrev s_law_renumbered:Stmt:=top 35
noncomputable abbrev s_law_tree:Stmt:=top 36
noncomputable abbrev s_law_crowd:Stmt:=top 37
noncomputable abbrev s_law_web:Stmt:=top 38
noncomputable abbrev s_law_far_from:Stmt:=top 39
noncomputable abbrev s_law_hubs:Stmt:=top 40
noncomputable abbrev s_law_same:Stmt:=top 41
noncomputable abbrev s_law:Stmt:=top 42
structure Txt (K:Frag) (mg:Str->Option Value):Prop where
 b_ValueError:mg "ValueError" = none
 b_all:mg "all" = none
 b_max:mg "max" = none
 b_sorted:mg "sorted" = none
 b_range:mg "range" = none
 b_list:mg "list" = none
 b_isinstance:mg "isinstance" = none
 b_str:mg "str" = none
 b_int:mg "int" = none
 b_len:mg "len" = none
 b_set:mg "set" = none
 b_tuple:mg "tuple" = none
 b_min:mg "min" = none
 b_bool:mg "bool" = none
 b_zip:mg "zip" = none
 v_MOST_HUB_TIES:∃ t,mg "MOST_HUB_TIES" = some (.int 20 t)
 d_is_whole:∃ f fd,DefAt K mg "is_whole" s_is_whole ["thing"] f fd
 d_is_between:∃ f fd,DefAt K mg "is_between" s_is_between ["least","most","thing"] f fd
 d_need_number:∃ f fd,DefAt K mg "need_number" s_need_number ["least","most","thing"] f fd
 d_is_place:∃ f fd,DefAt K mg "is_place" s_is_place ["n","thing"] f fd
 d_is_tie:∃ f fd,DefAt K mg "is_tie" s_is_tie ["n","thing"] f fd
 d_are_ties:∃ f fd,DefAt K mg "are_ties" s_are_ties ["n","thing"] f fd
 d_is_rising:∃ f fd,DefAt K mg "is_rising" s_is_rising ["things"] f fd
 d_tied_places:∃ f fd,DefAt K mg "tied_places" s_tied_places ["web"] f fd
 d_far_from:∃ f fd,DefAt K mg "far_from" s_far_from ["tied","start"] f fd
 d_need_place:∃ f fd,DefAt K mg "need_place" s_need_place ["web","thing"] f fd
 d_all_far:∃ f fd,DefAt K mg "all_far" s_all_far ["web","a"] f fd
 d_is_joined:∃ f fd,DefAt K mg "is_joined" s_is_joined ["web"] f fd
 d_need_joined:∃ f fd,DefAt K mg "need_joined" s_need_joined ["web"] f fd
 d_far_rows:∃ f fd,DefAt K mg "far_rows" s_far_rows ["web"] f fd
 d_most_far:∃ f fd,DefAt K mg "most_far" s_most_far ["rows"] f fd
 d_farthest_two:∃ f fd,DefAt K mg "farthest_two" s_farthest_two ["web"] f fd
 d_with_ties:∃ f fd,DefAt K mg "with_ties" s_with_ties ["web","ties"] f fd
 d_hubs_for:∃ f fd,DefAt K mg "hubs_for" s_hubs_for ["web","k"] f fd
 d_hub_ties:∃ f fd,DefAt K mg "hub_ties" s_hub_ties ["web","k"] f fd
 d_law_cell:∃ f fd,DefAt K mg "_law_cell" s_law_cell ["script","k"] f fd
 d_law_store:∃ f fd,DefAt K mg "_law_store" s_law_store ["cell"] f fd
 d_law_take:∃ f fd,DefAt K mg "_law_take" s_law_take ["store","many"] f fd
 d_law_tree_ties:∃ f fd,DefAt K mg "_law_tree_ties" s_law_tree_ties ["store","n","kind"] f fd
 d_law_renumbered:∃ f fd,DefAt K mg "_law_renumbered" s_law_renumbered ["store","n","ties"] f fd
 d_law_tree:∃ f fd,DefAt K mg "_law_tree" s_law_tree ["store"] f fd
 d_law_crowd:∃ f fd,DefAt K mg "_law_crowd" s_law_crowd ["store"] f fd
 d_law_web:∃ f fd,DefAt K mg "_law_web" s_law_web ["store"] f fd
 d_law_far_from:∃ f fd,DefAt K mg "_law_far_from" s_law_far_from ["web","a"] f fd
 d_law_hubs:∃ f fd,DefAt K mg "_law_hubs" s_law_hubs ["web","k"] f fd
 d_law_same:∃ f fd,DefAt K mg "_law_same" s_law_same ["found","due"] f fd
 d_law:∃ f fd,DefAt K mg "law" s_law ["script"] f fd
local macro_rules | `(tactic| row_cond sc) => `(tactic| exact ⟨rfl,rfl,rfl,by decide +kernel,rfl,by decide +kernel,by decide +kernel⟩)
local macro_rules | `(tactic| row_cond gn) => `(tactic| first | (with_reducible first | refine evg_n0 ?_ | refine ay6 ?_ | refine ay7 ?_ | refine ay8 ?_ | refine ay9 ?_ | refine aza ?_ | refine azb ?_ | refine azc ?_ | refine azd ?_ | refine aze ?_ | refine evg_n10 ?_ | refine evg_n11 ?_ | refine evg_n12 ?_ | refine evg_n13 ?_ | refine evg_n14 ?_ | refine evg_n15 ?_ | refine evg_n16 ?_ | refine evg_n17 ?_ | refine evg_n18 ?_ | refine evg_n19 ?_ | refine evg_n20 ?_ | refine evg_n21 ?_ | refine evg_n22 ?_ | refine evg_n23 ?_ | refine evg_n24 ?_ | refine evg_n25 ?_) | ((with_reducible refine aa7 ?_); dsimp only [List.set_cons_zero, List.set_cons_succ]))
local macro_rules | `(tactic| row_cond dc) => `(tactic| first | assumption | omega | (with_reducible rfl))
local macro_rules | `(tactic| row_cond ar) => `(tactic| first | assumption | (refine ⟨?_, ?_, ?_⟩ <;> decide) | (constructor <;> first | assumption | omega) | (show (0 : Int) < _; first | assumption | omega) | (left; constructor <;> first | assumption | omega) | (right; constructor <;> first | assumption | omega))
local macro_rules | `(tactic| row_cond hs) => `(tactic| first | exact Or.inl rfl | exact Or.inr rfl)
local macro_rules | `(tactic| row_cond fz) => `(tactic| first | exact abt | exact frz_OD | exact frz_OT | exact al6 | exact aix | assumption)
local macro_rules | `(tactic| row_cond le) => `(tactic| first | exact Nat.le_of_ble_eq_true rfl | assumption | omega | (simp only [List.length_append, List.length_map, List.length_cons, List.length_nil, List.length_set, List.length_replicate]; omega))
local macro_rules | `(tactic| row_cond ia) => `(tactic| first | assumption | exact at0 | exact at1 | exact at2 | exact rfl)
local macro_rules | `(tactic| row_cond ty) => `(tactic| first | exact ay2 | exact awo | exact at5 | exact awp | exact ay3 | exact ty_dict)
local macro_rules | `(tactic| row_cond sEvS) => `(tactic| first | (with_reducible refine al1 (fun c_ hc_ => ?_)) | (with_reducible first | refine awb ?_ | refine arj ?_ | refine atn ?_) | ((with_reducible refine' at6 ?h0 ?_); (case h0 => exact rfl)) | (with_reducible first | refine aof ?_ | refine awc ?_ | refine aly ?_) | ((with_reducible refine' aog ?h0 ?_); (case h0 => assumption)))
local macro_rules | `(tactic| row_cond sEvG) => `(tactic| first | row_cond gn | ((with_reducible refine' aoe ?h0 ?_); (case h0 => exact rfl)) | ((with_reducible refine' at4 ?h0 ?_); (case h0 => row_cond hs)) | (with_reducible refine evg_st ?_))
local macro_rules | `(tactic| row_cond sEvGs) => `(tactic| first | (with_reducible first | refine af1 ?_ | refine alz ?_))
local macro_rules | `(tactic| row_cond sEv) => `(tactic| first | ((with_reducible refine' aym ?h0 ?_); (case h0 => exact rfl)) | (with_reducible refine ayn ?_) | ((with_reducible refine' ayz ?h0 ?_); (case h0 => row_cond hs)) | ((with_reducible refine' ay0 ?h0 ?h1 ?_); (case h0 => exact rfl); (case h1 => assumption)) | (with_reducible refine a0h ?_) | ((with_reducible refine' awn ?h0 ?h1 ?_); (case h0 => exact rfl); (case h1 => assumption)) | ((with_reducible refine' ay1 ?h0 ?_); (case h0 => row_cond ty)) | ((with_reducible refine' ayy ?h0 ?h1 ?_); (case h0 => row_cond hs); (case h1 => row_cond fz)) | ((with_reducible refine' arn ?h0 ?_); (case h0 => exact rfl)) | ((with_reducible refine' aro ?h0 ?_); (case h0 => exact rfl)) | ((with_reducible refine' atr ?h0 ?h1 ?_); (case h0 => exact rfl); (case h1 => assumption)) | (with_reducible refine atq ?_) | ((with_reducible refine' av6 ?h0 ?h1 ?_); (case h0 => exact rfl); (case h1 => row_cond fz); dsimp only [List.set_cons_zero, List.set_cons_succ]) | (with_reducible first | refine ayq ?_ | refine ayr ?_ | refine a0g ?_ | refine ayo ?_ | refine a0i ?_ | refine av9 ?_ | refine awa ?_ | refine atm ?_ | refine ab7 (te:=tCB (af0 _) _) ?_ | refine ab7 (te:=tCB (alf _) _) ?_ | refine a0j ?_) | ((with_reducible refine' apt ?h0 ?_); (case h0 => row_cond hs)) | ((with_reducible refine' apu ?h0 ?_); (case h0 => row_cond hs)) | ((with_reducible refine' at3 ?h0 ?_); (case h0 => row_cond hs)) | (with_reducible refine ev_listR ?_) | ((with_reducible refine' a0r ?h0 ?_); (case h0 => decide)) | (with_reducible first | refine auh ?_))
local macro_rules | `(tactic| row_cond sEvO) => `(tactic| first | (with_reducible first | refine alx (r:=rCat) ?_ | refine alx (r:=rRep) ?_ | refine aby (te:=tOp _ _ _) ?_ | refine aby (te:=tVar _) ?_ | refine aby (te:=tC _) ?_ | refine aob ?_) | ((with_reducible refine' aue ?h0 ?_); (case h0 => exact rfl)) | (with_reducible refine aoa ?_) | ((with_reducible refine' ahx ?h0 ?_); (case h0 => exact rfl)) | ((with_reducible refine' ahy ?h0 ?_); (case h0 => exact rfl)) | ((with_reducible refine' aji ?h0 ?h1 ?_); (case h0 => exact rfl); (case h1 => assumption)) | (with_reducible first | refine ajh ?_ | refine awr ?_) | ((with_reducible refine' arl ?h0 ?_); (case h0 => decide)) | (with_reducible first | refine arw ?_ | refine arv ?_ | refine ari (r:=al5 _) ?_ | refine aby (te:=tUn _ _) ?_ | refine aby (te:=ao7 _ _) ?_ | refine aby (te:=ao8 _) ?_ | refine aby (te:=ak0 _ _ _ _ _) ?_ | refine aby (te:=ahk _ _ _) ?_ | refine aby (te:=tCB (rLen _) _) ?_ | refine aby (te:=tCB (rIsi _) _) ?_ | refine aby (te:=tCB akp _) ?_ | refine aby (te:=tCB akq _) ?_ | refine aby (te:=tCB akr _) ?_ | refine aby (te:=tCB (age _) _) ?_ | refine aby (te:=tCB (rAll _) _) ?_ | refine aby (te:=tBM _ _ _ _ _) ?_))
local macro_rules | `(tactic| row_cond sEvT) => `(tactic| first | (with_reducible first | refine ag6 ?_ | refine a0k ?_ | refine av7 ?_ | refine ays ?_ | refine aoc ?_ | refine ae3 ?_) | (with_reducible refine av8 ?_))
local macro_rules | `(tactic| row_cond sEvA) => `(tactic| first | (with_reducible first | refine atl ?_ | refine an9 ?_))
local macro_rules | `(tactic| row_cond sEvI) => `(tactic| first | (with_reducible first | refine ato ?_ | refine atp ?_ | refine evi_down ?_ | refine al0 ?_ | refine awu ?_) | (with_reducible refine evi_tup ?_))
local macro_rules | `(tactic| row_cond sOp2) => `(tactic| first | (with_reducible first | refine awd ?_ | refine awe ?_) | ((with_reducible refine' ayw ?h0 ?_); (case h0 => row_cond ar)) | (with_reducible first | refine awf ?_ | refine awg ?_) | ((with_reducible refine' awj ?h0 ?_); (case h0 => row_cond ia)) | ((with_reducible refine' awk ?h0 ?_); (case h0 => row_cond ia)) | (with_reducible first | refine awi ?_ | refine awm ?_) | ((with_reducible refine' aok ?h0 ?_); (case h0 => row_cond le)))
local macro_rules | `(tactic| row_cond sOp1) => `(tactic| first | (with_reducible refine ayx ?_))
local macro_rules | `(tactic| row_cond sOpA) => `(tactic| first | (with_reducible first | refine atv ?_ | refine atw ?_ | refine atx ?_ | refine aty ?_ | refine atz ?_ | refine aud ?_))
local macro_rules | `(tactic| row_cond sFQ) => `(tactic| first | (with_reducible first | refine avb ?_ | refine aer ?_ | refine a0t ?_))
local macro_rules | `(tactic| row_cond sRngA1) => `(tactic| first | ((with_reducible refine' ayu ?h0 ?h1 ?_); (case h0 => omega); (case h1 => omega)))
local macro_rules | `(tactic| row_cond sRngA2) => `(tactic| first | ((with_reducible refine' ayv ?h0 ?_); (case h0 => omega)))
local macro_rules | `(tactic| row_cond sRest) => `(tactic| first | (with_reducible first | refine x_bl ?_ | refine x_st ?_ | refine ayt ?_) | ((with_reducible refine' a0n ?h0 ?h1 ?_); (case h0 => row_cond hs); (case h1 => row_cond ia)) | ((with_reducible refine' a0o ?h0 ?_); (case h0 => row_cond ia)) | ((with_reducible refine' a0p ?h0 ?h1 ?_); (case h0 => row_cond hs); (case h1 => row_cond fz)) | ((with_reducible refine' x_sc ?h0 ?_); (case h0 => exact rfl)) | ((with_reducible refine' a0m ?h0 ?_); (case h0 => row_cond le)) | (with_reducible first | refine abr ?_ | refine abx ?_ | refine aim ?_ | refine ain ?_) | ((with_reducible refine' aig ?h0 ?_); (case h0 => row_cond dc)) | ((with_reducible refine' aih ?h0 ?_); (case h0 => row_cond dc)) | ((with_reducible refine' atg ?h0 ?_); (case h0 => row_cond dc)) | ((with_reducible refine' ath ?h0 ?_); (case h0 => row_cond dc)) | ((with_reducible refine' a0q ?h0 ?_); (case h0 => first | exact rfl | row_cond hs)) | ((with_reducible refine' x_rt ?h0 ?_); (case h0 => exact rfl)) | ((with_reducible refine' ay4 ?h0 ?h1 ?_); (case h0 => exact rfl); (case h1 => row_cond le); dsimp only [List.set_cons_zero, List.set_cons_succ]) | ((with_reducible refine' ahw ?h0 ?h1 ?_); (case h0 => exact rfl); (case h1 => first | exact ixN0 | exact ixN1 | exact ixN2 | assumption); dsimp only [List.set_cons_zero, List.set_cons_succ, reS]) | ((with_reducible refine' ay5 ?h0 ?h1 ?_); (case h0 => exact rfl); (case h1 => first | exact ixN0 | exact ixN1 | exact ixN2 | assumption); dsimp only [List.set_cons_zero, List.set_cons_succ, reS]) | (with_reducible first | refine at7 ?_) | (with_reducible first | refine a0s ?_) | ((with_reducible refine' awv ?h0 ?h1 ?_); (case h0 => omega); (case h1 => omega)) | ((with_reducible refine' x_ow ?h0 ?_); (case h0 => exact rfl); dsimp only [List.set_cons_zero, List.set_cons_succ]))
local macro_rules | `(tactic| row_cond st) => `(tactic| first | ((with_reducible refine a0u ?_); row_cond sEvS) | ((with_reducible refine a0v ?_); row_cond sEvG) | ((with_reducible refine azi ?_); row_cond sEvGs) | ((with_reducible refine g_Ev ?_); row_cond sEv) | ((with_reducible refine a0w ?_); row_cond sEvO) | ((with_reducible refine a0x ?_); row_cond sEvT) | ((with_reducible refine a0y ?_); row_cond sEvA) | ((with_reducible refine a0z ?_); row_cond sEvI) | ((with_reducible refine g_EvOp ?_); row_cond sEvOp) | ((with_reducible refine a00 ?_); row_cond sOp2) | ((with_reducible refine a01 ?_); row_cond sOp1) | ((with_reducible refine a02 ?_); row_cond sOpA) | ((with_reducible refine g_FQ ?_); row_cond sFQ) | ((with_reducible refine awy ?_); row_cond sRngA1) | ((with_reducible refine awz ?_); row_cond sRngA2) | row_cond sRest)
local macro_rules | `(tactic| row_cond go) => `(tactic| repeat row_cond st)
local macro_rules | `(tactic| row_cond hnx) => `(tactic| first | assumption | (apply Ne.symm; assumption) | exact aaj (by assumption) (by assumption) | exact (aaj (by assumption) (by assumption)).symm)
local macro_rules | `(tactic| row_cond hhp) => `(tactic| first | assumption | exact aah | (rw [aae (by row_cond hnx)]; row_cond hhp) | ((refine' Same.at ?ss ?hh); (case ss => assumption); (case hh => row_cond hhp)))
local macro_rules | `(tactic| row_cond hix) => `(tactic| first | assumption | exact at0 | exact at1 | exact at2)
local macro_rules | `(tactic| row_cond hst) => `(tactic| first | (with_reducible first | refine go_seq ?_ | refine go_asg ?_ | refine anx ?_ | refine go_op ?_ | refine go_c ?_ | refine go_I0 ?_ | refine go_U ?_ | refine aq3 ?_ | refine go_test ?_ | refine go_bl ?_ | refine go_ifS ?_ | refine go_and ?_ | refine go_ret ?_ | refine go_drop ?_ | refine go_next ?_ | refine go_cb ?_ | refine go_cons ?_ | refine aq2 ?_ | refine go_call ?_ | refine an1 ?_ | refine an2 ?_ | refine an3 ?_ | refine go_gsub ?_ | refine go_lstW ?_ | refine go_bmL ?_ | refine go_for ?_ | refine go_lc ?_ | refine go_irng1 ?_ | refine aq5 ?_ | refine abr ?_ | refine abx ?_) | ((with_reducible refine' go_var ?hv ?_); (case hv => exact rfl)) | ((with_reducible refine' aff ?ha ?hv ?_); (case ha => row_cond hhp); (case hv => row_cond hix)) | ((with_reducible refine go_I ?hc ?_); (case hc => row_cond ar)) | ((with_reducible refine' an0 ?ha ?_); (case ha => row_cond hhp)) | ((with_reducible refine' anz ?ha ?hj ?_); (case ha => row_cond hhp); (case hj => first | exact ixN0 | exact ixN1 | exact ixN2)) | ((with_reducible refine' go_tyL ?ha ?_); (case ha => row_cond hhp)) | ((with_reducible refine' ac8 ?ha ?hl ?_); (case ha => row_cond hhp); (case hl => exact aem (by simp; omega))) | ((with_reducible refine' aig ?hc ?_); (case hc => row_cond dc)) | ((with_reducible refine' aih ?hc ?_); (case hc => row_cond dc)) | dsimp only [List.set_cons_zero, List.set_cons_succ])
local macro_rules | `(tactic| row_cond hgo) => `(tactic| repeat row_cond hst)
noncomputable def isInt:PyData->Bool
 | .int _=>true
 | _=>false
noncomputable def btwD (a b:Int):PyData->Bool
 | .int i=>decide (a<=i/\i<=b)
 | _=>false
def axi:VP:=fun ss Q=>∃ d,ss=[.st d]/\Q (.st (.bool (isInt d)))
def ase:VP:=fun ss Q=>∃ (a b:Int) (d:PyData),ss=[.st (.int a),.st (.int b),.st d]/\Q (.st (.bool (btwD a b d)))
def axj:VP:=fun ss Q=>∃ (n:Int) (d:PyData),ss=[.st (.int n),.st d]/\Q (.st (.bool (btwD 0 (n - 1) d)))
section
variable {P:Program} {w:World} {K:Frag} {mg:Str->Option Value} {base:Heap}
theorem sc_is_whole:FnScope ["thing"] ["thing"] (aak s_is_whole):=by row_cond sc
theorem amo (T:Txt K mg):Can P w K mg base "is_whole" 1 ["thing"] (spP K (axi)):=by
 obtain ⟨f,fd,D⟩:=T.d_is_whole
 refine D.can (D.fn.ok sc_is_whole (fun vs H Q E h=>lenP h fun ss Q' q=>by obtain ⟨d,rfl,k⟩:=q;rfl) (fun cdv A outer s H vs Q E hr h=>?_))
 have nd:=sc_is_whole.nd
 refine ⟨_,(aag (aau (ad0 (aai abw (by rfl) T.b_isinstance aa0 (aaa (pv 0) (aaa (abu (v:=.ty "int") rfl T.b_int ak8 rfl) aab))) (aey (aqj (aai abw (by rfl) T.b_isinstance aa0 (aaa (pv 0) (aaa (abu (v:=.ty "bool") rfl T.b_bool an4 rfl) aab)))))))),?_⟩
 refine abb h fun ss Q' q B hK=>?_
 refine exS1 ss q fun d q1_=>?_
 have k:=q1_
 clear q1_ q
 show EvS B _ _ [some (.st d)]
 row_cond go
 cases d with
 | int i => refine abr ?_; row_cond go; exact k
 | bool b => refine abr ?_; row_cond go; exact k
 | _=>refine abx ?_;exact k
theorem sc_is_between:FnScope ["least","most","thing"] ["least","most","thing"] (aak s_is_between):=by row_cond sc
theorem ae8 (T:Txt K mg):Can P w K mg base "is_between" 2 ["least","most","thing"] (spP K (ase)):=by
 obtain ⟨f,fd,D⟩:=T.d_is_between
 refine D.can (D.fn.ok sc_is_between (fun vs H Q E h=>lenP h fun ss Q' q=>by obtain ⟨a,b,d,rfl,k⟩:=q;rfl) (fun cdv A outer s H vs Q E hr h=>?_))
 have nd:=sc_is_between.nd
 refine ⟨_,(aag (aau (ad0 (aaf (amo T) hr (aaa (pv 2) aab)) (aey (ass apc apc (pv 0) (pv 2) (pv 1)))))),?_⟩
 refine abb h fun ss Q' q B hK=>?_
 refine exS3 ss q fun a b d q1_=>?_
 have k:=q1_
 clear q1_ q
 show EvS B _ _ [some (.st (.int a)),some (.st (.int b)),some (.st d)]
 row_cond go
 refine ⟨d,rfl,?_⟩
 row_cond go
 cases d with
 | int i =>
  refine abr ?_
  row_cond go
  refine acm (fun h1=>?_) (fun h1=>?_)
  ·row_cond go
   have e:decide (i<=b)=btwD a b (.int i):=by
    show _=decide (a<=i/\i<=b)
    rw [Bool.eq_iff_iff];simp [h1]
   rw [e];exact k
  ·have e:false=btwD a b (.int i):=by
    show _=decide (a<=i/\i<=b)
    exact (decide_eq_false (fun z=>h1 z.1)).symm
   rw [e];exact k
 | _=>exact abx k
theorem sc_is_place:FnScope ["n","thing"] ["n","thing"] (aak s_is_place):=by row_cond sc
theorem aek (T:Txt K mg):Can P w K mg base "is_place" 3 ["n","thing"] (spP K (axj)):=by
 obtain ⟨f,fd,D⟩:=T.d_is_place
 refine D.can (D.fn.ok sc_is_place (fun vs H Q E h=>lenP h fun ss Q' q=>by obtain ⟨n,d,rfl,k⟩:=q;rfl) (fun cdv A outer s H vs Q E hr h=>?_))
 have nd:=sc_is_place.nd
 refine ⟨_,(aag (aau (aaf (ae8 T) hr (aaa aad (aaa (aaq ace (pv 0) aad) (aaa (pv 1) aab)))))),?_⟩
 refine abb h fun ss Q' q B hK=>?_
 refine exS2 ss q fun n d q1_=>?_
 have k:=q1_
 clear q1_ q
 show EvS B _ _ [some (.st (.int n)),some (.st d)]
 row_cond go
 exact ⟨_,_,_,rfl,k⟩
def azt:VP:=fun ss Q=>∃ (n:Int) (es:List (Int × Int)),ss=[.st (webD n es)]/\0<=n/\n<=100/\InN n es/\es.length<=10000/\∀ tl,TiedL n (Tied es) tl->(∀ us∈tl,us.length<=20000)->Q (.own (OLL (tlD tl)))
theorem sc_tied_places:FnScope ["web","n","ties","tied","a","b"] ["web"] (aak s_tied_places):=by row_cond sc
theorem aew (T:Txt K mg):Can P w K mg base "tied_places" 1 ["web"] (spP K (azt)):=by
 obtain ⟨f,fd,D⟩:=T.d_tied_places
 refine D.can (D.fn.ok sc_tied_places (fun vs H Q E h=>lenP h fun ss Q' q=>by obtain ⟨n,es,rfl,n0,n1,hin,hle,k⟩:=q;rfl) (fun cdv A outer s H vs Q E hr h=>?_))
 have nd:=sc_tied_places.nd
 refine ⟨_,(aac (acq (pv 0) (ad1 rfl (aa8 (aao (i:=1) nd rfl (Or.inl rfl)) (aa8 (aao (i:=2) nd rfl (Or.inl rfl)) ac1))))
  (aac (afc (i:=3) nd rfl (Or.inl rfl) rfl (N:=["place"]) (src:=[none]) (by exact abm rfl rfl rfl rfl rfl rfl) (abi rfl T.b_range (aaa (pv 1) aab)) (fun _ _ _ _=>(aao (i:=0) (show List.Nodup (["place"]:List Str) by decide +kernel) rfl (Or.inl rfl) (hf:=Or.inr rfl))) (fun _ _ _ _=>ab5) (fun _ _ _ _=>(aa5 aab)))
  (aac (acd PassesOwn.never rfl (ab4 (pv 2)) (ad1 rfl (aa8 (aao (i:=4) nd rfl (Or.inl rfl)) (aa8 (aao (i:=5) nd rfl (Or.inl rfl)) ac1)))
   (aac (abh (ab2 PySem.F.plainAttrs_list PySem.F.slot_list_append PySem.F.type_list_append abc (aar aas (pv 3) (pv 4) (fun _ _=>rfl)) (aaa (pv 5) aab)))
    (aag (abh (ab2 PySem.F.plainAttrs_list PySem.F.slot_list_append PySem.F.type_list_append abc (aar aas (pv 3) (pv 5) (fun _ _=>rfl)) (aaa (pv 4) aab))))))
  (aag (aau (pv 3)))))),?_⟩
 refine abb h fun ss Q' q B hK=>?_
 refine exS2 ss q fun n es q1_=>?_
 have n0:=q1_.1
 have n1:=q1_.2.1
 have hin:=q1_.2.2.1
 have hle:=q1_.2.2.2.1
 have k:=q1_.2.2.2.2
 clear q1_ q
 show EvS B _ _ [some (.st (webD n es)),none,none,none,none,none]
 row_cond go
 rw [ab0]
 refine ⟨by omega,?_⟩
 row_cond go
 refine acy (fun i e=>∃ v4 v5 tl,e=[some (.st (webD n es)),some (.st (.int n)),some (.st (.list (es.map prD))),some (.own (OLL (tlD tl))),v4,v5]/\TiedL n (Tied (es.take i)) tl/\∀ ws∈tl,ws.length<=2 * i)
  ⟨none,none,List.replicate n.toNat [],by simp [tlD],⟨by simp;omega,fun i ws hi w=>?_⟩,fun ws hw=>?_⟩ ?_ ?_
 ·rw [List.getElem?_replicate] at hi
  split at hi
  ·cases hi;simp [Tied]
  ·cases hi
 ·have:=List.eq_of_mem_replicate hw
  subst this;simp
 ·rintro i ⟨a,b⟩ e hx q0_
  refine exS3 e q0_ fun v4 v5 tl q1_=>?_
  have ht:=q1_.1
  have hlen:=q1_.2
  clear q1_ q0_
  have hi:i < es.length:=(List.getElem?_eq_some_iff.mp hx).1
  obtain ⟨a0,a1,b0,b1⟩:=hin _ (List.mem_of_getElem? hx)
  dsimp only at a0 a1 b0 b1
  row_cond go
  obtain ⟨ws,hws,_⟩:=ht.get a0 a1
  have l1:=hlen ws (List.mem_of_getElem? hws)
  refine ahz (n:=a.toNat) (ds:=ws.map .int) rfl rfl rfl (by rw [List.length_map];exact ae5 a0 (by rw [ht.1];exact a1)) (aiy hws) (by rw [List.length_map];omega) ?_
  dsimp only [List.set_cons_zero,List.set_cons_succ]
  have t2:=ht.put (q:=b) a0 a1 hws
  rw [show ws.map PyData.int ++ [.int b]=(ws ++ [b]).map .int by simp,aoo]
  have hlen2:∀ us∈tl.set a.toNat (ws ++ [b]),us.length<=2 * i+1:=fun us hu=>by
   rcases List.mem_or_eq_of_mem_set hu with h | h
   ·have:=hlen us h;omega
   ·subst h;simp;omega
  generalize tl.set a.toNat (ws ++ [b])=tl2 at t2 hlen2
  row_cond go
  obtain ⟨ws,hws,_⟩:=t2.get b0 b1
  have l1:=hlen2 ws (List.mem_of_getElem? hws)
  refine ahz (n:=b.toNat) (ds:=ws.map .int) rfl rfl rfl (by rw [List.length_map];exact ae5 b0 (by rw [t2.1];exact b1)) (aiy hws) (by rw [List.length_map];omega) ?_
  dsimp only [List.set_cons_zero,List.set_cons_succ]
  rw [show ws.map PyData.int ++ [.int a]=(ws ++ [a]).map .int by simp,aoo]
  refine ⟨_,_,_,rfl,(t2.put (q:=a) b0 b1 hws).iff fun u v=>(Tied.snoc hx u v).symm,fun us hu=>?_⟩
  rcases List.mem_or_eq_of_mem_set hu with h | h
  ·have:=hlen2 us h;omega
  ·subst h;simp;omega
 ·rintro e q0_
  refine exS3 e q0_ fun v4 v5 tl q1_=>?_
  have ht:=q1_.1
  have hlen:=q1_.2
  clear q1_ q0_
  rw [List.take_length] at ht
  row_cond go
  exact k tl ht fun us hu=>by have:=hlen us hu;omega
end
@[reducible] noncomputable def tlV (tl:List (List Int)):PyData:=.list ((tlD tl).map .list)
def a07:VP:=fun ss Q=>∃ (n a:Int) (T:Int->Int->Prop) (tl:List (List Int)),ss=[.st (tlV tl),.st (.int a)]/\n<=100/\TiedL n T tl/\(∀ u v,T u v->0<=v/\v < n)/\0<=a/\a < n/\Q (.own (OL (lab n.toNat (Gr.farO T a))))
section
variable {P:Program} {w:World} {K:Frag} {mg:Str->Option Value} {base:Heap}
theorem sc_far_from:FnScope ["tied","start","far","edge","beyond","place","other"] ["tied","start"] (aak s_far_from):=by row_cond sc
theorem af6 (T:Txt K mg):Can P w K mg base "far_from" 1 ["tied","start"] (spP K (a07)):=by
 obtain ⟨f,fd,D⟩:=T.d_far_from
 refine D.can (D.fn.ok sc_far_from (fun vs H Q E h=>lenP h fun ss Q' q=>by obtain ⟨n,a,T,tl,rfl,n1,ht,hT,a0,a1,k⟩:=q;rfl) (fun cdv A outer s H vs Q E hr h=>?_))
 have nd:=sc_far_from.nd
 refine ⟨_,(aac (aam (i:=2) nd rfl (Or.inl rfl) (aaq aqv (aa5 (aaa aef aab)) (aai abj (by rfl) T.b_len acn (aaa (pv 0) aab))))
  (aac (acq aad (aez (pv 2) (pv 1) adj))
  (aac (aam (i:=3) nd rfl (Or.inl rfl) (aa5 (aaa (pv 1) aab)))
  (aac (agz PassesOwn.never (ayl (pv 3))
   (aac (aam (i:=4) nd rfl (Or.inl rfl) (aa5 aab))
    (aac (acd PassesOwn.never rfl (ab4 (pv 3)) (aao (i:=5) nd rfl (Or.inl rfl))
     (aag (acd PassesOwn.never rfl (ab4 (aar aas (pv 0) (pv 5) (fun _ _=>rfl))) (aao (i:=6) nd rfl (Or.inl rfl))
       (aag (abf (aaz agf (aar aas (pv 2) (pv 6) (fun _ _=>rfl)) aef (aa1 _))
         (aac (acq (aaq abl (aar aas (pv 2) (pv 5) (fun _ _=>rfl)) aad) (aez (pv 2) (pv 6) adj))
          (aag (abh (ab2 PySem.F.plainAttrs_list PySem.F.slot_list_append PySem.F.type_list_append abc (pv 4) (aaa (pv 6) aab)))))
         aa2)))))
    (aag (aam (i:=3) nd rfl (Or.inl rfl) (pv 4))))))
  (aag (aau (pv 2))))))),?_⟩
 refine abb h fun ss Q' q B hK=>?_
 refine exS4 ss q fun n a T tl q1_=>?_
 have n1:=q1_.1
 have ht:=q1_.2.1
 have hT:=q1_.2.2.1
 have a0:=q1_.2.2.2.1
 have a1:=q1_.2.2.2.2.1
 have k:=q1_.2.2.2.2.2
 clear q1_ q
 show EvS B _ _ [some (.st (tlV tl)),some (.st (.int a)),none,none,none,none,none]
 have hl:tl.length=n.toNat:=by have:=ht.1;omega
 row_cond go
 refine aol (by first | omega | (simp;done) | (simp;omega)) (by first | omega | (simp;done) | (simp;omega)) (by first | omega | (simp;done) | (simp;omega)) ?_
 simp only [List.length_map,hl]
 rw [show ((n.toNat:Nat):Int).toNat=n.toNat by omega,aop]
 row_cond go
 refine ahw (j:=a.toNat) rfl (by rw [ab8];exact ae5 a0 (by omega)) ?_
 dsimp only [List.set_cons_zero,List.set_cons_succ,reS]
 rw [show (PyData.int 0)=.int ((0:Nat):Int) from rfl,agl a0 (by omega)]
 row_cond go
 refine aom 3 rfl abt ?_
 dsimp only [List.set_cons_zero,List.set_cons_succ]
 refine af2 (fun m e=>∃ v4 v5 v6 far edge kk,e=[some (.st (tlV tl)),some (.st (.int a)),some (.own (OL (lab n.toNat far))),some (.st (.list (edge.map .int))),v4,v5,v6]/\Gr.Ring T a kk far edge/\(∀ v∈edge,0<=v/\v < n)/\m=2 * cnt far n.toNat+(if edge=[] then 0 else 1))
  ⟨_,none,none,none,_,[a],0,rfl,Gr.Ring.start,fun v hv=>by simp at hv;subst hv;exact ⟨a0,a1⟩,rfl⟩ ?_
 rintro m e q0_
 refine exS6 e q0_ fun v4 v5 v6 far edge kk q1_=>?_
 have hR:=q1_.1
 have hb:=q1_.2.1
 have e2_:=q1_.2.2
 clear q1_ q0_
 subst e2_
 row_cond go
 rw [ang]
 cases hedge:edge with
 | nil =>
  subst hedge
  refine abx ?_
  row_cond go
  rw [ajm (g:=Gr.farO T a) fun v _ _=>hR.fin v]
  exact k
 | cons e0 er =>
  refine abr ?_
  rw [← hedge]
  have hne:edge ≠ []:=by rw [hedge];simp
  row_cond go
  refine acy (fun i e=>∃ v5 v6 far' beyond,e=[some (.st (tlV tl)),some (.st (.int a)),some (.own (OL (lab n.toNat far'))),some (.st (.list (edge.map .int))),some (.own (OL (beyond.map .int))),v5,v6]/\Gr.Mid T kk far edge (fun u=>u∈edge.take i) far' beyond/\cnt far' n.toNat+beyond.length=cnt far n.toNat/\∀ v∈beyond,0<=v/\v < n)
   ⟨v5,v6,far,[],rfl,Gr.Mid.start.imp fun u hu=>by simp at hu,rfl,fun v hv=>by simp at hv⟩ ?_ ?_
  ·rintro i p e hp q0_
   refine exS4 e q0_ fun v5 v6 far' beyond q1_=>?_
   have hM:=q1_.1
   have hc:=q1_.2.1
   have hbd:=q1_.2.2
   clear q1_ q0_
   have hpe:=List.mem_of_getElem? hp
   obtain ⟨p0,p1⟩:=hb p hpe
   obtain ⟨ws,hws,hw⟩:=ht.get p0 p1
   have hat:atI ((tlD tl).map PyData.list) p=some (.list (ws.map .int)):=ae6 (f:=PyData.list) (agm p0 (aiy hws))
   row_cond go
   have hfp:far p=some kk:=(hR.lab p kk).mpr ⟨(hR.edg p).mp hpe,Nat.le_refl _⟩
   refine acy (fun j e=>∃ v6 far' beyond,e=[some (.st (tlV tl)),some (.st (.int a)),some (.own (OL (lab n.toNat far'))),some (.st (.list (edge.map .int))),some (.own (OL (beyond.map .int))),some (.st (.int p)),v6]/\Gr.Mid T kk far edge (fun u=>u∈edge.take i) far' beyond/\cnt far' n.toNat+beyond.length=cnt far n.toNat/\(∀ v∈beyond,0<=v/\v < n)/\∀ x∈ws.take j,far' x ≠ none)
    ⟨v6,far',beyond,rfl,hM,hc,hbd,fun x hx=>by simp at hx⟩ ?_ ?_
   ·rintro j u e hu q0_
    refine exS3 e q0_ fun v6 far' beyond q1_=>?_
    have hM:=q1_.1
    have hc:=q1_.2.1
    have hbd:=q1_.2.2.1
    have hdn:=q1_.2.2.2
    clear q1_ q0_
    have tu:T p u:=(hw u).mp (List.mem_of_getElem? hu)
    obtain ⟨u0,u1⟩:=hT _ _ tu
    have hau:atI (lab n.toNat far') u=some (oD (far' u)):=ah0 u0 (by omega)
    have hap:atI (lab n.toNat far') p=some (.int (kk:Int)):=by
     rw [ah0 p0 (by omega),hM.old p kk hfp];rfl
    row_cond go
    rw [aon]
    cases hf:far' u with
    | none =>
     refine abr ?_
     row_cond go
     refine ahw (j:=u.toNat) rfl (by rw [ab8];exact ae5 u0 (by omega)) ?_
     dsimp only [List.set_cons_zero,List.set_cons_succ,reS]
     rw [show (PyData.int ((kk:Int)+1))=.int ((kk+1:Nat):Int) by simp,agl u0 (by omega)]
     have hcc:=ajn (d:=kk+1) u0 hf (n:=n.toNat) (by omega)
     have hblen:beyond.length<=cnt far n.toNat:=by omega
     have hcn:∀ m,cnt far m<=m:=fun m=>by
      induction m with
      | zero=>exact Nat.le_refl _
      | succ m ih=>unfold cnt;split <;> omega
     have:=hcn n.toNat
     row_cond go
     refine ⟨some (.st (.int u)),Gr.label far' u (kk+1),beyond ++ [u],by simp,hM.add hpe tu hf,by simp;omega,fun v hv=>?_,fun x hx=>?_⟩
     ·rcases List.mem_append.mp hv with h | h
      ·exact hbd v h
      ·have:v=u:=by simpa using h
       subst this;exact ⟨u0,u1⟩
     ·by_cases hx2:x=u
      ·subst hx2;rw [Gr.label_same];simp
      ·rw [Gr.label_ne hx2]
       rcases ad8 hu hx with h | h
       ·exact hdn x h
       ·exact absurd h hx2
    | some d =>
     refine abx ?_
     row_cond go
     refine ⟨_,far',beyond,rfl,hM,hc,hbd,fun x hx=>?_⟩
     rcases ad8 hu hx with h | h
     ·exact hdn x h
     ·subst h;rw [hf];simp
   ·rintro e q0_
    refine exS3 e q0_ fun v6 far' beyond q1_=>?_
    have hM:=q1_.1
    have hc:=q1_.2.1
    have hbd:=q1_.2.2.1
    have hdn:=q1_.2.2.2
    clear q1_ q0_
    rw [List.take_length] at hdn
    refine ⟨_,_,far',beyond,rfl,?_,hc,hbd⟩
    refine (hM.did (u:=p) fun x tx=>hdn x ((hw x).mpr tx)).imp fun x hx=>?_
    exact ad8 hp hx
  ·rintro e q0_
   refine exS4 e q0_ fun v5 v6 far' beyond q1_=>?_
   have hM:=q1_.1
   have hc:=q1_.2.1
   have hbd:=q1_.2.2
   clear q1_ q0_
   row_cond go
   refine ⟨_,?_,_,_,_,far',beyond,kk+1,rfl,hR.next hM fun u hu=>by rw [List.take_length];exact hu,hbd,rfl⟩
   rw [if_neg hne]
   cases beyond with
   | nil=>rw [if_pos rfl];simp at hc;omega
   | cons b0 br=>rw [if_neg (by simp)];simp at hc;omega
end
def ann:VP:=fun ss Q=>∃ (n a:Int) (es:List (Int × Int)),ss=[.st (webD n es),.st (.int a)]/\0<=a/\a < n/\Q (.st .none)
def amp:VP:=fun ss Q=>∃ (n a:Int) (es:List (Int × Int)),ss=[.st (webD n es),.st (.int a)]/\n<=100/\InN n es/\es.length<=10000/\0<=a/\a < n/\Q (.own (OL (lab n.toNat (Gr.farO (Tied es) a))))
def aur:VP:=fun ss Q=>∃ (n:Int) (es:List (Int × Int)),ss=[.st (webD n es)]/\1<=n/\n<=100/\InN n es/\es.length<=10000/\∀ b:Bool,(b=true ↔ Joined n es)->Q (.st (.bool b))
section
variable {P:Program} {w:World} {K:Frag} {mg:Str->Option Value} {base:Heap}
theorem sc_need_place:FnScope ["web","thing"] ["web","thing"] (aak s_need_place):=by row_cond sc
theorem ai5 (T:Txt K mg):Can P w K mg base "need_place" 4 ["web","thing"] (spP K (ann)):=by
 obtain ⟨f,fd,D⟩:=T.d_need_place
 refine D.can (D.fn.ok sc_need_place (fun vs H Q E h=>lenP h fun ss Q' q=>by obtain ⟨n,a,es,rfl,a0,a1,k⟩:=q;rfl) (fun cdv A outer s H vs Q E hr h=>?_))
 have nd:=sc_need_place.nd
 refine ⟨_,(aag (abf (adz (acw (aaf (aek T) hr (aaa (aar aas (pv 0) aad (fun _ _=>rfl)) (aaa (pv 1) aab)))))
   (aag aeg)
   aa2)),?_⟩
 refine abb h fun ss Q' q B hK=>?_
 refine exS3 ss q fun n a es q1_=>?_
 have a0:=q1_.1
 have a1:=q1_.2.1
 have k:=q1_.2.2
 clear q1_ q
 show EvS B _ _ [some (.st (webD n es)),some (.st (.int a))]
 row_cond go
 refine ⟨_,_,rfl,?_⟩
 row_cond go
 have e:btwD 0 (n - 1) (.int a)=true:=decide_eq_true ⟨a0,by omega⟩
 rw [e]
 row_cond go
 exact k
theorem sc_all_far:FnScope ["web","a"] ["web","a"] (aak s_all_far):=by row_cond sc
theorem ano (T:Txt K mg):Can P w K mg base "all_far" 5 ["web","a"] (spP K (amp)):=by
 obtain ⟨f,fd,D⟩:=T.d_all_far
 refine D.can (D.fn.ok sc_all_far (fun vs H Q E h=>lenP h fun ss Q' q=>by obtain ⟨n,a,es,rfl,n1,hin,hle,a0,a1,k⟩:=q;rfl) (fun cdv A outer s H vs Q E hr h=>?_))
 have nd:=sc_all_far.nd
 refine ⟨_,(aac (abh (aaf (ai5 T) hr (aaa (pv 0) (aaa (pv 1) aab))))
  (aag (aau (aaf (af6 T) hr (aaa (aaf (aew T) hr (aaa (pv 0) aab)) (aaa (pv 1) aab)))))),?_⟩
 refine abb h fun ss Q' q B hK=>?_
 refine exS3 ss q fun n a es q1_=>?_
 have n1:=q1_.1
 have hin:=q1_.2.1
 have hle:=q1_.2.2.1
 have a0:=q1_.2.2.2.1
 have a1:=q1_.2.2.2.2.1
 have k:=q1_.2.2.2.2.2
 clear q1_ q
 show EvS B _ _ [some (.st (webD n es)),some (.st (.int a))]
 row_cond go
 refine ⟨n,a,es,rfl,a0,a1,?_⟩
 row_cond go
 refine ⟨n,es,rfl,by omega,n1,hin,hle,fun tl ht _=>?_⟩
 refine azf ?_
 row_cond go
 exact ⟨n,a,Tied es,tl,rfl,n1,ht,fun u v h=>(h.in hin).2,a0,a1,k⟩
theorem sc_is_joined:FnScope ["web"] ["web"] (aak s_is_joined):=by row_cond sc
theorem akh (T:Txt K mg):Can P w K mg base "is_joined" 6 ["web"] (spP K (aur)):=by
 obtain ⟨f,fd,D⟩:=T.d_is_joined
 refine D.can (D.fn.ok sc_is_joined (fun vs H Q E h=>lenP h fun ss Q' q=>by obtain ⟨n,es,rfl,n0,n1,hin,hle,k⟩:=q;rfl) (fun cdv A outer s H vs Q E hr h=>?_))
 have nd:=sc_is_joined.nd
 refine ⟨_,(aag (aau (ac5 (aeq hr.units) aef (aaf (ano T) hr (aaa (pv 0) (aaa aad aab))) rfl))),?_⟩
 refine abb h fun ss Q' q B hK=>?_
 refine exS2 ss q fun n es q1_=>?_
 have n0:=q1_.1
 have n1:=q1_.2.1
 have hin:=q1_.2.2.1
 have hle:=q1_.2.2.2.1
 have k:=q1_.2.2.2.2
 clear q1_ q
 show EvS B _ _ [some (.st (webD n es))]
 row_cond go
 refine ⟨n,0,es,rfl,n1,hin,hle,by omega,by omega,?_⟩
 row_cond go
 refine agk rfl arp (by simp [PyData.depth]) ?_
 row_cond go
 refine k _ ?_
 rw [if_pos rfl,Bool.not_eq_true',← Bool.not_eq_true,aws]
 constructor
 ·intro h v v0 v1
  cases e:Gr.farO (Tied es) 0 v with
  | some d=>exact ⟨d,Gr.farO_some.mp e⟩
  | none=>exact absurd ⟨v,v0,by omega,e⟩ h
 ·rintro h ⟨v,v0,v1,e⟩
  obtain ⟨d,hd⟩:=h v v0 (by omega)
  exact Gr.farO_none.mp e d hd
end
noncomputable def dsF (es:List (Int × Int)) (u v:Int):Int:=(((Gr.farO (Tied es) u v).getD 0:Nat):Int)
noncomputable def rowD (n:Nat) (r:Int->Int):List PyData:=(List.range n).map fun (i:Nat) => .int (r (i:Int))
noncomputable def matD (n:Nat) (m:Int->Int->Int):List PyData:=(List.range n).map fun (u:Nat) => .list (rowD n (m (u:Int)))
theorem azu {n:Nat} {r:Int->Int} {x:Int} (h0:0<=x) (h1:x < n):atI (rowD n r) x=some (.int (r x)):=by
 have:=ac6 (xs:=rowD n r) (j:=x.toNat) (v:=.int (r x)) (by
  unfold rowD
  rw [List.getElem?_map,List.getElem?_eq_getElem (by simp;omega)]
  simp [Int.max_eq_left h0])
 rwa [show ((x.toNat:Nat):Int)=x by omega] at this
theorem amq {n:Nat} {m:Int->Int->Int} {x:Int} (h0:0<=x) (h1:x < n):atI (matD n m) x=some (.list (rowD n (m x))):=by
 have:=ac6 (xs:=matD n m) (j:=x.toNat) (v:=.list (rowD n (m x))) (by
  unfold matD
  rw [List.getElem?_map,List.getElem?_eq_getElem (by simp;omega)]
  simp [Int.max_eq_left h0])
 rwa [show ((x.toNat:Nat):Int)=x by omega] at this
theorem afm {n:Nat} {r:Int->Int}:rowD n r=((List.range n).map fun (i:Nat)=>r (i:Int)).map .int:=by simp [rowD]
theorem aqa {n:Int} {es:List (Int × Int)} (hJ:Joined n es) {u v:Int} (u0:0<=u) (u1:u < n) (v0:0<=v) (v1:v < n):∃ d,Gr.farO (Tied es) u v=some d:=by
 cases e:Gr.farO (Tied es) u v with
 | some d=>exact ⟨d,rfl⟩
 | none =>
  obtain ⟨k,hw⟩:=hJ.conn u v u0 u1 v0 v1
  obtain ⟨d,_,hd⟩:=Gr.Dist.of_walk hw
  exact absurd hd (Gr.farO_none.mp e d)
theorem agp {n:Int} {es:List (Int × Int)} (hJ:Joined n es) {u:Int} (u0:0<=u) (u1:u < n):lab n.toNat (Gr.farO (Tied es) u)=rowD n.toNat (dsF es u):=by
 unfold lab rowD
 refine List.map_congr_left fun i hi=>?_
 obtain ⟨d,e⟩:=aqa hJ u0 u1 (show 0<=(i:Int) by omega) (by have:=List.mem_range.mp hi;omega)
 simp only [dsF,e,oD,Option.getD_some]
theorem acz {α:Type} {K:Frag} {src:List (Option Nat)} {e1:En} {te:TE} {R:List PyData->En->Prop} {xs:List α} {f : α->PyData} (g : α->PyData) (hno:noIo (aat src e1)=true) (hl:xs.length<=999999)
  (h:∀ x∈xs,∀ B':Bs,B'.K=K->Ev B' te (some (.st (f x)) :: aat src e1) fun y e4=>y=g x/\e4=some (.st (f x)) :: aat src e1)
  (hR:R (xs.map g) e1):LcV K (none :: src) (aba 0) tYes te (xs.map f) e1 R:=by
 have hno':noIo (aat (none :: src) e1)=true:=by
  show ((none :: aat src e1).all fun s => !isIo s)=true
  rw [List.all_cons]
  exact (Bool.and_eq_true _ _).mpr ⟨rfl,hno⟩
 refine ⟨fun i ys e=>ys=(xs.take i).map g/\∃ o,e=stO o :: aat src e1,⟨by simp,none,rfl⟩,?_,?_,?_⟩
 ·rintro i ys e ⟨_,o,rfl⟩
  exact ⟨⟨isIo_stO.symm,ada⟩,ad4 adw⟩
 ·rintro i d ys e hd ⟨rfl,o,rfl⟩ B' hB
  rw [List.getElem?_map] at hd
  cases hx:xs[i]? with
  | none=>rw [hx] at hd;cases hd
  | some x =>
   rw [hx] at hd
   cases hd
   have hi:i < xs.length:=(List.getElem?_eq_some_iff.mp hx).1
   have et:xs.take (i+1)=xs.take i ++ [x]:=by rw [List.take_add_one,hx];rfl
   refine aa7 (ae3 ?_)
   rw [if_pos rfl]
   intro σ G H F Q I k
   refine h x (List.mem_of_getElem? hx) B' hB σ G H F Q I fun v G' H' F' d' e4 I' g' r' ⟨hy,he4⟩=>k v G' H' F' d' e4 I' g' r' ?_
   subst hy he4
   refine ⟨by simp;omega,by rw [et];simp,some _,rfl⟩
 ·rintro ys e ⟨rfl,o,rfl⟩
  rw [agj hno']
  simpa using hR
theorem acl {ns:List Int} {x y:Int} (h:adt ns x) (g:adt ns y):x=y:=Int.le_antisymm (g.2 x h.1) (h.2 y g.1)
theorem agq:∀ {ns:List Int},ns ≠ []->∃ x,adt ns x
 | [a],_=>⟨a,by simp [adt]⟩
 | a :: b :: r,_=>by
  obtain ⟨x,hx,hm⟩:=agq (ns:=b :: r) (by simp)
  by_cases h:a<=x
  ·exact ⟨x,List.mem_cons_of_mem _ hx,fun y hy=>by
    rcases List.mem_cons.mp hy with rfl | hy
    ·exact h
    ·exact hm y hy⟩
  ·exact ⟨a,List.mem_cons_self,fun y hy=>by
    rcases List.mem_cons.mp hy with rfl | hy
    ·exact Int.le_refl _
    ·have:=hm y hy;omega⟩
theorem ao4 {n:Nat} (n0:1<=n) (m:Int->Int->Int):∃ mx:Nat->Int,∀ u:Nat,adt ((List.range n).map fun (i:Nat)=>m (u:Int) (i:Int)) (mx u) :=
 ⟨fun u=>Classical.choose (agq (ns:=(List.range n).map fun (i:Nat)=>m (u:Int) (i:Int)) (by simp;omega)),fun u=>Classical.choose_spec (agq (ns:=(List.range n).map fun (i:Nat)=>m (u:Int) (i:Int)) (by simp;omega))⟩
theorem aus {n:Nat} {r q:Int->Int}:zipD (rowD n r) (rowD n q)=(List.range n).map fun (i:Nat) => .tuple [.int (r (i:Int)),.int (q (i:Int))]:=by
 unfold zipD rowD
 rw [List.zip_map',List.map_map]
 rfl
def amr:VP:=fun ss Q=>∃ (n:Int) (es:List (Int × Int)),ss=[.st (webD n es)]/\1<=n/\n<=100/\InN n es/\es.length<=10000/\Joined n es/\Q (.st .none)
def asf:VP:=fun ss Q=>∃ (n:Int) (es:List (Int × Int)),ss=[.st (webD n es)]/\1<=n/\n<=100/\InN n es/\es.length<=10000/\Joined n es/\Q (.own (OL (matD n.toNat (dsF es))))
def aqb (n:Nat) (m:Int->Int->Int) (x:Int):Prop:=(∃ u v:Int,0<=u/\u < n/\0<=v/\v < n/\m u v=x)/\∀ u v:Int,0<=u->u < n->0<=v->v < n->m u v<=x
def asg:VP:=fun ss Q=>∃ (n:Nat) (m:Int->Int->Int),ss=[.st (.list (matD n m))]/\1<=n/\n<=1000/\∀ x,aqb n m x->Q (.st (.int x))
structure FreeAll (n:Int) (es fs:List (Int × Int)):Prop where
 mem:∀ p:Int × Int,p∈fs ↔ (0<=p.1/\p.1 < p.2/\p.2 < n/\p ∉ es)
 rise:Rise fs
theorem FreeAll.eq {n:Int} {es fs gs:List (Int × Int)} (h:FreeAll n es fs) (g:FreeAll n es gs):fs=gs:=h.rise.eq g.rise fun p=>by rw [h.mem,g.mem]
theorem FreeAll.len {n:Int} {es fs:List (Int × Int)} (h:FreeAll n es fs) (h1:n<=100):fs.length<=10000:=PsOk.len ⟨h.rise.nodup,fun p hp=>by have:=(h.mem p).mp hp;omega⟩ h1
section
variable {P:Program} {w:World} {K:Frag} {mg:Str->Option Value} {base:Heap}
theorem sc_need_joined:FnScope ["web"] ["web"] (aak s_need_joined):=by row_cond sc
theorem ah5 (T:Txt K mg):Can P w K mg base "need_joined" 7 ["web"] (spP K (amr)):=by
 obtain ⟨f,fd,D⟩:=T.d_need_joined
 refine D.can (D.fn.ok sc_need_joined (fun vs H Q E h=>lenP h fun ss Q' q=>by obtain ⟨n,es,rfl,n0,n1,hin,hle,hJ,k⟩:=q;rfl) (fun cdv A outer s H vs Q E hr h=>?_))
 have nd:=sc_need_joined.nd
 refine ⟨_,(aag (abf (adz (acw (aaf (akh T) hr (aaa (pv 0) aab))))
   (aag aeg)
   aa2)),?_⟩
 refine abb h fun ss Q' q B hK=>?_
 refine exS2 ss q fun n es q1_=>?_
 have n0:=q1_.1
 have n1:=q1_.2.1
 have hin:=q1_.2.2.1
 have hle:=q1_.2.2.2.1
 have hJ:=q1_.2.2.2.2.1
 have k:=q1_.2.2.2.2.2
 clear q1_ q
 show EvS B _ _ [some (.st (webD n es))]
 row_cond go
 refine ⟨n,es,rfl,n0,n1,hin,hle,fun b hb=>?_⟩
 have:b=true:=hb.mpr hJ
 subst this
 row_cond go
 exact k
theorem sc_far_rows:FnScope ["web","tied"] ["web"] (aak s_far_rows):=by row_cond sc
theorem af7 (T:Txt K mg):Can P w K mg base "far_rows" 8 ["web"] (spP K (asf)):=by
 obtain ⟨f,fd,D⟩:=T.d_far_rows
 refine D.can (D.fn.ok sc_far_rows (fun vs H Q E h=>lenP h fun ss Q' q=>by obtain ⟨n,es,rfl,n0,n1,hin,hle,hJ,k⟩:=q;rfl) (fun cdv A outer s H vs Q E hr h=>?_))
 have nd:=sc_far_rows.nd
 refine ⟨_,(aac (abh (aaf (ah5 T) hr (aaa (pv 0) aab)))
  (aac (aam (i:=1) nd rfl (Or.inr rfl) (aaf (aew T) hr (aaa (pv 0) aab)))
  (aag (aau (adf rfl (N:=["place","tied"]) (src:=[none,some 1]) (by exact abm rfl rfl rfl rfl rfl rfl) (abi rfl T.b_range (aaa (aai abj (by rfl) T.b_len acn (aaa (pv 1) aab)) aab)) (fun _ _ _ _=>(aao (i:=0) (show List.Nodup (["place","tied"]:List Str) by decide +kernel) rfl (Or.inl rfl) (hf:=Or.inr rfl))) (fun _ _ _ _=>ab5) (fun _ _ _ _=>(aaf (af6 T) hr (aaa (pv 1) (aaa (pv 0) aab))))))))),?_⟩
 refine abb h fun ss Q' q B hK=>?_
 refine exS2 ss q fun n es q1_=>?_
 have n0:=q1_.1
 have n1:=q1_.2.1
 have hin:=q1_.2.2.1
 have hle:=q1_.2.2.2.1
 have hJ:=q1_.2.2.2.2.1
 have k:=q1_.2.2.2.2.2
 clear q1_ q
 show EvS B _ _ [some (.st (webD n es)),none]
 row_cond go
 refine ⟨n,es,rfl,n0,n1,hin,hle,hJ,?_⟩
 row_cond go
 refine ⟨n,es,rfl,by omega,n1,hin,hle,fun tl ht _=>?_⟩
 refine abv aix ?_
 have hl:tl.length=n.toNat:=by have:=ht.1;omega
 have hl2:((tlD tl).map PyData.list).length=n.toNat:=by simp [tlD,hl]
 row_cond go
 rw [hl2,show (((n.toNat:Nat):Int)).toNat=n.toNat by omega]
 unfold rngD
 refine acz (fun u:Nat => .list (rowD n.toNat (dsF es (u:Int)))) rfl (by simp;omega) (fun u hu B' hB=>?_) ?_
 ·have hu1:(u:Int) < n:=by have:=List.mem_range.mp hu;omega
  row_cond go
  refine ⟨n,0+(u:Int),Tied es,tl,rfl,n1,ht,fun u v h=>(h.in hin).2,by omega,by omega,aer ⟨?_,rfl⟩⟩
  rw [Int.zero_add,agp hJ (by omega) hu1]
 ·row_cond go
  exact k
theorem sc_most_far:FnScope ["rows"] ["rows"] (aak s_most_far):=by row_cond sc
theorem ams (T:Txt K mg):Can P w K mg base "most_far" 1 ["rows"] (spP K (asg)):=by
 obtain ⟨f,fd,D⟩:=T.d_most_far
 refine D.can (D.fn.ok sc_most_far (fun vs H Q E h=>lenP h fun ss Q' q=>by obtain ⟨n,m,rfl,n0,n1,k⟩:=q;rfl) (fun cdv A outer s H vs Q E hr h=>?_))
 have nd:=sc_most_far.nd
 refine ⟨_,(aag (aau (aai (abq rfl) (by rfl) T.b_max acg (aaa (adf rfl (N:=["row"]) (src:=[none]) (by exact abm rfl rfl rfl rfl rfl rfl) (ab4 (pv 0)) (fun _ _ _ _=>(aao (i:=0) (show List.Nodup (["row"]:List Str) by decide +kernel) rfl (Or.inl rfl) (hf:=Or.inr rfl))) (fun _ _ _ _=>ab5) (fun _ _ _ _=>(aai (show abe _ (.builtin "max") (age K) from (abq rfl)) (by rfl) T.b_max acg (aaa (pv 0) aab)))) aab)))),?_⟩
 refine abb h fun ss Q' q B hK=>?_
 refine exS2 ss q fun n m q1_=>?_
 have n0:=q1_.1
 have n1:=q1_.2.1
 have k:=q1_.2.2
 clear q1_ q
 show EvS B _ _ [some (.st (.list (matD n m)))]
 obtain ⟨mx,hmx⟩:=ao4 n0 m
 row_cond go
 unfold matD
 refine acz (fun u:Nat => .int (mx u)) rfl (by simp;omega) (fun u hu B' hB=>?_) ?_
 ·row_cond go
  rw [afm]
  exact ab1 (by simp;omega) fun x hx=>⟨by rw [acl hx (hmx u)],rfl⟩
 ·row_cond go
  rw [show (List.range n).map (fun u:Nat=>PyData.int (mx u))=((List.range n).map mx).map .int by rw [List.map_map];rfl]
  refine ab1 (by simp;omega) fun x hx=>?_
  row_cond go
  refine k x ⟨?_,fun u v u0 u1 v0 v1=>?_⟩
  ·obtain ⟨i,hi,e⟩:=List.mem_map.mp hx.1
   obtain ⟨j,hj,e2⟩:=List.mem_map.mp (hmx i).1
   exact ⟨i,j,by omega,by have:=List.mem_range.mp hi;omega,by omega,by have:=List.mem_range.mp hj;omega,e2.trans e⟩
  ·have h1:=(hmx u.toNat).2 (m ((u.toNat:Nat):Int) ((v.toNat:Nat):Int)) (List.mem_map.mpr ⟨v.toNat,List.mem_range.mpr (by omega),rfl⟩)
   have h2:=hx.2 (mx u.toNat) (List.mem_map.mpr ⟨u.toNat,List.mem_range.mpr (by omega),rfl⟩)
   rw [show ((u.toNat:Nat):Int)=u by omega,show ((v.toNat:Nat):Int)=v by omega] at h1
   omega
end
noncomputable def stD (g c t:Int):List PyData:=[.int g,.int c,.int t]
def azv:VP:=fun ss Q=>∃ (ns:List Int) (k:Int),ss=[.scr ns,.st (.int k)]/\0<=k/\k < 1048576/\∀ c,Q (.st (.int c))
def axk:VP:=fun ss Q=>∃ c:Int,ss=[.st (.int c)]/\∀ g t u,Q (.own (OL (stD g t u)))
def azw:VIo:=fun A ss Q=>∃ g c t many:Int,A=OL (stD g c t)/\ss=[.st (.int many)]/\0 < many/\many < 1073741824/\∀ r g' c' t':Int,0<=r->r < many->Q (OL (stD g' c' t')) (.st (.int r))
section
variable {P:Program} {w:World} {K:Frag} {mg:Str->Option Value} {base:Heap}
theorem sc_law_cell:FnScope ["script","k"] ["script","k"] (aak s_law_cell):=by row_cond sc
theorem amt (T:Txt K mg):Can P w K mg base "_law_cell" 1 ["script","k"] (spP K (azv)):=by
 obtain ⟨f,fd,D⟩:=T.d_law_cell
 refine D.can (D.fn.ok sc_law_cell (fun vs H Q E h=>lenP h fun ss Q' q=>by obtain ⟨ns,k,rfl,h0,h1,kk⟩:=q;rfl) (fun cdv A outer s H vs Q E hr h=>?_))
 have nd:=sc_law_cell.nd
 refine ⟨_,(aac (abf (aaz apb (pv 1) (aai abj (by rfl) T.b_len acn (aaa (pv 0) aab)) (aa1 _))
   (aag (aau (aar aas (pv 0) (pv 1) (fun _ _=>rfl))))
   aa2)
  (aag (aau (aaq abl (aaq abl (aaq adc (aaq adc aad (pv 1)) (pv 1)) (aaq adc aad (pv 1))) aad)))),?_⟩
 refine abb h fun ss Q' q B hK=>?_
 refine exS2 ss q fun ns k q1_=>?_
 have h0:=q1_.1
 have h1:=q1_.2.1
 have kk:=q1_.2.2
 clear q1_ q
 show EvS B _ _ [some (.scr ns),some (.st (.int k))]
 row_cond go
 refine acm (fun hk=>?_) (fun hk=>?_)
 ·have hin:k.toNat < ns.length:=by omega
  have hat:atI ns k=some ns[k.toNat]:=agm h0 (List.getElem?_eq_getElem hin)
  row_cond go
  exact kk _
 ·row_cond go
  exact kk _
theorem sc_law_store:FnScope ["cell","great"] ["cell"] (aak s_law_store):=by row_cond sc
theorem aki (T:Txt K mg):Can P w K mg base "_law_store" 1 ["cell"] (spP K (axk)):=by
 obtain ⟨f,fd,D⟩:=T.d_law_store
 refine D.can (D.fn.ok sc_law_store (fun vs H Q E h=>lenP h fun ss Q' q=>by obtain ⟨c,rfl,k⟩:=q;rfl) (fun cdv A outer s H vs Q E hr h=>?_))
 have nd:=sc_law_store.nd
 refine ⟨_,(aac (aam (i:=1) nd rfl (Or.inl rfl) aad)
  (aac (abf (aaz a0a (pv 0) (av3 (n:=1000000000000000000) (by decide) (by refine ⟨by decide,by decide,by decide⟩)) (aa1 _))
   (aag (aam (i:=1) nd rfl (Or.inl rfl) (pv 0)))
   aa2)
  (aag (aau (aa5 (aaa (pv 1) (aaa (aaq ae0 (pv 0) aad) (aaa aad aab)))))))),?_⟩
 refine abb h fun ss Q' q B hK=>?_
 refine exS1 ss q fun c q1_=>?_
 have k:=q1_
 clear q1_ q
 show EvS B _ _ [some (.st (.int c)),none]
 row_cond go
 refine acm (fun hk=>?_) (fun hk=>?_)
 ·row_cond go
  exact k _ _ _
 ·row_cond go
  exact k _ _ _
theorem sc_law_take:FnScope ["store","many","told","one"] ["store","many"] (aak s_law_take):=by row_cond sc
theorem akj (T:Txt K mg):Can P w K mg base "_law_take" 1 ["store","many"] (spI K (azw)):=by
 obtain ⟨f,fd,D⟩:=T.d_law_take
 refine D.can (D.fn.ok sc_law_take (fun vs H Q E h=>lenI h fun A ss Q' q=>by obtain ⟨g,c,t,many,rfl,rfl,h1,h2,k⟩:=q;rfl) (fun cdv A outer s H vs Q E hr h=>?_))
 have nd:=sc_law_take.nd
 refine ⟨_,(aac (abf (aaz afa (aar aas (pv 0) aad (fun _ _=>rfl)) aad (aa1 _))
   (aac (aam (i:=2) nd rfl (Or.inl rfl) (aaq ae0 (aar aas (pv 0) aad (fun _ _=>rfl)) (pv 1)))
    (aac (acq (aaq anr (aar aas (pv 0) aad (fun _ _=>rfl)) (pv 1)) (aez (pv 0) aad adj))
    (aag (aau (pv 2)))))
   aa2)
  (aac (acq (aaq abl (aar aas (pv 0) aad (fun _ _=>rfl)) aad) (aez (pv 0) aad adj))
  (aac (aam (i:=3) nd rfl (Or.inl rfl) (aaq ae0 (aaq adc (aaq abl (aar aas (pv 0) aad (fun _ _=>rfl)) (aaq adc aad (aar aas (pv 0) aad (fun _ _=>rfl)))) aad) aad))
  (aac (aam (i:=3) nd rfl (Or.inl rfl) (aaq ae0 (aaq adc (pv 3) (pv 3)) aad))
  (aac (aam (i:=3) nd rfl (Or.inl rfl) (aaq ae0 (aaq adc (aaq abl (pv 3) (aaq adc aad (aar aas (pv 0) aad (fun _ _=>rfl)))) aad) aad))
  (aag (aau (aaq ae0 (aaq anr (pv 3) aad) (pv 1))))))))),?_⟩
 refine agg h fun A0 ss Q' q B hK=>?_
 obtain ⟨g,c,t,many,rfl,rfl,h1,h2,k⟩:=q
 show EvS B _ _ [some (.io (OL (stD g c t))),some (.st (.int many)),none,none]
 unfold stD at *
 row_cond go
 refine acm (fun hk=>?_) (fun hk=>?_)
 ·row_cond go
  exact k _ _ _ _ (Int.emod_nonneg _ (by omega)) (Int.emod_lt_of_pos _ h1)
 ·row_cond go
  exact k _ _ _ _ (Int.emod_nonneg _ (by omega)) (Int.emod_lt_of_pos _ h1)
end
noncomputable def OSt:Own:=exO fun q:Int × Int × Int=>OL (stD q.1 q.2.1 q.2.2)
theorem axl {K:Frag} {f:VIo} {vs:List V} {H:Hp} {Q:VK} {E:XK} (h:spI K (fun A ss Q=>A=OSt/\∀ g c t,f (OL (stD g c t)) ss fun A' s=>(∃ g c t,A'=OL (stD g c t))/\Q OSt s) vs H Q E):spI K f vs H Q E:=by
 obtain ⟨v0,vr,G,R,A,ss,F0,Q',rfl,gh,ft,rh,ap,fg,fr,ao,⟨rfl,hf⟩,hQ⟩:=h
 obtain ⟨⟨g,c,t⟩,ap⟩:=ap
 refine ⟨v0,vr,G,R,OL (stD g c t),ss,F0,_,rfl,gh,ft,rh,ap,fg,fr,ao,hf g c t,fun A' s hq v G' H' F' Fv o=>?_⟩
 obtain ⟨⟨g',c',t',rfl⟩,q⟩:=hq
 exact hQ OSt s q v G' H' F' Fv { o with ap:=⟨(g',c',t'),o.ap⟩ }
theorem aut {P:Program} {w:World} {K:Frag} {mg:Str->Option Value} {base:Heap} {x:Str} {k:Nat} {ps:List Str} {sp sp':Sp} (c:Can P w K mg base x k ps sp) (h:∀ vs H Q E,sp' vs H Q E->sp vs H Q E):Can P w K mg base x k ps sp':=by
 obtain ⟨f,fd,ok,m,kp,b⟩:=c
 exact ⟨f,fd,ok.imp h,m,kp,b⟩
def axm:VIo:=fun A ss Q=>∃ many:Int,A=OSt/\ss=[.st (.int many)]/\0 < many/\many < 1073741824/\∀ r:Int,0<=r->r < many->Q OSt (.st (.int r))
theorem axn {K:Frag} {f f':VIo} {vs:List V} {H:Hp} {Q:VK} {E:XK} (hf:∀ A ss Q',f A ss Q'->f' A ss Q') (h:spI K f vs H Q E):spI K f' vs H Q E:=by
 obtain ⟨v0,vr,G,R,A,ss,F0,Q',rfl,gh,ft,rh,ap,fg,fr,ao,q,hQ⟩:=h
 exact ⟨v0,vr,G,R,A,ss,F0,Q',rfl,gh,ft,rh,ap,fg,fr,ao,hf _ _ _ q,hQ⟩
theorem auu {B:Bs} {t:TS} {D':VEnds} {env:En} {g c u:Int} (i:Nat) (e:env[i]?=some (some (.own (OL (stD g c u))))) (q:EvS B t D' (env.set i (some (.own OSt)))):EvS B t D' env:=fun σ G H F D I r=>q σ G H F D (I.weakO e fun _ _ _ _ h=>⟨(g,c,u),h⟩) r
section
variable {P:Program} {w:World} {K:Frag} {mg:Str->Option Value} {base:Heap}
theorem aal (T:Txt K mg):Can P w K mg base "_law_take" 1 ["store","many"] (spI K (axm)) :=
 aut (akj T) fun vs H Q E h=>axl (axn (fun A ss Q' q=>by
  obtain ⟨many,rfl,rfl,h1,h2,k⟩:=q
  exact ⟨rfl,fun g c t=>⟨g,c,t,many,rfl,rfl,h1,h2,fun r g' c' t' r0 r1=>⟨⟨g',c',t',rfl⟩,k r r0 r1⟩⟩⟩) h)
end
structure TreeT (n:Int) (ps:List (Int × Int)):Prop where
 len:(ps.length:Int)=n - 1
 at':∀ (i:Nat) p,ps[i]?=some p->0<=p.1/\p.1 < p.2/\p.2=(i:Int)+1
def axo:VIo:=fun A ss Q=>∃ n kind:Int,A=OSt/\ss=[.st (.int n),.st (.int kind)]/\1<=n/\n<=60/\0<=kind/\kind < 4/\∀ ps,TreeT n ps->Q OSt (.own (OL (ps.map prD)))
section
variable {P:Program} {w:World} {K:Frag} {mg:Str->Option Value} {base:Heap}
theorem sc_law_tree_ties:FnScope ["store","n","kind","ties","b","a"] ["store","n","kind"] (aak s_law_tree_ties):=by row_cond sc
theorem agv (T:Txt K mg):Can P w K mg base "_law_tree_ties" 2 ["store","n","kind"] (spI K (axo)):=by
 obtain ⟨f,fd,D⟩:=T.d_law_tree_ties
 refine D.can (D.fn.ok sc_law_tree_ties (fun vs H Q E h=>lenI h fun A ss Q' q=>by obtain ⟨n,kind,rfl,rfl,n0,n1,k0,k1,k⟩:=q;rfl) (fun cdv A outer s H vs Q E hr h=>?_))
 have nd:=sc_law_tree_ties.nd
 refine ⟨_,(aac (aam (i:=3) nd rfl (Or.inl rfl) (aa5 aab))
  (aac (acd PassesOwn.never rfl (afp rfl T.b_range (aaa aad (aaa (pv 1) aab))) (aao (i:=4) nd rfl (Or.inl rfl))
   (aac (aam (i:=5) nd rfl (Or.inl rfl) (aar aas (aa5 (aaa (aaf (aal T) hr (aaa (pv 0) (aaa (pv 4) aab))) (aaa (aaq ace (aaq ace (pv 4) aad) (aaf (aal T) hr (aaa (pv 0) (aaa (aai (acu rfl) (by rfl) T.b_min ae1 (aaa (pv 4) (aaa aad aab))) aab)))) (aaa (aaf (aal T) hr (aaa (pv 0) (aaa (aai (acu rfl) (by rfl) T.b_min ae1 (aaa (pv 4) (aaa aad aab))) aab))) (aaa (aaq ace (pv 4) aad) aab))))) (pv 2) (fun _ _=>rfl)))
    (aag (abh (ab2 PySem.F.plainAttrs_list PySem.F.slot_list_append PySem.F.type_list_append abc (pv 3) (aaa (aa3 (aaa (pv 5) (aaa (pv 4) aab))) aab))))))
  (aag (aau (pv 3))))),?_⟩
 refine agg h fun A0 ss Q' q B hK=>?_
 obtain ⟨n,kind,rfl,rfl,n0,n1,k0,k1,k⟩:=q
 show EvS B _ _ [some (.io OSt),some (.st (.int n)),some (.st (.int kind)),none,none,none]
 row_cond go
 refine adm (fun i e=>∃ v4 v5 ps,e=[some (.io OSt),some (.st (.int n)),some (.st (.int kind)),some (.own (OL (List.map prD ps))),v4,v5]/\ps.length=i/\∀ (j:Nat) p,ps[j]?=some p->0<=p.1/\p.1 < p.2/\p.2=(j:Int)+1) ⟨_,_,[],rfl,rfl,fun j p h=>by simp at h⟩ ?_ ?_
 ·rintro i e hi q0_
  refine exS3 e q0_ fun v4 v5 ps q1_=>?_
  have hpl:=q1_.1
  have hps:=q1_.2
  clear q1_ q0_
  have hi2:1+(i:Int) < n:=by omega
  row_cond go
  refine ⟨1+(i:Int),rfl,rfl,by omega,by omega,fun r1 r1a r1b=>?_⟩
  row_cond go
  refine ⟨_,rfl,rfl,by split <;> omega,by split <;> omega,fun r2 r2a r2b=>?_⟩
  have r2c:r2 < 1+(i:Int):=by split at r2b <;> omega
  row_cond go
  refine ⟨_,rfl,rfl,by split <;> omega,by split <;> omega,fun r3 r3a r3b=>?_⟩
  have r3c:r3 < 1+(i:Int):=by split at r3b <;> omega
  obtain ⟨x,hx,x0,x1⟩:∃ x:Int,atI [PyData.int r1,PyData.int (1+(i:Int) - 1 - r2),PyData.int r3,PyData.int (1+(i:Int) - 1)] kind=some (.int x)/\0<=x/\x < 1+(i:Int):=by
   rcases (show kind=0\/kind=1\/kind=2\/kind=3 by omega) with rfl | rfl | rfl | rfl
   ·exact ⟨r1,rfl,r1a,r1b⟩
   ·exact ⟨_,rfl,by omega,by omega⟩
   ·exact ⟨r3,rfl,r3a,r3c⟩
   ·exact ⟨_,rfl,by omega,by omega⟩
  row_cond go
  refine ⟨_,_,ps ++ [(x,1+(i:Int))],by rw [List.map_append];rfl,by rw [List.length_append,hpl];rfl,fun j p hp=>?_⟩
  by_cases hj:j < ps.length
  ·rw [List.getElem?_append_left hj] at hp
   exact hps j p hp
  ·have hj2:=(List.getElem?_eq_some_iff.mp hp).1
   simp at hj2
   have:j=ps.length:=by omega
   subst this
   rw [List.getElem?_append_right (Nat.le_refl _),Nat.sub_self] at hp
   cases hp
   exact ⟨x0,x1,by simp only;omega⟩
 ·rintro e q0_
  refine exS3 e q0_ fun v4 v5 ps q1_=>?_
  have hpl:=q1_.1
  have hps:=q1_.2
  clear q1_ q0_
  row_cond go
  exact k ps ⟨by omega,hps⟩
end
theorem ajv {α β:Type} (f : α->β):∀ (l:List α) (k:Nat),(l.map f).eraseIdx k=(l.eraseIdx k).map f
 | [],_=>rfl
 | _ :: _,0=>rfl
 | a :: l,k+1=>by simp [ajv f l k]
theorem azx {j:Int} {n:Nat} (q0:0<=j) (q1:j < n):seqIndex? j n=some j.toNat:=by unfold seqIndex?;simp;omega
theorem azy {left:List Int} {k:Nat} {y:Int} (hy:left[k]?=some y):(left.map PyData.int)[k]?=some (.int y):=by rw [List.getElem?_map,hy];rfl
theorem azz (row:List Int) (p:Int × Int):PyData.tuple [.int (if aa4 row p.2 < aa4 row p.1 then aa4 row p.2 else aa4 row p.1),.int (if aa4 row p.2 > aa4 row p.1 then aa4 row p.2 else aa4 row p.1)]=prD (reP row p):=by
 unfold reP prD
 split <;> split <;> first | rfl | omega | (simp only [PyData.tuple.injEq,List.cons.injEq,PyData.int.injEq,and_true];omega)
def axp:VIo:=fun A ss Q=>∃ (n:Int) (ps:List (Int × Int)),A=OSt/\ss=[.st (.int n),.st (.list (ps.map prD))]/\1<=n/\n<=60/\InN n ps/\ps.length<=2000 /\
 ∀ (row:List Int) (qs:List (Int × Int)),Order n row->qs.Nodup->(∀ x,x∈qs ↔ x∈ps.map (reP row))->lexS (qs.map p2)->Q OSt (.own (OL (qs.map prD)))
section
variable {P:Program} {w:World} {K:Frag} {mg:Str->Option Value} {base:Heap}
theorem sc_law_renumbered:FnScope ["store","n","ties","left","numbers","found","a","b"] ["store","n","ties"] (aak s_law_renumbered):=by row_cond sc
theorem act (T:Txt K mg):Can P w K mg base "_law_renumbered" 2 ["store","n","ties"] (spI K (axp)):=by
 obtain ⟨f,fd,D⟩:=T.d_law_renumbered
 refine D.can (D.fn.ok sc_law_renumbered (fun vs H Q E h=>lenI h fun A ss Q' q=>by obtain ⟨n,ps,rfl,rfl,n0,n1,hin,hle,k⟩:=q;rfl) (fun cdv A outer s H vs Q E hr h=>?_))
 have nd:=sc_law_renumbered.nd
 refine ⟨_,(aac (aam (i:=3) nd rfl (Or.inr rfl) (aub rfl T.b_list rfl T.b_range rfl (aaa (pv 1) aab)))
  (aac (afc (i:=4) nd rfl (Or.inl rfl) rfl (N:=["k","left","store"]) (src:=[none,some 3,some 0]) (by exact abm rfl rfl rfl rfl rfl rfl) (abi rfl T.b_range (aaa (pv 1) aab)) (fun _ _ _ _=>(aao (i:=0) (show List.Nodup (["k","left","store"]:List Str) by decide +kernel) rfl (Or.inl rfl) (hf:=Or.inr rfl))) (fun _ _ _ _=>ab5) (fun _ _ _ _=>(show PE _ _ (tBM K "list" ahi _ _) from (ab2 PySem.F.plainAttrs_list PySem.F.slot_list_pop PySem.F.type_list_pop asw (pv 1) (aaa (aaf (aal T) hr (aaa (pv 2) (aaa (aai (show abe _ (.builtin "len") (rLen K) from abj) (by rfl) T.b_len acn (aaa (pv 1) aab)) aab))) aab)))))
  (aac (aam (i:=5) nd rfl (Or.inl rfl) (aa5 aab))
  (aac (acd PassesOwn.never rfl (ab4 (pv 2)) (ad1 rfl (aa8 (aao (i:=6) nd rfl (Or.inl rfl)) (aa8 (aao (i:=7) nd rfl (Or.inl rfl)) ac1)))
   (aag (abh (ab2 PySem.F.plainAttrs_list PySem.F.slot_list_append PySem.F.type_list_append abc (pv 5) (aaa (aa3 (aaa (aai (acu rfl) (by rfl) T.b_min ae1 (aaa (aar aas (pv 4) (pv 6) (fun _ _=>rfl)) (aaa (aar aas (pv 4) (pv 7) (fun _ _=>rfl)) aab))) (aaa (aai (ahn rfl) (by rfl) T.b_max acg (aaa (aar aas (pv 4) (pv 6) (fun _ _=>rfl)) (aaa (aar aas (pv 4) (pv 7) (fun _ _=>rfl)) aab))) aab))) aab)))))
  (aag (aau (aai (anl rfl) (by rfl) T.b_sorted ac9 (aaa (afs (call_setT rfl hr.units) (by rfl) T.b_set ayi (aaa (pv 5) aab)) aab)))))))),?_⟩
 refine agg h fun A0 ss Q' q B hK=>?_
 obtain ⟨n,ps,rfl,rfl,n0,n1,hin,hle,k⟩:=q
 show EvS B _ _ [some (.io OSt),some (.st (.int n)),some (.st (.list (ps.map prD))),none,none,none,none,none]
 row_cond go
 refine ⟨fun j ys e=>∃ (o:Option PyData) (row left:List Int),e=[stO o,some (.io (OL (left.map .int))),some (.io OSt)]/\ys=row.map .int/\row.length=j/\Order n (row ++ left),⟨none,[],(List.range n.toNat).map fun (i:Nat)=>(i:Int),by rw [← aw0];rfl,rfl,rfl,Order.id n⟩,?_,?_,?_⟩
 ·rintro i ys e q0_
  refine exS3 e q0_ fun o row left q1_=>?_
  have hys:=q1_.1
  have hrl:=q1_.2.1
  have hO:=q1_.2.2
  clear q1_ q0_
  exact ⟨⟨isIo_stO.symm,ada⟩,⟨rfl,rfl⟩,⟨rfl,rfl⟩,True.intro⟩
 ·rintro i d ys e hd ⟨o,row,left,rfl,rfl,hrl,hO⟩ B' hB
  obtain ⟨hi,rfl⟩:=adl hd
  have hll:left.length=n.toNat - i:=by have:=hO.len;simp at this;omega
  refine aa7 (ae3 ?_)
  rw [if_pos rfl]
  show Ev B' _ [some (.st (.int (0+(i:Int)))),some (.io (OL (left.map .int))),some (.io OSt)] _
  row_cond go
  rw [List.length_map]
  refine ⟨(left.length:Int),rfl,rfl,by omega,by omega,fun r r0 r1=>?_⟩
  obtain ⟨y,hy⟩:∃ y,left[r.toNat]?=some y:=⟨_,List.getElem?_eq_getElem (show r.toNat < left.length by omega)⟩
  refine ⟨_,left.map .int,r,r.toNat,.int y,rfl,rfl,.inr rfl,by omega,by omega,azx r0 (by rw [List.length_map];exact r1),azy hy,by rw [List.length_map];omega,some (.int (0+(i:Int))),row ++ [y],left.eraseIdx r.toNat,?_,by rw [List.map_append];rfl,by rw [List.length_append,hrl];rfl,apy hO hy⟩
  rw [ajv]
  rfl
 ·rintro ys e q0_
  refine exS3 e q0_ fun o row left q1_=>?_
  have e0_:=q1_.1
  have hrl:=q1_.2.1
  have hO:=q1_.2.2
  clear q1_ q0_
  subst e0_
  have hll:left=[]:=by rw [ab0] at hrl;have:=hO.len;simp at this;exact List.length_eq_zero_iff.mp (by omega)
  subst hll
  rw [List.append_nil] at hO
  show EvG B (aba 4) (.own (OL (row.map .int))) [some (.io OSt),some (.st (.int n)),some (.st (.list (ps.map prD))),some (.own (OL [])),none,none,none,none] _
  refine abv abt ?_
  row_cond go
  refine acy (fun i e=>∃ v6 v7,e=[some (.io OSt),some (.st (.int n)),some (.st (.list (ps.map prD))),some (.own (OL [])),some (.st (.list (row.map .int))),some (.own (OL (((ps.take i).map (reP row)).map prD))),v6,v7]) ⟨_,_,rfl⟩ ?_ ?_
  ·rintro i p e hp q0_
   refine exE2 e q0_ fun v6 v7=>?_
   clear q0_
   have hq:=hin p (List.mem_of_getElem? hp)
   have r1:=ae6 (f:=PyData.int) (hO.atI (a:=p.1) (by omega) (by omega))
   have r2:=ae6 (f:=PyData.int) (hO.atI (a:=p.2) (by omega) (by omega))
   row_cond go
   refine ⟨by simp;omega,some (.st (.int p.1)),some (.st (.int p.2)),?_⟩
   rw [azz,← List.map_singleton (f:=prD),← List.map_append,← List.map_singleton (f:=reP row),← List.map_append,show ps.take i ++ [p]=ps.take (i+1) by rw [List.take_add_one,hp];rfl]
  ·rintro e q0_
   refine exE2 e q0_ fun v6 v7=>?_
   clear q0_
   rw [List.take_length]
   row_cond go
   refine ap6 ?_
   row_cond go
   refine ⟨ps.map (reP row),rfl,by rw [List.length_map];omega,fun qs nd hm hs=>?_⟩
   exact ⟨_,rfl,k row qs hO nd hm hs⟩
end
structure TreeW (n:Int) (es:List (Int × Int)):Prop where
 web:WebOk n es
 len:(es.length:Int)=n - 1
 conn:Conn n (Tied es)
theorem TreeT.inn {n:Int} {ps:List (Int × Int)} (h:TreeT n ps):InN n ps:=fun p hp=>by
 obtain ⟨i,hi⟩:=List.getElem?_of_mem hp
 have h1:=h.at' i p hi
 have h2:=(List.getElem?_eq_some_iff.mp hi).1
 have:=h.len
 omega
theorem TreeT.ps {n:Int} {ps:List (Int × Int)} (h:TreeT n ps):PsOk n ps:=by
 refine ⟨?_,fun p hp=>?_⟩
 ·refine List.pairwise_iff_getElem.mpr fun i j hi hj hij e=>?_
  have h1:=(h.at' i _ (List.getElem?_eq_getElem hi)).2.2
  have h2:=(h.at' j _ (List.getElem?_eq_getElem hj)).2.2
  rw [e] at h1
  omega
 ·obtain ⟨i,hi⟩:=List.getElem?_of_mem hp
  have h1:=h.at' i p hi
  have h2:=(List.getElem?_eq_some_iff.mp hi).1
  have:=h.len
  omega
theorem TreeT.conn {n:Int} {ps:List (Int × Int)} (h:TreeT n ps):Conn n (Tied ps):=Tr.conn fun k k1 k2=>by
 have hl:(k - 1).toNat < ps.length:=by have:=h.len;omega
 have h1:=h.at' (k - 1).toNat _ (List.getElem?_eq_getElem hl)
 refine ⟨ps[(k - 1).toNat].1,h1.1,by omega,?_⟩
 have:(ps[(k - 1).toNat].1,k)=ps[(k - 1).toNat]:=Prod.ext rfl (by simp only;omega)
 rw [this]
 exact List.getElem_mem hl
theorem TreeW.of {n:Int} {ps qs:List (Int × Int)} (h0:1<=n) (h1:n<=60) (h:PsOk n ps) (hl:(ps.length:Int)=n - 1) (hc:Conn n (Tied ps)) (hp:qs.Perm ps) (hs:lexS (qs.map p2)):TreeW n qs :=
 ⟨auf h0 h1 h hp hs,by rw [hp.length_eq];exact hl,hc.mono fun u v t=>(Tied.perm hp).mpr t⟩
theorem axq {n:Int} {row:List Int} {ps qs:List (Int × Int)} (h:PsOk n ps) (hO:Order n row) (nd:qs.Nodup) (hm:∀ x,x∈qs ↔ x∈ps.map (reP row)):qs.Perm (ps.map (reP row)):=(List.perm_ext_iff_of_nodup nd (h.re hO).nd).mpr hm
theorem TreeW.inn {n:Int} {es:List (Int × Int)} (h:TreeW n es):InN n es:=fun p hp=>by
 have:=h.web.inn p hp
 omega
def az0:VIo:=fun A ss Q=>A=OSt/\ss=[]/\∀ (n:Int) (es:List (Int × Int)),TreeW n es->Q OSt (.st (webD n es))
section
variable {P:Program} {w:World} {K:Frag} {mg:Str->Option Value} {base:Heap}
theorem sc_law_tree:FnScope ["store","n","ties"] ["store"] (aak s_law_tree):=by row_cond sc
theorem amu (T:Txt K mg):Can P w K mg base "_law_tree" 3 ["store"] (spI K (az0)):=by
 obtain ⟨f,fd,D⟩:=T.d_law_tree
 refine D.can (D.fn.ok sc_law_tree (fun vs H Q E h=>lenI h fun A ss Q' q=>by obtain ⟨rfl,rfl,k⟩:=q;rfl) (fun cdv A outer s H vs Q E hr h=>?_))
 have nd:=sc_law_tree.nd
 refine ⟨_,(aac (aam (i:=1) nd rfl (Or.inl rfl) (aar aas (aa5 (aaa (aaq abl aad (aaf (aal T) hr (aaa (pv 0) (aaa aad aab)))) (aaa (aaq abl aad (aaf (aal T) hr (aaa (pv 0) (aaa aad aab)))) (aaa (aaq abl aad (aaf (aal T) hr (aaa (pv 0) (aaa aad aab)))) aab)))) (aaf (aal T) hr (aaa (pv 0) (aaa aad aab))) (fun _ _=>rfl)))
  (aac (aam (i:=2) nd rfl (Or.inl rfl) (aaf (agv T) hr (aaa (pv 0) (aaa (pv 1) (aaa (aaf (aal T) hr (aaa (pv 0) (aaa aad aab))) aab)))))
  (aac (abf (aaz afa (aaf (aal T) hr (aaa (pv 0) (aaa aad aab))) aad (aa1 _))
   (aag (aam (i:=2) nd rfl (Or.inl rfl) (aaf (act T) hr (aaa (pv 0) (aaa (pv 1) (aaa (pv 2) aab))))))
   aa2)
  (aag (aau (aa3 (aaa (pv 1) (aaa (aai aeb (by rfl) T.b_sorted ac9 (aaa (pv 2) aab)) aab)))))))),?_⟩
 refine agg h fun A0 ss Q' q B hK=>?_
 obtain ⟨rfl,rfl,k⟩:=q
 show EvS B _ _ [some (.io OSt),none,none]
 row_cond go
 refine ⟨6,rfl,rfl,by omega,by omega,fun r1 r1a r1b=>?_⟩
 row_cond go
 refine ⟨16,rfl,rfl,by omega,by omega,fun r2 r2a r2b=>?_⟩
 row_cond go
 refine ⟨60,rfl,rfl,by omega,by omega,fun r3 r3a r3b=>?_⟩
 row_cond go
 refine ⟨3,rfl,rfl,by omega,by omega,fun r4 r4a r4b=>?_⟩
 obtain ⟨n,hn,n0,n1⟩:∃ n:Int,atI [PyData.int (1+r1),PyData.int (1+r2),PyData.int (1+r3)] r4=some (.int n)/\1<=n/\n<=60:=by
  rcases (show r4=0\/r4=1\/r4=2 by omega) with rfl | rfl | rfl <;> exact ⟨_,rfl,by omega,by omega⟩
 row_cond go
 refine ⟨4,rfl,rfl,by omega,by omega,fun r5 r5a r5b=>?_⟩
 row_cond go
 refine ⟨n,r5,rfl,rfl,n0,n1,r5a,r5b,fun ps hT=>abv abt ?_⟩
 have hin:=hT.inn
 have hle:ps.length<=60:=by have:=hT.len;omega
 row_cond go
 refine ⟨3,rfl,rfl,by omega,by omega,fun r6 r6a r6b=>?_⟩
 row_cond go
 refine acm (fun h=>?_) (fun h=>?_)
 ·row_cond go
  refine ⟨n,ps,rfl,rfl,n0,n1,hin,by omega,fun row qs hO nd hm hs=>abv abt ?_⟩
  row_cond go
  refine aeu (ps:=qs) ?_
  row_cond go
  intro qs2 hp hl
  row_cond go
  have hq:=axq hT.ps hO nd hm
  exact k n qs2 (TreeW.of n0 n1 (hT.ps.re hO) (by rw [List.length_map];exact hT.len) (hT.conn.re hO) (hp.trans hq) hl)
 ·row_cond go
  refine aeu (ps:=ps) ?_
  row_cond go
  intro qs2 hp hl
  row_cond go
  exact k n qs2 (TreeW.of n0 n1 hT.ps hT.len hT.conn hp hl)
end
structure JWeb (n:Int) (es:List (Int × Int)):Prop where
 lo:1<=n
 hi:n<=60
 ps:PsOk n es
 conn:Conn n (Tied es)
theorem JWeb.inn {n:Int} {es:List (Int × Int)} (h:JWeb n es):InN n es:=fun p hp=>by
 have:=h.ps.inn p hp
 omega
theorem JWeb.len {n:Int} {es:List (Int × Int)} (h:JWeb n es):es.length<=3600:=by
 have hlo:=h.lo
 have:=aet (n:=n.toNat) h.ps.nd fun p hp=>by have:=h.ps.inn p hp;omega
 have h2:n.toNat<=60:=by have:=h.hi;omega
 exact Nat.le_trans this (Nat.mul_le_mul h2 h2)
theorem TreeW.jweb {n:Int} {es:List (Int × Int)} (h:TreeW n es):JWeb n es:=⟨h.web.lo,h.web.hi,h.web.ps,h.conn⟩
theorem JWeb.re {n:Int} {row:List Int} {ps qs:List (Int × Int)} (h0:1<=n) (h1:n<=60) (hp:∀ p∈ps,0<=p.1/\p.1 < p.2/\p.2 < n) (hc:Conn n (Tied ps)) (hO:Order n row) (nd:qs.Nodup) (hm:∀ x,x∈qs ↔ x∈ps.map (reP row)):JWeb n qs:=by
 refine ⟨h0,h1,⟨nd,fun q hq=>?_⟩,(hc.re hO).mono fun u v t=>?_⟩
 ·obtain ⟨p,hp',rfl⟩:=List.mem_map.mp ((hm q).mp hq)
  have:PsOk n [p]:=⟨by simp,fun r hr=>by rw [List.mem_singleton.mp hr];exact hp p hp'⟩
  exact (this.re hO).inn (reP row p) (by simp)
 ·rcases t with t | t
  ·exact .inl ((hm _).mpr t)
  ·exact .inr ((hm _).mpr t)
theorem JWeb.add {n a b:Int} {es qs:List (Int × Int)} (h:JWeb n es) (h0:0<=a) (h1:a < b) (h2:b < n) (hn:(a,b) ∉ es) (hp:qs.Perm (es ++ [(a,b)])):JWeb n qs:=by
 refine ⟨h.lo,h.hi,⟨hp.nodup_iff.mpr ?_,fun q hq=>?_⟩,h.conn.mono fun u v t=>?_⟩
 ·rw [List.nodup_append]
  exact ⟨h.ps.nd,by simp,fun x hx y hy=>by rw [List.mem_singleton.mp hy];rintro rfl;exact hn hx⟩
 ·rcases List.mem_append.mp (hp.mem_iff.mp hq) with hq | hq
  ·exact h.ps.inn q hq
  ·rw [List.mem_singleton.mp hq];exact ⟨h0,h1,h2⟩
 ·rcases t with t | t
  ·exact .inl (hp.mem_iff.mpr (List.mem_append.mpr (.inl t)))
  ·exact .inr (hp.mem_iff.mpr (List.mem_append.mpr (.inl t)))
def ash:VIo:=fun A ss Q=>A=OSt/\ss=[]/\∀ (n:Int) (es:List (Int × Int)),JWeb n es->Q OSt (.st (webD n es))
structure CrT (m b:Int) (ps:List (Int × Int)):Prop where
 inn:∀ p∈ps,0<=p.1/\p.1 < p.2/\p.2 < b
 tr:∀ k,1<=k->k < m->∃ h,0<=h/\h < k/\(h,k)∈ps
theorem CrT.add {m:Int} {ps:List (Int × Int)} {x:Int} (h:CrT m m ps) (h0:0<=x) (h1:x < m):CrT (m+1) (m+1) (ps ++ [(x,m)]):=by
 refine ⟨fun p hp=>?_,fun k k0 k1=>?_⟩
 ·rcases List.mem_append.mp hp with hp | hp
  ·have:=h.inn p hp;omega
  ·rw [List.mem_singleton.mp hp];exact ⟨h0,h1,by simp only;omega⟩
 ·by_cases hk:k < m
  ·obtain ⟨y,a,b,c⟩:=h.tr k k0 hk
   exact ⟨y,a,b,List.mem_append.mpr (.inl c)⟩
  ·obtain rfl:k=m:=by omega
   exact ⟨x,h0,h1,List.mem_append.mpr (.inr (List.mem_singleton.mpr rfl))⟩
structure CrR (c:Int) (i:Nat) (ps:List (Int × Int)):Prop where
 inn:∀ p∈ps,0<=p.1/\p.1 < p.2/\p.2 < c
 has:∀ a b:Int,0<=a->a < i->a < b->b < c->(a,b)∈ps
theorem CrR.fin {c:Int} {ps:List (Int × Int)} (h:CrR c c.toNat ps):CrT c c ps:=⟨h.inn,fun k k0 k1=>⟨0,by omega,by omega,h.has 0 k (by omega) (by omega) (by omega) k1⟩⟩
theorem CrR.row {c:Int} {i:Nat} {ps:List (Int × Int)} (h:CrR c i ps):CrR c (i+1) (ps ++ (List.range (c - ((i:Int)+1)).toNat).map fun u:Nat=>((i:Int),(i:Int)+1+(u:Int))):=by
 refine ⟨fun p hp=>?_,fun a b a0 a1 ab b1=>?_⟩
 ·rcases List.mem_append.mp hp with hp | hp
  ·exact h.inn p hp
  ·obtain ⟨u,hu,rfl⟩:=List.mem_map.mp hp
   have:=List.mem_range.mp hu
   exact ⟨by simp only;omega,by simp only;omega,by simp only;omega⟩
 ·by_cases ha:a < i
  ·exact List.mem_append.mpr (.inl (h.has a b a0 ha ab b1))
  ·obtain rfl:a=(i:Int):=by omega
   exact List.mem_append.mpr (.inr (List.mem_map.mpr ⟨(b - (i:Int) - 1).toNat,List.mem_range.mpr (by omega),by simp only [Prod.mk.injEq,true_and];omega⟩))
section
variable {P:Program} {w:World} {K:Frag} {mg:Str->Option Value} {base:Heap}
theorem sc_law_crowd:FnScope ["store","crowd","n","kind","ties","a","b"] ["store"] (aak s_law_crowd):=by row_cond sc
theorem akk (T:Txt K mg):Can P w K mg base "_law_crowd" 3 ["store"] (spI K (ash)):=by
 obtain ⟨f,fd,D⟩:=T.d_law_crowd
 refine D.can (D.fn.ok sc_law_crowd (fun vs H Q E h=>lenI h fun A ss Q' q=>by obtain ⟨rfl,rfl,k⟩:=q;rfl) (fun cdv A outer s H vs Q E hr h=>?_))
 have nd:=sc_law_crowd.nd
 refine ⟨_,(aac (aam (i:=1) nd rfl (Or.inl rfl) (aaq abl aad (aaf (aal T) hr (aaa (pv 0) (aaa aad aab)))))
  (aac (aam (i:=2) nd rfl (Or.inl rfl) (aaq abl (pv 1) (aaf (aal T) hr (aaa (pv 0) (aaa aad aab)))))
  (aac (aam (i:=3) nd rfl (Or.inl rfl) (aaf (aal T) hr (aaa (pv 0) (aaa aad aab))))
  (aac (aam (i:=4) nd rfl (Or.inl rfl) (aa5 aab))
  (aac (acd PassesOwn.never rfl (abi rfl T.b_range (aaa (pv 1) aab)) (aao (i:=5) nd rfl (Or.inr rfl))
   (aag (abh (ab2 PySem.F.plainAttrs_list PySem.F.slot_list_extend PySem.F.type_list_extend aqu (pv 4) (aaa (adf rfl (N:=["b","a"]) (src:=[none,some 5]) (by exact abm rfl rfl rfl rfl rfl rfl) (afp rfl T.b_range (aaa (aaq abl (pv 5) aad) (aaa (pv 1) aab))) (fun _ _ _ _=>(aao (i:=0) (show List.Nodup (["b","a"]:List Str) by decide +kernel) rfl (Or.inl rfl) (hf:=Or.inr rfl))) (fun _ _ _ _=>ab5) (fun _ _ _ _=>(aa3 (aaa (pv 1) (aaa (pv 0) aab))))) aab)))))
  (aac (acd PassesOwn.never rfl (afp rfl T.b_range (aaa (pv 1) (aaa (pv 2) aab))) (aao (i:=6) nd rfl (Or.inl rfl))
   (aag (abh (ab2 PySem.F.plainAttrs_list PySem.F.slot_list_append PySem.F.type_list_append abc (pv 4) (aaa (aa3 (aaa (aar aas (aa5 (aaa (aaq ace (pv 6) aad) (aaa (aaf (aal T) hr (aaa (pv 0) (aaa (pv 6) aab))) (aaa (aaq ace (aaq ace (pv 6) aad) (aaf (aal T) hr (aaa (pv 0) (aaa aad aab)))) aab)))) (pv 3) (fun _ _=>rfl)) (aaa (pv 6) aab))) aab)))))
  (aag (aau (aa3 (aaa (pv 2) (aaa (aaf (act T) hr (aaa (pv 0) (aaa (pv 2) (aaa (pv 4) aab)))) aab))))))))))),?_⟩
 refine agg h fun A0 ss Q' q B hK=>?_
 obtain ⟨rfl,rfl,k⟩:=q
 show EvS B _ _ [some (.io OSt),none,none,none,none,none,none]
 row_cond go
 refine ⟨7,rfl,rfl,by omega,by omega,fun r1 r1a r1b=>?_⟩
 row_cond go
 refine ⟨33,rfl,rfl,by omega,by omega,fun r2 r2a r2b=>?_⟩
 row_cond go
 refine ⟨3,rfl,rfl,by omega,by omega,fun kd kda kdb=>?_⟩
 obtain ⟨c,hc,c0,c1⟩:∃ c:Int,16+r1=c/\16<=c/\c<=22:=⟨_,rfl,by omega,by omega⟩
 rw [hc]
 row_cond go
 refine adm (fun i e=>∃ v5 v6 ps,e=[some (.io OSt),some (.st (.int c)),some (.st (.int (c+r2))),some (.st (.int kd)),some (.own (OL (List.map prD ps))),v5,v6]/\CrR c i ps/\ps.length<=22 * i) ⟨_,_,[],rfl,⟨(fun p hp=>(List.not_mem_nil hp).elim),fun a b a0 a1=>by omega⟩,by simp⟩ ?_ ?_
 ·rintro i e hi q0_
  refine exS3 e q0_ fun v5 v6 ps q1_=>?_
  have hC:=q1_.1
  have hL:=q1_.2
  clear q1_ q0_
  row_cond go
  unfold rngD
  refine acz (fun u:Nat=>prD ((i:Int),(i:Int)+1+(u:Int))) rfl (by simp;omega) (fun u hu B' hB=>?_) ?_
  ·row_cond go
   rw [Int.zero_add]
   exact ⟨rfl,rfl⟩
  ·refine ⟨_,_,rfl,rfl,by simp;omega,?_⟩
   dsimp only [List.set_cons_zero,List.set_cons_succ]
   rw [Int.zero_add]
   exact ⟨_,_,ps ++ (List.range (c - ((i:Int)+1)).toNat).map fun u:Nat=>((i:Int),(i:Int)+1+(u:Int)),by rw [List.map_append,List.map_map];rfl,hC.row,by simp;omega⟩
 ·rintro e q0_
  refine exS3 e q0_ fun v5 v6 ps q1_=>?_
  have hC:=q1_.1
  have hL:=q1_.2
  clear q1_ q0_
  have hC:=hC.fin
  row_cond go
  refine adm (fun j e=>∃ v5 v6 ps,e=[some (.io OSt),some (.st (.int c)),some (.st (.int (c+r2))),some (.st (.int kd)),some (.own (OL (List.map prD ps))),v5,v6]/\CrT (c+j) (c+j) ps/\ps.length<=484+j) ⟨_,_,ps,rfl,by simpa using hC,by omega⟩ ?_ ?_
  ·rintro j e hj q0_
   refine exS3 e q0_ fun v5 v6 ps q1_=>?_
   have hC:=q1_.1
   have hL:=q1_.2
   clear q1_ q0_
   row_cond go
   refine ⟨c+(j:Int),rfl,rfl,by omega,by omega,fun r3 r3a r3b=>?_⟩
   row_cond go
   refine ⟨3,rfl,rfl,by omega,by omega,fun r4 r4a r4b=>?_⟩
   obtain ⟨x,hx,x0,x1⟩:∃ x:Int,atI [PyData.int (c+(j:Int) - 1),PyData.int r3,PyData.int (c+(j:Int) - 1 - r4)] kd=some (.int x)/\0<=x/\x < c+(j:Int):=by
    rcases (show kd=0\/kd=1\/kd=2 by omega) with rfl | rfl | rfl
    ·exact ⟨_,rfl,by omega,by omega⟩
    ·exact ⟨_,rfl,r3a,r3b⟩
    ·exact ⟨_,rfl,by omega,by omega⟩
   row_cond go
   refine ⟨_,_,ps ++ [(x,c+(j:Int))],by rw [List.map_append];rfl,?_,by simp;omega⟩
   rw [show c+((j+1:Nat):Int)=c+(j:Int)+1 by push_cast;omega]
   exact hC.add x0 x1
  ·rintro e q0_
   refine exS3 e q0_ fun v5 v6 ps q1_=>?_
   have hC:=q1_.1
   have hL:=q1_.2
   clear q1_ q0_
   rw [show c+(((c+r2 - c).toNat:Nat):Int)=c+r2 by omega] at hC
   row_cond go
   refine ⟨c+r2,ps,rfl,rfl,by omega,by omega,fun p hp=>by have:=hC.inn p hp;omega,by omega,fun row qs hO nd hm hs=>aer ?_⟩
   row_cond go
   exact k _ _ (JWeb.re (by omega) (by omega) hC.inn (Tr.conn hC.tr) hO nd hm)
end
noncomputable def aex (n:Int):List (Int × Int):=(List.range (n - 1).toNat).map (fun u:Nat=>((u:Int),(u:Int)+1)) ++ [(0,n - 1)]
theorem asi (n:Int):(List.range (n - 1).toNat).map (fun u:Nat=>prD ((u:Int),(u:Int)+1)) ++ [PyData.tuple [.int 0,.int (n - 1)]]=(aex n).map prD:=by
 unfold aex
 rw [List.map_append,List.map_map]
 rfl
theorem asj (n:Int):(aex n).length<=(n - 1).toNat+1:=by unfold aex;simp
theorem ajw {n:Int} (h:2<=n):∀ p∈aex n,0<=p.1/\p.1 < p.2/\p.2 < n:=fun p hp=>by
 unfold aex at hp
 rcases List.mem_append.mp hp with hp | hp
 ·obtain ⟨u,hu,rfl⟩:=List.mem_map.mp hp
  have:=List.mem_range.mp hu
  exact ⟨by simp only;omega,by simp only;omega,by simp only;omega⟩
 ·cases List.mem_singleton.mp hp
  exact ⟨by simp only;omega,by simp only;omega,by simp only;omega⟩
theorem aqc (n:Int):Conn n (Tied (aex n)):=Tr.conn fun k k0 k1=>⟨k - 1,by omega,by omega,List.mem_append.mpr (.inl (List.mem_map.mpr ⟨(k - 1).toNat,List.mem_range.mpr (by omega),by simp only [Prod.mk.injEq];omega⟩))⟩
theorem axr (fs:List (Int × Int)) (a b:Int):fs.map prD ++ [.tuple [.int a,.int b]]=(fs ++ [(a,b)]).map prD:=by simp [prD]
section
variable {P:Program} {w:World} {K:Frag} {mg:Str->Option Value} {base:Heap}
theorem sc_law_web:FnScope ["store","n","ties","many","k","a","b"] ["store"] (aak s_law_web):=by row_cond sc
theorem anp (T:Txt K mg):Can P w K mg base "_law_web" 4 ["store"] (spI K (ash)):=by
 obtain ⟨f,fd,D⟩:=T.d_law_web
 refine D.can (D.fn.ok sc_law_web (fun vs H Q E h=>lenI h fun A ss Q' q=>by obtain ⟨rfl,rfl,k⟩:=q;rfl) (fun cdv A outer s H vs Q E hr h=>?_))
 have nd:=sc_law_web.nd
 refine ⟨_,(aac (abf (aaz au5 (aaf (aal T) hr (aaa (pv 0) (aaa aad aab))) aad (aa1 _))
   (aag (aau (aaf (akk T) hr (aaa (pv 0) aab))))
   aa2)
  (aac (acq (aaf (amu T) hr (aaa (pv 0) aab)) (ad1 rfl (aa8 (aao (i:=1) nd rfl (Or.inl rfl)) (aa8 (aao (i:=2) nd rfl (Or.inl rfl)) ac1))))
  (aac (abf (PW.pt (aky (aaz au5 (aaf (aal T) hr (aaa (pv 0) (aaa aad aab))) aad (aa1 _)) (aib (aaz afa (pv 1) aad (aa1 _)))))
   (aag (aam (i:=2) nd rfl (Or.inl rfl) (aaf (act T) hr (aaa (pv 0) (aaa (pv 1) (aaa (aaq ahj (adf rfl (N:=["k"]) (src:=[none]) (by exact abm rfl rfl rfl rfl rfl rfl) (abi rfl T.b_range (aaa (aaq ace (pv 1) aad) aab)) (fun _ _ _ _=>(aao (i:=0) (show List.Nodup (["k"]:List Str) by decide +kernel) rfl (Or.inl rfl) (hf:=Or.inr rfl))) (fun _ _ _ _=>ab5) (fun _ _ _ _=>(aa3 (aaa (pv 0) (aaa (aaq abl (pv 0) aad) aab))))) (aa5 (aaa (aa3 (aaa aad (aaa (aaq ace (pv 1) aad) aab))) aab))) aab))))))
   aa2)
  (aac (aam (i:=3) nd rfl (Or.inl rfl) (aar aas (aa5 (aaa aad (aaa (aaf (aal T) hr (aaa (pv 0) (aaa aad aab))) (aaa (aaf (aal T) hr (aaa (pv 0) (aaa aad aab))) (aaa (aaf (aal T) hr (aaa (pv 0) (aaa aad aab))) aab))))) (aaf (aal T) hr (aaa (pv 0) (aaa aad aab))) (fun _ _=>rfl)))
  (aac (acd PassesOwn.never rfl (abi rfl T.b_range (aaa (aaq adc (pv 3) (afs api (by rfl) T.b_int ak8 (aaa (ac5 afa (pv 1) aad (aa1 _)) aab))) aab)) (aao (i:=4) nd rfl (Or.inl rfl))
   (aac (aam (i:=5) nd rfl (Or.inl rfl) (aaf (aal T) hr (aaa (pv 0) (aaa (aaq ace (pv 1) aad) aab))))
    (aac (aam (i:=6) nd rfl (Or.inl rfl) (aaq abl (aaq abl (pv 5) aad) (aaf (aal T) hr (aaa (pv 0) (aaa (aaq ace (aaq ace (pv 1) aad) (pv 5)) aab)))))
    (aag (abf (aaz (aeq hr.units) (aa3 (aaa (pv 5) (aaa (pv 6) aab))) (pv 2) rfl)
     (aag (aam (i:=2) nd rfl (Or.inl rfl) (aai aeb (by rfl) T.b_sorted ac9 (aaa (aaq ahj (pv 2) (aa5 (aaa (aa3 (aaa (pv 5) (aaa (pv 6) aab))) aab))) aab))))
     aa2)))))
  (aag (aau (aa3 (aaa (pv 1) (aaa (pv 2) aab)))))))))),?_⟩
 refine agg h fun A0 ss Q' q B hK=>?_
 obtain ⟨rfl,rfl,k⟩:=q
 show EvS B _ _ [some (.io OSt),none,none,none,none,none,none]
 row_cond go
 refine ⟨8,rfl,rfl,by omega,by omega,fun r0 r0a r0b=>?_⟩
 row_cond go
 refine acm (fun h=>?_) (fun h=>?_)
 ·row_cond go
  refine ⟨rfl,rfl,fun n es hW=>?_⟩
  row_cond go
  exact k n es hW
 refine aly ?_
 row_cond go
 refine ⟨rfl,rfl,fun n es hT=>?_⟩
 have hW:=hT.jweb
 clear hT
 iterate 7 row_cond st
 refine al1 (fun c_ hc_=>?_)
 refine aug (fun e=>∃ es:List (Int × Int),e=[some (.io OSt),some (.st (.int n)),some (.st (.list (es.map prD))),none,none,none,none]/\JWeb n es) ?_ ?_
 ·row_cond go
  refine ⟨6,rfl,rfl,by omega,by omega,fun r1 r1a r1b=>?_⟩
  row_cond go
  refine acm (fun h=>?_) (fun h=>?_)
  ·row_cond go
   refine acm (fun h=>?_) (fun h=>?_)
   ·have n1:=hW.hi
    row_cond go
    unfold rngD
    refine acz (fun u:Nat=>prD ((u:Int),(u:Int)+1)) rfl (by simp;omega) (fun u hu B' hB=>?_) ?_
    ·have hu1:(u:Int) < n - 1:=by have:=List.mem_range.mp hu;omega
     row_cond go
     exact ⟨by rw [Int.zero_add],rfl⟩
    ·row_cond go
     refine aok (by simp;omega) (aer ?_)
     row_cond go
     rw [asi]
     refine ⟨n,aex n,rfl,rfl,by omega,by omega,fun p hp=>by have:=ajw (n:=n) (by omega) p hp;omega,by have:=asj n;omega,fun row qs hO nd hm hs=>abv abt ?_⟩
     row_cond go
     exact ⟨qs,rfl,JWeb.re (by omega) (by omega) (ajw (by omega)) (aqc n) hO nd hm⟩
   ·row_cond go
    exact ⟨es,rfl,hW⟩
  ·row_cond go
   exact ⟨es,rfl,hW⟩
 ·clear hW es
  rintro e q0_
  refine exS1 e q0_ fun es q1_=>?_
  have hW:=q1_
  clear q1_ q0_
  have n1:=hW.hi
  row_cond go
  refine ⟨3,rfl,rfl,by omega,by omega,fun r2 r2a r2b=>?_⟩
  row_cond go
  refine ⟨12,rfl,rfl,by omega,by omega,fun r3 r3a r3b=>?_⟩
  row_cond go
  refine ⟨60,rfl,rfl,by omega,by omega,fun r4 r4a r4b=>?_⟩
  row_cond go
  refine ⟨4,rfl,rfl,by omega,by omega,fun r5 r5a r5b=>?_⟩
  obtain ⟨y,hy,y0,y1⟩:∃ y:Int,atI [PyData.int 0,PyData.int r2,PyData.int r3,PyData.int r4] r5=some (.int y)/\0<=y/\y < 60:=by
   rcases (show r5=0\/r5=1\/r5=2\/r5=3 by omega) with rfl | rfl | rfl | rfl <;> exact ⟨_,rfl,by omega,by omega⟩
  obtain ⟨m,hm,m0,m1,m2⟩:∃ m:Int,(y * if decide (1 < n)=true then 1 else 0)=m/\0<=m/\m < 60/\(0 < m->1 < n):=by
   by_cases h:1 < n
   ·rw [decide_eq_true h];exact ⟨y,by simp,y0,y1,fun _=>h⟩
   ·rw [decide_eq_false h];exact ⟨0,by simp,by omega,by omega,fun h=>by omega⟩
  row_cond go
  rw [hm]
  row_cond go
  refine adm (fun i e=>∃ v4 v5 v6 es,e=[some (.io OSt),some (.st (.int n)),some (.st (.list (es.map prD))),some (.st (.int y)),v4,v5,v6]/\JWeb n es) ⟨_,_,_,es,rfl,hW⟩ ?_ ?_
  ·clear hW es
   rintro i e hi q0_
   refine exS4 e q0_ fun v4 v5 v6 es q1_=>?_
   have hW:=q1_
   clear q1_ q0_
   have hn:=m2 (by omega)
   have hel:=hW.len
   row_cond go
   refine ⟨n - 1,rfl,rfl,by omega,by omega,fun a a0 a1=>?_⟩
   row_cond go
   refine ⟨n - 1 - a,rfl,rfl,by omega,by omega,fun b b0 b1=>?_⟩
   row_cond go
   refine agk (af3 (_,_)) (adh es) (Nat.le_trans (ad5 (_,_)) (by decide)) ?_
   row_cond go
   rw [if_pos rfl,show PyData.tuple [PyData.int a,PyData.int (a+1+b)]=prD (a,a+1+b) from rfl,ai0]
   by_cases hm:(a,a+1+b)∈es
   ·rw [decide_eq_true hm]
    row_cond go
    exact ⟨_,_,_,es,rfl,hW⟩
   ·rw [decide_eq_false hm]
    row_cond go
    refine aeu (ps:=es ++ [(a,a+1+b)]) ?_
    row_cond go
    rw [axr]
    refine ⟨rfl,fun qs hp hs=>abv abt ?_⟩
    row_cond go
    exact ⟨_,_,_,qs,rfl,hW.add a0 (by omega) (by omega) hm hp⟩
  ·rintro e q0_
   refine exS4 e q0_ fun v4 v5 v6 es q1_=>?_
   have hW:=q1_
   clear q1_ q0_
   row_cond go
   exact k n es hW
end
noncomputable def kM (M:List (Int × List Int)):List (Int × List PyData):=M.map fun p=>(p.1,p.2.map .int)
structure KT (T:Int->Int->Prop) (M:List (Int × List Int)):Prop where
 nd:(M.map (·.1)).Nodup
 iff:∀ k w,T k w ↔ ∃ ws,(k,ws)∈M/\w∈ws
theorem az1 {M:List (Int × List Int)} {n:Nat} {k:Int} {ds:List PyData} (h:(kM M)[n]?=some (k,ds)):∃ ws,M[n]?=some (k,ws)/\ds=ws.map .int:=by
 unfold kM at h
 rw [List.getElem?_map] at h
 cases e:M[n]? with
 | none=>rw [e] at h;cases h
 | some p =>
  rw [e] at h
  obtain ⟨a,b⟩:=p
  cases h
  exact ⟨b,rfl,rfl⟩
theorem asl {M:List (Int × List Int)} {n:Nat} {k y:Int} {ws:List Int}:(kM M).set n (k,ws.map .int ++ [.int y])=kM (M.set n (k,ws ++ [y])):=by
 unfold kM
 rw [List.map_set]
 simp
theorem ao5 {M:List (Int × List Int)} {k y:Int}:kM M ++ [(k,[.int y])]=kM (M ++ [(k,[y])]):=by simp [kM]
theorem KT.set {T T':Int->Int->Prop} {M:List (Int × List Int)} {n:Nat} {k y:Int} {ws:List Int} (h:KT T M) (hn:M[n]?=some (k,ws)) (hT:∀ u v,T' u v ↔ T u v\/(u=k/\v=y)):KT T' (M.set n (k,ws ++ [y])):=by
 have hm:=List.mem_of_getElem? hn
 obtain ⟨hl,he⟩:=List.getElem?_eq_some_iff.mp hn
 refine ⟨?_,fun u v=>?_⟩
 ·rw [List.map_set,show (k,ws ++ [y]).1=(M.map (·.1))[n]'(by simpa using hl) by simp [he],List.set_getElem_self]
  exact h.nd
 rw [hT,h.iff]
 constructor
 ·rintro (⟨us,h1,h2⟩ | ⟨rfl,rfl⟩)
  ·obtain ⟨j,hj,ej⟩:=List.mem_iff_getElem.mp h1
   by_cases e:j=n
   ·subst e
    rw [he] at ej
    cases ej
    exact ⟨ws ++ [y],List.mem_iff_getElem.mpr ⟨j,by simpa using hl,by simp⟩,List.mem_append.mpr (.inl h2)⟩
   ·exact ⟨us,List.mem_iff_getElem.mpr ⟨j,by simpa using hj,by rw [List.getElem_set_ne (Ne.symm e)];exact ej⟩,h2⟩
  ·exact ⟨ws ++ [v],List.mem_iff_getElem.mpr ⟨n,by simpa using hl,by simp⟩,List.mem_append.mpr (.inr (List.mem_singleton.mpr rfl))⟩
 ·rintro ⟨us,h1,h2⟩
  rcases List.mem_or_eq_of_mem_set h1 with q | q
  ·exact .inl ⟨us,q,h2⟩
  ·cases q
   rcases List.mem_append.mp h2 with h2 | h2
   ·exact .inl ⟨ws,hm,h2⟩
   ·exact .inr ⟨rfl,List.mem_singleton.mp h2⟩
theorem KT.snoc {T T':Int->Int->Prop} {M:List (Int × List Int)} {k y:Int} (h:KT T M) (hn:∀ p∈kM M,p.1 ≠ k) (hT:∀ u v,T' u v ↔ T u v\/(u=k/\v=y)):KT T' (M ++ [(k,[y])]):=by
 refine ⟨?_,fun u v=>?_⟩
 ·rw [List.map_append,List.nodup_append]
  refine ⟨h.nd,by simp,fun a ha b hb e=>?_⟩
  obtain ⟨p,hp,rfl⟩:=List.mem_map.mp ha
  have hb2:b=k:=by simpa using hb
  exact hn (p.1,p.2.map .int) (List.mem_map.mpr ⟨p,hp,rfl⟩) (by rw [← hb2];exact e)
 rw [hT,h.iff]
 constructor
 ·rintro (⟨us,h1,h2⟩ | ⟨rfl,rfl⟩)
  ·exact ⟨us,List.mem_append.mpr (.inl h1),h2⟩
  ·exact ⟨_,List.mem_append.mpr (.inr (List.mem_singleton.mpr rfl)),List.mem_singleton.mpr rfl⟩
 ·rintro ⟨us,h1,h2⟩
  rcases List.mem_append.mp h1 with q | q
  ·exact .inl ⟨us,q,h2⟩
  ·cases List.mem_singleton.mp q
   exact .inr ⟨rfl,List.mem_singleton.mp h2⟩
theorem KT.one {T:Int->Int->Prop} {M:List (Int × List Int)} (h:KT T M) {k:Int} {us ws:List Int} (h1:(k,us)∈M) (h2:(k,ws)∈M):us=ws:=by
 obtain ⟨i,hi,ei⟩:=List.mem_iff_getElem.mp h1
 obtain ⟨j,hj,ej⟩:=List.mem_iff_getElem.mp h2
 have hp:=List.pairwise_iff_getElem.mp h.nd
 by_cases e:i=j
 ·subst e
  rw [ei] at ej
  cases ej
  rfl
 ·exfalso
  rcases (show i < j\/j < i by omega) with q | q
  ·exact hp i j (by simpa using hi) (by simpa using hj) q (by simp [ei,ej])
  ·exact hp j i (by simpa using hj) (by simpa using hi) q (by simp [ei,ej])
theorem KT.look {T:Int->Int->Prop} {M:List (Int × List Int)} (h:KT T M) (k:Int):∃ ws:List Int,aev (kM M) k=ws.map .int/\∀ w,w∈ws ↔ T k w:=by
 unfold aev
 cases hf:(kM M).find? fun p=>decide (p.1=k) with
 | none =>
  refine ⟨[],rfl,fun w=>⟨fun hw=>(List.not_mem_nil hw).elim,fun hw=>?_⟩⟩
  obtain ⟨ws,h1,h2⟩:=(h.iff k w).mp hw
  exact absurd (decide_eq_true rfl) (List.find?_eq_none.mp hf (k,ws.map .int) (List.mem_map.mpr ⟨_,h1,rfl⟩))
 | some q =>
  have hq:q.1=k:=by have:=List.find?_some hf;simpa using this
  obtain ⟨⟨k',ws⟩,hp,e⟩:=List.mem_map.mp (List.mem_of_find?_eq_some hf)
  subst e
  dsimp only at hq
  subst hq
  refine ⟨ws,rfl,fun w=>⟨fun hw=>(h.iff _ w).mpr ⟨ws,hp,hw⟩,fun hw=>?_⟩⟩
  obtain ⟨us,h1,h2⟩:=(h.iff _ w).mp hw
  rw [h.one hp h1]
  exact h2
structure KTB (T:Int->Int->Prop) (M:List (Int × List Int)) (m:Nat):Prop extends KT T M where
 lenM:M.length<=m
 lenW:∀ p∈kM M,p.2.length<=m
theorem az2 (M:List (Int × List Int)):(kM M).length=M.length:=by simp [kM]
theorem KTB.set {T T':Int->Int->Prop} {M:List (Int × List Int)} {m n:Nat} {k y:Int} {ws:List Int} (h:KTB T M m) (hn:M[n]?=some (k,ws)) (hT:∀ u v,T' u v ↔ T u v\/(u=k/\v=y)):KTB T' (M.set n (k,ws ++ [y])) (m+1):=by
 refine ⟨h.toKT.set hn hT,by rw [List.length_set];have:=h.lenM;omega,fun p hp=>?_⟩
 rw [← asl] at hp
 rcases List.mem_or_eq_of_mem_set hp with q | q
 ·have:=h.lenW p q;omega
 ·subst q
  have:=h.lenW (k,ws.map .int) (List.mem_map.mpr ⟨_,List.mem_of_getElem? hn,rfl⟩)
  simp at this ⊢
  exact this
theorem KTB.snoc {T T':Int->Int->Prop} {M:List (Int × List Int)} {m:Nat} {k y:Int} (h:KTB T M m) (hn:∀ p∈kM M,p.1 ≠ k) (hT:∀ u v,T' u v ↔ T u v\/(u=k/\v=y)):KTB T' (M ++ [(k,[y])]) (m+1):=by
 refine ⟨h.toKT.snoc hn hT,by have:=h.lenM;simp;omega,fun p hp=>?_⟩
 rw [← ao5] at hp
 rcases List.mem_append.mp hp with q | q
 ·have:=h.lenW p q;omega
 ·cases List.mem_singleton.mp q
  simp
theorem ah6 {B:Bs} {env:En} {Q':PyData->En->Prop} {K:Frag} {T T':Int->Int->Prop} {M:List (Int × List Int)} {m i l j:Nat} {x y:Int} (hM:KTB T M m) (hm:m<=900000) (e:env[i]?=some (some (.own (OKL (kM M))))) (ek:env[l]?=some (some (.st (.int x)))) (ey:env[j]?=some (some (.st (.int y)))) (hT:∀ u v,T' u v ↔ T u v\/(u=x/\v=y))
  (q:∀ M',KTB T' M' (m+1)->Q' .none (env.set i (some (.own (OKL (kM M')))))):Ev B (tBM K "list" ac7 (ap7 (tVar i) (tVar l) (tLst tNil)) (aay (tVar j) tNil)) env Q' :=
 ap8 e ek ey (by rw [az2];have:=hM.lenM;omega) (fun p hp=>by have:=hM.lenW p hp;omega) (fun n ds h=>by
  obtain ⟨ws,h1,rfl⟩:=az1 h
  rw [asl]
  exact q _ (hM.set h1 hT)) (fun h=>by rw [ao5];exact q _ (hM.snoc h hT))
theorem ahc {n:Int} {line:List Int} (nd:line.Nodup) (h:∀ v∈line,0<=v/\v < n):line.length<=n.toNat * n.toNat:=by
 have:=aet (n:=n.toNat) (es:=line.map fun v=>(v,(0:Int))) (List.pairwise_map.mpr (nd.imp fun hab e=>hab (by simpa using e))) fun p hp=>by
  obtain ⟨v,hv,rfl⟩:=List.mem_map.mp hp
  have:=h v hv
  simp only
  omega
 simpa using this
theorem avm {n:Int} (h:n<=100):n.toNat * n.toNat<=10000:=Nat.mul_le_mul (show n.toNat<=100 by omega) (show n.toNat<=100 by omega)
structure FarL (far:Int->Option Nat) (line:List Int) (ds:List Nat):Prop where
 at':∀ (i:Nat) v d,line[i]?=some v->ds[i]?=some d->far v=some d
 no:∀ v,v ∉ line->far v=none
theorem FarL.start (a:Int):FarL (Gr.label (fun _=>none) a 0) [a] [0]:=⟨fun i v d h1 h2=>by
 cases i with
 | zero=>simp at h1 h2;subst h1 h2;exact Gr.label_same
 | succ i=>simp at h1,fun v hv=>by rw [Gr.label_ne (by simpa using hv)]⟩
theorem FarL.add {far:Int->Option Nat} {line:List Int} {ds:List Nat} {w:Int} {d:Nat} (h:FarL far line ds) (hl:ds.length=line.length) (hw:w ∉ line):FarL (Gr.label far w d) (line ++ [w]) (ds ++ [d]):=by
 refine ⟨fun i v e h1 h2=>?_,fun v hv=>?_⟩
 ·by_cases hi:i < line.length
  ·rw [List.getElem?_append_left hi] at h1
   rw [List.getElem?_append_left (by omega)] at h2
   have hne:v ≠ w:=fun e=>hw (e ▸ List.mem_of_getElem? h1)
   rw [Gr.label_ne hne]
   exact h.at' i v e h1 h2
  ·have hi2:=(List.getElem?_eq_some_iff.mp h1).1
   simp at hi2
   have:i=line.length:=by omega
   subst this
   rw [List.getElem?_append_right (Nat.le_refl _),Nat.sub_self] at h1
   rw [← hl,List.getElem?_append_right (Nat.le_refl _),Nat.sub_self] at h2
   cases h1
   cases h2
   exact Gr.label_same
 ·have h1:v ∉ line:=fun q=>hv (List.mem_append.mpr (.inl q))
  have h2:v ≠ w:=fun q=>hv (List.mem_append.mpr (.inr (List.mem_singleton.mpr q)))
  rw [Gr.label_ne h2]
  exact h.no v h1
theorem FarL.fin {T:Int->Int->Prop} {a:Int} {far:Int->Option Nat} {line:List Int} {ds:List Nat} (h:FarL far line ds) (b:Gr.Bfs T a line ds line.length) (v:Int):far v=Gr.farO T a v:=by
 by_cases hv:v∈line
 ·obtain ⟨i,hi⟩:=List.getElem?_of_mem hv
  have hil:=(List.getElem?_eq_some_iff.mp hi).1
  obtain ⟨d,hd⟩:∃ d,ds[i]?=some d:=⟨_,List.getElem?_eq_getElem (by rw [b.len];exact hil)⟩
  rw [h.at' i v d hi hd,Gr.farO_some.mpr (b.dist i v d hi hd)]
 ·rw [h.no v hv]
  cases e:Gr.farO T a v with
  | none=>rfl
  | some d =>
   exact absurd (b.fin d v (Gr.farO_some.mp e).1) hv
section
variable {P:Program} {w:World} {K:Frag} {mg:Str->Option Value} {base:Heap}
theorem sc_law_far_from:FnScope ["web","a","beside","one","other","found","line","at","place"] ["web","a"] (aak s_law_far_from):=by row_cond sc
theorem ac0 (T:Txt K mg):Can P w K mg base "_law_far_from" 2 ["web","a"] (spP K (amp)):=by
 obtain ⟨f,fd,D⟩:=T.d_law_far_from
 refine D.can (D.fn.ok sc_law_far_from (fun vs H Q E h=>lenP h fun ss Q' q=>by obtain ⟨n,a,es,rfl,n1,hin,hle,a0,a1,k⟩:=q;rfl) (fun cdv A outer s H vs Q E hr h=>?_))
 have nd:=sc_law_far_from.nd
 refine ⟨_,(aac (aam (i:=2) nd rfl (Or.inl rfl) asz)
  (aac (acd PassesOwn.never rfl (ab4 (aar aas (pv 0) aad (fun _ _=>rfl))) (ad1 rfl (aa8 (aao (i:=3) nd rfl (Or.inl rfl)) (aa8 (aao (i:=4) nd rfl (Or.inl rfl)) ac1)))
   (aac (abh (ab2 PySem.F.plainAttrs_list PySem.F.slot_list_append PySem.F.type_list_append abc (ao2 (pv 2) (pv 3) (aa5 aab) ⟨rfl,rfl,rfl,rfl⟩) (aaa (pv 4) aab)))
    (aag (abh (ab2 PySem.F.plainAttrs_list PySem.F.slot_list_append PySem.F.type_list_append abc (ao2 (pv 2) (pv 4) (aa5 aab) ⟨rfl,rfl,rfl,rfl⟩) (aaa (pv 3) aab))))))
  (aac (aam (i:=5) nd rfl (Or.inl rfl) (aaq aqv (aa5 (aaa aef aab)) (aar aas (pv 0) aad (fun _ _=>rfl))))
  (aac (aam (i:=6) nd rfl (Or.inl rfl) (aa5 (aaa (pv 1) aab)))
  (aac (acq aad (aez (pv 5) (pv 1) adj))
  (aac (aam (i:=7) nd rfl (Or.inl rfl) aad)
  (aac (agz PassesOwn.never (aaz apb (pv 7) (aai abj (by rfl) T.b_len acn (aaa (pv 6) aab)) (aa1 _))
   (aac (aam (i:=8) nd rfl (Or.inl rfl) (aar aas (pv 6) (pv 7) (fun _ _=>rfl)))
    (aac (aam (i:=7) nd rfl (Or.inl rfl) (aaq abl (pv 7) aad))
    (aag (acd PassesOwn.never rfl (ab4 (as0 (a0e hr) (pv 2) (pv 8) (aa5 aab) ⟨rfl,rfl,rfl,rfl⟩)) (aao (i:=4) nd rfl (Or.inl rfl))
     (aag (abf (aaz agf (aar aas (pv 5) (pv 4) (fun _ _=>rfl)) aef (aa1 _))
       (aac (acq (aaq abl (aar aas (pv 5) (pv 8) (fun _ _=>rfl)) aad) (aez (pv 5) (pv 4) adj))
        (aag (abh (ab2 PySem.F.plainAttrs_list PySem.F.slot_list_append PySem.F.type_list_append abc (pv 6) (aaa (pv 4) aab)))))
       aa2)))))))
  (aag (aau (pv 5)))))))))),?_⟩
 refine abb h fun ss Q' q B hK=>?_
 refine exS3 ss q fun n a es q1_=>?_
 have n1:=q1_.1
 have hin:=q1_.2.1
 have hle:=q1_.2.2.1
 have a0:=q1_.2.2.2.1
 have a1:=q1_.2.2.2.2.1
 have k:=q1_.2.2.2.2.2
 clear q1_ q
 show EvS B _ _ [some (.st (webD n es)),some (.st (.int a)),none,none,none,none,none,none,none]
 repeat (first | (refine axe 2 rfl ?_) | row_cond st)
 refine acy (fun i e=>∃ v3 v4 M,e=[some (.st (webD n es)),some (.st (.int a)),some (.own (OKL (kM M))),v3,v4,none,none,none,none]/\KTB (Tied (es.take i)) M (2 * i))
  ⟨none,none,[],rfl,⟨⟨List.nodup_nil,fun k w=>by simp [Tied]⟩,Nat.zero_le _,fun p hp=>by cases hp⟩⟩ ?_ ?_
 ·rintro i ⟨x,y⟩ e hx q0_
  refine exS3 e q0_ fun v3 v4 M q1_=>?_
  have hM:=q1_
  clear q1_ q0_
  have hi:i < es.length:=(List.getElem?_eq_some_iff.mp hx).1
  have hT:=Tied.snoc hx
  row_cond go
  refine ah6 (T':=fun u v=>Tied (es.take i) u v\/(u=x/\v=y)) hM (by omega) rfl rfl rfl (fun u v=>Iff.rfl) (fun M1 h1=>?_)
  row_cond go
  refine ah6 (T':=Tied (es.take (i+1))) h1 (by omega) rfl rfl rfl hT (fun M2 h2=>?_)
  row_cond go
  exact ⟨_,_,M2,rfl,h2⟩
 ·rintro e q0_
  refine exS3 e q0_ fun v3 v4 M q1_=>?_
  have hM:=q1_
  clear q1_ q0_
  rw [List.take_length] at hM
  obtain ⟨s2,h2e,hs⟩:∃ s2:Sl,(s2=.own (OKL (kM M))\/s2=.st (ago (kvG (kM M))))/\((s2=.own (OKL [])/\kM M=[])\/(s2=.st (ago (kvG (kM M)))/\kM M ≠ [])):=by
   by_cases h:kM M=[]
   ·exact ⟨.own (OKL (kM M)),.inl rfl,.inl ⟨by rw [h],h⟩⟩
   ·exact ⟨_,.inr rfl,.inr ⟨rfl,h⟩⟩
  refine cutR (R:=EvS B ?ts ?Ds [some (.st (webD n es)),some (.st (.int a)),some s2,v3,v4,none,none,none,none]) (fun R=>?K1) ?K2
  case K1 =>
   rcases h2e with rfl | rfl
   ·exact R
   ·exact aom 2 rfl axd R
  case K2 =>
   row_cond go
   refine aol (by omega) (by omega) (by simp;omega) ?_
   rw [aop]
   row_cond go
   refine ahw (j:=a.toNat) rfl (by rw [ab8];exact ae5 a0 (by omega)) ?_
   dsimp only [List.set_cons_zero,List.set_cons_succ,reS]
   rw [show (PyData.int 0)=.int ((0:Nat):Int) from rfl,agl a0 (by omega)]
   row_cond go
   have hall:∀ u v:Int,Tied es u v->0<=v/\v < n:=fun u v h=>(h.in hin).2
   refine af2 (fun mm e=>∃ v4 v8 line ds at_ far,e=[some (.st (webD n es)),some (.st (.int a)),some s2,v3,v4,some (.own (OL (lab n.toNat far))),some (.own (OL (line.map .int))),some (.st (.int ((at_:Nat):Int))),v8]/\Gr.Bfs (Tied es) a line ds at_/\FarL far line ds/\(∀ v∈line,0<=v/\v < n)/\mm=n.toNat * n.toNat - at_) ⟨_,v4,_,[a],[0],0,_,rfl,Gr.Bfs.start _ _,FarL.start a,fun v hv=>?_,rfl⟩ ?_
   ·have:v=a:=by simpa using hv
    omega
   rintro mm e q0_
   refine exS6 e q0_ fun v4 v8 line ds at_ far q1_=>?_
   have hB:=q1_.1
   have hF:=q1_.2.1
   have hR:=q1_.2.2.1
   have e3_:=q1_.2.2.2
   clear q1_ q0_
   subst e3_
   row_cond go
   rw [List.length_map]
   refine acm (fun h=>?_) (fun h=>?_)
   ·have hal:at_ < line.length:=by omega
    obtain ⟨here,hat⟩:∃ here,line[at_]?=some here:=⟨_,List.getElem?_eq_getElem hal⟩
    have hix:atI (line.map PyData.int) (at_:Int)=some (.int here):=ae6 (f:=PyData.int) (ac6 hat)
    have hh:=hR here (List.mem_of_getElem? hat)
    obtain ⟨ws,hws,hmem⟩:=hM.toKT.look here
    have hq:=Nat.le_trans (ahc hB.nd hR) (avm n1)
    repeat (first | (refine asa rfl hs rfl ?_) | row_cond st)
    rw [hws]
    refine acy (fun j e=>∃ v4 line ds far,e=[some (.st (webD n es)),some (.st (.int a)),some s2,v3,v4,some (.own (OL (lab n.toNat far))),some (.own (OL (line.map .int))),some (.st (.int ((at_:Int)+1))),some (.st (.int here))]/\Gr.Bfs (Tied es) a line ds at_/\FarL far line ds/\(∀ v∈line,0<=v/\v < n)/\line[at_]?=some here/\∀ x∈ws.take j,x∈line) ⟨_,line,ds,far,rfl,hB,hF,hR,hat,fun x hx=>by simp at hx⟩ ?_ ?_
    ·clear hB hF hR hat hix hal hq
     rintro j there e hj q0_
     refine exS4 e q0_ fun v4 line ds far q1_=>?_
     have hB:=q1_.1
     have hF:=q1_.2.1
     have hR:=q1_.2.2.1
     have hat:=q1_.2.2.2.1
     have htk:=q1_.2.2.2.2
     clear q1_ q0_
     have hT:Tied es here there:=(hmem there).mp (List.mem_of_getElem? hj)
     obtain ⟨u0,u1⟩:=hall _ _ hT
     have etk:ws.take (j+1)=ws.take j ++ [there]:=by rw [List.take_add_one,hj];rfl
     have hLB:=Nat.le_trans (ahc hB.nd hR) (avm n1)
     have hal:at_ < line.length:=(List.getElem?_eq_some_iff.mp hat).1
     obtain ⟨d,hd⟩:∃ d,ds[at_]?=some d:=⟨_,List.getElem?_eq_getElem (by rw [hB.len];exact hal)⟩
     have hau:atI (lab n.toNat far) there=some (oD (far there)):=ah0 u0 (by omega)
     have hap:atI (lab n.toNat far) here=some (.int (d:Int)):=by rw [ah0 hh.1 (by omega),hF.at' at_ here d hat hd];rfl
     row_cond go
     rw [aon]
     by_cases hm:there∈line
     ·obtain ⟨q,hq⟩:=List.getElem?_of_mem hm
      have hql:=(List.getElem?_eq_some_iff.mp hq).1
      obtain ⟨dd,e2⟩:∃ dd,ds[q]?=some dd:=⟨_,List.getElem?_eq_getElem (by rw [hB.len];exact hql)⟩
      rw [hF.at' q there dd hq e2]
      refine abx ?_
      row_cond go
      refine ⟨_,line,ds,far,rfl,hB,hF,hR,hat,fun x hx=>?_⟩
      rw [etk] at hx
      rcases List.mem_append.mp hx with hx | hx
      ·exact htk x hx
      ·have:x=there:=by simpa using hx
       rw [this];exact hm
     ·rw [hF.no there hm]
      refine abr ?_
      row_cond go
      refine ahw (j:=there.toNat) rfl (by rw [ab8];exact ae5 u0 (by omega)) ?_
      dsimp only [List.set_cons_zero,List.set_cons_succ,reS]
      rw [show (PyData.int ((d:Int)+1))=.int ((d+1:Nat):Int) by simp,agl u0 (by omega)]
      row_cond go
      refine ⟨_,line ++ [there],ds ++ [d+1],Gr.label far there (d+1),by rw [List.map_append];rfl,hB.add hat hd hT hm,hF.add hB.len hm,fun v hv=>?_,by rw [List.getElem?_append_left hal];exact hat,fun x hx=>?_⟩
      ·rcases List.mem_append.mp hv with hv | hv
       ·exact hR v hv
       ·have:v=there:=by simpa using hv
        rw [this];exact ⟨u0,u1⟩
      ·rw [etk] at hx
       rcases List.mem_append.mp hx with hx | hx
       ·exact List.mem_append.mpr (.inl (htk x hx))
       ·exact List.mem_append.mpr (.inr hx)
    ·rintro e q0_
     refine exS4 e q0_ fun v4 line' ds' far' q1_=>?_
     have hB':=q1_.1
     have hF':=q1_.2.1
     have hR':=q1_.2.2.1
     have hat':=q1_.2.2.2.1
     have htk:=q1_.2.2.2.2
     clear q1_ q0_
     rw [List.take_length] at htk
     have hal:at_ < line'.length:=(List.getElem?_eq_some_iff.mp hat').1
     have hLB:=ahc hB'.nd hR'
     exact ⟨n.toNat * n.toNat - (at_+1),by omega,_,_,line',ds',at_+1,far',rfl,hB'.next hat' fun x hx=>htk x ((hmem x).mpr hx),hF',hR',rfl⟩
   ·have hat:at_=line.length:=by have:=hB.le;omega
    subst hat
    row_cond go
    rw [ajm (g:=Gr.farO (Tied es) a) fun v _ _=>hF.fin hB v]
    exact k
end
section
variable {P:Program} {w:World} {K:Frag} {mg:Str->Option Value} {base:Heap}
end
noncomputable def aci (n:Int):PyData->Bool
 | .tuple [.int a,.int b]=>decide (0<=a/\a<=n - 1) && decide (0<=b/\b<=n - 1) && decide (a < b)
 | _=>false
noncomputable def afn (n:Int):PyData->Bool
 | .list ds=>ds.all (aci n)
 | _=>false
def a08:VP:=fun ss Q=>∃ (n:Int) (d:PyData),ss=[.st (.int n),.st d]/\Q (.st (.bool (aci n d)))
def az3:VP:=fun ss Q=>∃ (n:Int) (d:PyData),ss=[.st (.int n),.st d]/\(∀ ds,d=.list ds->ds.length<=100000)/\Q (.st (.bool (afn n d)))
def auv:VP:=fun ss Q=>∃ (ps:List (Int × Int)),ss=[.st (.list (ps.map prD))]/\ps.length<=100000/\∀ b:Bool,(b=true ↔ Rise ps)->Q (.st (.bool b))
structure PutOk (n:Int) (es fs:List (Int × Int)):Prop where
 inn:∀ p∈fs,0<=p.1/\p.1 < p.2/\p.2 < n
 nd:(es ++ fs).Nodup
def az4:VP:=fun ss Q=>∃ (n:Int) (es fs:List (Int × Int)),ss=[.st (webD n es),.st (.list (fs.map prD))]/\es.length<=10000/\fs.length<=10000/\PutOk n es fs/\∀ qs,Rise qs->qs.Perm (es ++ fs)->Q (.own (OW (.int n) (qs.map prD)))
section
variable {P:Program} {w:World} {K:Frag} {mg:Str->Option Value} {base:Heap}
theorem sc_is_tie:FnScope ["n","thing","a","b"] ["n","thing"] (aak s_is_tie):=by row_cond sc
theorem aqd (T:Txt K mg):Can P w K mg base "is_tie" 4 ["n","thing"] (spP K (a08)):=by
 obtain ⟨f,fd,D⟩:=T.d_is_tie
 refine D.can (D.fn.ok sc_is_tie (fun vs H Q E h=>lenP h fun ss Q' q=>by obtain ⟨n,d,rfl,k⟩:=q;rfl) (fun cdv A outer s H vs Q E hr h=>?_))
 have nd:=sc_is_tie.nd
 refine ⟨_,(aac (abf (PW.pt (akn (adz (acw (aai abw (by rfl) T.b_isinstance aa0 (aaa (pv 1) (aaa (abu (v:=.ty "tuple") rfl T.b_tuple afd rfl) aab))))) (ahf (aaz ako (aai abj (by rfl) T.b_len acn (aaa (pv 1) aab)) aad (aa1 _)))))
   (aag (aau aga))
   aa2)
  (aac (acq (pv 1) (ad1 rfl (aa8 (aao (i:=2) nd rfl (Or.inl rfl)) (aa8 (aao (i:=3) nd rfl (Or.inl rfl)) ac1))))
  (aag (aau (ad0 (aaf (aek T) hr (aaa (pv 0) (aaa (pv 2) aab))) (ad0 (aaf (aek T) hr (aaa (pv 0) (aaa (pv 3) aab))) (aey (ac5 apb (pv 2) (pv 3) (aa1 _))))))))),?_⟩
 refine abb h fun ss Q' q B hK=>?_
 refine exS2 ss q fun n d q1_=>?_
 have k:=q1_
 clear q1_ q
 show EvS B _ _ [some (.st (.int n)),some (.st d),none,none]
 row_cond go
 cases d with
 | tuple xs =>
  refine aim ?_
  row_cond go
  rcases (show xs.length=2\/xs.length ≠ 2 by omega) with h2 | h2
  ·match xs,h2 with
   | [x,y],_ =>
    row_cond go
    refine ⟨n,x,rfl,?_⟩
    row_cond go
    have key:aci n (.tuple [x,y])=(btwD 0 (n - 1) x && (btwD 0 (n - 1) y && match x,y with | .int a,.int b=>decide (a < b) | _,_=>false)):=by
     cases x <;> cases y <;> simp [aci,btwD,Bool.and_assoc]
    cases hx:btwD 0 (n - 1) x with
    | false =>
     rw [hx,Bool.false_and] at key
     refine abx ?_
     rw [← key];exact k
    | true =>
     refine abr ?_
     row_cond go
     refine ⟨n,y,rfl,?_⟩
     row_cond go
     cases hy:btwD 0 (n - 1) y with
     | false =>
      rw [hx,hy] at key
      refine abx ?_
      rw [show false=aci n (.tuple [x,y]) by rw [key];rfl];exact k
     | true =>
      refine abr ?_
      cases x with
      | int a =>
       cases y with
       | int b =>
        row_cond go
        rw [hx,hy] at key
        rw [show decide (a < b)=aci n (.tuple [.int a,.int b]) by rw [key];rfl];exact k
       | _=>simp [btwD] at hy
      | _=>simp [btwD] at hx
  ·row_cond go
   have:aci n (.tuple xs)=false:=by
    match xs,h2 with
    | [],_=>rfl
    | [x],_=>cases x <;> rfl
    | [_,_],h=>exact absurd rfl h
    | x :: y :: _ :: _,_=>cases x <;> cases y <;> rfl
   rw [← this];exact k
 | _ =>
  refine ain ?_
  row_cond go
  exact k
theorem sc_are_ties:FnScope ["n","thing"] ["n","thing"] (aak s_are_ties):=by row_cond sc
theorem amv (T:Txt K mg):Can P w K mg base "are_ties" 5 ["n","thing"] (spP K (az3)):=by
 obtain ⟨f,fd,D⟩:=T.d_are_ties
 refine D.can (D.fn.ok sc_are_ties (fun vs H Q E h=>lenP h fun ss Q' q=>by obtain ⟨n,d,rfl,hl,k⟩:=q;rfl) (fun cdv A outer s H vs Q E hr h=>?_))
 have nd:=sc_are_ties.nd
 refine ⟨_,(aag (aau (ad0 (aai abw (by rfl) T.b_isinstance aa0 (aaa (pv 1) (aaa (abu (v:=.ty "list") rfl T.b_list aec rfl) aab))) (aey (aai (ajo rfl) (by rfl) T.b_all aq6 (aaa (adf rfl (N:=["tie","n"]) (src:=[none,some 0]) (by exact abm rfl rfl rfl rfl rfl rfl) (ab4 (pv 1)) (fun _ _ _ _=>(aao (i:=0) (show List.Nodup (["tie","n"]:List Str) by decide +kernel) rfl (Or.inl rfl) (hf:=Or.inr rfl))) (fun _ _ _ _=>ab5) (fun _ _ _ _=>(aaf (aqd T) hr (aaa (pv 1) (aaa (pv 0) aab))))) aab)))))),?_⟩
 refine abb h fun ss Q' q B hK=>?_
 refine exS2 ss q fun n d q1_=>?_
 have hl:=q1_.1
 have k:=q1_.2
 clear q1_ q
 show EvS B _ _ [some (.st (.int n)),some (.st d)]
 row_cond go
 cases d with
 | list ds =>
  have hl:=hl ds rfl
  refine abr ?_
  row_cond go
  refine aoj (fun t => .bool (aci n t)) rfl (by omega) (fun t _ B' hB=>?_) ?_
  ·row_cond go
   exact ⟨n,t,rfl,rfl,rfl⟩
  ·row_cond go
   rw [show (ds.map fun t=>PyData.bool (aci n t))=(ds.map (aci n)).map .bool by rw [List.map_map];rfl]
   refine aor ?_
   row_cond go
   rw [show (ds.map (aci n)).all id=afn n (.list ds) by simp [afn,List.all_map]]
   exact k
 | _ =>
  refine abx ?_
  exact k
theorem sc_is_rising:FnScope ["things"] ["things"] (aak s_is_rising):=by row_cond sc
theorem akl (T:Txt K mg):Can P w K mg base "is_rising" 1 ["things"] (spP K (auv)):=by
 obtain ⟨f,fd,D⟩:=T.d_is_rising
 refine D.can (D.fn.ok sc_is_rising (fun vs H Q E h=>lenP h fun ss Q' q=>by obtain ⟨ps,rfl,hl,k⟩:=q;rfl) (fun cdv A outer s H vs Q E hr h=>?_))
 have nd:=sc_is_rising.nd
 refine ⟨_,(aag (aau (aai (ajo rfl) (by rfl) T.b_all aq6 (aaa (adf rfl (N:=["at","things"]) (src:=[none,some 0]) (by exact abm rfl rfl rfl rfl rfl rfl) (abi rfl T.b_range (aaa (aaq ace (aai abj (by rfl) T.b_len acn (aaa (pv 0) aab)) aad) aab)) (fun _ _ _ _=>(aao (i:=0) (show List.Nodup (["at","things"]:List Str) by decide +kernel) rfl (Or.inl rfl) (hf:=Or.inr rfl))) (fun _ _ _ _=>ab5) (fun _ _ _ _=>(ac5 (show OpR _ (compareOp .Lt) (rLtT K) from ax6 hr.units0) (aar (show IxR _ (ab3 K) from aas) (pv 1) (pv 0) (fun _ _=>rfl)) (aar (show IxR _ (ab3 K) from aas) (pv 1) (aaq abl (pv 0) aad) (fun _ _=>rfl)) (aa1 _)))) aab)))),?_⟩
 refine abb h fun ss Q' q B hK=>?_
 refine exS1 ss q fun ps q1_=>?_
 have hl:=q1_.1
 have k:=q1_.2
 clear q1_ q
 show EvS B _ _ [some (.st (.list (ps.map prD)))]
 row_cond go
 rw [List.length_map]
 row_cond go
 refine aoj (fun d=>match d with | .int i => .bool (match ps[i.toNat]?,ps[i.toNat+1]? with | some p,some q=>HT.lexLt (p2 p) (p2 q) | _,_=>false) | _ => .none) rfl (by rw [ab0];omega) (fun d hd B' hB=>?_) ?_
 ·obtain ⟨i,hi⟩:=List.mem_iff_getElem?.mp hd
  obtain ⟨hi,rfl⟩:=adl hi
  have h1:i < ps.length:=by omega
  have h2:i+1 < ps.length:=by omega
  have a1:atI (ps.map prD) (0+(i:Int))=some (prD ps[i]):=ae6 (f:=prD) (agm (by omega) (by rw [show (0+(i:Int)).toNat=i by omega];exact List.getElem?_eq_getElem h1))
  have a2:atI (ps.map prD) (0+(i:Int)+1)=some (prD ps[i+1]):=ae6 (f:=prD) (agm (by omega) (by rw [show (0+(i:Int)+1).toNat=i+1 by omega];exact List.getElem?_eq_getElem h2))
  row_cond go
  refine awx ?_
  row_cond go
  refine ⟨?_,rfl⟩
  simp [h1,h2]
 ·row_cond go
  have e:(rngD 0 ((ps.length:Int) - 1).toNat).map (fun d=>match d with | .int i=>PyData.bool (match ps[i.toNat]?,ps[i.toNat+1]? with | some p,some q=>HT.lexLt (p2 p) (p2 q) | _,_=>false) | _ => .none)=((List.range (ps.length - 1)).map fun i=>match ps[i]?,ps[i+1]? with | some p,some q=>HT.lexLt (p2 p) (p2 q) | _,_=>false).map .bool:=by
   unfold rngD
   rw [List.map_map,List.map_map,show ((ps.length:Int) - 1).toNat=ps.length - 1 by omega]
   apply List.map_congr_left
   intro i _
   simp
  rw [e]
  refine aor ?_
  row_cond go
  refine k _ ?_
  rw [List.all_map,List.all_eq_true]
  unfold Rise
  rw [al8 ltP (fun h g=>ary h g)]
  constructor
  ·intro h i hi
   have:=h i (List.mem_range.mpr (by omega))
   simp [show i < ps.length by omega,hi] at this
   exact (lex2 _ _).mp this
  ·intro h i hi
   have hi':i+1 < ps.length:=by have:=List.mem_range.mp hi;omega
   have:=(lex2 _ _).mpr (h i hi')
   simp [show i < ps.length by omega,hi',this]
theorem sc_with_ties:FnScope ["web","ties","n","there","every"] ["web","ties"] (aak s_with_ties):=by row_cond sc
theorem akm (T:Txt K mg):Can P w K mg base "with_ties" 6 ["web","ties"] (spP K (az4)):=by
 obtain ⟨f,fd,D⟩:=T.d_with_ties
 refine D.can (D.fn.ok sc_with_ties (fun vs H Q E h=>lenP h fun ss Q' q=>by obtain ⟨n,es,fs,rfl,l1,l2,hP,k⟩:=q;rfl) (fun cdv A outer s H vs Q E hr h=>?_))
 have nd:=sc_with_ties.nd
 refine ⟨_,(aac (acq (pv 0) (ad1 rfl (aa8 (aao (i:=2) nd rfl (Or.inl rfl)) (aa8 (aao (i:=3) nd rfl (Or.inl rfl)) ac1))))
  (aac (abf (adz (acw (aaf (amv T) hr (aaa (pv 2) (aaa (pv 1) aab)))))
   (aag aeg)
   aa2)
  (aac (aam (i:=4) nd rfl (Or.inl rfl) (aai aeb (by rfl) T.b_sorted ac9 (aaa (aaq ahj (pv 3) (pv 1)) aab)))
  (aac (abf (adz (acw (aaf (akl T) hr (aaa (pv 4) aab))))
   (aag aeg)
   aa2)
  (aag (aau (aa3 (aaa (pv 2) (aaa (pv 4) aab))))))))),?_⟩
 refine abb h fun ss Q' q B hK=>?_
 refine exS3 ss q fun n es fs q1_=>?_
 have l1:=q1_.1
 have l2:=q1_.2.1
 have hP:=q1_.2.2.1
 have k:=q1_.2.2.2
 clear q1_ q
 show EvS B _ _ [some (.st (webD n es)),some (.st (.list (fs.map prD))),none,none,none]
 row_cond go
 refine ⟨n,_,rfl,fun ds e=>by cases e;rw [List.length_map];omega,?_⟩
 row_cond go
 have ht:afn n (.list (fs.map prD))=true:=by
  show ((fs.map prD).all (aci n))=true
  rw [List.all_map,List.all_eq_true]
  intro p hp
  have:=hP.inn p hp
  simp [aci,prD];omega
 rw [ht]
 row_cond go
 refine aeu (ps:=es ++ fs) ?_
 row_cond go
 rw [← List.map_append]
 refine ⟨rfl,fun qs hp hs=>?_⟩
 have hr:Rise qs:=aiz hp hP.nd hs
 refine aa7 ?_
 dsimp only [List.set_cons_zero,List.set_cons_succ]
 try refine' aog (by assumption) ?_
 refine aod (arj (aoc (ag6 (al9 (.inl rfl) (an9 ⟨_,_,.inl rfl,abt,qs,rfl,by rw [hp.length_eq,List.length_append];omega,fun b hb=>?_⟩)))))
 row_cond go
 rw [hb.mpr hr]
 row_cond go
 exact k qs hr hp
end
def asm:VP:=fun ss Q=>∃ (a b c:Int),ss=[.st (.int a),.st (.int b),.st (.int c)]/\a<=c/\c<=b/\Q (.st .none)
section
variable {P:Program} {w:World} {K:Frag} {mg:Str->Option Value} {base:Heap}
theorem sc_need_number:FnScope ["least","most","thing"] ["least","most","thing"] (aak s_need_number):=by row_cond sc
theorem ah7 (T:Txt K mg):Can P w K mg base "need_number" 3 ["least","most","thing"] (spP K (asm)):=by
 obtain ⟨f,fd,D⟩:=T.d_need_number
 refine D.can (D.fn.ok sc_need_number (fun vs H Q E h=>lenP h fun ss Q' q=>by obtain ⟨a,b,c,rfl,h1,h2,k⟩:=q;rfl) (fun cdv A outer s H vs Q E hr h=>?_))
 have nd:=sc_need_number.nd
 refine ⟨_,(aag (abf (adz (acw (aaf (ae8 T) hr (aaa (pv 0) (aaa (pv 1) (aaa (pv 2) aab))))))
   (aag aeg)
   aa2)),?_⟩
 refine abb h fun ss Q' q B hK=>?_
 refine exS3 ss q fun a b c q1_=>?_
 have h1:=q1_.1
 have h2:=q1_.2.1
 have k:=q1_.2.2
 clear q1_ q
 show EvS B _ _ [some (.st (.int a)),some (.st (.int b)),some (.st (.int c))]
 row_cond go
 refine ⟨a,b,.int c,rfl,?_⟩
 have:btwD a b (.int c)=true:=by simp [btwD];omega
 rw [this]
 row_cond go
 exact k
end
noncomputable def abk (n:Nat) (r:Int->Int):List Int:=(List.range n).map fun (i:Nat)=>r (i:Int)
theorem adq {n:Nat} {r:Int->Int}:rowD n r=(abk n r).map .int:=afm
theorem amw (n:Nat) (r:Int->Int):(abk n r).length=n:=by simp [abk]
theorem adb {n:Nat} (hn:1<=n) (r:Int->Int):abk n r ≠ []:=fun e=>by have:=amw n r;rw [e] at this;simp at this;omega
noncomputable def mxF (n:Nat) (r:Int->Int):Int:=open Classical in if h:∃ x,adt (abk n r) x then Classical.choose h else 0
theorem ael {n:Nat} (hn:1<=n) (r:Int->Int):adt (abk n r) (mxF n r):=by
 unfold mxF
 have h:=agq (adb hn r)
 rw [dif_pos h]
 exact Classical.choose_spec h
theorem amx:∀ {l:List Int} {x:Int},x∈l->∃ j:Nat,l[j]?=some x/\∀ m,m < j->l[m]? ≠ some x
 | a :: l,x,h=>by
  by_cases e:a=x
  ·subst e;exact ⟨0,rfl,fun m hm=>by omega⟩
  ·obtain ⟨j,h1,h2⟩:=amx (l:=l) (x:=x) (by rcases List.mem_cons.mp h with q | q;exact absurd q.symm e;exact q)
   refine ⟨j+1,by simpa using h1,fun m hm=>?_⟩
   cases m with
   | zero=>simpa using e
   | succ m=>simpa using h2 m (by omega)
noncomputable def ixF (n:Nat) (r:Int->Int):Nat:=open Classical in if h:∃ j:Nat,(abk n r)[j]?=some (mxF n r)/\∀ m,m < j->(abk n r)[m]? ≠ some (mxF n r) then Classical.choose h else 0
theorem ah8 {n:Nat} (hn:1<=n) (r:Int->Int):(abk n r)[ixF n r]?=some (mxF n r)/\∀ m,m < ixF n r->(abk n r)[m]? ≠ some (mxF n r):=by
 unfold ixF
 have h:=amx (ael hn r).1
 rw [dif_pos h]
 exact Classical.choose_spec h
theorem amy {n:Nat} (hn:1<=n) (r:Int->Int):ixF n r < n:=by
 have:=(List.getElem?_eq_some_iff.mp (ah8 hn r).1).1
 rwa [amw] at this
noncomputable def nxF (m:Int->Int->Int) (r:Int->Int) (h:Int):Int->Int:=fun y=>if m h y < r y then m h y else r y
noncomputable def hubN (n:Nat) (m:Int->Int->Int):Nat->List Int × (Int->Int)
 | 0=>([0],m 0)
 | j+1=>open Classical in if 0 < mxF n (hubN n m j).2 then ((hubN n m j).1 ++ [(ixF n (hubN n m j).2:Int)],nxF m (hubN n m j).2 (ixF n (hubN n m j).2:Int)) else hubN n m j
theorem amz {n:Nat} {m:Int->Int->Int} {j:Nat} {hs:List Int} {r:Int->Int} (e:hubN n m j=(hs,r)) (h:0 < mxF n r):hubN n m (j+1)=(hs ++ [(ixF n r:Int)],nxF m r (ixF n r:Int)):=by
 show (if 0 < mxF n (hubN n m j).2 then _ else _)=_
 rw [e,if_pos h]
theorem am0 {n:Nat} {m:Int->Int->Int} {j:Nat} {hs:List Int} {r:Int->Int} (e:hubN n m j=(hs,r)) (h:¬ 0 < mxF n r):hubN n m (j+1)=(hs,r):=by
 show (if 0 < mxF n (hubN n m j).2 then _ else _)=_
 rw [e,if_neg h]
theorem am1 {n:Nat} {m:Int->Int->Int} {j:Nat} {hs:List Int} {r:Int->Int} (e:hubN n m j=(hs,r)) (h:¬ 0 < mxF n r):∀ i,hubN n m (j+i)=(hs,r)
 | 0=>e
 | i+1=>am0 (am1 e h i) h
noncomputable def hubO (n:Int) (es:List (Int × Int)) (k:Int):Own:=OW (.int (mxF n.toNat (hubN n.toNat (dsF es) k.toNat).2)) ((hubN n.toNat (dsF es) k.toNat).1.map .int)
theorem agr {n:Int} {es:List (Int × Int)} {k:Int} {hs:List Int} {r:Int->Int} (e:hubN n.toNat (dsF es) k.toNat=(hs,r)):hubO n es k=OW (.int (mxF n.toNat r)) (hs.map .int):=by unfold hubO;rw [e]
def asn:VP:=fun ss Q=>∃ (n:Int) (es:List (Int × Int)) (k:Int),ss=[.st (webD n es),.st (.int k)]/\1<=n/\n<=100/\InN n es/\es.length<=10000/\Joined n es/\0<=k/\k<=20/\Q (.own (hubO n es k))
theorem auw {n:Nat} {r q:Int->Int}:zipD ((abk n r).map .int) (rowD n q)=(List.range n).map fun (i:Nat) => .tuple [.int (r (i:Int)),.int (q (i:Int))]:=by rw [← adq,aus]
theorem am2 (n:Nat) (r:Int->Int):(List.range n).map (fun i:Nat=>PyData.int (r (i:Int)))=(abk n r).map .int:=by unfold abk;rw [List.map_map];rfl
theorem ao6 {n:Nat} {r:Int->Int} {u:Nat} (h:u < n):atI ((abk n r).map PyData.int) (0+(u:Int))=some (.int (r (u:Int))):=by
 rw [Int.zero_add,← adq]
 exact azu (by omega) (by omega)
theorem axs {α:Type} (xs:List α) (x : α):atI (xs ++ [x]) (-1)=some x:=by
 unfold atI ixN
 rw [if_neg (by omega),if_pos (by simp;omega)]
 show (xs ++ [x])[(-1+((xs ++ [x]).length:Int)).toNat]?=some x
 rw [show (-1+((xs ++ [x]).length:Int)).toNat=xs.length by simp;omega,List.getElem?_append_right (Nat.le_refl _),Nat.sub_self]
 rfl
section
variable {P:Program} {w:World} {K:Frag} {mg:Str->Option Value} {base:Heap}
theorem sc_hubs_for:FnScope ["web","k","rows","hubs","near","hub"] ["web","k"] (aak s_hubs_for):=by row_cond sc
theorem am3 (T:Txt K mg):Can P w K mg base "hubs_for" 9 ["web","k"] (spP K (asn)):=by
 obtain ⟨f,fd,D⟩:=T.d_hubs_for
 obtain ⟨tk_MOST_HUB_TIES,hMOST_HUB_TIES⟩:=T.v_MOST_HUB_TIES
 refine D.can (D.fn.ok sc_hubs_for (fun vs H Q E h=>lenP h fun ss Q' q=>by obtain ⟨n,es,k,rfl,n0,n1,hin,hle,hJ,k0,k1,kk⟩:=q;rfl) (fun cdv A outer s H vs Q E hr h=>?_))
 have nd:=sc_hubs_for.nd
 refine ⟨_,(aac (aam (i:=2) nd rfl (Or.inl rfl) (aaf (af7 T) hr (aaa (pv 0) aab)))
  (aac (abh (aaf (ah7 T) hr (aaa aad (aaa (avr (v:=.int 20) rfl hMOST_HUB_TIES ⟨_,rfl⟩) (aaa (pv 1) aab)))))
  (aac (aam (i:=3) nd rfl (Or.inl rfl) (aa5 (aaa aad aab)))
  (aac (aam (i:=4) nd rfl (Or.inl rfl) (aar aas (pv 2) aad (fun _ _=>rfl)))
  (aac (agz PassesOwn.never (PW.pt (aky (aaz apc (aai abj (by rfl) T.b_len acn (aaa (pv 3) aab)) (pv 1) (aa1 _)) (aib (aaz afa (aai (abq rfl) (by rfl) T.b_max acg (aaa (pv 4) aab)) aad (aa1 _)))))
   (aac (aam (i:=5) nd rfl (Or.inl rfl) (ab2 PySem.F.plainAttrs_list PySem.F.slot_list_index PySem.F.type_list_index afk (pv 4) (aaa (aai (abq rfl) (by rfl) T.b_max acg (aaa (pv 4) aab)) aab)))
    (aac (abh (ab2 PySem.F.plainAttrs_list PySem.F.slot_list_append PySem.F.type_list_append abc (pv 3) (aaa (pv 5) aab)))
    (aag (afc (i:=4) nd rfl (Or.inl rfl) rfl (N:=["far","other"]) (src:=[none,none]) (by exact abm rfl rfl rfl rfl rfl rfl) (azh rfl T.b_zip (aaa (pv 4) (aaa (aar aas (pv 2) (pv 5) (fun _ _=>rfl)) aab))) (fun _ _ _ _=>(show PG _ _ (gTup K 2 (agb (aba 0) (agb (aba 1) gNil))) from (ad1 rfl (aa8 (aao (i:=0) (show List.Nodup (["far","other"]:List Str) by decide +kernel) rfl (Or.inl rfl) (hf:=Or.inr rfl)) (aa8 (aao (i:=1) (show List.Nodup (["far","other"]:List Str) by decide +kernel) rfl (Or.inl rfl) (hf:=Or.inr rfl)) ac1))))) (fun _ _ _ _=>ab5) (fun _ _ _ _=>(aai (acu rfl) (by rfl) T.b_min ae1 (aaa (pv 0) (aaa (pv 1) aab)))))))))
  (aag (aau (aa3 (aaa (aai (abq rfl) (by rfl) T.b_max acg (aaa (pv 4) aab)) (aaa (pv 3) aab)))))))))),?_⟩
 refine abb h fun ss Q' q B hK=>?_
 refine exS3 ss q fun n es k q1_=>?_
 have n0:=q1_.1
 have n1:=q1_.2.1
 have hin:=q1_.2.2.1
 have hle:=q1_.2.2.2.1
 have hJ:=q1_.2.2.2.2.1
 have k0:=q1_.2.2.2.2.2.1
 have k1:=q1_.2.2.2.2.2.2.1
 have kk:=q1_.2.2.2.2.2.2.2
 clear q1_ q
 show EvS B _ _ [some (.st (webD n es)),some (.st (.int k)),none,none,none,none]
 have hn:1<=n.toNat:=by omega
 have hat0:=amq (n:=n.toNat) (m:=dsF es) (x:=0) (by omega) (by omega)
 row_cond go
 refine ⟨n,es,rfl,n0,n1,hin,hle,hJ,abv abt ?_⟩
 row_cond go
 refine ⟨0,20,k,rfl,k0,k1,?_⟩
 row_cond go
 rw [adq]
 refine af2 (fun mm e=>∃ v5 j hs r,e=[some (.st (webD n es)),some (.st (.int k)),some (.st (.list (matD n.toNat (dsF es)))),some (.own (OL (List.map PyData.int hs))),some (.st (.list ((abk n.toNat r).map .int))),v5]/\hubN n.toNat (dsF es) j=(hs,r)/\hs.length=j+1/\(j:Int)<=k/\mm=k.toNat - j) ⟨_,_,0,[0],dsF es 0,rfl,rfl,rfl,by omega,rfl⟩ ?_
 rintro mm e q0_
 refine exS4 e q0_ fun v5 j hs r q1_=>?_
 have hH:=q1_.1
 have hl:=q1_.2.1
 have hj:=q1_.2.2.1
 have e3_:=q1_.2.2.2
 clear q1_ q0_
 subst e3_
 have hmx:=ael hn r
 have hix:=ah8 hn r
 have hil:=amy hn r
 have hat:=amq (n:=n.toNat) (m:=dsF es) (x:=(ixF n.toNat r:Int)) (by omega) (by omega)
 row_cond go
 rw [List.length_map]
 refine' cutR (R:=hubN n.toNat (dsF es) k.toNat=(hs,r)->EvS B ?c1 ?d1 [some (.st (webD n es)),some (.st (.int k)),some (.st (.list (matD n.toNat (dsF es)))),some (.own (OL (List.map PyData.int hs))),some (.st (.list ((abk n.toNat r).map .int))),v5]) (fun R=>?K1) ?K2
 case K1 =>
  refine acm (fun h=>?_) (fun h=>?_)
  ·row_cond go
   refine ab1 (adb hn r) fun x hx=>?_
   obtain rfl:=acl hx hmx
   row_cond go
   refine acm (fun h=>?_) (fun h=>?_)
   ·row_cond go
    refine ⟨abk n.toNat r,rfl,?_⟩
    row_cond go
    refine ab1 (adb hn r) fun x hx=>?_
    obtain rfl:=acl hx hmx
    refine ⟨mxF n.toNat r,ixF n.toNat r,rfl,hix.1,hix.2,?_⟩
    row_cond go
    rw [auw]
    refine atu (xs:=List.range n.toNat) (fa:=fun i:Nat => .int (r (i:Int))) (fb:=fun i:Nat => .int (dsF es (ixF n.toNat r:Int) (i:Int))) (fun i:Nat => .int (nxF (dsF es) r (ixF n.toNat r:Int) (i:Int))) (fun _=>true) rfl (by simp;omega) (fun i hi B' hB=>?_) ?_
    ·refine ae3 ⟨rfl,rfl,fun _=>?_⟩
     row_cond go
     exact rfl
    ·rw [ahv,am2]
     refine abv abt ?_
     row_cond go
     exact ⟨k.toNat - (j+1),by omega,_,j+1,hs ++ [(ixF n.toNat r:Int)],nxF (dsF es) r (ixF n.toNat r:Int),by rw [List.map_append];rfl,amz hH h,by simp [hl],by omega,rfl⟩
   ·exact R (by have:=am1 hH h (k.toNat - j);rwa [show j+(k.toNat - j)=k.toNat by omega] at this)
  ·refine abx ?_
   exact R (by rw [show k.toNat=j by omega];exact hH)
 case K2 =>
  intro hK'
  row_cond go
  refine ab1 (adb hn r) fun x hx=>?_
  obtain rfl:=acl hx hmx
  refine ⟨_,rfl,?_⟩
  rw [agr hK'] at kk
  exact kk
theorem sc_law_hubs:FnScope ["web","k","chosen","near","turn","far"] ["web","k"] (aak s_law_hubs):=by row_cond sc
theorem am4 (T:Txt K mg):Can P w K mg base "_law_hubs" 3 ["web","k"] (spP K (asn)):=by
 obtain ⟨f,fd,D⟩:=T.d_law_hubs
 refine D.can (D.fn.ok sc_law_hubs (fun vs H Q E h=>lenP h fun ss Q' q=>by obtain ⟨n,es,k,rfl,n0,n1,hin,hle,hJ,k0,k1,kk⟩:=q;rfl) (fun cdv A outer s H vs Q E hr h=>?_))
 have nd:=sc_law_hubs.nd
 refine ⟨_,(aac (aam (i:=2) nd rfl (Or.inl rfl) (aa5 (aaa aad aab)))
  (aac (aam (i:=3) nd rfl (Or.inr rfl) (aaf (ac0 T) hr (aaa (pv 0) (aaa aad aab))))
  (aac (acd PassesOwn.never rfl (abi rfl T.b_range (aaa (pv 1) aab)) (aao (i:=4) nd rfl (Or.inl rfl))
   (aag (abf (aaz afa (aai (abq rfl) (by rfl) T.b_max acg (aaa (pv 3) aab)) aad (aa1 _))
     (aac (abh (ab2 PySem.F.plainAttrs_list PySem.F.slot_list_append PySem.F.type_list_append abc (pv 2) (aaa (ab2 PySem.F.plainAttrs_list PySem.F.slot_list_index PySem.F.type_list_index afk (pv 3) (aaa (aai (abq rfl) (by rfl) T.b_max acg (aaa (pv 3) aab)) aab)) aab)))
      (aac (aam (i:=5) nd rfl (Or.inr rfl) (aaf (ac0 T) hr (aaa (pv 0) (aaa (aar aas (pv 2) (az9 ax2 aad) (fun _ _=>rfl)) aab))))
      (aag (aam (i:=3) nd rfl (Or.inr rfl) (adf rfl (N:=["place","near","far"]) (src:=[none,some 3,some 5]) (by exact abm rfl rfl rfl rfl rfl rfl) (abi rfl T.b_range (aaa (aar aas (pv 0) aad (fun _ _=>rfl)) aab)) (fun _ _ _ _=>(aao (i:=0) (show List.Nodup (["place","near","far"]:List Str) by decide +kernel) rfl (Or.inl rfl) (hf:=Or.inr rfl))) (fun _ _ _ _=>ab5) (fun _ _ _ _=>(aai (acu rfl) (by rfl) T.b_min ae1 (aaa (aar (show IxR _ (ab3 K) from aas) (pv 1) (pv 0) (fun _ _=>rfl)) (aaa (aar (show IxR _ (ab3 K) from aas) (pv 2) (pv 0) (fun _ _=>rfl)) aab)))))))))
     aa2)))
  (aag (aau (aa3 (aaa (aai (abq rfl) (by rfl) T.b_max acg (aaa (pv 3) aab)) (aaa (pv 2) aab)))))))),?_⟩
 refine abb h fun ss Q' q B hK=>?_
 refine exS3 ss q fun n es k q1_=>?_
 have n0:=q1_.1
 have n1:=q1_.2.1
 have hin:=q1_.2.2.1
 have hle:=q1_.2.2.2.1
 have hJ:=q1_.2.2.2.2.1
 have k0:=q1_.2.2.2.2.2.1
 have k1:=q1_.2.2.2.2.2.2.1
 have kk:=q1_.2.2.2.2.2.2.2
 clear q1_ q
 show EvS B _ _ [some (.st (webD n es)),some (.st (.int k)),none,none,none,none]
 have hn:1<=n.toNat:=by omega
 row_cond go
 refine ⟨n,0,es,rfl,n1,hin,hle,by omega,by omega,abv abt ?_⟩
 rw [agp hJ (by omega) (by omega),adq]
 row_cond go
 refine adm (fun i e=>∃ v4 v5 hs r,e=[some (.st (webD n es)),some (.st (.int k)),some (.own (OL (List.map PyData.int hs))),some (.st (.list ((abk n.toNat r).map .int))),v4,v5]/\hubN n.toNat (dsF es) i=(hs,r)/\hs.length<=i+1) ⟨_,_,[0],dsF es 0,rfl,rfl,by simp⟩ ?_ ?_
 ·rintro i e hi q0_
  refine exS4 e q0_ fun v4 v5 hs r q1_=>?_
  have hH:=q1_.1
  have hl:=q1_.2
  clear q1_ q0_
  have hmx:=ael hn r
  have hix:=ah8 hn r
  have hil:=amy hn r
  row_cond go
  refine ab1 (adb hn r) fun x hx=>?_
  obtain rfl:=acl hx hmx
  row_cond go
  refine acm (fun h=>?_) (fun h=>?_)
  ·have hal:=axs (hs.map PyData.int) (PyData.int (ixF n.toNat r:Int))
   row_cond go
   refine ⟨abk n.toNat r,rfl,?_⟩
   row_cond go
   refine ab1 (adb hn r) fun x hx=>?_
   obtain rfl:=acl hx hmx
   refine ⟨mxF n.toNat r,ixF n.toNat r,rfl,hix.1,hix.2,_,rfl,by simp;omega,?_⟩
   dsimp only [List.set_cons_zero,List.set_cons_succ]
   row_cond go
   refine ⟨n,(ixF n.toNat r:Int),es,rfl,n1,hin,hle,by omega,by omega,abv abt ?_⟩
   rw [agp hJ (by omega) (by omega),adq]
   row_cond go
   unfold rngD
   refine acz (fun i:Nat => .int (nxF (dsF es) r (ixF n.toNat r:Int) (i:Int))) rfl (by simp;omega) (fun u hu B' hB=>?_) ?_
   ·have hu1:=List.mem_range.mp hu
    have a1:=ao6 (r:=r) hu1
    have a2:=ao6 (r:=dsF es (ixF n.toNat r:Int)) hu1
    row_cond go
    exact rfl
   ·rw [am2]
    refine abv abt ?_
    row_cond go
    exact ⟨_,_,hs ++ [(ixF n.toNat r:Int)],nxF (dsF es) r (ixF n.toNat r:Int),by rw [List.map_append];rfl,amz hH h,by simp;omega⟩
  ·row_cond go
   exact ⟨_,_,hs,r,rfl,am0 hH h,by omega⟩
 ·rintro e q0_
  refine exS4 e q0_ fun v4 v5 hs r q1_=>?_
  have hH:=q1_.1
  have hl:=q1_.2
  clear q1_ q0_
  have hmx:=ael hn r
  row_cond go
  refine ab1 (adb hn r) fun x hx=>?_
  obtain rfl:=acl hx hmx
  refine ⟨_,rfl,?_⟩
  rw [agr hH] at kk
  exact kk
end
structure FarOk (n:Int) (es:List (Int × Int)) (x a b:Int):Prop where
 top:aqb n.toNat (dsF es) x
 a0:0<=a
 a1:a < n
 b0:0<=b
 b1:b < n
 eq:dsF es a b=x
 fst:∀ u v:Int,0<=u->u < n->0<=v->v < n->dsF es u v=x->a < u\/(a=u/\b<=v)
def aqe:VP:=fun ss Q=>∃ (n:Int) (es:List (Int × Int)),ss=[.st (webD n es)]/\1<=n/\n<=100/\InN n es/\es.length<=10000/\Joined n es/\∀ x a b,FarOk n es x a b->Q (.st (.tuple [.int x,.int a,.int b]))
theorem am5 {ns:List Int} {k:Int} (h:k∈ns):∃ j:Nat,ns[j]?=some k/\∀ m:Nat,m < j->ns[m]? ≠ some k:=by
 induction ns with
 | nil=>simp at h
 | cons n ns ih =>
  by_cases e:n=k
  ·exact ⟨0,by rw [e];rfl,fun m hm=>by omega⟩
  ·obtain ⟨j,h1,h2⟩:=ih ((List.mem_cons.mp h).resolve_left fun z=>e z.symm)
   refine ⟨j+1,h1,fun m hm=>?_⟩
   cases m with
   | zero=>simpa using e
   | succ m=>exact h2 m (by omega)
section
variable {P:Program} {w:World} {K:Frag} {mg:Str->Option Value} {base:Heap}
theorem sc_farthest_two:FnScope ["web","rows","far","a"] ["web"] (aak s_farthest_two):=by row_cond sc
theorem ahd (T:Txt K mg):Can P w K mg base "farthest_two" 9 ["web"] (spP K (aqe)):=by
 obtain ⟨f,fd,D⟩:=T.d_farthest_two
 refine D.can (D.fn.ok sc_farthest_two (fun vs H Q E h=>lenP h fun ss Q' q=>by obtain ⟨n,es,rfl,n0,n1,hin,hle,hJ,k⟩:=q;rfl) (fun cdv A outer s H vs Q E hr h=>?_))
 have nd:=sc_farthest_two.nd
 refine ⟨_,(aac (aam (i:=1) nd rfl (Or.inl rfl) (aaf (af7 T) hr (aaa (pv 0) aab)))
  (aac (aam (i:=2) nd rfl (Or.inl rfl) (aaf (ams T) hr (aaa (pv 1) aab)))
  (aac (aam (i:=3) nd rfl (Or.inl rfl) (ab2 PySem.F.plainAttrs_list PySem.F.slot_list_index PySem.F.type_list_index afk (adf rfl (N:=["row"]) (src:=[none]) (by exact abm rfl rfl rfl rfl rfl rfl) (ab4 (pv 1)) (fun _ _ _ _=>(aao (i:=0) (show List.Nodup (["row"]:List Str) by decide +kernel) rfl (Or.inl rfl) (hf:=Or.inr rfl))) (fun _ _ _ _=>ab5) (fun _ _ _ _=>(aai (show abe _ (.builtin "max") (age K) from (abq rfl)) (by rfl) T.b_max acg (aaa (pv 0) aab)))) (aaa (pv 2) aab)))
  (aag (aau (aa3 (aaa (pv 2) (aaa (pv 3) (aaa (ab2 PySem.F.plainAttrs_list PySem.F.slot_list_index PySem.F.type_list_index afk (aar aas (pv 1) (pv 3) (fun _ _=>rfl)) (aaa (pv 2) aab)) aab))))))))),?_⟩
 refine abb h fun ss Q' q B hK=>?_
 refine exS2 ss q fun n es q1_=>?_
 have n0:=q1_.1
 have n1:=q1_.2.1
 have hin:=q1_.2.2.1
 have hle:=q1_.2.2.2.1
 have hJ:=q1_.2.2.2.2.1
 have k:=q1_.2.2.2.2.2
 clear q1_ q
 show EvS B _ _ [some (.st (webD n es)),none,none,none]
 have hn:1<=n.toNat:=by omega
 obtain ⟨mx,hmx⟩:=ao4 hn (dsF es)
 row_cond go
 refine ⟨n,es,rfl,n0,n1,hin,hle,hJ,abv abt ?_⟩
 row_cond go
 refine ⟨n.toNat,dsF es,rfl,hn,by omega,fun x hx=>?_⟩
 have hxm:x∈(List.range n.toNat).map mx:=by
  obtain ⟨⟨u,v,u0,u1,v0,v1,e⟩,g⟩:=hx
  refine List.mem_map.mpr ⟨u.toNat,List.mem_range.mpr (by omega),?_⟩
  have h1:=(hmx u.toNat).2 (dsF es ((u.toNat:Nat):Int) ((v.toNat:Nat):Int)) (List.mem_map.mpr ⟨v.toNat,List.mem_range.mpr (by omega),rfl⟩)
  rw [show ((u.toNat:Nat):Int)=u by omega,show ((v.toNat:Nat):Int)=v by omega,e] at h1
  obtain ⟨j,hj,e2⟩:=List.mem_map.mp (hmx u.toNat).1
  have:=g u j u0 u1 (by omega) (by have:=List.mem_range.mp hj;omega)
  rw [show ((u.toNat:Nat):Int)=u by omega] at e2
  omega
 obtain ⟨a,ha,hfa⟩:=am5 hxm
 have hal:a < n.toNat:=by have:=(List.getElem?_eq_some_iff.mp ha).1;simpa using this
 have hax:mx a=x:=by
  rw [List.getElem?_map,List.getElem?_range hal] at ha
  simpa using ha
 have hbm:x∈(List.range n.toNat).map fun (i:Nat)=>dsF es (a:Int) (i:Int):=by rw [← hax];exact (hmx a).1
 obtain ⟨b,hb,hfb⟩:=am5 hbm
 have hbl:b < n.toNat:=by have:=(List.getElem?_eq_some_iff.mp hb).1;simpa using this
 have hbx:dsF es (a:Int) (b:Int)=x:=by
  rw [List.getElem?_map,List.getElem?_range hbl] at hb
  simpa using hb
 have hrow:atI (matD n.toNat (dsF es)) (a:Int)=some (.list (rowD n.toNat (dsF es (a:Int)))):=amq (by omega) (by omega)
 row_cond go
 unfold matD
 refine acz (fun u:Nat => .int (mx u)) rfl (by simp;omega) (fun u hu B' hB=>?_) ?_
 ·row_cond go
  rw [afm]
  exact ab1 (by simp;omega) fun x hx=>⟨by rw [acl hx (hmx u)],rfl⟩
 ·refine ⟨(List.range n.toNat).map mx,by rw [List.map_map];rfl,?_⟩
  row_cond go
  refine ⟨x,a,rfl,ha,hfa,?_⟩
  row_cond go
  refine ⟨(List.range n.toNat).map fun (i:Nat)=>dsF es (a:Int) (i:Int),by rw [afm],?_⟩
  row_cond go
  refine ⟨x,b,rfl,hb,hfb,?_⟩
  row_cond go
  refine k x a b ⟨hx,by omega,by omega,by omega,by omega,hbx,fun u v u0 u1 v0 v1 e=>?_⟩
  have hu:(a:Int)<=u:=by
   apply Classical.byContradiction
   intro hlt
   refine hfa u.toNat (by omega) ?_
   rw [List.getElem?_map,List.getElem?_range (by omega)]
   have h1:=(hmx u.toNat).2 (dsF es ((u.toNat:Nat):Int) ((v.toNat:Nat):Int)) (List.mem_map.mpr ⟨v.toNat,List.mem_range.mpr (by omega),rfl⟩)
   rw [show ((u.toNat:Nat):Int)=u by omega,show ((v.toNat:Nat):Int)=v by omega,e] at h1
   obtain ⟨j,hj,e2⟩:=List.mem_map.mp (hmx u.toNat).1
   have:=hx.2 u j u0 (by omega) (by omega) (by have:=List.mem_range.mp hj;omega)
   rw [show ((u.toNat:Nat):Int)=u by omega] at e2
   simp only [Option.map_some,Option.some.injEq]
   omega
  by_cases hau:(a:Int) < u
  ·exact .inl hau
  ·refine .inr ⟨by omega,?_⟩
   apply Classical.byContradiction
   intro hlt
   refine hfb v.toNat (by omega) ?_
   rw [List.getElem?_map,List.getElem?_range (by omega)]
   simp only [Option.map_some,Option.some.injEq]
   rw [show ((v.toNat:Nat):Int)=v by omega,show (a:Int)=u by omega]
   exact e
end
structure HubI (n:Nat) (j:Nat) (hs:List Int) (r:Int->Int):Prop where
 nd:hs.Nodup
 mem:∀ y∈hs,0<=y/\y < n/\r y=0
 hd:∃ rest,hs=0 :: rest
 len:hs.length<=j+1
theorem aee {n:Nat} {m:Int->Int->Int} (hn:1<=n) (m0:∀ u v,0<=m u v) (md:∀ u,m u u=0):∀ (j:Nat) {hs:List Int} {r:Int->Int},hubN n m j=(hs,r)->HubI n j hs r
 | 0,hs,r,e=>by
  cases e
  exact ⟨by simp,fun y hy=>by cases List.mem_singleton.mp hy;exact ⟨by omega,by omega,md 0⟩,⟨[],rfl⟩,by simp⟩
 | j+1,hs,r,e=>by
  obtain ⟨hs0,r0,e0⟩:∃ hs0 r0,hubN n m j=(hs0,r0):=⟨_,_,rfl⟩
  have h:=aee hn m0 md j e0
  by_cases hp:0 < mxF n r0
  ·rw [amz e0 hp] at e
   cases e
   have hi:=amy hn r0
   have hv:r0 (ixF n r0:Int)=mxF n r0:=by
    have:=(ah8 hn r0).1
    unfold abk at this
    rw [List.getElem?_map,List.getElem?_range hi] at this
    exact Option.some.inj this
   have hno:(ixF n r0:Int) ∉ hs0:=fun z=>by have:=(h.mem _ z).2.2;omega
   obtain ⟨rest,hr⟩:=h.hd
   refine ⟨List.nodup_append.mpr ⟨h.nd,by simp,fun x hx y hy e=>?_⟩,fun y hy=>?_,⟨rest ++ [(ixF n r0:Int)],by rw [hr];rfl⟩,by have:=h.len;simp;omega⟩
   ·rw [List.mem_singleton.mp hy] at e;exact hno (e ▸ hx)
   ·rcases List.mem_append.mp hy with q | q
    ·have:=h.mem y q
     refine ⟨this.1,this.2.1,?_⟩
     have h2:=m0 (ixF n r0:Int) y
     unfold nxF
     rw [if_neg (by omega)]
     exact this.2.2
    ·cases List.mem_singleton.mp q
     refine ⟨by omega,by omega,?_⟩
     unfold nxF
     have h2:=md (ixF n r0:Int)
     rw [if_pos (by omega)]
     exact h2
  ·rw [am0 e0 hp] at e
   cases e
   exact ⟨h.nd,h.mem,h.hd,by have:=h.len;omega⟩
theorem ah9 (es:List (Int × Int)) (u v:Int):0<=dsF es u v:=by unfold dsF;omega
theorem ae9 (es:List (Int × Int)) (u:Int):dsF es u u=0:=by unfold dsF;rw [Gr.farO_self];rfl
def aia (n:Int) (es:List (Int × Int)) (k:Int) (ts:List (Int × Int)):Prop:=∃ rest qs:List Int,(hubN n.toNat (dsF es) k.toNat).1=0 :: rest/\qs.Perm rest/\qs.Pairwise (·<=·)/\ts=(qs.filter fun h => !decide ((0,h)∈es)).map fun h=>(0,h)
def aso:VP:=fun ss Q=>∃ (n:Int) (es:List (Int × Int)) (k:Int),ss=[.st (webD n es),.st (.int k)]/\1<=n/\n<=100/\InN n es/\es.length<=5000/\es.Nodup/\Joined n es/\0<=k/\k<=20/\∀ ts qs x a b,aia n es k ts->PutOk n es ts->Rise qs->qs.Perm (es ++ ts)->FarOk n qs x a b->Q (.own (OV (ts.map prD) (.int x)))
theorem ajx {n:Int} {es ts qs:List (Int × Int)} (hJ:Joined n es) (h0:0 < n) (hp:qs.Perm (es ++ ts)):Joined n qs:=Conn.joined (hJ.conn.mono fun u v t=>t.imp (fun z=>hp.mem_iff.mpr (List.mem_append.mpr (.inl z))) (fun z=>hp.mem_iff.mpr (List.mem_append.mpr (.inl z)))) h0
theorem aux {n:Int} {es ts:List (Int × Int)} {k:Int} (hn:1<=n) (nd:es.Nodup) (h:aia n es k ts):PutOk n es ts/\ts.length<=k.toNat:=by
 obtain ⟨rest,qs,e,hp,_,rfl⟩:=h
 obtain ⟨hs,r,e2⟩:∃ hs r,hubN n.toNat (dsF es) k.toNat=(hs,r):=⟨_,_,rfl⟩
 have hI:=aee (n:=n.toNat) (by omega) (ah9 es) (ae9 es) k.toNat e2
 rw [e2] at e
 simp only at e
 subst e
 have hnr:rest.Nodup:=(List.nodup_cons.mp hI.nd).2
 have h0:(0:Int) ∉ rest:=(List.nodup_cons.mp hI.nd).1
 have hq:qs.Nodup:=hp.nodup_iff.mpr hnr
 refine ⟨⟨fun p hp'=>?_,List.nodup_append.mpr ⟨nd,?_,fun x hx y hy e=>?_⟩⟩,?_⟩
 ·obtain ⟨h,hh,rfl⟩:=List.mem_map.mp hp'
  have hr:h∈rest:=hp.mem_iff.mp (List.mem_filter.mp hh).1
  have:=hI.mem h (List.mem_cons_of_mem _ hr)
  have hne:h ≠ 0:=fun z=>h0 (z ▸ hr)
  exact ⟨by simp,by simp only;omega,by simp only;omega⟩
 ·refine (List.Pairwise.filter _ hq).map _ fun a b hab e=>hab (by simpa using e)
 ·subst e
  obtain ⟨h,hh,rfl⟩:=List.mem_map.mp hy
  have:=(List.mem_filter.mp hh).2
  simp only [Bool.not_eq_true',decide_eq_false_iff_not] at this
  exact this hx
 ·rw [List.length_map]
  have h1:=List.length_filter_le (fun h => !decide ((0,h)∈es)) qs
  have h2:=hp.length_eq
  have h3:=hI.len
  simp at h3
  omega
section
variable {P:Program} {w:World} {K:Frag} {mg:Str->Option Value} {base:Heap}
theorem sc_hub_ties:FnScope ["web","k","first","others","ties"] ["web","k"] (aak s_hub_ties):=by row_cond sc
theorem af8 (T:Txt K mg):Can P w K mg base "hub_ties" 10 ["web","k"] (spP K (aso)):=by
 obtain ⟨f,fd,D⟩:=T.d_hub_ties
 refine D.can (D.fn.ok sc_hub_ties (fun vs H Q E h=>lenP h fun ss Q' q=>by obtain ⟨n,es,k,rfl,n0,n1,hin,hle,nd',hJ,k0,k1,kk⟩:=q;rfl) (fun cdv A outer s H vs Q E hr h=>?_))
 have nd:=sc_hub_ties.nd
 refine ⟨_,(aac (acq (aar aas (aaf (am3 T) hr (aaa (pv 0) (aaa (pv 1) aab))) aad (fun _ _=>rfl)) (axh rfl (aao (i:=2) nd rfl (Or.inr rfl)) (aao (i:=3) nd rfl (Or.inl rfl))))
  (aac (afc (i:=4) nd rfl (Or.inl rfl) rfl (N:=["hub","first","web"]) (src:=[none,some 2,some 0]) (by exact abm rfl rfl rfl rfl rfl rfl) (ab4 (aai apn (by rfl) T.b_sorted ac9 (aaa (pv 3) aab))) (fun _ _ _ _=>(aao (i:=0) (show List.Nodup (["hub","first","web"]:List Str) by decide +kernel) rfl (Or.inl rfl) (hf:=Or.inr rfl))) (fun _ _ _ _=>aif (aaz (aeq hr.units) (aa3 (aaa (pv 1) (aaa (pv 0) aab))) (aar (show IxR _ (ab3 K) from aas) (pv 2) aad (fun _ _=>rfl)) rfl)) (fun _ _ _ _=>(aa3 (aaa (pv 1) (aaa (pv 0) aab)))))
  (aag (aau (aa3 (aaa (pv 4) (aaa (aar aas (aaf (ahd T) hr (aaa (aaf (akm T) hr (aaa (pv 0) (aaa (pv 4) aab))) aab)) aad (fun _ _=>rfl)) aab))))))),?_⟩
 refine abb h fun ss Q' q B hK=>?_
 refine exS3 ss q fun n es k q1_=>?_
 have n0:=q1_.1
 have n1:=q1_.2.1
 have hin:=q1_.2.2.1
 have hle:=q1_.2.2.2.1
 have nd':=q1_.2.2.2.2.1
 have hJ:=q1_.2.2.2.2.2.1
 have k0:=q1_.2.2.2.2.2.2.1
 have k1:=q1_.2.2.2.2.2.2.2.1
 have kk:=q1_.2.2.2.2.2.2.2.2
 clear q1_ q
 show EvS B _ _ [some (.st (webD n es)),some (.st (.int k)),none,none,none]
 obtain ⟨hs,r,e2⟩:∃ hs r,hubN n.toNat (dsF es) k.toNat=(hs,r):=⟨_,_,rfl⟩
 have hI:=aee (n:=n.toNat) (by omega) (ah9 es) (ae9 es) k.toNat e2
 obtain ⟨rest,rfl⟩:=hI.hd
 have hrl:rest.length<=20:=by have:=hI.len;simp at this;omega
 row_cond go
 refine ⟨n,es,k,rfl,n0,n1,hin,by omega,hJ,k0,k1,?_⟩
 rw [agr e2]
 repeat (first | (refine aup ?_) | (refine ab7 (arx ?_)) | row_cond st)
 refine ⟨rest,rfl,by omega,fun qs hp hs=>aer ?_⟩
 have hT:aia n es k ((qs.filter fun h => !decide ((0,h)∈es)).map fun h=>(0,h)):=⟨rest,qs,by rw [e2],hp,hs,rfl⟩
 obtain ⟨hPut,htl⟩:=aux n0 nd' hT
 row_cond go
 refine ajp (xs:=qs) (f:=PyData.int) (fun h=>prD (0,h)) (fun h => !decide ((0,h)∈es)) rfl (by rw [hp.length_eq];omega) (fun h hh B' hB=>?_) ?_
 ·row_cond go
  refine agk (af3 (_,_)) (adh es) (Nat.le_trans (ad5 (_,_)) (by decide)) ?_
  rw [if_pos rfl,show PyData.tuple [PyData.int 0,PyData.int h]=prD (0,h) from rfl,ai0]
  row_cond go
  intro _
  row_cond go
  exact rfl
 ·rw [show (qs.filter fun h => !decide ((0,h)∈es)).map (fun h=>prD (0,h))=((qs.filter fun h => !decide ((0,h)∈es)).map fun h=>((0:Int),h)).map prD by rw [List.map_map];rfl]
  generalize (qs.filter fun h => !decide ((0,h)∈es)).map (fun h=>((0:Int),h))=ts at hT hPut htl
  repeat (first | (refine auq rfl ?_;refine asb (i:=4) (.inl rfl) abt fun B' hB=>?_) | row_cond st)
  row_cond go
  refine ⟨n,es,ts,rfl,by omega,by omega,hPut,fun q2 hr hq=>?_⟩
  row_cond go
  refine ⟨n,q2,rfl,n0,n1,fun p hp'=>?_,by rw [hq.length_eq];simp;omega,ajx hJ (by omega) hq,fun x a b hF=>?_⟩
  ·rcases List.mem_append.mp (hq.mem_iff.mp hp') with z | z
   ·exact hin p z
   ·have:=hPut.inn p z
    exact ⟨by omega,by omega,by omega,by omega⟩
  ·row_cond go
   exact kk ts q2 x a b hT hPut hr hq hF
end
mutual
noncomputable def fewD:PyData->Bool
 | .list xs | .tuple xs=>decide (xs.length<=1000) && fewDs xs
 | _=>true
noncomputable def fewDs:List PyData->Bool
 | []=>true
 | x :: xs=>fewD x && fewDs xs
end
theorem ajy (ds:List PyData):fewDs ds=true ↔ ∀ d∈ds,fewD d=true:=by
 induction ds with
 | nil=>simp [fewDs]
 | cons d ds ih=>simp [fewDs,ih]
theorem asp {ds:List PyData} (h:(decide (ds.length<=1000) && fewDs ds)=true):ds.length<=1000/\∀ d∈ds,fewD d=true:=by
 have:ds.length<=1000/\fewDs ds=true:=by simpa using h
 exact ⟨this.1,(ajy ds).mp this.2⟩
theorem ahe:∀ (ds:List PyData) (d:PyData),d∈ds->d.depth<=PyData.depthAll ds
 | x :: xs,d,h=>by
  have e:PyData.depthAll (x :: xs)=max x.depth (PyData.depthAll xs):=by simp [PyData.depthAll]
  rw [e]
  rcases List.mem_cons.mp h with rfl | h
  ·exact Nat.le_max_left _ _
  ·exact Nat.le_trans (ahe xs d h) (Nat.le_max_right _ _)
theorem am6 {α:Type} (l:List α):l.filter (fun _=>false)=[]:=List.filter_eq_nil_iff.mpr fun _ _=>by simp
def az5 (d:Nat):VP:=fun ss Q=>∃ D:PyData,ss=[.st D,.st D]/\aap D=true/\D.depth+1<=d/\D.depth<=60/\fewD D=true/\Q (.st (.bool true))
section
variable {P:Program} {w:World} {K:Frag} {mg:Str->Option Value} {base:Heap}
theorem sc_law_same:FnScope ["found","due"] ["found","due"] (aak s_law_same):=by row_cond sc
theorem am7 (T:Txt K mg):∀ d,Can P w K mg base "_law_same" d ["found","due"] (spP K (az5 d)):=by
 intro d
 obtain ⟨f,fd,D⟩:=T.d_law_same
 induction d with
 | zero=>exact D.can ⟨fun vs H Q E h=>(by obtain ⟨G,ss,Q',_,_,_,q,_⟩:=h;obtain ⟨D,_,_,h0,_⟩:=q;omega),fun A outer s H args us vs Q E _ _ _ _ h=>(by obtain ⟨G,ss,Q',_,_,_,q,_⟩:=h;obtain ⟨D,_,_,h0,_⟩:=q;omega)⟩
 | succ d ih =>
  refine D.can (D.fn.ok sc_law_same (fun vs H Q E h=>lenP h fun ss Q' q=>by obtain ⟨D,rfl,_⟩:=q;rfl) (fun cdv A outer s H vs Q E hr h=>?_))
  have nd:=sc_law_same.nd
  refine ⟨_,(aac (abf (acw (aai arb (by rfl) T.b_isinstance aa0 (aaa (pv 1) (aaa (aa3 (aaa (abu (v:=.ty "list") rfl T.b_list aec rfl) (aaa (abu (v:=.ty "tuple") rfl T.b_tuple afd rfl) aab))) aab))))
   (aac (abf (PW.pt (akn (aaz ako (aai abw (by rfl) T.b_isinstance aa0 (aaa (pv 0) (aaa (abu (v:=.ty "tuple") rfl T.b_tuple afd rfl) aab))) (aai abw (by rfl) T.b_isinstance aa0 (aaa (pv 1) (aaa (abu (v:=.ty "tuple") rfl T.b_tuple afd rfl) aab))) (aa1 _)) (ahf (aaz ako (aai abw (by rfl) T.b_isinstance aa0 (aaa (pv 0) (aaa (abu (v:=.ty "list") rfl T.b_list aec rfl) aab))) (aai abw (by rfl) T.b_isinstance aa0 (aaa (pv 1) (aaa (abu (v:=.ty "list") rfl T.b_list aec rfl) aab))) (aa1 _)))))
     (aag (aau aga))
     aa2)
    (aac (abf (aaz ako (aai abj (by rfl) T.b_len acn (aaa (pv 0) aab)) (aai abj (by rfl) T.b_len acn (aaa (pv 1) aab)) (aa1 _))
     (aag (aau aga))
     aa2)
    (aag (aau (ac5 (ald hr.units) (adf rfl (N:=["k","found","due"]) (src:=[none,some 0,some 1]) (by exact abm rfl rfl rfl rfl rfl rfl) (abi rfl T.b_range (aaa (aai abj (by rfl) T.b_len acn (aaa (pv 1) aab)) aab)) (fun _ _ _ _=>(aao (i:=0) (show List.Nodup (["k","found","due"]:List Str) by decide +kernel) rfl (Or.inl rfl) (hf:=Or.inr rfl))) (fun _ _ _ _=>aif (adz (acw (aaf ih hr (aaa (aar (show IxR _ (ab3 K) from aas) (pv 1) (pv 0) (fun _ _=>rfl)) (aaa (aar (show IxR _ (ab3 K) from aas) (pv 2) (pv 0) (fun _ _=>rfl)) aab)) (hj:=Nat.le_refl _))))) (fun _ _ _ _=>(pv 0))) (aa5 aab) (aa1 _))))))
   aa2)
  (aac (abf (acw (aai abw (by rfl) T.b_isinstance aa0 (aaa (pv 1) (aaa (abu (v:=.ty "str") rfl T.b_str aq7 rfl) aab))))
   (aag (aau (ad0 (aai abw (by rfl) T.b_isinstance aa0 (aaa (pv 0) (aaa (abu (v:=.ty "str") rfl T.b_str aq7 rfl) aab))) (aey (ac5 (ald hr.units) (pv 0) (pv 1) (aa1 _))))))
   aa2)
  (aac (abf (aaz agf (pv 1) aef (aa1 _))
   (aag (aau (ac5 agf (pv 0) aef (aa1 _))))
   aa2)
  (aag (aau (ad0 (aai abw (by rfl) T.b_isinstance aa0 (aaa (pv 0) (aaa (abu (v:=.ty "int") rfl T.b_int ak8 rfl) aab))) (ad0 (aqj (aai abw (by rfl) T.b_isinstance aa0 (aaa (pv 0) (aaa (abu (v:=.ty "bool") rfl T.b_bool an4 rfl) aab)))) (aey (ac5 (ald hr.units) (pv 0) (pv 1) (aa1 _)))))))))),?_⟩
  refine abb h fun ss Q' q B hK=>?_
  refine exS1 ss q fun D q1_=>?_
  have pl:=q1_.1
  have hd:=q1_.2.1
  have hd6:=q1_.2.2.1
  have hfew:=q1_.2.2.2.1
  have k:=q1_.2.2.2.2
  clear q1_ q
  show EvS B _ _ [some (.st D),some (.st D)]
  repeat (first | (refine axg ?_) | row_cond st)
  cases D with
  | none =>
   refine abx ?_
   row_cond go
   refine abx ?_
   row_cond go
   refine abr ?_
   row_cond go
   exact k
  | int i =>
   refine abx ?_
   row_cond go
   refine abx ?_
   row_cond go
   refine abx ?_
   row_cond go
   refine abr ?_
   row_cond go
   refine abr ?_
   row_cond go
   refine aiu rfl rfl (by simp [PyData.depth]) ?_
   rw [show PyData.eqv (.int i) (.int i)=true by simp [PyData.eqv]]
   row_cond go
   exact k
  | tuple ds =>
   refine abr ?_
   have hf:=asp (ds:=ds) (by simpa [fewD] using hfew)
   have hl:=hf.1
   have hpd:=(ads ds).mp (by simpa [aap] using pl)
   have hdd:PyData.depthAll ds+1<=d/\PyData.depthAll ds<=59:=by simp only [PyData.depth] at hd hd6;omega
   row_cond go
   refine ag8 (fun d=>d) (fun _=>false) rfl (by rw [ab0];omega) (fun z hz B' hB'=>?_) ?_
   ·obtain ⟨j,hj⟩:=List.getElem?_of_mem hz
    obtain ⟨hi,rfl⟩:=adl hj
    have hi':j < ds.length:=by omega
    have hat:atI ds (0+(j:Int))=some ds[j]:=by rw [Int.zero_add];exact ac6 (List.getElem?_eq_getElem hi')
    have hdi:=ahe ds ds[j] (List.getElem_mem hi')
    row_cond go
    refine ⟨ds[j],rfl,hpd _ (List.getElem_mem hi'),by omega,by omega,hf.2 _ (List.getElem_mem hi'),?_⟩
    row_cond go
    exact fun q=>by cases q
   ·rw [am6]
    row_cond go
    refine aiu rfl rfl (by simp [PyData.depth,PyData.depthAll]) ?_
    row_cond go
    exact k
  | list ds =>
   refine abr ?_
   have hf:=asp (ds:=ds) (by simpa [fewD] using hfew)
   have hl:=hf.1
   have hpd:=(ads ds).mp (by simpa [aap] using pl)
   have hdd:PyData.depthAll ds+1<=d/\PyData.depthAll ds<=59:=by simp only [PyData.depth] at hd hd6;omega
   row_cond go
   refine ag8 (fun d=>d) (fun _=>false) rfl (by rw [ab0];omega) (fun z hz B' hB'=>?_) ?_
   ·obtain ⟨j,hj⟩:=List.getElem?_of_mem hz
    obtain ⟨hi,rfl⟩:=adl hj
    have hi':j < ds.length:=by omega
    have hat:atI ds (0+(j:Int))=some ds[j]:=by rw [Int.zero_add];exact ac6 (List.getElem?_eq_getElem hi')
    have hdi:=ahe ds ds[j] (List.getElem_mem hi')
    row_cond go
    refine ⟨ds[j],rfl,hpd _ (List.getElem_mem hi'),by omega,by omega,hf.2 _ (List.getElem_mem hi'),?_⟩
    row_cond go
    exact fun q=>by cases q
   ·rw [am6]
    row_cond go
    refine aiu rfl rfl (by simp [PyData.depth,PyData.depthAll]) ?_
    row_cond go
    exact k
  | _=>cases pl
end
theorem auy {es gs:List (Int × Int)} (h:∀ u v,Tied es u v ↔ Tied gs u v):dsF es=dsF gs:=by
 have:Tied es=Tied gs:=funext fun u=>funext fun v=>propext (h u v)
 unfold dsF
 rw [this]
def aqf (K:Frag):Sp:=fun vs H Q _=>∃ (a:Addr) (ns:List Int),vs=[.ref a]/\SqL K H a (ns.map V.int)/\ns.length<=63/\∀ H',Q (.bl true) H'
def avn:VP:=fun ss Q=>∃ ns:List Int,ss=[.scr ns]/\ns.length<=63/\Q (.st (.bool true))
theorem auz {K:Frag} {vs:List V} {H:Hp} {Q:VK} {E:XK} (h:aqf K vs H Q E):spP K avn vs H Q E:=by
 obtain ⟨a,ns,rfl,hS,hl,k⟩:=h
 refine ⟨H,[.scr ns],fun s=>s=.st (.bool true),Same.refl _,fun a ks h=>h,.cons ⟨a,rfl,hS⟩ .nil,⟨ns,rfl,hl,rfl⟩,fun s e v G' H' Fv o=>?_⟩
 subst e
 have r:=o.ok.1
 cases r
 exact k _
theorem webP (n:Int) (es:List (Int × Int)):aap (webD n es)=true:=by
 have:=adh es
 simp only [webD,aap,plainDs,this,Bool.and_self]
theorem avo (n:Int) (es:List (Int × Int)):(webD n es).depth<=60:=by
 have h:PyData.depthAll (es.map prD)<=1:=agx fun d hd=>by
  obtain ⟨p,_,rfl⟩:=List.mem_map.mp hd
  exact ad5 p
 simp only [webD,PyData.depth,PyData.depthAll]
 omega
theorem az6 (ps:List (Int × Int)):fewDs (ps.map prD)=true/\plainDs (ps.map prD)=true/\PyData.depthAll (ps.map prD)<=1:=by
 refine ⟨(ajy _).mpr fun d hd=>?_,adh ps,agx fun d hd=>?_⟩ <;> obtain ⟨x,_,rfl⟩:=List.mem_map.mp hd
 ·rfl
 ·exact ad5 x
theorem dueV {x:Int} {ps:List (Int × Int)} (h:ps.length<=1000):aap (.tuple [.list (ps.map prD),.int x])=true/\(PyData.tuple [.list (ps.map prD),.int x]).depth+1<=4/\(PyData.tuple [.list (ps.map prD),.int x]).depth<=60/\fewD (.tuple [.list (ps.map prD),.int x])=true:=by
 obtain ⟨h1,h2,h3⟩:=az6 ps
 refine ⟨by simp [aap,plainDs,h2],?_,?_,by simp [fewD,fewDs,h1,h]⟩ <;> simp only [PyData.depth,PyData.depthAll] <;> omega
theorem asq {n:Int} {es:List (Int × Int)} {k:Int} {ts us:List (Int × Int)} {hs:List Int} {r:Int->Int} (hT:aia n es k ts) (hn:1<=n) (e:hubN n.toNat (dsF es) k.toNat=(hs,r)) (hp:us.Perm ((hs.filter fun h=>decide (0 < h) && !decide ((0,h)∈es)).map fun h=>(0,h))) (hu:lexS (us.map p2)):us=ts:=by
 have hI:=aee (n:=n.toNat) (by omega) (ah9 es) (ae9 es) k.toNat e
 obtain ⟨rest,qs,e1,hq,hs2,rfl⟩:=hT
 rw [e] at e1
 simp only at e1
 subst e1
 have hnr:rest.Nodup:=(List.nodup_cons.mp hI.nd).2
 have h0:(0:Int) ∉ rest:=(List.nodup_cons.mp hI.nd).1
 have hqn:qs.Nodup:=hq.nodup_iff.mpr hnr
 have hnd:(((0 :: rest).filter fun h=>decide (0 < h) && !decide ((0,h)∈es)).map fun h=>((0:Int),h)).Nodup:=(List.Pairwise.filter _ hI.nd).map _ fun a b hab e=>hab (by simpa using e)
 refine (aiz hp hnd hu).eq ?_ fun p=>?_
 ·refine List.pairwise_map.mpr (List.Pairwise.filter _ ((hs2.and hqn).imp fun {a b} hab => .inr ⟨rfl,?_⟩))
  have h1:=hab.1
  have h2:=hab.2
  simp only
  omega
 ·rw [hp.mem_iff]
  constructor
  ·intro h
   obtain ⟨x,hx,rfl⟩:=List.mem_map.mp h
   obtain ⟨h1,h2⟩:=List.mem_filter.mp hx
   simp only [Bool.and_eq_true,decide_eq_true_eq] at h2
   have hxr:x∈rest:=by
    rcases List.mem_cons.mp h1 with z | z
    ·omega
    ·exact z
   exact List.mem_map.mpr ⟨x,List.mem_filter.mpr ⟨hq.mem_iff.mpr hxr,h2.2⟩,rfl⟩
  ·intro h
   obtain ⟨x,hx,rfl⟩:=List.mem_map.mp h
   obtain ⟨h1,h2⟩:=List.mem_filter.mp hx
   have hxr:=hq.mem_iff.mp h1
   have h3:=hI.mem x (List.mem_cons_of_mem _ hxr)
   have h4:x ≠ 0:=fun z=>h0 (z ▸ hxr)
   exact List.mem_map.mpr ⟨x,List.mem_filter.mpr ⟨List.mem_cons_of_mem _ hxr,by rw [decide_eq_true (show 0 < x by omega)];exact h2⟩,rfl⟩
theorem a09 {n:Nat} (hn:1<=n) (r:Int->Int) {y:Int} (y0:0<=y) (y1:y < n):r y<=mxF n r:=by
 refine (ael hn r).2 _ ?_
 unfold abk
 exact List.mem_map.mpr ⟨y.toNat,List.mem_range.mpr (by omega),by rw [show ((y.toNat:Nat):Int)=y by omega]⟩
theorem axt {n:Nat} {d:Int->Int->Int} {x m:Int} (hn:1<=n) (h:aqb n d x) (hm:adt ((List.range n).map fun u:Nat=>mxF n (d (u:Int))) m):m=x:=by
 obtain ⟨u,hu,eu⟩:=List.mem_map.mp hm.1
 have hu':=List.mem_range.mp hu
 have h1:=(ael hn (d (u:Int))).1
 unfold abk at h1
 obtain ⟨v,hv,ev⟩:=List.mem_map.mp h1
 have hv':=List.mem_range.mp hv
 have h2:=h.2 (u:Int) (v:Int) (by omega) (by omega) (by omega) (by omega)
 obtain ⟨a,b,a0,a1,b0,b1,eab⟩:=h.1
 have h3:=a09 hn (d a) b0 b1
 have h4:=hm.2 (mxF n (d a)) (List.mem_map.mpr ⟨a.toNat,List.mem_range.mpr (by omega),by rw [show ((a.toNat:Nat):Int)=a by omega]⟩)
 omega
theorem a1a {n:Int} {es us:List (Int × Int)} {k:Int} {hs:List Int} {r:Int->Int} (hn:1<=n) (hin:InN n es) (e:hubN n.toNat (dsF es) k.toNat=(hs,r)) (hp:us.Perm ((hs.filter fun h=>decide (0 < h) && !decide ((0,h)∈es)).map fun h=>(0,h))):InN n (es ++ us)/\us.length<=k.toNat+1:=by
 have hI:=aee (n:=n.toNat) (by omega) (ah9 es) (ae9 es) k.toNat e
 refine ⟨fun p h=>?_,?_⟩
 ·rcases List.mem_append.mp h with z | z
  ·exact hin p z
  ·obtain ⟨x,hx,rfl⟩:=List.mem_map.mp (hp.mem_iff.mp z)
   have:=hI.mem x (List.mem_filter.mp hx).1
   exact ⟨by simp only;omega,by simp only;omega,by simp only;omega,by simp only;omega⟩
 ·rw [hp.length_eq,List.length_map]
  exact Nat.le_trans (List.length_filter_le _ _) hI.len
section
variable {P:Program} {w:World} {K:Frag} {mg:Str->Option Value} {base:Heap}
theorem sc_law:FnScope ["script","at","store","web","handed","k","ties","more","due","found"] ["script"] (aak s_law):=by row_cond sc
theorem axu (T:Txt K mg) {f:Addr} {fd:FuncData} (D:DefAt K mg "law" s_law ["script"] f fd):FnOk P w K mg base CX0 12 f fd ["script"] (spP K (avn)):=by
 refine D.fn.ok sc_law (fun vs H Q E h=>lenP h fun ss Q' q=>by obtain ⟨ns,rfl,hns,kk⟩:=q;rfl) (fun cdv A outer s H vs Q E hr h=>?_)
 have nd:=sc_law.nd
 refine ⟨_,(aac (acd PassesOwn.never rfl (abi rfl T.b_range (aaa (aai (acu rfl) (by rfl) T.b_min ae1 (aaa (aai (ahn rfl) (by rfl) T.b_max acg (aaa (aai abj (by rfl) T.b_len acn (aaa (pv 0) aab)) (aaa aad aab))) (aaa aad aab))) aab)) (aao (i:=1) nd rfl (Or.inl rfl))
   (aac (aam (i:=2) nd rfl (Or.inl rfl) (aaf (aki T) hr (aaa (aaf (amt T) hr (aaa (pv 0) (aaa (pv 1) aab))) aab)))
    (aac (aam (i:=3) nd rfl (Or.inr rfl) (aaf (anp T) hr (aaa (pv 2) aab)))
    (aac (aam (i:=4) nd rfl (Or.inl rfl) (aa3 (aaa (aar aas (pv 3) aad (fun _ _=>rfl)) (aaa (afs apv (by rfl) T.b_list aec (aaa (aar aas (pv 3) aad (fun _ _=>rfl)) aab)) aab))))
    (aag (acd PassesOwn.never rfl (ab4 (aa5 (aaa (aaf (aal T) hr (aaa (pv 2) (aaa aad aab))) (aaa (aar aas (aa5 (aaa (aaf (aal T) hr (aaa (pv 2) (aaa aad aab))) (aaa aad (aaa aad aab)))) (aaf (aal T) hr (aaa (pv 2) (aaa aad aab))) (fun _ _=>rfl)) aab)))) (aao (i:=5) nd rfl (Or.inl rfl))
     (aac (aam (i:=6) nd rfl (Or.inl rfl) (aai aeb (by rfl) T.b_sorted ac9 (aaa (adf rfl (N:=["place","web"]) (src:=[none,some 3]) (by exact abm rfl rfl rfl rfl rfl rfl) (ab4 (aar aas (aaf (am4 T) hr (aaa (pv 3) (aaa (pv 5) aab))) aad (fun _ _=>rfl))) (fun _ _ _ _=>(aao (i:=0) (show List.Nodup (["place","web"]:List Str) by decide +kernel) rfl (Or.inl rfl) (hf:=Or.inr rfl))) (fun _ _ _ _=>aif (PW.pt (aky (aaz afa (pv 0) aad (aa1 _)) (aib (aaz (aeq hr.units) (aa3 (aaa aad (aaa (pv 0) aab))) (aar (show IxR _ (ab3 K) from aas) (pv 1) aad (fun _ _=>rfl)) rfl))))) (fun _ _ _ _=>(aa3 (aaa aad (aaa (pv 0) aab))))) aab)))
      (aac (aam (i:=7) nd rfl (Or.inr rfl) (aa3 (aaa (aar aas (pv 3) aad (fun _ _=>rfl)) (aaa (aaq ahj (aar aas (pv 3) aad (fun _ _=>rfl)) (pv 6)) aab))))
      (aac (aam (i:=8) nd rfl (Or.inl rfl) (aa3 (aaa (pv 6) (aaa (aai (abq rfl) (by rfl) T.b_max acg (aaa (adf rfl (N:=["place","more"]) (src:=[none,some 7]) (by exact abm rfl rfl rfl rfl rfl rfl) (abi rfl T.b_range (aaa (aar aas (pv 3) aad (fun _ _=>rfl)) aab)) (fun _ _ _ _=>(aao (i:=0) (show List.Nodup (["place","more"]:List Str) by decide +kernel) rfl (Or.inl rfl) (hf:=Or.inr rfl))) (fun _ _ _ _=>ab5) (fun _ _ _ _=>(aai (show abe _ (.builtin "max") (age K) from (abq rfl)) (by rfl) T.b_max acg (aaa (aaf (ac0 T) hr (aaa (pv 1) (aaa (pv 0) aab))) aab)))) aab)) aab))))
      (aac (aam (i:=9) nd rfl (Or.inl rfl) (aaf (af8 T) hr (aaa (pv 4) (aaa (pv 5) aab))))
      (aac (abf (PW.pt (akn (adz (acw (aaf (am7 T 4) hr (aaa (pv 9) (aaa (pv 8) aab))))) (ahf (aaz (ale hr.units) (pv 4) (pv 3) (aa1 _)))))
       (aag (aau aga))
       aa2)
      (aac (abh (ab2 PySem.F.plainAttrs_list PySem.F.slot_list_append PySem.F.type_list_append abc (aar aas (pv 9) aad (fun _ _=>rfl)) (aaa (aa3 (aaa aad (aaa aad aab))) aab)))
      (aag (abf (PW.pt (akn (aaz (ale hr.units) (aaf (af8 T) hr (aaa (pv 4) (aaa (pv 5) aab))) (pv 8) (aa1 _)) (ahf (aaz (ale hr.units) (pv 4) (pv 3) (aa1 _)))))
       (aag (aau aga))
       aa2))))))))))))))
  (aag (aau aga))),?_⟩
 refine abb h fun ss Q' q B hK=>?_
 refine exS1 ss q fun ns q1_=>?_
 have hns:=q1_.1
 have kk:=q1_.2
 clear q1_ q
 show EvS B _ _ [some (.scr ns),none,none,none,none,none,none,none,none,none]
 row_cond go
 refine adm (fun i e=>∃ v1 v2 v3 v4 v5 v6 v7 v8 v9,e=[some (.scr ns),v1,v2,v3,v4,v5,v6,v7,v8,v9]) ⟨_,_,_,_,_,_,_,_,_,rfl⟩ ?_ ?_
 ·rintro i e hi q0_
  refine exE9 e q0_ fun v1 v2 v3 v4 v5 v6 v7 v8 v9=>?_
  clear q0_
  have hi20:(i:Int) < 20:=by
   revert hi
   split <;> split <;> omega
  row_cond go
  refine ⟨ns,0+(i:Int),rfl,by omega,by omega,fun c=>?_⟩
  row_cond go
  refine ⟨c,rfl,fun g t u=>?_⟩
  repeat (first | (refine auu 2 rfl ?_) | row_cond st)
  refine ⟨rfl,rfl,fun n es hW=>?_⟩
  have hn:=hW.lo
  have hn6:=hW.hi
  have hin:=hW.inn
  have hJ:Joined n es:=hW.conn.joined (by omega)
  have hlen:=hW.len
  have hn1:1<=n.toNat:=by omega
  repeat (first | (refine aui ?_) | row_cond st)
  refine ⟨_,rfl,abv al6 ?_⟩
  row_cond go
  refine ⟨4,rfl,rfl,by omega,by omega,fun r1 r1a r1b=>?_⟩
  row_cond go
  refine ⟨21,rfl,rfl,by omega,by omega,fun r2 r2a r2b=>?_⟩
  row_cond go
  refine ⟨3,rfl,rfl,by omega,by omega,fun r3 r3a r3b=>?_⟩
  obtain ⟨y,hy,y0,y1⟩:∃ y:Int,atI [PyData.int r2,PyData.int 0,PyData.int 20] r3=some (.int y)/\0<=y/\y<=20:=by
   rcases (show r3=0\/r3=1\/r3=2 by omega) with rfl | rfl | rfl <;> exact ⟨_,rfl,by omega,by omega⟩
  row_cond go
  refine acy (xs:=[r1,y]) (f:=PyData.int) (fun j e=>∃ v5 v6 v7 v8 v9,e=[some (.scr ns),some (.st (.int (0+(i:Int)))),some (.own OSt),some (.st (webD n es)),some (.st (webD n es)),v5,v6,v7,v8,v9]) ⟨_,_,_,_,_,rfl⟩ ?_ ?_
  ·rintro j k e hj q0_
   refine exE5 e q0_ fun v5 v6 v7 v8 v9=>?_
   clear q0_
   obtain ⟨k0,k1⟩:0<=k/\k<=20:=by
    have:=List.mem_of_getElem? hj
    simp only [List.mem_cons,List.not_mem_nil,or_false] at this
    rcases this with rfl | rfl <;> omega
   obtain ⟨hs,r,eH⟩:∃ hs r,hubN n.toNat (dsF es) k.toNat=(hs,r):=⟨_,_,rfl⟩
   have hI:=aee hn1 (ah9 es) (ae9 es) k.toNat eH
   have hhl:hs.length<=21:=by have:=hI.len;omega
   repeat (first | (refine ap9 ?_) | row_cond st)
   refine ⟨n,es,k,rfl,hn,by omega,hin,by omega,hJ,k0,k1,?_⟩
   rw [agr eH]
   row_cond go
   refine ajp (xs:=hs) (f:=PyData.int) (fun h=>prD (0,h)) (fun h=>decide (0 < h) && !decide ((0,h)∈es)) rfl (by omega) (fun h hh B' hB=>?_) ?_
   ·by_cases h0:0 < h
    ·row_cond go
     refine agk (af3 (_,_)) (adh es) (Nat.le_trans (ad5 (_,_)) (by decide)) ?_
     rw [if_pos rfl,show PyData.tuple [PyData.int 0,PyData.int h]=prD (0,h) from rfl,ai0]
     row_cond go
     refine ⟨by rw [decide_eq_true h0];rfl,rfl,fun _=>?_⟩
     row_cond go
     exact rfl
    ·row_cond go
     exact ⟨by rw [decide_eq_false h0];rfl,rfl,fun z=>nomatch z⟩
   ·row_cond go
    refine ⟨(hs.filter fun h=>decide (0 < h) && !decide ((0,h)∈es)).map fun h=>(0,h),by rw [List.map_map];rfl,fun us hus hls=>abv abt ?_⟩
    obtain ⟨hui,hul⟩:=a1a hn hin eH hus
    have hlm:(es ++ us).length<=4000:=by rw [List.length_append];omega
    have hJm:Joined n (es ++ us):=ajx hJ (by omega) (List.Perm.refl _)
    row_cond go
    rw [← List.map_append]
    unfold rngD
    refine acz (fun u:Nat => .int (mxF n.toNat (dsF (es ++ us) (u:Int)))) rfl (by simp;omega) (fun u hu B' hB=>?_) ?_
    ·have hu1:=List.mem_range.mp hu
     row_cond go
     refine ⟨n,0+(u:Int),es ++ us,rfl,by omega,hui,by omega,by omega,by omega,?_⟩
     rw [agp hJm (by omega) (by omega),adq]
     row_cond go
     refine ab1 (adb hn1 _) fun x hx=>?_
     rw [Int.zero_add] at hx
     rw [acl hx (ael hn1 _)]
     exact ⟨rfl,rfl⟩
    ·row_cond go
     rw [show (List.range n.toNat).map (fun u:Nat=>PyData.int (mxF n.toNat (dsF (es ++ us) (u:Int))))=((List.range n.toNat).map fun u:Nat=>mxF n.toNat (dsF (es ++ us) (u:Int))).map .int by rw [List.map_map];rfl]
     refine ab1 (by simp;omega) fun m hm=>?_
     row_cond go
     have key:∀ ts q2s x a b,aia n es k ts->Rise q2s->q2s.Perm (es ++ ts)->FarOk n q2s x a b->us=ts/\m=x:=fun ts q2s x a b hT hR hp2 hF=>by
      obtain rfl:=asq hT hn eH hus hls
      refine ⟨rfl,axt hn1 ?_ hm⟩
      rw [← auy (es:=q2s) (gs:=es ++ us) fun u v=>or_congr hp2.mem_iff hp2.mem_iff]
      exact hF.top
     obtain ⟨o1,o2,o3,o4⟩:=dueV (x:=m) (ps:=us) (by omega)
     refine ⟨n,es,k,rfl,hn,by omega,hin,by omega,hW.ps.nd,hJ,k0,k1,fun ts q2s x a b hT hPut hR hp2 hF=>?_⟩
     obtain ⟨rfl,rfl⟩:=key ts q2s x a b hT hR hp2 hF
     have hfz:=asc (ds:=us.map prD) (d:=.int m)
     repeat (first | (refine al9 (.inl rfl) ?_) | row_cond st)
     refine ⟨_,rfl,o1,o2,o3,o4,_,rfl,rfl,?_⟩
     row_cond go
     refine aiv (webP n es) (webP n es) (avo n es) ?_
     rw [ag9 (webP n es)]
     repeat (first | (refine anm rfl (by rw [List.length_map];omega) ?_) | row_cond st)
     refine ⟨n,es,k,rfl,hn,by omega,hin,by omega,hW.ps.nd,hJ,k0,k1,fun ts q2s x a b hT hPut hR hp2 hF=>?_⟩
     obtain ⟨rfl,rfl⟩:=key ts q2s x a b hT hR hp2 hF
     refine a06 ?_
     dsimp only [List.set_cons_zero,List.set_cons_succ]
     row_cond go
     refine aiv o1 o1 o3 ?_
     rw [ag9 o1]
     row_cond go
     refine aiv (webP n es) (webP n es) (avo n es) ?_
     rw [ag9 (webP n es)]
     row_cond go
     exact ⟨_,_,_,_,_,rfl⟩
  ·rintro e q0_
   refine exE5 e q0_ fun v5 v6 v7 v8 v9=>?_
   clear q0_
   exact ⟨_,_,_,_,_,_,_,_,_,rfl⟩
 ·rintro e q0_
  refine exE9 e q0_ fun v1 v2 v3 v4 v5 v6 v7 v8 v9=>?_
  clear q0_
  row_cond go
  exact kk
theorem az7 (T:Txt K mg) {f:Addr} {fd:FuncData} (D:DefAt K mg "law" s_law ["script"] f fd):FnOk P w K mg base CX0 12 f fd ["script"] (aqf K):=(axu T D).imp fun _ _ _ _ h=>auz h
end
theorem len0 {α:Type} {us:List α} (h:us.length=0):us=[]:=List.eq_nil_of_length_eq_zero h
theorem len1 {α:Type} {us:List α} (h:us.length=1):∃ a0,us=[a0]:=by
 cases us with
 | nil=>cases h
 | cons a us=>exact ⟨a,by rw [len0 (Nat.succ.inj h)]⟩
theorem len2 {α:Type} {us:List α} (h:us.length=2):∃ a0 a1,us=[a0,a1]:=by
 cases us with
 | nil=>cases h
 | cons a us=>obtain ⟨a1,e⟩:=len1 (Nat.succ.inj h);exact ⟨a,a1,by rw [e]⟩
theorem len3 {α:Type} {us:List α} (h:us.length=3):∃ a0 a1 a2,us=[a0,a1,a2]:=by
 cases us with
 | nil=>cases h
 | cons a us=>obtain ⟨a1,a2,e⟩:=len2 (Nat.succ.inj h);exact ⟨a,a1,a2,by rw [e]⟩
def Bnd (x:Str) (st:Stmt) (ps:List Str):Prop:=∀ (kV doc pm:Value) (an:Option Addr) (cdv ct:Value) (us:List Value),us.length=ps.length->bindArgs (fnOf x x (aco st) (acf st) (aak st) .none kV doc pm an cdv ct) ⟨us,[]⟩=pure (ps.zip us)
def FnIn (K:Frag) (x:Str) (st:Stmt):Prop:=∃ f oc od kV dc pm an cd ct sl,nsIn K mainGlobals x=some (some (.ref f))/\K.lookup f=some ⟨oc,od,.func (fnOf x x (aco st) (acf st) (aak st) .none kV dc pm an cd ct),sl⟩/\codeIn K cd x=true/\keepIn K (.ref f)=true
theorem fn_in {K:Frag} {x:Str} {st:Stmt} {f:Addr} {od an:Option Addr} {sl:Array (Option Value)} {oc kV dc pm cd ct:Value} (a:nsIn K mainGlobals x=some (some (.ref f))) (l:K.lookup f=some ⟨oc,od,.func (fnOf x x (aco st) (acf st) (aak st) .none kV dc pm an cd ct),sl⟩) (c:codeIn K cd x=true) (k:keepIn K (.ref f)=true):FnIn K x st:=⟨f,oc,od,kV,dc,pm,an,cd,ct,sl,a,l,c,k⟩
theorem bnd1 {st:Stmt} {x:Str} {ps:List Str} (hp:ps.length=1) (h:∀ (kV doc pm:Value) (an:Option Addr) (cdv ct:Value) (u0:Value),bindArgs (fnOf x x (aco st) (acf st) (aak st) .none kV doc pm an cdv ct) ⟨[u0],[]⟩=pure (ps.zip [u0])):Bnd x st ps:=by
 intro kV doc pm an cdv ct us hl
 rw [hp] at hl
 obtain ⟨_,rfl⟩:=len1 hl
 exact h _ _ _ _ _ _ _
theorem bnd2 {st:Stmt} {x:Str} {ps:List Str} (hp:ps.length=2) (h:∀ (kV doc pm:Value) (an:Option Addr) (cdv ct:Value) (u0 u1:Value),bindArgs (fnOf x x (aco st) (acf st) (aak st) .none kV doc pm an cdv ct) ⟨[u0,u1],[]⟩=pure (ps.zip [u0,u1])):Bnd x st ps:=by
 intro kV doc pm an cdv ct us hl
 rw [hp] at hl
 obtain ⟨_,_,rfl⟩:=len2 hl
 exact h _ _ _ _ _ _ _ _
theorem bnd3 {st:Stmt} {x:Str} {ps:List Str} (hp:ps.length=3) (h:∀ (kV doc pm:Value) (an:Option Addr) (cdv ct:Value) (u0 u1 u2:Value),bindArgs (fnOf x x (aco st) (acf st) (aak st) .none kV doc pm an cdv ct) ⟨[u0,u1,u2],[]⟩=pure (ps.zip [u0,u1,u2])):Bnd x st ps:=by
 intro kV doc pm an cdv ct us hl
 rw [hp] at hl
 obtain ⟨_,_,_,rfl⟩:=len3 hl
 exact h _ _ _ _ _ _ _ _ _
theorem aax {K:Frag} {h:Heap} {mg:Str->Option Value} {x:Str} {st:Stmt} {ps:List Str} (X:K.In h) (G:h.Ns mainGlobals mg) (q:FnIn K x st)
  (hb:Bnd x st ps):∃ f fd,DefAt K mg x st ps f fd:=by
 obtain ⟨f,oc,od,kV,dc,pm,an,cd,ct,sl,a,l,c,k⟩:=q
 exact ⟨_,_,have F:=ayb (st:=st) l c k;⟨F,mg_of X G a,F.binds hb⟩⟩
theorem txt_mk {K:Frag} {h:Heap} {mg:Str->Option Value} (X:K.In h) (G:h.Ns mainGlobals mg)
  {tk_MOST_HUB_TIES:Tok} 
  (h0:FnIn K "is_whole" s_is_whole)
  (h1:FnIn K "is_between" s_is_between)
  (h2:FnIn K "need_number" s_need_number)
  (h3:FnIn K "is_place" s_is_place)
  (h4:FnIn K "is_tie" s_is_tie)
  (h5:FnIn K "are_ties" s_are_ties)
  (h6:FnIn K "is_rising" s_is_rising)
  (h7:FnIn K "tied_places" s_tied_places)
  (h8:FnIn K "far_from" s_far_from)
  (h9:FnIn K "need_place" s_need_place)
  (h10:FnIn K "all_far" s_all_far)
  (h11:FnIn K "is_joined" s_is_joined)
  (h12:FnIn K "need_joined" s_need_joined)
  (h13:FnIn K "far_rows" s_far_rows)
  (h14:FnIn K "most_far" s_most_far)
  (h15:FnIn K "farthest_two" s_farthest_two)
  (h16:FnIn K "with_ties" s_with_ties)
  (h17:FnIn K "hubs_for" s_hubs_for)
  (h18:FnIn K "hub_ties" s_hub_ties)
  (h19:FnIn K "_law_cell" s_law_cell)
  (h20:FnIn K "_law_store" s_law_store)
  (h21:FnIn K "_law_take" s_law_take)
  (h22:FnIn K "_law_tree_ties" s_law_tree_ties)
  (h23:FnIn K "_law_renumbered" s_law_renumbered)
  (h24:FnIn K "_law_tree" s_law_tree)
  (h25:FnIn K "_law_crowd" s_law_crowd)
  (h26:FnIn K "_law_web" s_law_web)
  (h27:FnIn K "_law_far_from" s_law_far_from)
  (h28:FnIn K "_law_hubs" s_law_hubs)
  (h29:FnIn K "_law_same" s_law_same)
  (h30:FnIn K "law" s_law)
  (z_ValueError:nsIn K mainGlobals "ValueError" = some none)
  (z_all:nsIn K mainGlobals "all" = some none)
  (z_max:nsIn K mainGlobals "max" = some none)
  (z_sorted:nsIn K mainGlobals "sorted" = some none)
  (z_range:nsIn K mainGlobals "range" = some none)
  (z_list:nsIn K mainGlobals "list" = some none)
  (z_isinstance:nsIn K mainGlobals "isinstance" = some none)
  (z_str:nsIn K mainGlobals "str" = some none)
  (z_int:nsIn K mainGlobals "int" = some none)
  (z_len:nsIn K mainGlobals "len" = some none)
  (z_set:nsIn K mainGlobals "set" = some none)
  (z_tuple:nsIn K mainGlobals "tuple" = some none)
  (z_min:nsIn K mainGlobals "min" = some none)
  (z_bool:nsIn K mainGlobals "bool" = some none)
  (z_zip:nsIn K mainGlobals "zip" = some none)
  (g_MOST_HUB_TIES:nsIn K mainGlobals "MOST_HUB_TIES" = some (some (.int 20 tk_MOST_HUB_TIES)))
  : Txt K mg where
  b_ValueError:=mg_none_of X G z_ValueError
  b_all:=mg_none_of X G z_all
  b_max:=mg_none_of X G z_max
  b_sorted:=mg_none_of X G z_sorted
  b_range:=mg_none_of X G z_range
  b_list:=mg_none_of X G z_list
  b_isinstance:=mg_none_of X G z_isinstance
  b_str:=mg_none_of X G z_str
  b_int:=mg_none_of X G z_int
  b_len:=mg_none_of X G z_len
  b_set:=mg_none_of X G z_set
  b_tuple:=mg_none_of X G z_tuple
  b_min:=mg_none_of X G z_min
  b_bool:=mg_none_of X G z_bool
  b_zip:=mg_none_of X G z_zip
  v_MOST_HUB_TIES:=⟨_,mg_of X G g_MOST_HUB_TIES⟩
  d_is_whole:=aax X G h0 (bnd1 rfl fun _ _ _ _ _ _ _=>rfl)
  d_is_between:=aax X G h1 (bnd3 rfl fun _ _ _ _ _ _ _ _ _=>rfl)
  d_need_number:=aax X G h2 (bnd3 rfl fun _ _ _ _ _ _ _ _ _=>rfl)
  d_is_place:=aax X G h3 (bnd2 rfl fun _ _ _ _ _ _ _ _=>rfl)
  d_is_tie:=aax X G h4 (bnd2 rfl fun _ _ _ _ _ _ _ _=>rfl)
  d_are_ties:=aax X G h5 (bnd2 rfl fun _ _ _ _ _ _ _ _=>rfl)
  d_is_rising:=aax X G h6 (bnd1 rfl fun _ _ _ _ _ _ _=>rfl)
  d_tied_places:=aax X G h7 (bnd1 rfl fun _ _ _ _ _ _ _=>rfl)
  d_far_from:=aax X G h8 (bnd2 rfl fun _ _ _ _ _ _ _ _=>rfl)
  d_need_place:=aax X G h9 (bnd2 rfl fun _ _ _ _ _ _ _ _=>rfl)
  d_all_far:=aax X G h10 (bnd2 rfl fun _ _ _ _ _ _ _ _=>rfl)
  d_is_joined:=aax X G h11 (bnd1 rfl fun _ _ _ _ _ _ _=>rfl)
  d_need_joined:=aax X G h12 (bnd1 rfl fun _ _ _ _ _ _ _=>rfl)
  d_far_rows:=aax X G h13 (bnd1 rfl fun _ _ _ _ _ _ _=>rfl)
  d_most_far:=aax X G h14 (bnd1 rfl fun _ _ _ _ _ _ _=>rfl)
  d_farthest_two:=aax X G h15 (bnd1 rfl fun _ _ _ _ _ _ _=>rfl)
  d_with_ties:=aax X G h16 (bnd2 rfl fun _ _ _ _ _ _ _ _=>rfl)
  d_hubs_for:=aax X G h17 (bnd2 rfl fun _ _ _ _ _ _ _ _=>rfl)
  d_hub_ties:=aax X G h18 (bnd2 rfl fun _ _ _ _ _ _ _ _=>rfl)
  d_law_cell:=aax X G h19 (bnd2 rfl fun _ _ _ _ _ _ _ _=>rfl)
  d_law_store:=aax X G h20 (bnd1 rfl fun _ _ _ _ _ _ _=>rfl)
  d_law_take:=aax X G h21 (bnd2 rfl fun _ _ _ _ _ _ _ _=>rfl)
  d_law_tree_ties:=aax X G h22 (bnd3 rfl fun _ _ _ _ _ _ _ _ _=>rfl)
  d_law_renumbered:=aax X G h23 (bnd3 rfl fun _ _ _ _ _ _ _ _ _=>rfl)
  d_law_tree:=aax X G h24 (bnd1 rfl fun _ _ _ _ _ _ _=>rfl)
  d_law_crowd:=aax X G h25 (bnd1 rfl fun _ _ _ _ _ _ _=>rfl)
  d_law_web:=aax X G h26 (bnd1 rfl fun _ _ _ _ _ _ _=>rfl)
  d_law_far_from:=aax X G h27 (bnd2 rfl fun _ _ _ _ _ _ _ _=>rfl)
  d_law_hubs:=aax X G h28 (bnd2 rfl fun _ _ _ _ _ _ _ _=>rfl)
  d_law_same:=aax X G h29 (bnd2 rfl fun _ _ _ _ _ _ _ _=>rfl)
  d_law:=aax X G h30 (bnd1 rfl fun _ _ _ _ _ _ _=>rfl)
theorem walk {l:PySem.W.OpenLaw} {q:Program} {loose:List Str} {XP:(Str->Option Value)->Heap->Prop} {YP:World->Heap->Prop} {d:DefRec} {K:Params->Frag} (hn:l.most=some 63) (hdf:d.params.defaults=[]) (hnm:d.name = "law")
  (hY:∀ (w:World) (h:Heap),YP w h->(K w.params).In h)
  (F:∀ (w:World) (mg:Str->Option Value) (h:Heap),(K w.params).In h->h.Ns mainGlobals mg->Txt (K w.params) mg) :
  PySem.W.WalkO q loose XP YP l.row.toRowW d [] (fun f vs=>PySem.call f vs):=by
 refine L2.walk_of (n:=63) (k:=12) (x:="script") (CX:=fun _=>CX0) (sp:=fun w=>aqf (K w.params)) hn (by decide) hdf ⟨rfl,by decide,by decide⟩ hY (fun w mg fa h X G e=>?_) (fun _ _ a ns hl _ hS=>⟨a,ns,rfl,hS,hl,fun _=>rfl⟩) fun _ _ _ _ _ z=>z
 have T:=F w mg h X G
 rw [hnm] at e
 obtain ⟨f1,fd1,D⟩:=T.d_law
 have e1:=e.symm.trans D.mgx
 cases e1
 refine ⟨fd1,fun s u=>?_,fun base _ _=>?_⟩
 ·obtain ⟨oc,od,kV,doc,pm,an,cdv,ct,osl,rfl,lk,hcd⟩:=D.fn.ex
  exact .of_eq rfl
 ·exact az7 T D
end G
theorem PySem.W.Fast.tw3926725054424570399 : True := trivial
theorem PySem.W.Fast.tw11346879733341580009 : True := trivial
theorem PySem.W.Fast.tw10253164776011175892 : True := trivial
theorem PySem.W.Fast.tw12665435333017209869 : True := trivial
theorem PySem.W.Fast.tw12234928271374070935 : True := trivial
theorem PySem.W.Fast.tw2701033703615224495 : True := trivial
theorem PySem.W.Fast.tw12766028178560201977 : True := trivial
theorem PySem.W.Fast.tw3524681066071996549 : True := trivial
theorem PySem.W.Fast.tw15478979275188164408 : True := trivial
theorem PySem.W.Fast.tw2596072269486221825 : True := trivial
theorem PySem.W.Fast.tw1390951486688705633 : True := trivial
theorem PySem.W.Fast.tw13350390037549990418 : True := trivial
theorem PySem.W.Fast.tw145606925817110962 : True := trivial
theorem PySem.W.Fast.tw11427575402111204252 : True := trivial
theorem PySem.W.Fast.tw8530586520913856242 : True := trivial
theorem PySem.W.Fast.tw12040407099127325910 : True := trivial
theorem PySem.W.Fast.tw1183760977121940286 : True := trivial
theorem PySem.W.Fast.tw6658089225571220156 : True := trivial
theorem PySem.W.Fast.tw196539443734124709 : True := trivial
theorem PySem.W.Fast.tw8723163498909192700 : True := trivial
theorem PySem.W.Fast.tw16827861188965302727 : True := trivial
theorem PySem.W.Fast.tw9106648591241623471 : True := trivial
theorem PySem.W.Fast.tw1999052370051941055 : True := trivial
theorem PySem.W.Fast.tw9619378033433960013 : True := trivial
theorem PySem.W.Fast.tw16063068180117518357 : True := trivial
theorem PySem.W.Fast.tw1672394883311551352 : True := trivial
theorem PySem.W.Fast.tw10044980942416314840 : True := trivial
theorem PySem.W.Fast.tw8820278885061001533 : True := trivial
theorem PySem.W.Fast.tw2072108262542437090 : True := trivial
theorem PySem.W.Fast.tw16033808496910504065 : True := trivial
theorem PySem.W.Fast.tw1243143937874782840 : True := trivial
theorem PySem.W.Fast.tw773452871369643592 : True := trivial
theorem PySem.W.Fast.tw16071748092772129854 : True := trivial
theorem PySem.W.Fast.tw7131096649258427221 : True := trivial
theorem PySem.W.Fast.tw14521410608414117506 : True := trivial
theorem PySem.W.Fast.tw1111883384767456491 : True := trivial
theorem PySem.W.Fast.tw5964144117329063888 : True := trivial
theorem PySem.W.Fast.tw5890434290346349249 : True := trivial
theorem PySem.W.Fast.tw18135329512537955808 : True := trivial
theorem PySem.W.Fast.tw17266798708983708999 : True := trivial
theorem PySem.W.Fast.tw16016382905599258055 : True := trivial
theorem PySem.W.Fast.tw14627842352654370412 : True := trivial
theorem PySem.W.Fast.tw12441959112293464206 : True := trivial
theorem PySem.W.Fast.tw8548341405067274975 : True := trivial
theorem PySem.W.Fast.tw16642108356168783463 : True := trivial
theorem PySem.W.Fast.tw10259410711456996630 : True := trivial
theorem PySem.W.Fast.tw10254272618612515781 : True := trivial
theorem PySem.W.Fast.tw1429086996389186419 : True := trivial
theorem PySem.W.Fast.tw11331310029718634898 : True := trivial
theorem PySem.W.Fast.tw11627390450724876245 : True := trivial
theorem PySem.W.Fast.tw7447746279313395042 : True := trivial
theorem PySem.W.Fast.tw16905636446301605381 : True := trivial
theorem PySem.W.Fast.tw12149964197365865825 : True := trivial
theorem PySem.W.Fast.tw5707292068559483390 : True := trivial
theorem PySem.W.Fast.tw16609366727414225403 : True := trivial
theorem PySem.W.Fast.tw13283366080791034347 : True := trivial
theorem PySem.W.Fast.tw1596853393177045382 : True := trivial
theorem PySem.W.Fast.tw2156849573004885141 : True := trivial
theorem PySem.W.Fast.tw12893088990168834365 : True := trivial
theorem PySem.W.Fast.tw8728838262300307254 : True := trivial
theorem PySem.W.Fast.tw443644176709751031 : True := trivial
theorem PySem.W.Fast.tw16325136790367540382 : True := trivial
theorem PySem.W.Fast.tw14071412273528064166 : True := trivial
theorem PySem.W.Fast.tw14969379723310341469 : True := trivial
theorem PySem.W.Fast.tw9365056689552154330 : True := trivial
theorem PySem.W.Fast.tw14730422246012012677 : True := trivial
theorem PySem.W.Fast.tw15583661336227847333 : True := trivial
theorem PySem.W.Fast.tw9335871241017380830 : True := trivial
theorem PySem.W.Fast.tw12929448304097422939 : True := trivial
theorem PySem.W.Fast.tw8825816029449667227 : True := trivial
theorem PySem.W.Fast.tw654579530257931771 : True := trivial
theorem PySem.W.Fast.tw16292242225694243557 : True := trivial
theorem PySem.W.Fast.tw3017202724465866052 : True := trivial
theorem PySem.W.Fast.tw127934349634265960 : True := trivial
theorem PySem.W.Fast.tw17565574639031167972 : True := trivial
theorem PySem.W.Fast.tw1496020858622480854 : True := trivial
theorem PySem.W.Fast.tw17949957754890062151 : True := trivial
theorem PySem.W.Fast.tw8699365993217798252 : True := trivial
theorem PySem.W.Fast.tw17707058419047218747 : True := trivial
theorem PySem.W.Fast.tw10861938327472372033 : True := trivial
theorem PySem.W.Fast.tw14237771385594653429 : True := trivial
theorem PySem.W.Fast.tw13464538939516234663 : True := trivial
theorem PySem.W.Fast.tw7880426135007497063 : True := trivial
theorem PySem.W.Fast.tw16197334681422136323 : True := trivial
theorem PySem.W.Fast.tw1666668604105384529 : True := trivial
theorem PySem.W.Fast.tw10939902336993626029 : True := trivial
theorem PySem.W.Fast.tw16952343542659471847 : True := trivial
theorem PySem.W.Fast.tw3648259025586312589 : True := trivial
theorem PySem.W.Fast.tw4651394938125116399 : True := trivial
theorem PySem.W.Fast.tw11208440469610725521 : True := trivial
theorem PySem.W.Fast.tw14615665459145191273 : True := trivial
theorem PySem.W.Fast.tw9939549667756120119 : True := trivial
theorem PySem.W.Fast.tw10370663261049457551 : True := trivial
theorem PySem.W.Fast.tw17175167192268403187 : True := trivial
theorem PySem.W.Fast.tw12658631716445457281 : True := trivial
theorem PySem.W.Fast.tw11931702623468963175 : True := trivial
theorem PySem.W.Fast.tw8582647491099066183 : True := trivial
theorem PySem.W.Fast.tw2527658746298011636 : True := trivial
theorem PySem.W.Fast.tw12161527159443548967 : True := trivial
theorem PySem.W.Fast.tw6210402493468227738 : True := trivial
theorem PySem.W.Fast.tw10271778457416356380 : True := trivial
theorem PySem.W.Fast.tw9399781658583022235 : True := trivial
theorem PySem.W.Fast.tw5990800114126839792 : True := trivial
theorem PySem.W.Fast.tw7337787281545899390 : True := trivial
theorem PySem.W.Fast.tw203584272854179675 : True := trivial
theorem PySem.W.Fast.tw365152935302831830 : True := trivial
theorem PySem.W.Fast.tw16721652179029384177 : True := trivial
theorem PySem.W.Fast.tw11145136586537511130 : True := trivial
theorem PySem.W.Fast.tw7525565585100226022 : True := trivial
theorem PySem.W.Fast.tw2547049844218784774 : True := trivial
theorem PySem.W.Fast.tw12900527006264241113 : True := trivial
theorem PySem.W.Fast.tw10255430513802149922 : True := trivial
theorem PySem.W.Fast.tw16584295222715533400 : True := trivial
theorem PySem.W.Fast.tw10877238265339038279 : True := trivial
theorem PySem.W.Fast.tw9059599810842092333 : True := trivial
theorem PySem.W.Fast.tw1120884063257304734 : True := trivial
theorem PySem.W.Fast.tw8011796499096828979 : True := trivial
theorem PySem.W.Fast.tw17793135327154634762 : True := trivial
theorem PySem.W.Fast.tw6665189258512298752 : True := trivial
theorem PySem.W.Fast.tw15313925606011615934 : True := trivial
theorem PySem.W.Fast.tw14776613688739790299 : True := trivial
theorem PySem.W.Fast.tw3951806924352824015 : True := trivial
theorem PySem.W.Fast.tw5836901697557556689 : True := trivial
theorem PySem.W.Fast.tw8094454178052991952 : True := trivial
theorem PySem.W.Fast.tw12660632468244207434 : True := trivial
theorem PySem.W.Fast.tw7462854204970422454 : True := trivial
theorem PySem.W.Fast.tw3153670290473567148 : True := trivial
theorem PySem.W.Fast.tw13138174757767878573 : True := trivial
theorem PySem.W.Fast.tw5311204915904359774 : True := trivial
theorem PySem.W.Fast.tw14544285953361054872 : True := trivial
theorem PySem.W.Fast.tw15769309245166178345 : True := trivial
theorem PySem.W.Fast.tw3778303761430891424 : True := trivial
theorem PySem.W.Fast.tw12452507397181630233 : True := trivial
theorem PySem.W.Fast.tw2487174626572444264 : True := trivial
theorem PySem.W.Fast.tw13314541773623141785 : True := trivial
theorem PySem.W.Fast.tw8498617670680934576 : True := trivial
theorem PySem.W.Fast.tw12208876019605527572 : True := trivial
theorem PySem.W.Fast.tw15660205824618237175 : True := trivial
theorem PySem.W.Fast.tw7521383178132565671 : True := trivial
theorem PySem.W.Fast.tw640987805852637509 : True := trivial
theorem PySem.W.Fast.tw2472356679885611090 : True := trivial
theorem PySem.W.Fast.tw12306147609640475280 : True := trivial
theorem PySem.W.Fast.tw10728408878150806433 : True := trivial
theorem PySem.W.Fast.tw14363854312707190095 : True := trivial
theorem PySem.W.Fast.tw6306451525116878140 : True := trivial
theorem PySem.W.Fast.tw11797946679324112945 : True := trivial
theorem PySem.W.Fast.tw13393015149921626086 : True := trivial
theorem PySem.W.Fast.tw8219568697463786855 : True := trivial
theorem PySem.W.Fast.tw2052789085802981955 : True := trivial
open PySem PySem.W PyProof.Rows
set_option maxRecDepth 100000 in
set_option maxHeartbeats 0 in
theorem PySem.Challenge.cw_fewties_k26_hub_ties_told_holds : PySem.Challenge.rw_fewties_k26_hub_ties_told.Holds := by
 w_on;o_law;k_head;(case hw=>w_witness2)
 k_fill
 refine G.walk (l:=PySem.Challenge.rw_fewties_k26_hub_ties_told) rfl rfl rfl (fun w h Y=>PySem.W.kIn_of Y) ?F
 case F =>
  intro w mg h KX GG
  refine' G.txt_mk KX GG ..
  all_goals try (refine' G.fn_in ?a_ ?l_ ?c_ ?k_;(case a_=>k_is);(case l_=>k_is);(case c_=>k_is);(case k_=>k_is))
  all_goals try k_is
#print axioms PySem.Challenge.cw_fewties_k26_hub_ties_told_holds
