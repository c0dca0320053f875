import PyProof.Rows.All
import Wide.All
import OpenK.AllK
import Wide.FinOn
import PyProof.EqAt
import PyProof.EqKinds
import PyProof.TupleCall
import PyProof.NeData
import PyProof.P3In
import PyProof.WalkInts
import PyProof.Rows.SortWalk
import PyProof.SumWalkG
import PyProof.Rows.CallKwBuiltin
import KE.KDictList
import PyProof.WalksEnum
import PyProof.ZipIter
import PyProof.ConsumeWalk
import PyProof.ListRange
import PyProof.TupleOfSeq
import PyProof.Rows.RuleN_abs
import KE.KRevIter
import PySem.Challenge.RW_fewties_k22_whole_whatever_is_put_in
open PySem.W (Frag kitOne mg_of nsIn mg_none_of excIn fnOf mroIn keepIn codeIn)
set_option Elab.async false
set_option linter.all false
set_option compiler.extract_closed false
set_option maxRecDepth 100000
set_option maxHeartbeats 4000000
namespace L2
open PySem PySem.Spec PyProof.Rows
noncomputable abbrev Key:=Sum Int Str
noncomputable def af7:Key->Value->Bool
 | .inl k,v=>Value.isInt k v
 | .inr x,v=>Value.isStrOf x v
noncomputable def keyH (w:World):Key->Int
 | .inl k=>hashInt k
 | .inr x=>hashStr w x
theorem abm:∀ {k:Key} {v:Value},af7 k v=true->(∃ i t,k=Sum.inl i/\v=Value.int i t)\/(∃ x t,k=Sum.inr x/\v=Value.str x t)
 | .inl i,v,h=>by
  obtain ⟨t,e⟩:=Value.isInt_shape (k:=i) (v:=v) h
  exact .inl ⟨i,t,rfl,e⟩
 | .inr x,v,h=>by
  obtain ⟨t,e⟩:=Value.isStrOf_shape (x:=x) (v:=v) h
  exact .inr ⟨x,t,rfl,e⟩
theorem ao1 (i:Int) (t:Tok):af7 (.inl i) (.int i t)=true:=by simp [af7,Value.isInt]
theorem ao2 (x:Str) (t:Tok):af7 (.inr x) (.str x t)=true:=by simp [af7,Value.isStrOf]
theorem av5 (a b:Int):decide ((Sum.inl a:Key)=Sum.inl b)=(a == b):=by
 by_cases e:a=b
 ·subst e;simp
 ·have h:¬ (Sum.inl a:Key)=Sum.inl b:=fun q=>e (Sum.inl.inj q)
  rw [decide_eq_false h]
  exact (beq_eq_false_iff_ne.mpr e).symm
theorem av6 (a b:Str):decide ((Sum.inr a:Key)=Sum.inr b)=decide (a=b):=by
 by_cases e:a=b
 ·subst e;simp
 ·have h:¬ (Sum.inr a:Key)=Sum.inr b:=fun q=>e (Sum.inr.inj q)
  rw [decide_eq_false h,decide_eq_false e]
theorem av7 (a:Int) (b:Str):decide ((Sum.inl a:Key)=Sum.inr b)=false:=decide_eq_false (fun q=>nomatch q)
theorem av8 (a:Str) (b:Int):decide ((Sum.inr a:Key)=Sum.inl b)=false:=decide_eq_false (fun q=>nomatch q)
noncomputable def abq (prog:Program) (w:World):PySem.KeyKind prog w Key where
 is:=af7
 hash:=keyH w
 inj:=fun v a b ha hb=>by
  rcases abm ha with ⟨i,t,rfl,rfl⟩ | ⟨x,t,rfl,rfl⟩
  ·rcases abm hb with ⟨j,u,rfl,e⟩ | ⟨y,u,rfl,e⟩
   ·injection e with e1 _;rw [e1]
   ·exact nomatch e
  ·rcases abm hb with ⟨j,u,rfl,e⟩ | ⟨y,u,rfl,e⟩
   ·exact nomatch e
   ·injection e with e1 _;rw [e1]
 byValue:=fun k v h=>by
  rcases abm h with ⟨i,t,rfl,rfl⟩ | ⟨x,t,rfl,rfl⟩ <;> rfl
 pyHash:=fun hv h=>by
  rcases abm hv with ⟨i,t,rfl,rfl⟩ | ⟨x,t,rfl,rfl⟩
  ·exact wpAny_pyHash_int h
  ·exact wpAny_pyHash_str h
 eqBool:=fun hu hv h=>by
  rcases abm hu with ⟨i,t,rfl,rfl⟩ | ⟨x,t,rfl,rfl⟩
  ·rcases abm hv with ⟨j,u,rfl,rfl⟩ | ⟨y,u,rfl,rfl⟩
   ·rw [av5] at h;exact wpAny_eqBool_int h
   ·rw [av7] at h;exact SeqAt.EqAt.int_str i t y u _ _ _ _ h
  ·rcases abm hv with ⟨j,u,rfl,rfl⟩ | ⟨y,u,rfl,rfl⟩
   ·rw [av8] at h;exact SeqAt.EqAt.str_int x t j u _ _ _ _ h
   ·rw [av6] at h;exact wpAny_eqBool_str h
 «strs»:=fun k x t v h=>by
  rcases abm h with ⟨i,u,rfl,e⟩ | ⟨y,u,rfl,e⟩
  ·exact nomatch e
  ·injection e with e1 _
   subst e1
   cases v <;> rfl
theorem ama (prog:Program) (w:World) (i:Int) (t:Tok):(abq prog w).is (.inl i) (.int i t)=true:=ao1 i t
theorem amb (prog:Program) (w:World) (x:Str) (t:Tok):(abq prog w).is (.inr x) (.str x t)=true:=ao2 x t
inductive V where
 | non | bl (b:Bool) | int (i:Int) | str (x:Str) | byt (b:Array UInt8) | flt (b:UInt64) | ref (a:Addr) | ty (n:String)
 deriving DecidableEq
noncomputable def RelV:V->Value->Prop
 | .non,u=>u=Value.none
 | .bl b,u=>u=Value.bool b
 | .int i,u=>∃ t,u=Value.int i t
 | .str x,u=>∃ t,u=Value.str x t
 | .byt b,u=>∃ t,u=Value.bytes b t
 | .flt b,u=>∃ t,u=Value.float b t
 | .ref a,u=>u=Value.ref a
 | .ty n,u=>u=Value.type n
abbrev Vals:List V->List Value->Prop:=Paired RelV
theorem Vals.length {xs:List V} {us:List Value} (r:Vals xs us):xs.length=us.length:=Paired.length r
theorem Vals.get:∀ {xs:List V} {us:List Value} {i:Nat} {x:V},Vals xs us->xs[i]?=some x->∃ u,us[i]?=some u/\RelV x u
 | _,_,_,_,.nil,e=>by simp at e
 | _,_,0,_,.cons r _,e=>by simp at e;subst e;exact ⟨_,rfl,r⟩
 | _,_,i+1,x,.cons _ t,e=>by
  obtain ⟨u,h1,h2⟩:=Vals.get (i:=i) (x:=x) t (by simpa using e)
  exact ⟨u,by simpa using h1,h2⟩
theorem Vals.set {x:V} {u:Value} (r:RelV x u):∀ {xs:List V} {us:List Value} (i:Nat),Vals xs us->Vals (xs.set i x) (us.set i u)
 | _,_,_,.nil => .nil
 | _,_,0,.cons _ t => .cons r t
 | _,_,i+1,.cons q t => .cons q (Vals.set r i t)
theorem Vals.append:∀ {xs ys:List V} {us ws:List Value},Vals xs us->Vals ys ws->Vals (xs ++ ys) (us ++ ws)
 | _,_,_,_,.nil,s=>s
 | _,_,_,_,.cons r t,s => .cons r (Vals.append t s)
theorem Vals.take:∀ {xs:List V} {us:List Value} (n:Nat),Vals xs us->Vals (xs.take n) (us.take n)
 | _,_,0,_ => .nil
 | _,_,_+1,.nil => .nil
 | _,_,n+1,.cons r t => .cons r (Vals.take n t)
theorem Vals.drop:∀ {xs:List V} {us:List Value} (n:Nat),Vals xs us->Vals (xs.drop n) (us.drop n)
 | _,_,0,r=>r
 | _,_,_+1,.nil => .nil
 | _,_,n+1,.cons _ t=>Vals.drop n t
noncomputable def RelO:Option V->Option Value->Prop
 | some v,some u=>RelV v u
 | none,none=>True
 | _,_=>False
def KV {κ:Type}:List (κ × V)->List (κ × Value)->Prop:=Paired fun (p : κ × V) (q : κ × Value)=>p.1=q.1/\RelV p.2 q.2
noncomputable def kV:Key->V
 | .inl i => .int i
 | .inr x => .str x
inductive HO where
 /-- a list -/
 | lst (xs:List V)
 /-- a tuple (never changes) -/
 | tup (xs:List V)
 /-- a dict whose keys are ints and texts; one whose keys are tuples of ints and texts (the empty one is both) -/
 | dK (kvs:List (Key × V)) | dT (kvs:List (List Key × V))
 /-- a set of ints: its members, its size -/
 | set (S:Int->Bool) (n:Nat)
 /-- an instance of the class at C, its dict at dx, its attributes -/
 | ins (C dx:Addr) (fs:List (Str × V))
 /-- the dict of the instance at x -/
 | own (x:Addr)
 /-- the dict of an exception -/
 | xd (fs:List (Str × V))
 /-- a bound method, f of x -/
 | met (f x:Addr)
 /-- a range object lo, lo + 1, .. below hi -/
 | rng (lo hi:Int)
 /-- a thing that is known to the object (the script; a dict while a loop walks it): read, never written while it is so -/
 | frz (o:Obj) (u:HO)
 /-- a code object's table -/
 | tbl (ps:Array Value)
 /-- any other thing, by what is true of its one object (a def of one's own: SetO a S n:=HO.ext fun h => ..) -/
 | ext (φ:Heap->Prop)
noncomputable abbrev Hp:=Addr->Option HO
noncomputable def upd (H:Hp) (a:Addr) (o:HO):Hp:=fun b=>if b=a then some o else H b
theorem aan {H:Hp} {a:Addr} {o:HO}:upd H a o a=some o:=by unfold upd;rw [if_pos rfl]
theorem aag {H:Hp} {a b:Addr} {o:HO} (h:b ≠ a):upd H a o b=H b:=by unfold upd;rw [if_neg h]
theorem aya {H:Hp} {a b:Addr} {o u:HO} (h:H a=some o) (h':H b=some u) (d:o ≠ u):a ≠ b:=by
 intro e;subst e;rw [h] at h';exact d (Option.some.inj h')
theorem aau {H:Hp} {a b:Addr} {o:HO} (h:H a=some o) (h':H b=none):a ≠ b:=by
 intro e;subst e;rw [h] at h';cases h'
section
variable (P:Program) (w:World)
noncomputable def ObjOk (H:Hp) (h:Heap) (a:Addr):HO->Prop
 | .lst xs=>xs.length<=sizeLine/\∃ (its:List Value) (n:Nat),Vals xs its/\h.get? a=some { cls:=.type "list",data:=.seq its.toArray n }
 | .tup xs=>xs.length<=sizeLine/\∃ its:List Value,Vals xs its/\IsTup h a its.toArray
 | .dK kvs=>kvs.length<=sizeLine/\(a == sysModules)=false/\∃ vs,KV kvs vs/\h.DictOf (abq P w) a vs
 | .dT kvs=>kvs.length<=sizeLine/\(a == sysModules)=false/\∃ xs:List (List Key × Addr × Value),
   Paired (fun (p:List Key × V) (q:List Key × Addr × Value)=>p.1=q.1/\H q.2.1=some (.tup (p.1.map kV))/\RelV p.2 q.2.2) kvs xs /\
   ∃ o es ep,h.get? a=some o/\o.ExactDict/\o.data=.dict es ep/\es.toList=xs.map (entryOfKey (tupleKind (abq P w)))/\(xs.map (·.1)).Nodup
 | .set S n=>h.SetOf (intKind P w) a S n
 | .ins C dx fs=>H dx=some (.own a)/\fs.length<=1000/\dx ≠ a/\h.get? a=some (PySem.W.instObj C dx) /\
   ∃ mA,h.Ns1 dx mA/\(∀ f,RelO (fs.lookup f) (mA f))/\PySem.Within mA (fs.map (·.1))
 | .own _=>∃ o,h.get? a=some o
 | .xd fs=>∃ mA,h.Ns1 a mA/\∀ f,RelO (fs.lookup f) (mA f)
 | .rng lo hi=>∃ t u v,h.get? a=some { cls:=.type "range",data:=.fields #[.int lo t,.int hi u,.int 1 v] }
 | .frz o u=>h.get? a=some o/\ObjOk H h a u
 | .tbl ps=>h.get? a=some { cls:=.none,data:=.fields ps }
 | .met f x=>h.get? a=some (PySem.W.methodObj (.ref f) (.ref x))
 | .ext φ => φ h/\(∃ o,h.get? a=some o)/\∀ h1 h2:Heap,φ h1->(∀ o,h1.get? a=some o->h2.get? a=some o)->φ h2
def HOk (H:Hp) (h:Heap):Prop:=∀ a o,H a=some o->ObjOk P w H h a o
end
section
variable {P:Program} {w:World} {H H':Hp} {h h':Heap} {a:Addr} {o:HO}
theorem ObjOk.lt (x:ObjOk P w H h a o):a < h.objs.size:=by
 cases o with
 | lst xs=>obtain ⟨_,_,_,_,e⟩:=x;exact Heap.lt_size e
 | tup xs=>obtain ⟨_,_,_,p⟩:=x;exact p.lt
 | dK kvs=>obtain ⟨_,_,_,_,o,_,_,e,_⟩:=x;exact Heap.lt_size e
 | dT kvs=>obtain ⟨_,_,_,_,o,_,_,e,_⟩:=x;exact Heap.lt_size e
 | set S n=>obtain ⟨o,_,_,_,e,_⟩:=x;exact Heap.lt_size e
 | ins C dx fs=>obtain ⟨_,_,_,e,_⟩:=x;exact Heap.lt_size e
 | own y=>obtain ⟨_,e⟩:=x;exact Heap.lt_size e
 | xd fs=>obtain ⟨_,⟨_,_,_,e,_⟩,_⟩:=x;exact Heap.lt_size e
 | rng lo hi=>obtain ⟨_,_,_,e⟩:=x;exact Heap.lt_size e
 | frz ob u=>obtain ⟨e,_⟩:=x;exact Heap.lt_size e
 | tbl ps=>exact Heap.lt_size (show h.get? a=some _ from x)
 | met f y=>exact Heap.lt_size (show h.get? a=some _ from x)
 | ext φ=>obtain ⟨_,⟨_,e⟩,_⟩:=x;exact Heap.lt_size e
theorem Paired.mapP {α β:Type} {F G : α->β->Prop}:∀ {l₁:List α} {l₂:List β},Paired F l₁ l₂->(∀ a b,F a b->G a b)->Paired G l₁ l₂
 | _,_,.nil,_ => .nil
 | _,_,.cons r t,f => .cons (f _ _ r) (Paired.mapP t f)
theorem ObjOk.stay (x:ObjOk P w H h a o) (k:∀ b u,(b=a\/H b=some (.own a))->h.get? b=some u->h'.get? b=some u)
  (ho:∀ b,H b=some (.own a)->H' b=some (.own a)) (ht:∀ b xs,H b=some (.tup xs)->H' b=some (.tup xs)):ObjOk P w H' h' a o:=by
 induction o with
 | lst xs=>obtain ⟨z,its,n,r,e⟩:=x;exact ⟨z,its,n,r,k _ _ (.inl rfl) e⟩
 | tup xs=>obtain ⟨z,its,r,ob,e,c⟩:=x;exact ⟨z,its,r,ob,k _ _ (.inl rfl) e,c⟩
 | dK kvs=>obtain ⟨z,y,vs,r,ob,es,ep,e,c⟩:=x;exact ⟨z,y,vs,r,ob,es,ep,k _ _ (.inl rfl) e,c⟩
 | dT kvs =>
  obtain ⟨z,y,xs,r,ob,es,ep,e,c⟩:=x
  exact ⟨z,y,xs,Paired.mapP r fun p q z=>⟨z.1,ht _ _ z.2.1,z.2.2⟩,ob,es,ep,k _ _ (.inl rfl) e,c⟩
 | set S n=>obtain ⟨ob,es,ep,t,e,c⟩:=x;exact ⟨ob,es,ep,t,k _ _ (.inl rfl) e,c⟩
 | ins C dx fs =>
  obtain ⟨d,z,ne,e,mA,⟨od,es,ep,e2,c⟩,r⟩:=x
  exact ⟨ho _ d,z,ne,k _ _ (.inl rfl) e,mA,⟨od,es,ep,k _ _ (.inr d) e2,c⟩,r⟩
 | own y=>obtain ⟨ob,e⟩:=x;exact ⟨ob,k _ _ (.inl rfl) e⟩
 | xd fs=>obtain ⟨mA,⟨od,es,ep,e,c⟩,r⟩:=x;exact ⟨mA,⟨od,es,ep,k _ _ (.inl rfl) e,c⟩,r⟩
 | rng lo hi=>obtain ⟨t,u,v,e⟩:=x;exact ⟨t,u,v,k _ _ (.inl rfl) e⟩
 | frz ob u ih=>obtain ⟨e,q⟩:=x;exact ⟨k _ _ (.inl rfl) e,ih q⟩
 | tbl ps =>
  have e:h.get? a=some { cls:=.none,data:=.fields ps }:=x
  show h'.get? a=some { cls:=.none,data:=.fields ps }
  exact k a _ (.inl rfl) e
 | met f y =>
  have e:h.get? a=some (PySem.W.methodObj (.ref f) (.ref y)):=x
  show h'.get? a=some (PySem.W.methodObj (.ref f) (.ref y))
  exact k a _ (.inl rfl) e
 | ext φ=>obtain ⟨p,⟨o,e⟩,st⟩:=x;exact ⟨st _ _ p fun o q=>k _ _ (.inl rfl) q,⟨o,k _ _ (.inl rfl) e⟩,st⟩
theorem HOk.lt (x:HOk P w H h) (e:H a=some o):a < h.objs.size:=(x a o e).lt
theorem HOk.fresh (x:HOk P w H h) (e:h.objs.size<=a):H a=none:=by
 cases q:H a with
 | none=>rfl
 | some u=>exact absurd (Nat.lt_of_lt_of_le (x.lt q) e) (Nat.lt_irrefl _)
theorem HOk.kept (x:HOk P w H h) (k:∀ b u,h.get? b=some u->h'.get? b=some u):HOk P w H h':=fun a o e =>
 (x a o e).stay (fun b u _ q=>k b u q) (fun _ q=>q) fun _ _ q=>q
theorem HOk.laid (x:HOk P w H h) (k:∀ b u,h.get? b=some u->h'.get? b=some u) (hp:h.objs.size<=a) (new:ObjOk P w (upd H a o) h' a o):HOk P w (upd H a o) h':=fun b u e=>by
 have hn:=x.fresh hp
 by_cases hb:b=a
 ·subst hb;rw [aan] at e;cases e;exact new
 ·rw [aag hb] at e
  exact (x b u e).stay (fun c v _ q=>k c v q) (fun c q=>by rw [aag (aau q hn)];exact q) fun c xs q=>by rw [aag (aau q hn)];exact q
end
def Rd (H:Hp) (a:Addr) (u:HO):Prop:=H a=some u\/∃ o,H a=some (.frz o u)
theorem Rd.ok {P:Program} {w:World} {H:Hp} {h:Heap} {a:Addr} {u:HO} (r:Rd H a u) (x:HOk P w H h):ObjOk P w H h a u:=by
 rcases r with r | ⟨o,r⟩
 ·exact x a u r
 ·obtain ⟨_,q⟩:=x a _ r
  exact q
noncomputable def Mut:Option HO->Prop
 | some (.lst _)=>True
 | some (.dK _)=>True
 | some (.dT _)=>True
 | some (.set _ _)=>True
 | some (.ins _ _ _)=>True
 | some (.ext _)=>True
 | _=>False
section
variable {P:Program} {w:World} {H:Hp} {h h':Heap} {x e:Addr} {o':HO}
theorem HOk.write (ok:HOk P w H h) (mu:Mut (H x)) (he:e=x\/H e=some (.own x)) (k:∀ b u,b ≠ e->h.get? b=some u->h'.get? b=some u) (heo:∃ u,h'.get? e=some u)
  (new:ObjOk P w (upd H x o') h' x o'):HOk P w (upd H x o') h':=fun b u q=>by
 have nown:∀ c y,H c=some (.own y)->c ≠ x:=fun c y r z=>by subst z;rw [r] at mu;exact mu
 have ntup:∀ c xs,H c=some (.tup xs)->c ≠ x:=fun c xs r z=>by subst z;rw [r] at mu;exact mu
 by_cases hb:b=x
 ·subst hb;rw [aan] at q;cases q;exact new
 ·rw [aag hb] at q
  by_cases hbe:b=e
  ·have q':H b=some (.own x):=by
    rcases he with z | z
    ·exact absurd (hbe.trans z) hb
    ·rw [hbe];exact z
   rw [q] at q';cases q'
   obtain ⟨v,hv⟩:=heo
   exact ⟨v,by rw [hbe];exact hv⟩
  ·refine (ok b u q).stay (fun c v hc r=>k c v ?_ r) (fun c r=>by rw [aag (nown c b r)];exact r) fun c xs r=>by rw [aag (ntup c xs r)];exact r
   rcases hc with rfl | hc
   ·exact hbe
   ·rintro rfl
    rcases he with z | z
    ·exact nown c b hc z
    ·rw [hc] at z;cases z;exact hb rfl
end
structure Un (fs ex:List Addr) (H H':Hp) (h h':Heap):Prop where
 keep:∀ b o,h.get? b=some o->H b=none->b ∉ fs->b ∉ ex->h'.get? b=some o
 slot:∀ b o,h.get? b=some o->H b=none->b∈fs->b ∉ ex->∃ sl,h'.get? b=some { o with slots:=sl }
 free:∀ b o,h.get? b=some o->H b=none->b ∉ ex->H' b=none
 there:∀ b o,h.get? b=some o->b ∉ ex->∃ o',h'.get? b=some o'
 tups:∀ b xs,H b=some (.tup xs)->H' b=some (.tup xs)
 frzs:∀ b o u,H b=some (.frz o u)->H' b=some (.frz o u)
 tbls:∀ b ps,H b=some (.tbl ps)->∃ more,H' b=some (.tbl (ps ++ more))
section
variable {fs fs' ex ex':List Addr} {H H1 H2:Hp} {h h1 h2 h':Heap} {a x e:Addr} {o:HO}
theorem Un.any (u:Un fs ex H H1 h h1) {b:Addr} {ob:Obj} (q:h.get? b=some ob) (n:H b=none) (hx:b ∉ ex):∃ sl,h1.get? b=some { ob with slots:=sl }:=by
 by_cases hb:b∈fs
 ·exact u.slot b ob q n hb hx
 ·exact ⟨ob.slots,u.keep b ob q n hb hx⟩
theorem Un.trans (a:Un fs ex H H1 h h1) (b:Un fs ex H1 H2 h1 h2):Un fs ex H H2 h h2 where
 keep:=fun c ob q n hc hx=>b.keep c ob (a.keep c ob q n hc hx) (a.free c ob q n hx) hc hx
 slot:=fun c ob q n hc hx=>by
  obtain ⟨sl,e1⟩:=a.slot c ob q n hc hx
  obtain ⟨sl',e2⟩:=b.slot c _ e1 (a.free c ob q n hx) hc hx
  exact ⟨sl',e2⟩
 free:=fun c ob q n hx=>by
  obtain ⟨o',e1⟩:=a.there c ob q hx
  exact b.free c o' e1 (a.free c ob q n hx) hx
 there:=fun c ob q hx=>by
  obtain ⟨o',e1⟩:=a.there c ob q hx
  exact b.there c o' e1 hx
 tups:=fun c xs q=>b.tups c xs (a.tups c xs q)
 frzs:=fun c ob xs q=>b.frzs c ob xs (a.frzs c ob xs q)
 tbls:=fun c ps q=>by
  obtain ⟨m1,e1⟩:=a.tbls c ps q
  obtain ⟨m2,e2⟩:=b.tbls c _ e1
  exact ⟨m1 ++ m2,by rw [e2,Array.append_assoc]⟩
theorem Un.kept (k:∀ b u,h.get? b=some u->h'.get? b=some u):Un fs ex H H h h' :=
 ⟨fun b ob q _ _ _=>k b ob q,fun b ob q _ _ _=>⟨ob.slots,k b ob q⟩,fun _ _ _ n _=>n,fun b ob q _=>⟨ob,k b ob q⟩,fun _ _ q=>q,fun _ _ _ q=>q,fun _ ps q=>⟨#[],by rw [q];simp⟩⟩
theorem Un.refl:Un fs ex H H h h:=Un.kept fun _ _ q=>q
theorem Un.laid (k:∀ b u,h.get? b=some u->h'.get? b=some u) (hp:h.objs.size<=a) (hn:H a=none):Un fs ex H (upd H a o) h h' where
 keep:=fun b u q _ _ _=>k b u q
 slot:=fun b u q _ _ _=>⟨u.slots,k b u q⟩
 free:=fun b u q n _=>by rw [aag (Nat.ne_of_lt (Nat.lt_of_lt_of_le (Heap.lt_size q) hp))];exact n
 there:=fun b u q _=>⟨u,k b u q⟩
 tups:=fun b xs q=>by rw [aag (aau q hn)];exact q
 frzs:=fun b u xs q=>by rw [aag (aau q hn)];exact q
 tbls:=fun b ps q=>⟨#[],by rw [aag (aau q hn),q];simp⟩
theorem Un.write (mu:Mut (H x)) (he:e=x\/H e=some (.own x)) (k:∀ b u,b ≠ e->h.get? b=some u->h'.get? b=some u) (heo:∃ u,h'.get? e=some u):Un fs ex H (upd H x o) h h':=by
 have hx:∀ b,H b=none->b ≠ x:=fun b n z=>by subst z;rw [n] at mu;exact mu
 have hb:∀ b,H b=none->b ≠ e:=fun b n z=>by
  subst z
  rcases he with r | r
  ·exact hx b n r
  ·rw [n] at r;cases r
 have hm:∀ b u,H b=some u->¬ Mut (some u)->b ≠ x:=fun b u q nm z=>by subst z;rw [q] at mu;exact nm mu
 refine ⟨fun b u q n _ _=>k b u (hb b n) q,fun b u q n _ _=>⟨u.slots,k b u (hb b n) q⟩,fun b u q n _=>by rw [aag (hx b n)];exact n,fun b u q _=>?_,
  fun b xs q=>by rw [aag (hm b _ q fun z=>z)];exact q,fun b u xs q=>by rw [aag (hm b _ q fun z=>z)];exact q,fun b ps q=>⟨#[],by rw [aag (hm b _ q fun z=>z),q];simp⟩⟩
 by_cases hbe:b=e
 ·subst hbe;exact heo
 ·exact ⟨u,k b u hbe q⟩
theorem Un.mono (u:Un fs ex H H1 h h1) (hs:∀ b∈fs,b∈fs') (hx:∀ b∈ex,b∈ex'):Un fs' ex' H H1 h h1 :=
 ⟨fun b ob q n hb he=>u.keep b ob q n (fun z=>hb (hs b z)) fun z=>he (hx b z),fun _ _ q n _ he=>u.any q n fun z=>he (hx _ z),fun b ob q n he=>u.free b ob q n fun z=>he (hx b z),fun b ob q he=>u.there b ob q fun z=>he (hx b z),u.tups,u.frzs,u.tbls⟩
end
noncomputable def trk (h:Heap) (H:Hp):List Addr:=(List.range h.objs.size).filter fun a=>(H a).isSome
noncomputable def hidT (h:Heap) (H:Hp):Heap:=PySem.W.hideAll h (trk h H)
theorem ao3 (h:Heap) (H:Hp):(hidT h H).objs.size=h.objs.size:=PySem.W.hideAll_size _ _
theorem aq8 {h:Heap} {H:Hp} {b:Addr} {o:Obj} (e:h.get? b=some o) (n:H b=none):(hidT h H).get? b=some o :=
 PySem.W.hideAll_get _ e fun hm=>by
  have q:(H b).isSome=true:=(List.mem_filter.mp hm).2
  rw [n] at q;simp at q
theorem atz {h:Heap} {H:Hp} {b:Addr} {o:Obj} (e:(hidT h H).get? b=some o):h.get? b=some o/\H b=none:=by
 have e':h.get? b=some o:=PySem.W.of_hideAll (trk h H) e
 refine ⟨e',?_⟩
 cases q:H b with
 | none=>rfl
 | some x =>
  have hm:b∈trk h H:=List.mem_filter.mpr ⟨List.mem_range.mpr (Heap.lt_size e'),by simp [q]⟩
  have z:(hidT h H).get? b=none:=PySem.W.hideAll_none (trk h H) hm
  rw [z] at e;cases e
noncomputable def at3 (g h:Heap) (L:Addr):List (Addr × Obj):=(List.range h.objs.size).filterMap fun a=>if a=L\/(g.get? a).isSome=true then none else (h.get? a).map fun o=>(a,o)
noncomputable def rest (g h:Heap) (L d:Addr):List (Addr × Obj):=(at3 g h L).filter fun p=>decide (p.1 ≠ d)
structure Mod (K:Frag) (mg:Str->Option Value) (base:Heap):Prop where
 kin:K.In base
 glob:base.Ns mainGlobals mg
 blt:∃ mb,base.Ns builtinsNs mb/\∀ x:Str,x ≠ "__name__"->mb x=bootBuiltins x
 nolimit:base.NoLimit
/-- the context: a def's body (or a comprehension's block) running. base: fixed through the whole law; s₀, H₀: the entry; outer: the frames whose slots others may change (a def's callers); stack: all frames that run;
  ex: iterators that were made ahead of the entry and are walked here (a comprehension's);fn: the names whose cells were made at the entry (a def: all;a comprehension's block: its own);calm: not within an except suite;pn: pins that every state bears;xe: what is wanted of an exception that leaves the code -/
structure Cx where
 prog:Program
 w:World
 K:Frag
 mg:Str->Option Value
 base:Heap
 A:Around
 N:List Str
 s₀:Shared
 H₀:Hp
 env:Env
 outer:List Env
 stack:List Env
 ex:List Addr
 fn:Str->Bool
 calm:Bool
 pn:List (Addr × Obj)
 xe:Value->Shared->Prop
noncomputable def frs (l:List Env):List Addr:=l.filterMap (·.frame)
noncomputable abbrev Cx.fs (X:Cx):List Addr:=frs X.outer
def Vis (sc:Scope) (x:Str):Prop:=sc.names.lookup x=some .local\/sc.names.lookup x=some .cell\/sc.names.lookup x=some .free
def Loc (sc:Scope) (x:Str):Prop:=sc.names.lookup x=some .local\/sc.names.lookup x=some .cell
def Look (env:Env) (h:Heap) (m:Str->Option Value) (x:Str) (u:Value):Prop :=
 (env.kindOf x=some .local/\m x=some u)\/((env.kindOf x=some .cell\/env.kindOf x=some .free)/\∃ c,env.cells.lookup x=some c/\h.IsCell c (some u))
structure Cx.Ok (X:Cx):Prop where
 mod:Mod X.K X.mg X.base
 kind:X.env.scope.kind=.function
 glob:X.env.globals=mainGlobals
 blt:X.env.builtins=builtinsNs
 above:X.s₀.heap.objs.size<=X.env.locals
 inj:∀ x y c,X.env.cells.lookup x=some c->X.env.cells.lookup y=some c->x=y
 has:∀ x,(X.env.kindOf x=some .cell\/X.env.kindOf x=some .free)->∃ c,X.env.cells.lookup x=some c
 cab:∀ x c,X.fn x=true->X.env.cells.lookup x=some c->X.s₀.heap.objs.size<=c
 hd:X.calm=true->X.A.handled=none
 frames:X.A.frames=some X.stack
 stk:X.stack=X.outer\/(X.stack=X.env :: X.outer/\X.env.frame=some X.env.locals)
 exf:∀ b∈X.ex,b ≠ X.env.locals/\∀ x c,X.env.cells.lookup x=some c->c ≠ b
 bs:∀ b o,X.base.get? b=some o->X.s₀.heap.get? b=some o/\X.H₀ b=none
 bsz:X.base.objs.size<=X.s₀.heap.objs.size
 noex:∀ b o,X.base.get? b=some o->b ∉ X.ex
 exfs:∀ b∈X.ex,b ∉ X.fs
 funs:X.s₀.heap.FunFrames X.base X.outer
 frf:∀ b∈X.fs,X.H₀ b=none
structure Inv (X:Cx) (pins:List (Addr × Obj)) (σ:List (Option V)) (H:Hp) (s:Shared):Prop where
 ok:X.Ok
 os:s.os=X.s₀.os
 bare:AllBare s.gens
 base:Un X.fs X.ex X.H₀ H X.s₀.heap s.heap
 loc:∃ m,s.heap.Ns X.env.locals m/\∀ (i:Nat) (x:Str) (v:V),X.N[i]?=some x->σ[i]?=some (some v)->Vis X.env.scope x->∃ u,RelV v u/\Look X.env s.heap m x u
 cell:∀ x c,X.env.cells.lookup x=some c->∃ v,s.heap.IsCell c v
 free:H X.env.locals=none
 freeC:∀ x c,X.env.cells.lookup x=some c->H c=none
 pin:∀ p∈X.pn ++ pins,s.heap.get? p.1=some p.2/\H p.1=none/\p.1 ≠ X.env.locals/\p.1 ∉ X.fs/\∀ v,p.2.data ≠ .cell v
 hok:HOk X.prog X.w H s.heap
 len : σ.length=X.N.length
section
variable {X:Cx} {pins:List (Addr × Obj)} {σ:List (Option V)} {H H':Hp} {s:Shared} {h':Heap}
theorem Cx.Ok.nofr (ok:X.Ok) {b:Addr} {o:Obj} (e:X.base.get? b=some o):b ∉ X.fs:=fun hb=>by
 have:=(ok.funs.mem hb).1
 rw [e] at this;cases this
theorem Inv.bs (I:Inv X pins σ H s):∀ b o,X.base.get? b=some o->s.heap.get? b=some o/\H b=none:=fun b o e =>
 ⟨I.base.keep b o (I.ok.bs b o e).1 (I.ok.bs b o e).2 (I.ok.nofr e) (I.ok.noex b o e),I.base.free b o (I.ok.bs b o e).1 (I.ok.bs b o e).2 (I.ok.noex b o e)⟩
theorem Inv.bk (I:Inv X pins σ H s):∀ b o,X.base.get? b=some o->s.heap.get? b=some o:=fun b o e=>(I.bs b o e).1
theorem Inv.mod (I:Inv X pins σ H s):Mod X.K X.mg X.base:=I.ok.mod
theorem Inv.kIn (I:Inv X pins σ H s):X.K.In s.heap:=I.ok.mod.kin.keeps I.bk
theorem Inv.fr (I:Inv X pins σ H s):∃ m,Fr X.base X.env.locals s.heap m :=
 let ⟨m,hn,_⟩:=I.loc
 ⟨m,hn,I.bk,Nat.le_trans I.ok.bsz I.ok.above⟩
theorem Inv.lt (I:Inv X pins σ H s):X.env.locals < s.heap.objs.size:=let ⟨_,hn,_⟩:=I.loc;hn.lt
theorem Inv.sz (I:Inv X pins σ H s):X.s₀.heap.objs.size<=s.heap.objs.size:=Nat.le_trans I.ok.above (Nat.le_of_lt I.lt)
theorem Inv.nofs (I:Inv X pins σ H s) {a:Addr} (h:s.heap.objs.size<=a):a ∉ X.fs:=fun hb=>by
 obtain ⟨_,o,ho,_⟩:=I.ok.funs.mem hb
 exact absurd (Nat.lt_of_lt_of_le (Heap.lt_size ho) (Nat.le_trans I.sz h)) (Nat.lt_irrefl _)
theorem Inv.cne (I:Inv X pins σ H s):∀ x c,X.env.cells.lookup x=some c->c ≠ X.env.locals:=fun x c e z=>by
 obtain ⟨v,o,ho,hd⟩:=I.cell x c e
 obtain ⟨m,⟨o',es,ep,ho',hd',_⟩,_⟩:=I.loc
 rw [z,ho'] at ho;cases ho;rw [hd'] at hd;cases hd
theorem Inv.funs (I:Inv X pins σ H s):s.heap.FunFrames X.base X.outer:=by
 have all:∀ (l:List Env),(∀ b∈frs l,b∈X.fs)->X.s₀.heap.FunFrames X.base l->s.heap.FunFrames X.base l:=by
  intro l
  induction l with
  | nil=>intro _ _;trivial
  | cons env r ih =>
   intro hs hl
   obtain ⟨hk,⟨L,o,hf,hn,ho,hd⟩,hr⟩:=hl
   have hL:L∈X.fs:=hs L (by unfold frs;rw [List.filterMap_cons,hf];exact List.mem_cons_self)
   obtain ⟨sl,e⟩:=I.base.slot L o ho (I.ok.frf L hL) hL fun z=>I.ok.exfs L z hL
   exact ⟨hk,⟨L,_,hf,hn,e,hd⟩,ih (fun b hb=>hs b (by unfold frs;rw [List.filterMap_cons,hf];exact List.mem_cons_of_mem _ hb)) hr⟩
 exact all X.outer (fun _ hb=>hb) I.ok.funs
theorem Inv.stack (I:Inv X pins σ H s):s.heap.FunFrames X.base X.stack:=by
 rcases I.ok.stk with e | ⟨e,hf⟩
 ·rw [e];exact I.funs
 ·rw [e]
  obtain ⟨m,hn,_⟩:=I.loc
  refine .cons (by rw [I.ok.kind];decide) hf hn ?_ I.funs
  exact Heap.get?_none_of_le (Nat.le_trans I.ok.bsz I.ok.above)
theorem Inv.stkSub (I:Inv X pins σ H s):∀ b∈frs X.stack,b∈X.env.locals :: X.fs:=fun b hb=>by
 rcases I.ok.stk with e | ⟨e,hf⟩
 ·rw [e] at hb;exact List.mem_cons_of_mem _ hb
 ·rw [e] at hb
  unfold frs at hb
  rw [List.filterMap_cons,hf] at hb
  exact hb
theorem Inv.stkFree (I:Inv X pins σ H s):∀ b∈frs X.stack,H b=none:=fun b hb=>by
 rcases List.mem_cons.mp (I.stkSub b hb) with e | hb
 ·rw [e];exact I.free
 ·obtain ⟨_,o,ho,_⟩:=I.ok.funs.mem hb
  exact I.base.free b o ho (I.ok.frf b hb) fun z=>I.ok.exfs b z hb
theorem Inv.step {g':Array GenState} {t':Nat} {d':Drawn} {ch:List Addr} (I:Inv X pins σ H s)
  (hch:∀ b∈ch,(b∈X.ex\/X.s₀.heap.objs.size<=b)/\b ≠ X.env.locals/\(∀ x c,X.env.cells.lookup x=some c->c ≠ b)/\∀ p∈X.pn ++ pins,p.1 ≠ b)
  (keep:∀ b o,b ≠ X.env.locals->b ∉ X.fs->b ∉ ch->s.heap.get? b=some o->H b=none->h'.get? b=some o)
  (slot:∀ b o,b ≠ X.env.locals->b∈X.fs->b ∉ ch->s.heap.get? b=some o->H b=none->∃ sl,h'.get? b=some { o with slots:=sl }) (free:∀ b o,b ∉ ch->s.heap.get? b=some o->H b=none->H' b=none)
  (there:∀ b o,b ∉ ch->s.heap.get? b=some o->∃ o',h'.get? b=some o')
  (tups:∀ b xs,H b=some (.tup xs)->H' b=some (.tup xs)) (frzs:∀ b o u,H b=some (.frz o u)->H' b=some (.frz o u)) (tbls:∀ b ps,H b=some (.tbl ps)->∃ more,H' b=some (.tbl (ps ++ more)))
  (ns:∀ m,s.heap.Ns X.env.locals m->h'.Ns X.env.locals m) (hok:HOk X.prog X.w H' h') (hg:AllBare g') :
  Inv X pins σ H' { s with heap:=h',gens:=g',drawn:=d',toks:=t' }:=by
 have neL:∀ b o,X.s₀.heap.get? b=some o->b ≠ X.env.locals:=fun b o e=>Nat.ne_of_lt (Nat.lt_of_lt_of_le (Heap.lt_size e) I.ok.above)
 have neC:∀ b o,X.s₀.heap.get? b=some o->b ∉ X.ex->b ∉ ch:=fun b o e hx hb=>by
  rcases (hch b hb).1 with z | z
  ·exact hx z
  ·exact absurd (Nat.lt_of_lt_of_le (Heap.lt_size e) z) (Nat.lt_irrefl _)
 have cellK:∀ x c,X.env.cells.lookup x=some c->∀ v,s.heap.IsCell c v->h'.IsCell c v:=fun x c e v z_=>by
  obtain ⟨o,ho,hd⟩:=z_
  have nch:c ∉ ch:=fun z=>(hch c z).2.2.1 x c e rfl
  by_cases hc:c∈X.fs
  ·obtain ⟨sl,q⟩:=slot c o (I.cne x c e) hc nch ho (I.freeC x c e)
   exact ⟨_,q,hd⟩
  ·exact ⟨o,keep c o (I.cne x c e) hc nch ho (I.freeC x c e),hd⟩
 refine ⟨I.ok,I.os,hg,⟨fun b o e n hb hx=>?_,fun b o e n hb hx=>?_,fun b o e n hx=>?_,fun b o e hx=>?_,fun b xs e=>tups b xs (I.base.tups b xs e),fun b o xs e=>frzs b o xs (I.base.frzs b o xs e),fun b ps e=>?_⟩,?_,fun x c e=>?_,?_,fun x c e=>?_,fun p hp=>?_,hok,I.len⟩
 ·exact keep b o (neL b o e) hb (neC b o e hx) (I.base.keep b o e n hb hx) (I.base.free b o e n hx)
 ·obtain ⟨sl,e1⟩:=I.base.slot b o e n hb hx
  obtain ⟨sl',e2⟩:=slot b _ (neL b o e) hb (neC b o e hx) e1 (I.base.free b o e n hx)
  exact ⟨sl',e2⟩
 ·obtain ⟨o',e1⟩:=I.base.there b o e hx
  exact free b o' (neC b o e hx) e1 (I.base.free b o e n hx)
 ·obtain ⟨o',e1⟩:=I.base.there b o e hx
  exact there b o' (neC b o e hx) e1
 ·obtain ⟨m1,e1⟩:=I.base.tbls b ps e
  obtain ⟨m2,e2⟩:=tbls b _ e1
  exact ⟨m1 ++ m2,by rw [e2,Array.append_assoc]⟩
 ·obtain ⟨m,hn,hl⟩:=I.loc
  refine ⟨m,ns m hn,fun i x v e1 e2 e3=>?_⟩
  obtain ⟨u,r,l⟩:=hl i x v e1 e2 e3
  refine ⟨u,r,?_⟩
  rcases l with l | ⟨k,c,e,z⟩
  ·exact .inl l
  ·exact .inr ⟨k,c,e,cellK x c e _ z⟩
 ·obtain ⟨v,z⟩:=I.cell x c e
  exact ⟨v,cellK x c e v z⟩
 ·obtain ⟨m,⟨o,_,_,ho,_⟩,_⟩:=I.loc
  exact free _ o (fun z=>(hch _ z).2.1 rfl) ho I.free
 ·obtain ⟨v,o,ho,hd⟩:=I.cell x c e
  exact free c o (fun z=>(hch c z).2.2.1 x c e rfl) ho (I.freeC x c e)
 ·obtain ⟨e,n,ne,nf,d⟩:=I.pin p hp
  have nch:p.1 ∉ ch:=fun z=>(hch p.1 z).2.2.2 p hp rfl
  exact ⟨keep p.1 p.2 ne nf nch e n,free p.1 p.2 nch e n,ne,nf,d⟩
theorem Inv.un {t':Nat} (I:Inv X pins σ H s) (u:Un X.fs [] H H' s.heap h') (hok:HOk X.prog X.w H' h'):Inv X pins σ H' { s with heap:=h',toks:=t' }:=by
 obtain ⟨m,⟨o,es,ep,ho,r⟩,_⟩:=id I.loc
 obtain ⟨sl,hL⟩:=u.any ho I.free (by simp)
 exact I.step (g':=s.gens) (d':=s.drawn) (ch:=[]) (fun _ z=>nomatch z) (fun b o _ hb _ e n=>u.keep b o e n hb (by simp)) (fun b o _ hb _ e n=>u.slot b o e n hb (by simp)) (fun b o _ e n=>u.free b o e n (by simp)) (fun b o _ e=>u.there b o e (by simp)) u.tups u.frzs u.tbls (fun m' hm=>by
  obtain ⟨o',es',ep',ho',r'⟩:=hm
  rw [ho] at ho';cases ho'
  exact ⟨_,es',ep',hL,r'⟩) hok I.bare
theorem Inv.call {g':Array GenState} {t':Nat} {d':Drawn} {ch:List Addr} (I:Inv X pins σ H s) (u:Un (frs X.stack) ch H H' s.heap h') (hok:HOk X.prog X.w H' h') (hg:AllBare g')
  (hch:∀ b∈ch,(b∈X.ex\/X.s₀.heap.objs.size<=b)/\b ≠ X.env.locals/\(∀ x c,X.env.cells.lookup x=some c->c ≠ b)/\∀ p∈X.pn ++ pins,p.1 ≠ b) :
  Inv X pins σ H' { s with heap:=h',gens:=g',drawn:=d',toks:=t' }:=by
 obtain ⟨m,⟨o,es,ep,ho,r⟩,_⟩:=id I.loc
 obtain ⟨sl,hL⟩:=u.any ho I.free fun z=>(hch _ z).2.1 rfl
 exact I.step (ch:=ch) hch (fun b o hL hb hc e n=>u.keep b o e n (fun z=>(List.mem_cons.mp (I.stkSub b z)).elim hL hb) hc) (fun b o _ _ hc e n=>u.any e n hc) (fun b o hc e n=>u.free b o e n hc) (fun b o hc e=>u.there b o e hc) u.tups u.frzs u.tbls (fun m' hm=>by
  obtain ⟨o',es',ep',ho',r'⟩:=hm
  rw [ho] at ho';cases ho'
  exact ⟨_,es',ep',hL,r'⟩) hok hg
theorem Inv.turned {t':Nat} {it:Addr} (I:Inv X pins σ H s) (k:∀ b o,b ≠ it->s.heap.get? b=some o->h'.get? b=some o) (hn:H it=none) (hL:it ≠ X.env.locals)
  (h1:it∈X.ex\/X.s₀.heap.objs.size<=it) (h2:∀ x c,X.env.cells.lookup x=some c->c ≠ it) (h3:∀ p∈X.pn ++ pins,p.1 ≠ it):Inv X pins σ H { s with heap:=h',toks:=t' }:=by
 have nit:∀ b u,H b=some u->b ≠ it:=fun b u e z=>by rw [z,hn] at e;cases e
 refine I.step (g':=s.gens) (d':=s.drawn) (ch:=[it]) (fun b hb=>?_) (fun b o _ _ hc e _=>k b o (fun z=>hc (by simp [z])) e) (fun b o _ _ hc e _=>⟨o.slots,k b o (fun z=>hc (by simp [z])) e⟩) (fun _ _ _ _ n=>n)
  (fun b o hc e=>⟨o,k b o (fun z=>hc (by simp [z])) e⟩) (fun _ _ e=>e) (fun _ _ _ e=>e) (fun b ps e=>⟨#[],by rw [e];simp⟩) (fun m hm=>?_) (fun b u e=>?_) I.bare
 ·have e:b=it:=by simpa using hb
  subst e
  exact ⟨h1,hL,h2,h3⟩
 ·obtain ⟨o,es,ep,ho,r⟩:=hm
  exact ⟨o,es,ep,k _ o (Ne.symm hL) ho,r⟩
 ·refine (I.hok b u e).stay (fun c v hc q=>k c v ?_ q) (fun _ q=>q) fun _ _ q=>q
  rcases hc with z | z
  ·rw [z];exact nit b u e
  ·exact nit c _ z
theorem Inv.tok (I:Inv X pins σ H s) (t:Nat):Inv X pins σ H { s with toks:=t }:=I.un (h':=s.heap) (t':=t) Un.refl I.hok
theorem Inv.kept {t':Nat} (I:Inv X pins σ H s) (k:∀ b u,s.heap.get? b=some u->h'.get? b=some u):Inv X pins σ H { s with heap:=h',toks:=t' }:=I.un (Un.kept k) (I.hok.kept k)
theorem Inv.laid {a:Addr} {o:HO} {t':Nat} (I:Inv X pins σ H s) (k:∀ b u,s.heap.get? b=some u->h'.get? b=some u) (hp:s.heap.objs.size<=a) (new:ObjOk X.prog X.w (upd H a o) h' a o) :
  Inv X pins σ (upd H a o) { s with heap:=h',toks:=t' }:=I.un (Un.laid k hp (I.hok.fresh hp)) (I.hok.laid k hp new)
theorem Inv.write {x e:Addr} {o:HO} {t':Nat} (I:Inv X pins σ H s) (mu:Mut (H x)) (he:e=x\/H e=some (.own x)) (k:∀ b u,b ≠ e->s.heap.get? b=some u->h'.get? b=some u) (heo:∃ u,h'.get? e=some u)
  (new:ObjOk X.prog X.w (upd H x o) h' x o):Inv X pins σ (upd H x o) { s with heap:=h',toks:=t' }:=I.un (Un.write mu he k heo) (I.hok.write mu he k heo new)
theorem Inv.pins_of {pins':List (Addr × Obj)} (I:Inv X pins σ H s) (h:∀ p∈pins',s.heap.get? p.1=some p.2/\H p.1=none/\p.1 ≠ X.env.locals/\p.1 ∉ X.fs/\∀ v,p.2.data ≠ .cell v):Inv X pins' σ H s :=
 ⟨I.ok,I.os,I.bare,I.base,I.loc,I.cell,I.free,I.freeC,fun p hp=>(List.mem_append.mp hp).elim (fun z=>I.pin p (List.mem_append_left _ z)) (h p),I.hok,I.len⟩
theorem nodup_ix {N:List Str} (hN:N.Nodup) {i j:Nat} {x:Str} (a:N[i]?=some x) (b:N[j]?=some x):i=j:=by
 obtain ⟨h1,e1⟩:=List.getElem?_eq_some_iff.mp a
 obtain ⟨h2,e2⟩:=List.getElem?_eq_some_iff.mp b
 exact (List.getElem_inj hN).mp (e1.trans e2.symm)
theorem afn {M:Model} {A:Around} {E:Value->Shared->Prop} {i:Nat} {x:Str} {v:V} {u:Value} {Q:Unit->Shared->Prop} (I:Inv X pins σ H s) (hN:X.N.Nodup) (hi:X.N[i]?=some x) (hx:Loc X.env.scope x) (r:RelV v u)
  (h:∀ s',Inv X pins (σ.set i (some v)) H s'->(∃ a,Heap.SameBut a s.heap s'.heap/\(a=X.env.locals\/X.env.cells.lookup x=some a))->Q () s') (hf:X.fn x=true\/X.env.scope.names.lookup x=some .local:=by first | exact .inl rfl | exact .inr rfl | assumption):wpAny M A (storeName X.env x u) Q E s:=by
 obtain ⟨m,hn,hl⟩:=id I.loc
 have hcls:(X.env.scope.kind == .class || (X.env.scope.kind == .module && X.env.locals != X.env.globals))=false:=by rw [I.ok.kind];rfl
 have hiσ:i < σ.length:=by rw [I.len];exact (List.getElem?_eq_some_iff.mp hi).1
 have cne:=I.cne
 have tracked:∀ {a:Addr} {h':Heap},(∃ o,s.heap.get? a=some o/\H a=none)->Heap.SameBut a s.heap h'->HOk X.prog X.w H h':=fun {a h'} ha hs b ob e=>by
  obtain ⟨_,_,hfree⟩:=ha
  refine (I.hok b ob e).stay (fun c w' hc q=>(hs.2 c ?_).trans q) (fun _ q=>q) fun _ _ q=>q
  rintro rfl
  rcases hc with rfl | hc
  ·rw [hfree] at e;cases e
  ·rw [hfree] at hc;cases hc
 rcases hx with hk | hk
 ·refine wpAny_storeName_local hk hn (fun h' hn' hs=>?_) hcls
  obtain ⟨oL,_,_,hoL,_⟩:=id hn
  refine h _ ⟨I.ok,I.os,I.bare,⟨fun b o e n hb hx=>?_,fun b o e n hb hx=>?_,I.base.free,fun b o e hx=>?_,I.base.tups,I.base.frzs,I.base.tbls⟩,⟨_,hn',fun j y v' e1 e2 e3=>?_⟩,fun y c e=>?_,I.free,I.freeC,fun p hp=>?_,tracked ⟨oL,hoL,I.free⟩ hs,by simpa using I.len⟩ ⟨_,hs,.inl rfl⟩
  ·exact (hs.2 b (Nat.ne_of_lt (Nat.lt_of_lt_of_le (Heap.lt_size e) I.ok.above))).trans (I.base.keep b o e n hb hx)
  ·obtain ⟨sl,e1⟩:=I.base.slot b o e n hb hx
   exact ⟨sl,(hs.2 b (Nat.ne_of_lt (Nat.lt_of_lt_of_le (Heap.lt_size e) I.ok.above))).trans e1⟩
  ·obtain ⟨o',e1⟩:=I.base.there b o e hx
   exact ⟨o',(hs.2 b (Nat.ne_of_lt (Nat.lt_of_lt_of_le (Heap.lt_size e) I.ok.above))).trans e1⟩
  ·by_cases hj:j=i
   ·subst hj
    rw [hi] at e1;cases e1
    rw [List.getElem?_set_self hiσ] at e2
    cases e2
    exact ⟨u,r,.inl ⟨hk,by simp⟩⟩
   ·rw [List.getElem?_set_ne (Ne.symm hj)] at e2
    obtain ⟨u',r',q⟩:=hl j y v' e1 e2 e3
    refine ⟨u',r',?_⟩
    rcases q with ⟨k,e⟩ | ⟨k,c,e,z⟩
    ·refine .inl ⟨k,?_⟩
     have:y ≠ x:=fun e=>hj (nodup_ix hN e1 (e ▸ hi))
     simp [this,e]
    ·exact .inr ⟨k,c,e,z.sameBut hs (cne y c e)⟩
  ·obtain ⟨w',z⟩:=I.cell y c e
   exact ⟨w',z.sameBut hs (cne y c e)⟩
  ·obtain ⟨e,n,ne,nf,d⟩:=I.pin p hp
   exact ⟨(hs.2 p.1 ne).trans e,n,ne,nf,d⟩
 ·have hfn:X.fn x=true:=by
   rcases hf with z | z
   ·exact z
   ·rw [z] at hk;cases hk
  obtain ⟨c,hc⟩:=I.ok.has x (.inl hk)
  obtain ⟨w',z⟩:=I.cell x c hc
  refine wpAny_storeName_cell I.ok.kind hk hc z (fun h' hc' hs=>?_)
  obtain ⟨oc,hoc,hocd⟩:=id z
  refine h { s with heap:=h' } ⟨I.ok,I.os,I.bare,⟨fun b o e n hb hx=>?_,fun b o e n hb hx=>?_,I.base.free,fun b o e hx=>?_,I.base.tups,I.base.frzs,I.base.tbls⟩,⟨m,hn.sameBut hs (Ne.symm (cne x c hc)),fun j y v' e1 e2 e3=>?_⟩,fun y c' e=>?_,I.free,I.freeC,fun p hp=>?_,tracked ⟨oc,hoc,I.freeC x c hc⟩ hs,by simpa using I.len⟩ ⟨c,hs,.inr hc⟩
  ·exact (hs.2 b (Nat.ne_of_lt (Nat.lt_of_lt_of_le (Heap.lt_size e) (I.ok.cab x c hfn hc)))).trans (I.base.keep b o e n hb hx)
  ·obtain ⟨sl,e1⟩:=I.base.slot b o e n hb hx
   exact ⟨sl,(hs.2 b (Nat.ne_of_lt (Nat.lt_of_lt_of_le (Heap.lt_size e) (I.ok.cab x c hfn hc)))).trans e1⟩
  ·obtain ⟨o',e1⟩:=I.base.there b o e hx
   exact ⟨o',(hs.2 b (Nat.ne_of_lt (Nat.lt_of_lt_of_le (Heap.lt_size e) (I.ok.cab x c hfn hc)))).trans e1⟩
  ·by_cases hj:j=i
   ·subst hj
    rw [hi] at e1;cases e1
    rw [List.getElem?_set_self hiσ] at e2
    cases e2
    exact ⟨u,r,.inr ⟨.inl hk,c,hc,hc'⟩⟩
   ·rw [List.getElem?_set_ne (Ne.symm hj)] at e2
    obtain ⟨u',r',q⟩:=hl j y v' e1 e2 e3
    refine ⟨u',r',?_⟩
    rcases q with q | ⟨k,c',e,z'⟩
    ·exact .inl q
    ·refine .inr ⟨k,c',e,z'.sameBut hs ?_⟩
     rintro rfl
     exact hj (nodup_ix hN e1 (I.ok.inj _ _ _ e hc ▸ hi))
  ·by_cases hcc:c'=c
   ·subst hcc;exact ⟨_,hc'⟩
   ·obtain ⟨w2,z2⟩:=I.cell y c' e
    exact ⟨w2,z2.sameBut hs hcc⟩
  ·obtain ⟨e,n,ne,nf,d⟩:=I.pin p hp
   refine ⟨(hs.2 p.1 ?_).trans e,n,ne,nf,d⟩
   intro q
   rw [q,hoc] at e
   have q':oc=p.2:=Option.some.inj e
   exact d w' (by rw [← q'];exact hocd)
theorem akk {M:Model} {A:Around} {E:Value->Shared->Prop} {i:Nat} {x:Str} {v:V} {u:Value} {Q:Unit->Shared->Prop} (I:Inv X pins σ H s) (hN:X.N.Nodup) (hi:X.N[i]?=some x) (hx:Loc X.env.scope x) (r:RelV v u)
  (h:∀ s',Inv X pins (σ.set i (some v)) H s'->Q () s') (hf:X.fn x=true\/X.env.scope.names.lookup x=some .local:=by first | exact .inl rfl | exact .inr rfl | assumption):wpAny M A (storeName X.env x u) Q E s :=
 afn I hN hi hx r (fun s' I' _=>h s' I') hf
theorem Inv.call' {s':Shared} {ch:List Addr} (I:Inv X pins σ H s) (ho:s'.os=s.os) (u:Un (frs X.stack) ch H H' s.heap s'.heap) (hok:HOk X.prog X.w H' s'.heap) (hg:AllBare s'.gens)
  (hch:∀ b∈ch,(b∈X.ex\/X.s₀.heap.objs.size<=b)/\b ≠ X.env.locals/\(∀ x c,X.env.cells.lookup x=some c->c ≠ b)/\∀ p∈X.pn ++ pins,p.1 ≠ b):Inv X pins σ H' s':=by
 obtain ⟨h',g',d',t',o'⟩:=s'
 have e:o'=s.os:=ho
 subst e
 exact I.call (g':=g') (t':=t') (d':=d') u hok hg hch
end
noncomputable abbrev XK:=Value->Option Addr->Hp->Prop
noncomputable abbrev St:=List (Option V)
noncomputable abbrev VK:=V->Hp->Prop
noncomputable abbrev TE:=St->Hp->VK->Prop
noncomputable abbrev TT:=St->Hp->(Bool->Hp->Prop)->Prop
noncomputable abbrev TA:=St->Hp->(List V->Hp->Prop)->Prop
structure Ends where
 nx:St->Hp->Prop
 rt:VK
 bk:St->Hp->Prop:=fun _ _=>False
 ct:St->Hp->Prop:=fun _ _=>False
noncomputable abbrev TS:=Ends->St->Hp->Prop
def EP (X:Cx) (pins:List (Addr × Obj)) (σ:St) (Q:VK) (u:Value) (s':Shared):Prop:=∃ v H',Inv X pins σ H' s'/\RelV v u/\Q v H'
def TP (X:Cx) (pins:List (Addr × Obj)) (σ:St) (Q:Bool->Hp->Prop) (b:Bool) (s':Shared):Prop:=∃ H',Inv X pins σ H' s'/\Q b H'
def AP (X:Cx) (pins:List (Addr × Obj)) (σ:St) (Q:List V->Hp->Prop) (us:List Value) (s':Shared):Prop:=∃ vs H',Inv X pins σ H' s'/\Vals vs us/\Q vs H'
def SP (X:Cx) (pins:List (Addr × Obj)) (D:Ends) (f:Flow) (s':Shared):Prop :=
 match f with
 | .next=>∃ σ' H',Inv X pins σ' H' s'/\D.nx σ' H'
 | .brk=>∃ σ' H',Inv X pins σ' H' s'/\D.bk σ' H'
 | .cont=>∃ σ' H',Inv X pins σ' H' s'/\D.ct σ' H'
 | .ret u=>∃ v σ' H',Inv X pins σ' H' s'/\RelV v u/\D.rt v H'
def PE (X:Cx) (e:Expr) (t:TE):Prop :=
 ∀ (pins:List (Addr × Obj)) (s:Shared) (σ:St) (H:Hp) (Q:VK),Inv X pins σ H s->t σ H Q->wpAny (model X.prog X.w) X.A (eval e X.env) (EP X pins σ Q) X.xe s
def PT (X:Cx) (e:Expr) (t:TT):Prop :=
 ∀ (pins:List (Addr × Obj)) (s:Shared) (σ:St) (H:Hp) (Q:Bool->Hp->Prop),Inv X pins σ H s->t σ H Q->wpAny (model X.prog X.w) X.A (isTrue e X.env (eval e X.env)) (TP X pins σ Q) X.xe s
def PW (X:Cx) (e:Expr) (t:TT):Prop :=
 ∀ (whole:Sem Value) (pins:List (Addr × Obj)) (s:Shared) (σ:St) (H:Hp) (Q:Bool->Hp->Prop),Inv X pins σ H s->t σ H Q->wpAny (model X.prog X.w) X.A (isTrue e X.env whole) (TP X pins σ Q) X.xe s
theorem PW.pt {X:Cx} {e:Expr} {t:TT} (h:PW X e t):PT X e t:=h _
def PA (X:Cx) (es:List Expr) (t:TA):Prop :=
 ∀ (pos:Pos) (pins:List (Addr × Obj)) (s:Shared) (σ:St) (H:Hp) (Q:List V->Hp->Prop),Inv X pins σ H s->t σ H Q->wpAny (model X.prog X.w) X.A (spliced (backTo pos (starEach es X.env))) (AP X pins σ Q) X.xe s
def PS (X:Cx) (st:Stmt) (t:TS):Prop :=
 ∀ (pins:List (Addr × Obj)) (s:Shared) (σ:St) (H:Hp) (D:Ends),Inv X pins σ H s->t D σ H->wpAny (model X.prog X.w) X.A (exec st X.env) (SP X pins D) X.xe s
def PSs (X:Cx) (st:List Stmt) (t:TS):Prop :=
 ∀ (pins:List (Addr × Obj)) (s:Shared) (σ:St) (H:Hp) (D:Ends),Inv X pins σ H s->t D σ H->wpAny (model X.prog X.w) X.A (execs st X.env) (SP X pins D) X.xe s
theorem thn {α:Type} {t:Sem α} {Q Q' : α->Shared->Prop} {M:Model} {A:Around} {E:Value->Shared->Prop} {s:Shared} (h:wpAny M A t Q E s) (hQ:∀ a s,Q a s->Q' a s):wpAny M A t Q' E s:=wpAny_mono h hQ fun _ _ x=>x
section
variable {X:Cx}
def tVar (i:Nat):TE:=fun σ H Q=>∃ v,σ[i]?=some (some v)/\Q v H
def tC (v:V):TE:=fun _ H Q=>Q v H
theorem av9 {i:Nat} {x:Str} {pos:Pos} (hN:X.N[i]?=some x) (hv:Vis X.env.scope x) (hd:(x == ("__debug__" : Str))=false:=by decide) (hcd:(x == ("__classdict__" : Str))=false:=by decide):PE X (.Name x pos) (tVar i):=by
 intro pins s σ H Q I h
 obtain ⟨v,e,h⟩:=h
 obtain ⟨m,hn,hl⟩:=I.loc
 obtain ⟨u,r,l⟩:=hl i x v hN e hv
 have fin:EP X pins σ Q u s:=⟨v,H,I,r,h⟩
 rcases l with ⟨hk,hm⟩ | ⟨hk,c,hc,hcell⟩
 ·exact wpAny_Name (wpAny_loadName_local I.ok.kind hk hn hm fin) hd
 ·rcases hk with hk | hk
  ·exact wpAny_Name (wpAny_loadName_cell I.ok.kind hk hc hcell fin) hd
  ·exact wpAny_Name (wpAny_loadName_free I.ok.kind hk hc hcell fin hcd) hd
theorem aac {i j pos}:PE X (.Constant (.int i) j pos) (tC (.int i)):=fun _ _ _ H _ I h=>wpAny_Constant_int ⟨.int i,H,I.tok _,⟨_,rfl⟩,h⟩
theorem aca {b j pos}:PE X (.Constant (.bool b) j pos) (tC (.bl b)):=fun _ _ _ H _ I h=>Constant_bool ⟨.bl b,H,I,rfl,h⟩
theorem afo {j pos}:PE X (.Constant .none j pos) (tC .non):=fun _ _ _ H _ I h=>Constant_none ⟨.non,H,I,rfl,h⟩
def Gl (X:Cx) (x:Str):Prop:=X.env.kindOf x=some .globalImplicit
theorem amr {E:Value->Shared->Prop} {pins:List (Addr × Obj)} {s:Shared} {σ:St} {H:Hp} {x:Str} {u:Value} {pos:Pos} {Q:Value->Shared->Prop} (I:Inv X pins σ H s) (hg:Gl X x) (hm:X.mg x=some u) (h:Q u s)
  (hd:(x == ("__debug__" : Str))=false:=by decide):wpAny (model X.prog X.w) X.A (eval (.Name x pos) X.env) Q E s :=
 Calls.Name_function_global I.ok.kind hg (Calls.loadGlobal_global (by rw [I.ok.glob];exact I.mod.glob.keeps I.bk) hm h) hd
theorem acu {E:Value->Shared->Prop} {pins:List (Addr × Obj)} {s:Shared} {σ:St} {H:Hp} {x:Str} {u:Value} {pos:Pos} {Q:Value->Shared->Prop} (I:Inv X pins σ H s) (hg:Gl X x) (hm:X.mg x=none) (hv:bootBuiltins x=some u) (h:Q u s)
  (hn:x ≠ "__name__":=by decide) (hd:(x == ("__debug__" : Str))=false:=by decide):wpAny (model X.prog X.w) X.A (eval (.Name x pos) X.env) Q E s:=by
 obtain ⟨mb,h1,h2⟩:=I.mod.blt
 exact Calls.Name_function_global I.ok.kind hg (Calls.loadGlobal_builtin (by rw [I.ok.glob];exact I.mod.glob.keeps I.bk) hm (by rw [I.ok.blt];exact h1.keeps I.bk) ((h2 x hn).trans hv) h) hd
theorem ams {x:Str} {v:V} {u:Value} {pos:Pos} (hg:Gl X x) (hm:X.mg x=some u) (r:RelV v u) (hd:(x == ("__debug__" : Str))=false:=by decide):PE X (.Name x pos) (tC v) :=
 fun _ _ _ H _ I h=>amr I hg hm ⟨v,H,I,r,h⟩ hd
theorem ad6 {x:Str} {v:V} {u:Value} {pos:Pos} (hg:Gl X x) (hm:X.mg x=none) (hv:bootBuiltins x=some u) (r:RelV v u) (hn:x ≠ "__name__":=by decide) (hd:(x == ("__debug__" : Str))=false:=by decide):PE X (.Name x pos) (tC v) :=
 fun _ _ _ H _ I h=>acu I hg hm hv ⟨v,H,I,r,h⟩ hn hd
variable {a b:Expr} {ta tb:TE} {pos:Pos}
def tB (t:TE):TT:=fun σ H Q=>t σ H fun x H1=>∃ c,x=.bl c/\Q c H1
theorem ab0 {e:Expr} {t:TE} (h:PE X e t) (he:∀ whole,isTrue e X.env whole=(do let v ← whole;standAt e.pos;holding [v] (truthy v)):=by intro _;rfl):PT X e (tB t):=by
 intro pins s σ H Q I hw
 refine isTrue_plain (thn (h pins s σ H _ I hw) fun v s1 ⟨x,H1,I1,r1,q1⟩=>?_) (he _)
 obtain ⟨d,rfl,q⟩:=q1
 cases r1
 exact wpAny_truthy_bool ⟨H1,I1,q⟩
variable {tA tB':TT} {rest:List Expr}
def tAnd (t u:TT):TT:=fun σ H Q=>t σ H fun c H1=>if c=true then u σ H1 Q else Q false H1
def tOr (t u:TT):TT:=fun σ H Q=>t σ H fun c H1=>if c=true then Q true H1 else u σ H1 Q
def tNot (t:TT):TT:=fun σ H Q=>t σ H fun c H1=>Q (!c) H1
theorem aev (ha:PT X a tA):PW X (.BoolOp .And [a] pos) tA:=by
 intro wh pins s σ H Q I h
 refine isTrue_and (thn (ha pins s σ H Q I h) fun c s1 e=>?_)
 cases c with
 | true=>exact isTrue_and_nil e
 | false=>exact e
theorem aeb (ha:PT X a tA):PW X (.BoolOp .Or [a] pos) tA:=by
 intro wh pins s σ H Q I h
 refine isTrue_or (thn (ha pins s σ H Q I h) fun c s1 e=>?_)
 cases c with
 | false=>exact isTrue_or_nil e
 | true=>exact e
theorem afp (ha:PT X a tA) (hb:PW X (.BoolOp .And (b :: rest) pos) tB'):PW X (.BoolOp .And (a :: b :: rest) pos) (tAnd tA tB'):=by
 intro wh pins s σ H Q I h
 refine isTrue_and (thn (ha pins s σ H _ I h) fun c s1 ⟨H1,I1,q1⟩=>?_)
 cases c with
 | true=>exact hb wh pins s1 σ H1 Q I1 q1
 | false=>exact ⟨H1,I1,q1⟩
theorem ae3 (ha:PT X a tA) (hb:PW X (.BoolOp .Or (b :: rest) pos) tB'):PW X (.BoolOp .Or (a :: b :: rest) pos) (tOr tA tB'):=by
 intro wh pins s σ H Q I h
 refine isTrue_or (thn (ha pins s σ H _ I h) fun c s1 ⟨H1,I1,q1⟩=>?_)
 cases c with
 | true=>exact ⟨H1,I1,q1⟩
 | false=>exact hb wh pins s1 σ H1 Q I1 q1
theorem acv (ha:PT X a tA):PT X (.UnaryOp .Not a pos) (tNot tA):=by
 intro pins s σ H Q I h
 exact isTrue_not (ha pins s σ H (fun c H1=>Q (!c) H1) I h)
def an3 (ta tb:TE):TE:=fun σ H Q=>ta σ H fun x H1=>∃ c,x=.bl c/\if c=true then tb σ H1 Q else Q (.bl false) H1
def an4 (ta:TE):TE:=fun σ H Q=>ta σ H fun x H1=>∃ c,x=.bl c/\Q (.bl (!c)) H1
theorem aec {op} {t:TE} (h:PE X a t):PE X (.BoolOp op [a] pos) t:=fun pins s σ H Q I hw=>BoolOp_one (h pins s σ H Q I hw)
theorem adb (ha:PE X a ta) (hb:PE X (.BoolOp .And (b :: rest) pos) tb):PE X (.BoolOp .And (a :: b :: rest) pos) (an3 ta tb):=by
 intro pins s σ H Q I h
 refine BoolOp_and (thn (ha pins s σ H _ I h) fun v s1 ⟨x,H1,I1,r1,q1⟩=>?_)
 obtain ⟨c,rfl,q1⟩:=q1
 cases r1
 refine wpAny_truthy_bool ?_
 cases c with
 | true=>exact hb pins s1 σ H1 Q I1 q1
 | false=>exact ⟨.bl false,H1,I1,rfl,q1⟩
theorem awa (ha:PE X a ta):PE X (.UnaryOp .Not a pos) (an4 ta):=by
 intro pins s σ H Q I h
 refine UnaryOp_ (thn (ha pins s σ H _ I h) fun v s1 ⟨x,H1,I1,r1,q1⟩=>?_)
 obtain ⟨c,rfl,q1⟩:=q1
 cases r1
 exact not_of (wpAny_truthy_bool ⟨.bl (!c),H1,I1,rfl,q1⟩)
def tIf (t:TT) (ta tb:TE):TE:=fun σ H Q=>t σ H fun c H1=>if c=true then ta σ H1 Q else tb σ H1 Q
theorem aq9 {c:Expr} (hc:PT X c tA) (ha:PE X a ta) (hb:PE X b tb):PE X (.IfExp c a b pos) (tIf tA ta tb):=by
 intro pins s σ H Q I h
 refine wpAny_IfExp (thn (hc pins s σ H _ I h) fun d s1 ⟨H1,I1,q1⟩=>?_)
 cases d with
 | true=>exact ha pins s1 σ H1 Q I1 q1
 | false=>exact hb pins s1 σ H1 Q I1 q1
end
def SqL (K:Frag) (H:Hp) (a:Addr) (xs:List V):Prop :=
 Rd H a (.lst xs) ∨
  ∃ (o:Obj) (its:Array Value) (n:Nat),K.lookup a=some o/\o.cls=.type "list"/\o.dict=none/\o.data=.seq its n/\its.size<=sizeLine/\Vals xs its.toList
def SqT (K:Frag) (H:Hp) (a:Addr) (xs:List V):Prop :=
 Rd H a (.tup xs) ∨
  ∃ (o:Obj) (its:Array Value) (n:Nat),K.lookup a=some o/\o.cls=.type "tuple"/\o.data=.seq its n/\its.size<=sizeLine/\Vals xs its.toList
noncomputable def absV:Value->Option V
 | .none=>some .non
 | .bool b=>some (.bl b)
 | .int i _=>some (.int i)
 | .str x _=>some (.str x)
 | .bytes b _=>some (.byt b)
 | .float b _=>some (.flt b)
 | .ref a=>some (.ref a)
 | .type n=>some (.ty n)
 | _=>none
theorem RelV.abs {x:V} {u:Value} (r:RelV x u):absV u=some x:=by
 cases x with
 | non=>cases r;rfl
 | bl _=>cases r;rfl
 | int _=>obtain ⟨t,rfl⟩:=r;rfl
 | str _=>obtain ⟨t,rfl⟩:=r;rfl
 | byt _=>obtain ⟨t,rfl⟩:=r;rfl
 | flt _=>obtain ⟨t,rfl⟩:=r;rfl
 | ref _=>cases r;rfl
 | ty _=>cases r;rfl
theorem RelV.inj {x y:V} {u:Value} (r:RelV x u) (q:RelV y u):x=y:=Option.some.inj (r.abs.symm.trans q.abs)
theorem Vals.inj:∀ {xs ys:List V} {us:List Value},Vals xs us->Vals ys us->xs=ys
 | _,_,_,.nil,.nil=>rfl
 | _,_,_,.cons r t,.cons r' t'=>by rw [r.inj r',Vals.inj t t']
section
variable {X:Cx} {pins:List (Addr × Obj)} {σ:St} {H:Hp} {s:Shared} {a:Addr} {xs ys:List V}
theorem SqL.of {K:Frag} (h:H a=some (.lst xs)):SqL K H a xs:=.inl (.inl h)
theorem SqT.of {K:Frag} (h:H a=some (.tup xs)):SqT K H a xs:=.inl (.inl h)
theorem Inv.list (I:Inv X pins σ H s) (h:SqL X.K H a xs):∃ its:List Value,Vals xs its/\PlainL s.heap a its.toArray/\xs.length<=sizeLine:=by
 rcases h with h | ⟨o,its,n,hk,hc,hd,hs,hz,r⟩
 ·obtain ⟨z,its,n,r,e⟩:=h.ok I.hok
  exact ⟨its,r,⟨_,n,e,rfl,rfl,rfl⟩,z⟩
 ·refine ⟨its.toList,r,⟨o,n,I.kIn a o hk,hc,hd,by simpa using hs⟩,?_⟩
  have e:=r.length
  simp only [Array.length_toList] at e
  omega
theorem Inv.tuple (I:Inv X pins σ H s) (h:SqT X.K H a xs):∃ its:List Value,Vals xs its/\IsTup s.heap a its.toArray/\xs.length<=sizeLine:=by
 rcases h with h | ⟨o,its,n,hk,hc,hs,hz,r⟩
 ·obtain ⟨z,its,r,p⟩:=h.ok I.hok
  exact ⟨its,r,p,z⟩
 ·refine ⟨its.toList,r,⟨o,I.kIn a o hk,hc,n,by simpa using hs⟩,?_⟩
  have e:=r.length
  simp only [Array.length_toList] at e
  omega
theorem Inv.list_inj (I:Inv X pins σ H s) (h:SqL X.K H a xs) (h':SqL X.K H a ys):xs=ys:=by
 obtain ⟨its,r,⟨o,n,e,_,_,d⟩,_⟩:=I.list h
 obtain ⟨its',r',⟨o',n',e',_,_,d'⟩,_⟩:=I.list h'
 rw [e] at e';cases e'
 rw [d] at d'
 injection d' with d1 _
 have:its=its':=by simpa using congrArg Array.toList d1
 subst this
 exact r.inj r'
end
noncomputable abbrev Cx.wish (X:Cx) (E:Value->Shared->Prop):Cx:={ X with xe:=E }
noncomputable abbrev Cx.nox (X:Cx):Cx:=X.wish fun _ _=>False
theorem Cx.Ok.wish {X:Cx} (ok:X.Ok) (E:Value->Shared->Prop):(X.wish E).Ok :=
 ⟨ok.mod,ok.kind,ok.glob,ok.blt,ok.above,ok.inj,ok.has,ok.cab,ok.hd,ok.frames,ok.stk,ok.exf,ok.bs,ok.bsz,ok.noex,ok.exfs,ok.funs,ok.frf⟩
theorem Cx.Ok.unwish {X:Cx} {E:Value->Shared->Prop} (ok:(X.wish E).Ok):X.Ok :=
 ⟨ok.mod,ok.kind,ok.glob,ok.blt,ok.above,ok.inj,ok.has,ok.cab,ok.hd,ok.frames,ok.stk,ok.exf,ok.bs,ok.bsz,ok.noex,ok.exfs,ok.funs,ok.frf⟩
section
variable {X:Cx} {pins:List (Addr × Obj)} {σ:St} {H:Hp} {s:Shared} {E:Value->Shared->Prop}
theorem Inv.wish (I:Inv X pins σ H s) (E:Value->Shared->Prop):Inv (X.wish E) pins σ H s:=⟨I.ok.wish E,I.os,I.bare,I.base,I.loc,I.cell,I.free,I.freeC,I.pin,I.hok,I.len⟩
theorem Inv.unwish (I:Inv (X.wish E) pins σ H s):Inv X pins σ H s:=⟨I.ok.unwish,I.os,I.bare,I.base,I.loc,I.cell,I.free,I.freeC,I.pin,I.hok,I.len⟩
theorem SP.unwish {D:Ends} {f:Flow} {s':Shared} (h:SP (X.wish E) pins D f s'):SP X pins D f s':=by
 cases f with
 | next=>obtain ⟨σ',H',I,q⟩:=h;exact ⟨σ',H',I.unwish,q⟩
 | brk=>obtain ⟨σ',H',I,q⟩:=h;exact ⟨σ',H',I.unwish,q⟩
 | cont=>obtain ⟨σ',H',I,q⟩:=h;exact ⟨σ',H',I.unwish,q⟩
 | ret u=>obtain ⟨v,σ',H',I,r,q⟩:=h;exact ⟨v,σ',H',I.unwish,r,q⟩
theorem PSs.nox {st:List Stmt} {t:TS} (h:PSs X.nox st t):PSs X st t:=fun pins s σ H D I hw =>
 wpAny_mono (h pins s σ H D (I.wish _) hw) (fun _ _ q=>q.unwish) fun _ _ z=>False.elim z
end
section
variable {X:Cx} {st:Stmt} {rest:List Stmt} {t u:TS} {e:Expr} {te:TE} {pos:Pos}
def atg:TS:=fun D σ H=>D.nx σ H
def tSeq (t u:TS):TS:=fun D σ H=>t { D with nx:=u D } σ H
theorem aa5:PSs X [] atg:=fun _ _ σ H _ I h=>wpAny_execs_nil ⟨σ,H,I,h⟩
theorem aad (h1:PS X st t) (h2:PSs X rest u):PSs X (st :: rest) (tSeq t u):=by
 intro pins s σ H D I h
 refine wpAny_execs_cons (thn (h1 pins s σ H { D with nx:=u D } I h) fun f s1 q=>?_)
 cases f with
 | next =>
  obtain ⟨σ',H',I',q⟩:=q
  exact h2 pins s1 σ' H' D I' q
 | ret v=>exact q
 | brk=>exact q
 | cont=>exact q
theorem aaf (h1:PS X st t):PSs X [st] t:=by
 intro pins s σ H D I h
 refine wpAny_execs_cons (thn (h1 pins s σ H D I h) fun f s1 q=>?_)
 cases f with
 | next=>exact wpAny_execs_nil q
 | ret v=>exact q
 | brk=>exact q
 | cont=>exact q
theorem Inv.quiet {pins:List (Addr × Obj)} {σ:St} {H:Hp} {s:Shared} (I:Inv X pins σ H s):interactive X.env=false:=by simp [interactive,I.ok.kind]
def ath (te:TE):TS:=fun D σ H=>te σ H fun _ H1=>D.nx σ H1
theorem aba (he:PE X e te) (hs:swapsWith e none pos.line X.env=pure false:=by rfl):PS X (.Expr e pos) (ath te):=by
 intro pins s σ H D I h
 exact wpAny_Expr_any (thn (he pins s σ H _ I h) fun v s1 ⟨x,H1,I1,r1,q1⟩=>⟨σ,H1,I1,q1⟩) I.quiet hs
def tRet (te:TE):TS:=fun D σ H=>te σ H D.rt
theorem aas (he:PE X e te):PS X (.Return (some e) pos) (tRet te):=by
 intro pins s σ H D I h
 exact wpAny_Return_some (thn (he pins s σ H _ I h) fun v s1 ⟨x,H1,I1,r1,q1⟩=>⟨x,σ,H1,I1,r1,q1⟩)
def tIfS (c:TT) (t u:TS):TS:=fun D σ H=>c σ H fun b H1=>if b=true then t D σ H1 else u D σ H1
theorem abc {c:Expr} {a b:List Stmt} {tc:TT} (hc:PT X c tc) (ha:PSs X a t) (hb:PSs X b u):PS X (.If c a b pos) (tIfS tc t u):=by
 intro pins s σ H D I h
 refine wpAny_If (thn (hc pins s σ H _ I h) fun d s1 ⟨H1,I1,q1⟩=>?_)
 cases d with
 | true=>exact ha pins s1 σ H1 D I1 q1
 | false=>exact hb pins s1 σ H1 D I1 q1
def awb:TS:=fun _ _ _=>False
theorem aed:PS X st awb:=fun _ _ _ _ _ _ h=>h.elim
end
noncomputable abbrev TG:=V->St->Hp->(St->Hp->Prop)->Prop
noncomputable abbrev TGs:=List V->St->Hp->(St->Hp->Prop)->Prop
def PG (X:Cx) (target:Expr) (t:TG):Prop :=
 ∀ (pins:List (Addr × Obj)) (s:Shared) (σ:St) (H:Hp) (v:V) (u:Value) (Q:St->Hp->Prop),Inv X pins σ H s->RelV v u->t v σ H Q ->
  wpAny (model X.prog X.w) X.A (assign target X.env u) (fun _ s'=>∃ σ' H',Inv X pins σ' H' s'/\Q σ' H') X.xe s
def PGs (X:Cx) (ts:List Expr) (t:TGs):Prop :=
 ∀ (pins:List (Addr × Obj)) (s:Shared) (σ:St) (H:Hp) (vs:List V) (us:List Value) (Q:St->Hp->Prop),Inv X pins σ H s->Vals vs us->t vs σ H Q ->
  wpAny (model X.prog X.w) X.A (assignInOrder ((assignEach ts X.env).map (·.2)) us) (fun _ s'=>∃ σ' H',Inv X pins σ' H' s'/\Q σ' H') X.xe s
noncomputable abbrev TSet:=V->V->V->Hp->(Hp->Prop)->Prop
def PSet (X:Cx) (t:TSet):Prop :=
 ∀ (pins:List (Addr × Obj)) (s:Shared) (σ:St) (H:Hp) (o i v:V) (ov iv u:Value) (Q:Hp->Prop),Inv X pins σ H s->RelV o ov->RelV i iv->RelV v u->t o i v H Q ->
  wpAny (model X.prog X.w) X.A (setItem ov iv u) (fun _ s'=>∃ H',Inv X pins σ H' s'/\Q H') X.xe s
section
variable {X:Cx} {pos:Pos}
def aay (i:Nat):TG:=fun v σ H Q=>Q (σ.set i (some v)) H
theorem aak {i:Nat} {x:Str} (hN:X.N.Nodup) (hi:X.N[i]?=some x) (hx:Loc X.env.scope x) (hf:X.fn x=true\/X.env.scope.names.lookup x=some .local:=by first | exact .inl rfl | exact .inr rfl | assumption):PG X (.Name x pos) (aay i):=by
 intro pins s σ H v u Q I r h
 exact wpAny_assign_Name (akk I hN hi hx r (fun s' I'=>⟨_,H,I',h⟩) hf)
def gNil:TGs:=fun vs σ H Q=>vs=[]/\Q σ H
def ado (t:TG) (u:TGs):TGs:=fun vs σ H Q=>∃ v r,vs=v :: r/\t v σ H fun σ' H'=>u r σ' H' Q
theorem ac1:PGs X [] gNil:=by
 intro pins s σ H vs us Q I r h
 obtain ⟨e,h⟩:=h
 subst e
 cases r
 exact assignInOrder_nil ⟨σ,H,I,h⟩
theorem aa8 {e:Expr} {es:List Expr} {t:TG} {u:TGs} (h1:PG X e t) (h2:PGs X es u)
  (hs:(assignEach (e :: es) X.env).map (·.2)=assign e X.env :: (assignEach es X.env).map (·.2):=by rfl):PGs X (e :: es) (ado t u):=by
 intro pins s σ H vs us Q I r h
 obtain ⟨v,vr,e1,h⟩:=h
 subst e1
 cases r with
 | cons r rr =>
  rw [hs]
  refine assignInOrder_cons (thn (h1 pins s σ H _ _ _ I r h) fun _ s1 ⟨σ1,H1,I1,q1⟩=>?_)
  exact h2 pins s1 σ1 H1 _ _ Q I1 rr q1
def gTup (K:Frag) (n:Nat) (t:TGs):TG:=fun v σ H Q=>∃ a xs,v=.ref a/\SqT K H a xs/\xs.length=n/\t xs σ H Q
theorem aee {es:List Expr} {k:Nat} {t:TGs} {n:Nat} (hc:X.calm=true) (h:PGs X es t)
  (hn:(assignEach es X.env).length=n:=by rfl) (hst:(assignEach es X.env).findIdx? (·.1)=none:=by rfl):PG X (.Tuple es k pos) (gTup X.K n t):=by
 intro pins s σ H v u Q I r hw
 obtain ⟨a,xs,e1,hq,hl,hw⟩:=hw
 subst e1
 cases r
 obtain ⟨its,rv,ht,hz⟩:=I.tuple hq
 refine assign_Tuple_tuple (I.ok.hd hc) ht (by simp [hn,← hl,rv.length]) hst fun h' hx=>?_
 have I1:Inv X pins σ H { s with heap:=h' }:=I.kept (t':=s.toks) fun b o e=>hx b o (Nat.ne_of_lt (Heap.lt_size e)) e
 exact h pins _ σ H xs _ Q I1 (by simpa using rv) hw
def gSub (to ti:TE) (t:TSet):TG:=fun v σ H Q=>to σ H fun o H1=>ti σ H1 fun i H2=>t o i v H2 fun H3=>Q σ H3
theorem ao4 {o i:Expr} {to ti:TE} {t:TSet} (ho:PE X o to) (hi:PE X i ti) (hs:PSet X t)
  (ha:∀ v,assign (.Subscript o i pos) X.env v=(do
   let ov ← holding [v] (eval o X.env)
   let iv ← holding [v,ov] (eval i X.env)
   standAt pos
   holding [v,ov,iv] (setItem ov iv v)
   release [v,ov,iv] []):=by intro _;rfl):PG X (.Subscript o i pos) (gSub to ti t):=by
 intro pins s σ H v u Q I r h
 rw [ha]
 refine wpAny_bind (wpAny_holding (thn (ho pins s σ H _ I h) fun ov s1 ⟨x,H1,I1,r1,q1⟩=>?_))
 refine wpAny_bind (wpAny_holding (thn (hi pins s1 σ H1 _ I1 q1) fun iv s2 ⟨y,H2,I2,r2,q2⟩=>?_))
 refine wpAny_bind (wpAny_standAt (wpAny_bind (wpAny_holding (thn (hs pins s2 σ H2 x y v ov iv u _ I2 r1 r2 r q2) fun _ s3 ⟨H3,I3,q3⟩=>?_))))
 exact wpAny_release ⟨σ,H3,I3,q3⟩
def tAsg (te:TE) (g:TG):TS:=fun D σ H=>te σ H fun x H1=>g x σ H1 D.nx
theorem aew {tg e:Expr} {te:TE} {g:TG} (he:PE X e te) (hg:PG X tg g) (hs:swapsWithSole [tg] e pos.line X.env=pure false:=by rfl) (hw:swappedStores [tg] e X.env=pure none:=by rfl)
  (h1:(assignEach [tg] X.env).map (·.2)=[assign tg X.env]:=by rfl):PS X (.Assign [tg] e pos) (tAsg te g):=by
 intro pins s σ H D I h
 refine wpAny_Assign_stores (thn (he pins s σ H _ I h) fun v s1 ⟨x,H1,I1,r1,q1⟩=>?_) hs hw
 rw [h1]
 exact thn (hg pins s1 σ H1 x v _ I1 r1 q1) fun _ s2 q=>q
theorem aao {i:Nat} {x:Str} {e:Expr} {te:TE} {pos':Pos} (hN:X.N.Nodup) (hi:X.N[i]?=some x) (hx:Loc X.env.scope x) (he:PE X e te) (hs:swapsWith e (some (.Name x pos')) pos.line X.env=pure false:=by rfl) (hf:X.fn x=true\/X.env.scope.names.lookup x=some .local:=by first | exact .inl rfl | exact .inr rfl | assumption) :
  PS X (.Assign [.Name x pos'] e pos) (tAsg te (aay i)):=by
 intro pins s σ H D I h
 refine wpAny_Assign_Name (thn (he pins s σ H _ I h) fun v s1 ⟨y,H1,I1,r1,q1⟩=>?_) hs
 exact akk I1 hN hi hx r1 (fun s2 I2=>⟨_,H1,I2,q1⟩) hf
end
section
variable {X:Cx} {pos:Pos}
def ao5 (c:TT) (tb:TS):TS:=fun D σ H=>∃ W:Nat->St->Hp->Prop,(∃ m,W m σ H)/\∀ m σ H,W m σ H ->
 c σ H fun b H1=>if b=true then ∃ N:St->Hp->Prop,(∀ σ' H',N σ' H'->∃ m',m' < m/\W m' σ' H')/\tb { D with nx:=N,ct:=N,bk:=D.nx } σ H1 else D.nx σ H1
theorem akl {c:Expr} {body:List Stmt} {tc:TT} {tb:TS} (hp:PassesOwn (model X.prog X.w) X.A X.env X.xe) (hc:PT X c tc) (hb:PSs X body tb):PS X (.While c body [] pos) (ao5 tc tb):=by
 intro pins s σ H D I h
 obtain ⟨W,⟨m0,w0⟩,turn⟩:=h
 refine wpAny_While (codeAny_whileLoop (fun n s'=>∃ σ' H',Inv X pins σ' H' s'/\W n σ' H') ?_ m0 ⟨σ,H,I,w0⟩)
 rintro n s1 ⟨σ1,H1,I1,w1⟩
 refine wpAny_passesOwn hp (thn (hc pins s1 σ1 H1 _ I1 (turn n σ1 H1 w1)) fun b s2 ⟨H2,I2,q2⟩=>?_)
 cases b with
 | true =>
  obtain ⟨N,hN,q2⟩:=q2
  rw [if_pos rfl]
  refine wpAny_passesOwn hp (thn (hb pins s2 σ1 H2 _ I2 q2) fun f s3 q3=>?_)
  cases f with
  | next =>
   obtain ⟨σ3,H3,I3,n3⟩:=q3
   obtain ⟨m',hm,w3⟩:=hN σ3 H3 n3
   exact ⟨m',hm,σ3,H3,I3,w3⟩
  | cont =>
   obtain ⟨σ3,H3,I3,n3⟩:=q3
   obtain ⟨m',hm,w3⟩:=hN σ3 H3 n3
   exact ⟨m',hm,σ3,H3,I3,w3⟩
  | brk=>exact q3
  | ret v=>exact q3
 | false =>
  rw [if_neg Bool.false_ne_true]
  exact wpAny_execs_nil ⟨σ1,H2,I2,q2⟩
end
structure It where
 go:Nat->Hp->Prop
 yld:Nat->Hp->V->Hp->Prop
 stop:Nat->Hp->Prop
def FpOk (X:Cx) (pins:List (Addr × Obj)) (H:Hp) (b:Addr):Prop :=
 H b=none/\b ≠ X.env.locals/\b ∉ X.fs/\(b∈X.ex\/X.s₀.heap.objs.size<=b)/\(∀ x c,X.env.cells.lookup x=some c->c ≠ b)/\∀ p∈X.pn ++ pins,p.1 ≠ b
theorem Inv.fpOk {X:Cx} {pins:List (Addr × Obj)} {σ:St} {H H':Hp} {s:Shared} {b:Addr} (I:Inv X pins σ H s) (hb:s.heap.objs.size<=b) (hn:H' b=none):FpOk X pins H' b:=by
 refine ⟨hn,Nat.ne_of_gt (Nat.lt_of_lt_of_le I.lt hb),I.nofs hb,.inr (Nat.le_trans I.sz hb),fun x c e z=>?_,fun p hp z=>?_⟩
 ·obtain ⟨v,q⟩:=I.cell x c e
  exact absurd (Nat.lt_of_lt_of_le q.lt (by rw [z];exact hb)) (Nat.lt_irrefl _)
 ·exact absurd (Nat.lt_of_lt_of_le (Heap.lt_size (I.pin p hp).1) (by rw [z];exact hb)) (Nat.lt_irrefl _)
structure Turn (P:Program) (w:World) (K:Frag) (tg:Expr) (J:It) (fp:List Addr) (it:Addr) (tn:Nat->Heap->Prop):Prop where
 mem:it∈fp
 obj:∀ i h,tn i h->∀ b∈fp,∃ o,h.get? b=some o/\∀ v,o.data ≠ .cell v
 keep:∀ i h h',tn i h->(∀ b∈fp,∀ o,h.get? b=some o->h'.get? b=some o)->tn i h'
 item:∀ (X:Cx),X.prog=P->X.w=w->X.K=K->X.calm=true->∀ (i:Nat) (pins:List (Addr × Obj)) (s:Shared) (σ:St) (H:Hp) (E:Value->Shared->Prop),Inv X pins σ H s->(∀ b∈fp,FpOk X pins H b)->tn i s.heap->J.go i H ->
  wpAny (model P w) X.A (pyNext (.ref it)) (fun r s1=>∃ u,r=some u /\
   wpAny (model P w) X.A (letOwnedTupleGo tg (.ref it) u) (fun _ s2=>∃ x H',Inv X pins σ H' s2/\RelV x u/\J.yld i H x H'/\tn (i+1) s2.heap/\∀ b∈fp,H' b=none) E s1) E s
 done:∀ (X:Cx),X.prog=P->X.w=w->X.K=K->X.calm=true->∀ (i:Nat) (pins:List (Addr × Obj)) (s:Shared) (σ:St) (H:Hp) (E:Value->Shared->Prop),Inv X pins σ H s->(∀ b∈fp,FpOk X pins H b)->tn i s.heap->J.stop i H ->
  wpAny (model P w) X.A (pyNext (.ref it)) (fun r s1=>r=none/\Inv X pins σ H s1) E s
 self:∀ (A:Around) (i:Nat) (s:Shared) (Q:Value->Shared->Prop) (E:Value->Shared->Prop),tn i s.heap->Q (.ref it) s->wpAny (model P w) A (pyIter (.ref it)) Q E s
noncomputable abbrev TI:=St->Hp->(It->Hp->Prop)->Prop
def PIE (X:Cx) (pins:List (Addr × Obj)) (σ:St) (tg:Expr) (R:It->Hp->Prop) (itv:Value) (s2:Shared):Prop :=
 ∃ (it:Addr) (fp:List Addr) (tn:Nat->Heap->Prop) (J:It) (H':Hp),itv=.ref it/\Inv X pins σ H' s2/\Turn X.prog X.w X.K tg J fp it tn/\tn 0 s2.heap/\(∀ b∈fp,FpOk X pins H' b)/\R J H'
def PI (X:Cx) (tg iter:Expr) (wi:TI):Prop :=
 ∀ (pins:List (Addr × Obj)) (s:Shared) (σ:St) (H:Hp) (R:It->Hp->Prop),Inv X pins σ H s->wi σ H R ->
  wpAny (model X.prog X.w) X.A (eval iter X.env) (fun v s1=>wpAny (model X.prog X.w) X.A (pyIter v) (PIE X pins σ tg R) X.xe s1) X.xe s
theorem aj8 {M:Model} {A:Around} {E:Value->Shared->Prop} {s:Shared} {tg:Expr} {it:Addr} {u:Value} {o:Obj} {n:String} {vs:Array Value} {Q:Unit->Shared->Prop} (ho:s.heap.get? it=some o) (hc:o.cls=.type n) (hd:o.data=.fields vs)
  (hn:["enumerate","zip","dict_itemiterator","dict_reverseitemiterator","odict_iterator","itertools.zip_longest","itertools.pairwise"].contains n=false) (hQ:Q () s):wpAny M A (letOwnedTupleGo tg (.ref it) u) Q E s:=by
 unfold letOwnedTupleGo
 cases tg <;> first
  | exact wpAny_pure hQ
  | (cases u <;> first
    | exact wpAny_pure hQ
    | (refine wpAny_bind (wpAny_load ho ?_)
       rw [hc,hd]
       show wpAny M A (if (["enumerate","zip","dict_itemiterator","dict_reverseitemiterator","odict_iterator","itertools.zip_longest","itertools.pairwise"].contains n && vs[0]? == some (rawInt _))=true then _ else _) Q E s
       rw [if_neg (by intro h;rw [hn,Bool.false_and] at h;cases h)]
       exact wpAny_pure hQ))
noncomputable def Itl (K:Frag) (a:Addr):It :=
 ⟨fun i H=>∃ xs x,SqL K H a xs/\xs[i]?=some x,fun i H x H'=>H'=H/\∀ xs,SqL K H a xs->xs[i]?=some x,fun i H=>∃ xs,SqL K H a xs/\xs.length<=i⟩
noncomputable def Itr (lo:Int) (n:Nat):It:=⟨fun i _=>i < n,fun i H x H'=>H'=H/\x=.int (lo+i),fun i _=>n<=i⟩
theorem ao6 {P:Program} {w:World} {K:Frag} {tg:Expr} (a it:Addr):Turn P w K tg (Itl K a) [it] it (fun i h=>h.IsListIter it a i) where
 mem:=by simp
 obj:=fun i h st b hb=>by
  have e:b=it:=by simpa using hb
  subst e
  obtain ⟨o,e,c,d⟩:=st
  exact ⟨o,e,fun v z=>by rw [d] at z;cases z⟩
 keep:=fun i h h' st k=>st.at fun o e=>k it (by simp) o e
 item:=by
  intro X hP hw hK hc i pins s σ H E I hf st hg
  subst hP hw hK
  obtain ⟨xs,x,hq,hx⟩:=hg
  obtain ⟨its,rv,p,hz⟩:=I.list hq
  obtain ⟨u,hu,ru⟩:=rv.get hx
  obtain ⟨f0,f1,f2,f3,f4,f5⟩:=hf it (by simp)
  refine wpAny_pyNext_list_item st p.isList (x:=u) (by simpa using hu) fun h' st' sb=>?_
  have I1:Inv X pins σ H { s with heap:=h' }:=I.turned (t':=s.toks) (fun b o hb e=>(sb.2 b hb).trans e) f0 f1 f3 f4 f5
  obtain ⟨o,e,c,d⟩:=id st'
  exact ⟨u,rfl,aj8 (s:={ s with heap:=h' }) e c d (by decide) ⟨x,H,I1,ru,⟨rfl,fun ys hy=>by rw [I.list_inj hy hq];exact hx⟩,st',fun b hb=>(hf b hb).1⟩⟩
 done:=by
  intro X hP hw hK hc i pins s σ H E I hf st hg
  subst hP hw hK
  obtain ⟨xs,hq,hx⟩:=hg
  obtain ⟨its,rv,p,hz⟩:=I.list hq
  obtain ⟨f0,f1,f2,f3,f4,f5⟩:=hf it (by simp)
  have hl:=rv.length
  exact wpAny_pyNext_list_end (I.ok.hd hc) st p.isList (by simp;omega) fun h' eb=>⟨rfl,I.turned (t':=s.toks) (fun b o hb e=>eb b o hb e) f0 f1 f3 f4 f5⟩
 self:=fun _ _ _ _ _ st h=>wpAny_pyIter_listiter st h
theorem an5 {P:Program} {w:World} {K:Frag} {tg:Expr} (it:Addr) (lo:Int) (n:Nat):Turn P w K tg (Itr lo n) [it] it (fun i h=>IsRangeIter h it (lo+(i:Nat) * 1) ((n:Int) - (i:Nat)) 1) where
 mem:=by simp
 obj:=fun i h st b hb=>by
  have e:b=it:=by simpa using hb
  subst e
  exact ⟨_,st,fun v z=>by
   have z':Data.fields _=Data.cell v:=z
   cases z'⟩
 keep:=fun i h h' st k=>k it (by simp) _ st
 item:=by
  intro X hP hw hK hc i pins s σ H E I hf st hg
  subst hP hw hK
  obtain ⟨f0,f1,f2,f3,f4,f5⟩:=hf it (by simp)
  have W:=Walks.range (prog:=X.prog) (w:=X.w) (I.ok.hd hc) it lo 1 n
  refine W.item i s _ _ hg st fun v h' tk hv st' kk=>?_
  obtain ⟨t,rfl⟩:=hv
  have I1:Inv X pins σ H { s with heap:=h',toks:=tk }:=I.turned (fun b o hb e=>kk b o (by simpa using hb) e) f0 f1 f3 f4 f5
  refine ⟨_,rfl,aj8 (s:={ s with heap:=h',toks:=tk }) (n:="range_iterator") st' rfl rfl (by decide) ⟨.int (lo+i),H,I1,⟨t,?_⟩,⟨rfl,rfl⟩,st',fun b hb=>(hf b hb).1⟩⟩
  rw [Int.mul_one]
 done:=by
  intro X hP hw hK hc i pins s σ H E I hf st hg
  subst hP hw hK
  obtain ⟨f0,f1,f2,f3,f4,f5⟩:=hf it (by simp)
  exact wpAny_pyNext_range_end (I.ok.hd hc) st (by have:n<=i:=hg;omega) fun h' eb=>⟨rfl,I.turned (t':=s.toks) (fun b o hb e=>eb b o hb e) f0 f1 f3 f4 f5⟩
 self:=fun _ _ _ _ _ st h=>wpAny_pyIter_rangeiter st h
section
variable {X:Cx} {tg:Expr}
def ag7 (K:Frag) (tl:TE):TI:=fun σ H R=>tl σ H fun x H1=>∃ a,x=.ref a/\(∃ xs,SqL K H1 a xs)/\R (Itl K a) H1
theorem abj {l:Expr} {tl:TE} (hl:PE X l tl):PI X tg l (ag7 X.K tl):=by
 intro pins s σ H R I h
 refine thn (hl pins s σ H _ I h) fun v s1 ⟨x,H1,I1,r1,q1⟩=>?_
 obtain ⟨a,e,⟨xs,hq⟩,q⟩:=q1
 subst e
 cases r1
 obtain ⟨its,rv,p,hz⟩:=I1.list hq
 refine wpAny_pyIter_list p.isList ?_
 refine ⟨s1.heap.objs.size,[s1.heap.objs.size],_,_,H1,rfl,I1.kept (t':=s1.toks) fun b o e=>Heap.get?_push_of_some _ e,ao6 a _,⟨_,Heap.get?_push_size _ rfl,rfl,rfl⟩,fun b hb=>?_,q⟩
 have e:b=s1.heap.objs.size:=by simpa using hb
 subst e
 exact I1.fpOk (Nat.le_refl _) (I1.hok.fresh (Nat.le_refl _))
theorem akm {pins:List (Addr × Obj)} {σ:St} {H:Hp} {s:Shared} {R:It->Hp->Prop} {E:Value->Shared->Prop} {lo hi:Int} {t u v:Tok} {tk:Nat} (I:Inv X pins σ H s) (h1 : -(2 ^ 62)<=lo) (h2:lo < 2 ^ 62) (h3 : -(2 ^ 62)<=hi) (h4:hi < 2 ^ 62)
  (q:R (Itr lo (hi - lo).toNat) H):wpAny (model X.prog X.w) X.A (pyIter (.ref s.heap.objs.size)) (PIE X pins σ tg R) E { s with heap:=s.heap.push { cls:=.type "range",data:=.fields #[.int lo t,.int hi u,.int 1 v] },toks:=tk }:=by
 refine wpAny_pyIter_range (IsRange.new ..) (small_one h1 h2 h3 h4) ?_
 have I1:Inv X pins σ H { s with heap:=s.heap.push { cls:=.type "range",data:=.fields #[.int lo t,.int hi u,.int 1 v] },toks:=tk }:=I.kept fun b o e=>Heap.get?_push_of_some _ e
 refine ⟨(s.heap.push { cls:=.type "range",data:=.fields #[.int lo t,.int hi u,.int 1 v] }).objs.size,[(s.heap.push { cls:=.type "range",data:=.fields #[.int lo t,.int hi u,.int 1 v] }).objs.size],_,_,H,rfl,
  I1.kept (t':=tk) fun b o e=>Heap.get?_push_of_some _ e,an5 _ lo (hi - lo).toNat,?_,fun b hb=>?_,q⟩
 ·have e1:lo+((0:Nat):Int) * 1=lo:=by simp
  have e2:(((hi - lo).toNat:Nat):Int) - ((0:Nat):Int)=Builtin.Range.rangeSize lo hi 1:=by rw [rangeSize_one];split <;> omega
  show IsRangeIter _ _ (lo+((0:Nat):Int) * 1) ((((hi - lo).toNat:Nat):Int) - ((0:Nat):Int)) 1
  rw [e1,e2]
  exact Heap.get?_push_size _ rfl
 ·have e:b=(s.heap.push { cls:=.type "range",data:=.fields #[.int lo t,.int hi u,.int 1 v] }).objs.size:=by simpa using hb
  subst e
  exact I1.fpOk (Nat.le_refl _) (I1.hok.fresh (Nat.le_refl _))
def ati (ta:TA):TI:=fun σ H R=>ta σ H fun vs H1=>∃ j:Int,vs=[.int j]/\-(2 ^ 62)<=j/\j < 2 ^ 62/\R (Itr 0 j.toNat) H1
def atj (ta:TA):TI:=fun σ H R=>ta σ H fun vs H1=>∃ i j:Int,vs=[.int i,.int j]/\(-(2 ^ 62)<=i/\i < 2 ^ 62/\-(2 ^ 62)<=j/\j < 2 ^ 62)/\R (Itr i (j - i).toNat) H1
theorem aa7 {a:Expr} {ta:TA} {p pos:Pos} (hg:Gl X "range") (hm:X.mg "range" = none) (ha:PA X [a] ta) (hs:starEach [a] X.env=[(false,eval a X.env)]:=by rfl):PI X tg (.Call (.Name "range" p) [a] [] pos) (ati ta):=by
 intro pins s σ H R I h
 refine Call_ (acu I hg hm boot_range (PyProof.Rows.callWith_type1 (thn (ha pos pins s σ H _ I h) fun us s1 ⟨vs,H1,I1,r1,q1⟩=>?_) hs rfl))
 obtain ⟨j,e,q1,q2,q⟩:=q1
 subst e
 cases r1 with
 | cons r rr =>
  cases rr
  obtain ⟨t,rfl⟩:=r
  exact call_range_1 (akm I1 (by omega) (by omega) q1 q2 (by simpa using q))
theorem afq {a b:Expr} {ta:TA} {p pos:Pos} (hg:Gl X "range") (hm:X.mg "range" = none) (ha:PA X [a,b] ta) (hs:starEach [a,b] X.env=[(false,eval a X.env),(false,eval b X.env)]:=by rfl) (hs2:starEach [b] X.env=[(false,eval b X.env)]:=by rfl) :
  PI X tg (.Call (.Name "range" p) [a,b] [] pos) (atj ta):=by
 intro pins s σ H R I h
 refine Call_ (acu I hg hm boot_range (PyProof.Rows.callWith_type1 (thn (ha pos pins s σ H _ I h) fun us s1 ⟨vs,H1,I1,r1,q1⟩=>?_) (by rw [hs,hs2]) (by rw [hs2];rfl)))
 obtain ⟨i,j,e,⟨q1,q2,q3,q4⟩,q⟩:=q1
 subst e
 cases r1 with
 | cons r rr =>
  cases rr with
  | cons r' rr =>
   cases rr
   obtain ⟨t,rfl⟩:=r
   obtain ⟨t',rfl⟩:=r'
   exact call_range_2 (akm I1 q1 q2 q3 q4 q)
def tFor (wi:TI) (g:TG) (tb:TS):TS:=fun D σ H=>wi σ H fun J H1=>∃ W:Nat->Nat->St->Hp->Prop,(∃ m,W 0 m σ H1)/\∀ i m σ H,W i m σ H ->
 (J.stop i H/\D.nx σ H)\/(J.go i H/\∃ N:St->Hp->Prop,(∀ σ' H',N σ' H'->∃ m',m' < m/\W (i+1) m' σ' H')/\∀ x H',J.yld i H x H'->g x σ H' fun σ2 H2=>tb { D with nx:=N,ct:=N,bk:=D.nx } σ2 H2)
noncomputable def aef (fp:List Addr) (h:Heap):List (Addr × Obj):=fp.filterMap fun b=>(h.get? b).map fun o=>(b,o)
theorem ab1 {fp:List Addr} {h:Heap} {b:Addr} {o:Obj} (hb:b∈fp) (e:h.get? b=some o):(b,o)∈aef fp h:=List.mem_filterMap.mpr ⟨b,hb,by rw [e];rfl⟩
theorem ao7 {fp:List Addr} {h:Heap} {p:Addr × Obj} (hp:p∈aef fp h):p.1∈fp/\h.get? p.1=some p.2:=by
 obtain ⟨b,hb,e⟩:=List.mem_filterMap.mp hp
 cases q:h.get? b with
 | none=>rw [q] at e;cases e
 | some o =>
  rw [q] at e
  have e':(b,o)=p:=Option.some.inj e
  subst e'
  exact ⟨hb,q⟩
theorem Inv.pinned {pins:List (Addr × Obj)} {σ:St} {H:Hp} {s:Shared} {fp:List Addr} (I:Inv X pins σ H s) (hf:∀ b∈fp,FpOk X pins H b) (ho:∀ b∈fp,∃ o,s.heap.get? b=some o/\∀ v,o.data ≠ .cell v):Inv X (pins ++ aef fp s.heap) σ H s :=
 I.pins_of fun p hp=>(List.mem_append.mp hp).elim (fun z=>I.pin p (List.mem_append_right _ z)) fun z=>by
  obtain ⟨hb,e⟩:=ao7 z
  obtain ⟨f0,f1,f2,_⟩:=hf p.1 hb
  obtain ⟨o,e',d⟩:=ho p.1 hb
  rw [e] at e';cases e'
  exact ⟨e,f0,f1,f2,d⟩
theorem Inv.unpinned {pins pl:List (Addr × Obj)} {σ:St} {H:Hp} {s:Shared} (I:Inv X (pins ++ pl) σ H s):Inv X pins σ H s:=I.pins_of fun p hp=>I.pin p (List.mem_append_right _ (List.mem_append_left _ hp))
theorem abo {iter:Expr} {body:List Stmt} {wi:TI} {g:TG} {tb:TS} {pos:Pos} (hp:PassesOwn (model X.prog X.w) X.A X.env X.xe) (hc:X.calm=true) (hi:PI X tg iter wi) (hg:PG X tg g) (hb:PSs X body tb)
  (hs:∀ x,foldedSetIterable iter X.env x=pure x:=by intro _;rfl):PS X (.For tg iter body [] pos) (tFor wi g tb):=by
 intro pins s σ H D I h
 refine wpAny_For (thn (hi pins s σ H _ I h) fun v s1 h1=>thn h1 fun itv s2 h2=>?_) hs
 obtain ⟨it,fp,tn,J,H2,e,I2,T,st2,f2,W,⟨m0,w0⟩,turn⟩:=h2
 subst e
 -- what stays true of the iterator's objects through the loop
 have stat:∀ {H':Hp},(∀ b∈fp,H' b=none)->∀ b∈fp,FpOk X pins H' b:=fun hn b hb=>⟨hn b hb,(f2 b hb).2⟩
 refine codeAny_forLoop_any (fun n s'=>∃ i σ' H',Inv X pins σ' H' s'/\tn i s'.heap/\(∀ b∈fp,H' b=none)/\W i n σ' H') ?_ m0 ⟨0,σ,H2,I2,st2,fun b hb=>(f2 b hb).1,w0⟩
 rintro n s3 ⟨i,σ3,H3,I3,st3,fr3,w3⟩
 rcases turn i n σ3 H3 w3 with ⟨stop,qn⟩ | ⟨go,N,hN,step⟩
 ·refine wpAny_passesOwn hp (thn (T.done X rfl rfl rfl hc i pins s3 σ3 H3 X.xe I3 (stat fr3) st3 stop) fun r s4 ⟨hr,I4⟩=>?_)
  subst hr
  exact wpAny_execs_nil ⟨σ3,H3,I4,qn⟩
 ·refine wpAny_passesOwn hp (thn (T.item X rfl rfl rfl hc i pins s3 σ3 H3 X.xe I3 (stat fr3) st3 go) fun r s4 ⟨u,hr,h4⟩=>?_)
  subst hr
  refine wpAny_passesOwn hp (thn h4 fun _ s5 ⟨x,H5,I5,r5,y5,st5,fr5⟩=>?_)
  have I5':=I5.pinned (stat fr5) (T.obj _ _ st5)
  refine wpAny_passesOwn hp (thn (hg _ s5 σ3 H5 x u _ I5' r5 (step x H5 y5)) fun _ s6 ⟨σ6,H6,I6,q6⟩=>?_)
  refine wpAny_passesOwn hp (thn (hb _ s6 σ6 H6 _ I6 q6) fun f s7 q7=>?_)
  have again:∀ {σ7:St} {H7:Hp},Inv X (pins ++ aef fp s5.heap) σ7 H7 s7->N σ7 H7->∃ m,m < n/\∃ i σ' H',Inv X pins σ' H' s7/\tn i s7.heap/\(∀ b∈fp,H' b=none)/\W i m σ' H':=fun {σ7 H7} I7 n7=>by
   obtain ⟨m',hm,w7⟩:=hN σ7 H7 n7
   refine ⟨m',hm,i+1,σ7,H7,I7.unpinned,T.keep _ _ _ st5 fun b hb o e=>(I7.pin (b,o) (List.mem_append_right _ (List.mem_append_right _ (ab1 hb e)))).1,fun b hb=>?_,w7⟩
   obtain ⟨o,e,d⟩:=T.obj _ _ st5 b hb
   exact (I7.pin (b,o) (List.mem_append_right _ (List.mem_append_right _ (ab1 hb e)))).2.1
  cases f with
  | next=>obtain ⟨σ7,H7,I7,n7⟩:=q7;exact again I7 n7
  | cont=>obtain ⟨σ7,H7,I7,n7⟩:=q7;exact again I7 n7
  | brk=>obtain ⟨σ7,H7,I7,q7⟩:=q7;exact ⟨σ7,H7,I7.unpinned,q7⟩
  | ret v=>obtain ⟨x7,σ7,H7,I7,r7,q7⟩:=q7;exact ⟨x7,σ7,H7,I7.unpinned,r7,q7⟩
end
noncomputable abbrev R2:=V->V->Hp->VK->Prop
def OpR (X:Cx) (f:Value->Value->Sem Value) (r:R2):Prop :=
 ∀ (pins:List (Addr × Obj)) (s:Shared) (σ:St) (H:Hp) (x y:V) (v u:Value) (Q:VK),Inv X pins σ H s->RelV x v->RelV y u->r x y H Q ->
  wpAny (model X.prog X.w) X.A (f v u) (EP X pins σ Q) X.xe s
def UnR (X:Cx) (f:Value->Sem Value) (r:V->Hp->VK->Prop):Prop :=
 ∀ (pins:List (Addr × Obj)) (s:Shared) (σ:St) (H:Hp) (x:V) (v:Value) (Q:VK),Inv X pins σ H s->RelV x v->r x H Q ->
  wpAny (model X.prog X.w) X.A (f v) (EP X pins σ Q) X.xe s
def abg (X:Cx) (f:Value) (r:List V->Hp->VK->Prop):Prop :=
 ∀ (pins:List (Addr × Obj)) (s:Shared) (σ:St) (H:Hp) (xs:List V) (us:List Value) (Q:VK),Inv X pins σ H s->Vals xs us->r xs H Q ->
  wpAny (model X.prog X.w) X.A (call f us) (EP X pins σ Q) X.xe s
def TruR (X:Cx) (r:V->Hp->(Bool->Hp->Prop)->Prop):Prop :=
 ∀ (pins:List (Addr × Obj)) (s:Shared) (σ:St) (H:Hp) (x:V) (v:Value) (Q:Bool->Hp->Prop),Inv X pins σ H s->RelV x v->r x H Q ->
  wpAny (model X.prog X.w) X.A (truthy v) (TP X pins σ Q) X.xe s
def tOp (r:R2) (ta tb:TE):TE:=fun σ H Q=>ta σ H fun x H1=>tb σ H1 fun y H2=>r x y H2 Q
def tUn (r:V->Hp->VK->Prop) (ta:TE):TE:=fun σ H Q=>ta σ H fun x H1=>r x H1 Q
def rI (C:Int->Int->Prop) (g:Int->Int->V):R2:=fun x y H Q=>∃ i j,x=.int i/\y=.int j/\C i j/\Q (g i j) H
def rI0 (g:Int->Int->V):R2:=fun x y H Q=>∃ i j,x=.int i/\y=.int j/\Q (g i j) H
def rU (g:Int->V):V->Hp->VK->Prop:=fun x H Q=>∃ i,x=.int i/\Q (g i) H
section
variable {X:Cx} {a b c:Expr} {ta tb tc:TE} {pos:Pos}
theorem binT (ha:PE X a ta) (hb:PE X b tb) {pins:List (Addr × Obj)} {s:Shared} {σ:St} {H:Hp} {R:V->V->Hp->Prop} (I:Inv X pins σ H s)
  (h:ta σ H fun x H1=>tb σ H1 fun y H2=>R x y H2) {Q:Value->Shared->Prop} {f:Value->Value->Sem Value}
  (hf:∀ v u s2 x y H2,Inv X pins σ H2 s2->RelV x v->RelV y u->R x y H2->wpAny (model X.prog X.w) X.A (f v u) Q X.xe s2) :
  wpAny (model X.prog X.w) X.A (eval a X.env) (fun v s₁=>wpAny (model X.prog X.w) X.A (eval b X.env) (fun u s₂=>wpAny (model X.prog X.w) X.A (f v u) Q X.xe s₂) X.xe s₁) X.xe s:=by
 refine thn (ha pins s σ H _ I h) fun v s1 ⟨x,H1,I1,r1,q1⟩=>?_
 refine thn (hb pins s1 σ H1 _ I1 q1) fun u s2 ⟨y,H2,I2,r2,q2⟩=>?_
 exact hf v u s2 x y H2 I2 r1 r2 q2
theorem aae {op:Operator} {r:R2} (ho:OpR X (binaryOp op) r) (ha:PE X a ta) (hb:PE X b tb):PE X (.BinOp a op b pos) (tOp r ta tb):=by
 intro pins s σ H Q I h
 exact wpAny_BinOp (binT ha hb I h fun v u s2 x y H2 I2 rx ry q=>ho pins s2 σ H2 x y v u Q I2 rx ry q)
theorem ayb {op:UnaryOp} {r:V->Hp->VK->Prop} (ho:UnR X (unaryOp op) r) (ha:PE X a ta):PE X (.UnaryOp op a pos) (tUn r ta):=by
 intro pins s σ H Q I h
 exact UnaryOp_ (thn (ha pins s σ H _ I h) fun v s1 ⟨x,H1,I1,r1,q1⟩=>ho pins s1 σ H1 x v Q I1 r1 q1)
theorem opI {f:Value->Value->Sem Value} {C:Int->Int->Prop} {g:Int->Int->Int}
  (rule:∀ (i j:Int) (t u:Tok) (s:Shared) (Q:Value->Shared->Prop) (E:Value->Shared->Prop),C i j->Q (.int (g i j) s.toks) { s with toks:=s.toks+1 }->wpAny (model X.prog X.w) X.A (f (.int i t) (.int j u)) Q E s) :
  OpR X f (rI C fun i j => .int (g i j)):=by
 intro pins s σ H x y v u Q I rx ry h
 obtain ⟨i,j,rfl,rfl,hc,q⟩:=h
 obtain ⟨t,rfl⟩:=rx
 obtain ⟨t',rfl⟩:=ry
 exact rule i j t t' s _ _ hc ⟨.int (g i j),H,I.tok _,⟨_,rfl⟩,q⟩
theorem opI0 {f:Value->Value->Sem Value} {g:Int->Int->Int}
  (rule:∀ (i j:Int) (t u:Tok) (s:Shared) (Q:Value->Shared->Prop) (E:Value->Shared->Prop),Q (.int (g i j) s.toks) { s with toks:=s.toks+1 }->wpAny (model X.prog X.w) X.A (f (.int i t) (.int j u)) Q E s) :
  OpR X f (rI0 fun i j => .int (g i j)):=by
 intro pins s σ H x y v u Q I rx ry h
 obtain ⟨i,j,rfl,rfl,q⟩:=h
 obtain ⟨t,rfl⟩:=rx
 obtain ⟨t',rfl⟩:=ry
 exact rule i j t t' s _ _ ⟨.int (g i j),H,I.tok _,⟨_,rfl⟩,q⟩
theorem opB0 {f:Value->Value->Sem Value} {g:Int->Int->Bool}
  (rule:∀ (i j:Int) (t u:Tok) (s:Shared) (Q:Value->Shared->Prop) (E:Value->Shared->Prop),Q (.bool (g i j)) s->wpAny (model X.prog X.w) X.A (f (.int i t) (.int j u)) Q E s) :
  OpR X f (rI0 fun i j => .bl (g i j)):=by
 intro pins s σ H x y v u Q I rx ry h
 obtain ⟨i,j,rfl,rfl,q⟩:=h
 obtain ⟨t,rfl⟩:=rx
 obtain ⟨t',rfl⟩:=ry
 exact rule i j t t' s _ _ ⟨.bl (g i j),H,I,rfl,q⟩
def CDiv (i j:Int):Prop:=0 < j/\j < 1073741824
def CPow (i j:Int):Prop:=0<=j/\j<=1000000/\i.natAbs < 2 ^ 64
def CMul (i j:Int):Prop:=(-(2 ^ 64) < i/\i < 2 ^ 64)\/(-(2 ^ 64) < j/\j < 2 ^ 64)
theorem CMul.ok {i j:Int} (h:CMul i j):IntMulOk i j:=by
 rcases h with ⟨h1,h2⟩ | ⟨h1,h2⟩
 ·exact .of_left (intBits_le_64 h1 h2)
 ·exact .of_right (intBits_le_64 h1 h2)
theorem aar:OpR X (binaryOp .Add) (rI0 fun i j => .int (i+j)):=opI0 fun _ _ _ _ _ _ _ q=>add_int q
theorem acp:OpR X (binaryOp .Sub) (rI0 fun i j => .int (i - j)):=opI0 fun _ _ _ _ _ _ _ q=>sub_int q
theorem abp:OpR X (binaryOp .Mult) (rI CMul fun i j => .int (i * j)):=opI fun _ _ _ _ _ _ _ hc q=>mul_int q hc.ok
theorem abx:OpR X (binaryOp .FloorDiv) (rI CDiv fun i j => .int (i / j)):=opI fun i j _ _ _ _ _ hc q=>by
 have h1:(0:Int) < j:=hc.1
 have h2:j < 1073741824:=hc.2
 exact floordiv_int (by omega) (by rw [Int.fdiv_eq_ediv_of_nonneg i (by omega)];exact q) (.inl (PyProof.noPylong_small (by omega)))
theorem aax:OpR X (binaryOp .Mod) (rI (fun _ j=>0 < j) fun i j => .int (i % j)):=opI fun i j _ _ _ _ _ hc q=>by
 have h1:(0:Int) < j:=hc
 exact mod_int' (by omega) (by rw [Int.fmod_eq_emod_of_nonneg i (by omega)];exact q)
theorem awc:OpR X (binaryOp .Pow) (rI CPow fun i j => .int (i ^ j.toNat)):=opI fun _ _ _ _ _ _ _ hc q=>pow_int_small hc.1 hc.2.1 hc.2.2 q
theorem unI {f:Value->Sem Value} {g:Int->Int}
  (rule:∀ (i:Int) (t:Tok) (s:Shared) (Q:Value->Shared->Prop) (E:Value->Shared->Prop),Q (.int (g i) s.toks) { s with toks:=s.toks+1 }->wpAny (model X.prog X.w) X.A (f (.int i t)) Q E s) :
  UnR X f (rU fun i => .int (g i)):=by
 intro pins s σ H x v Q I rx h
 obtain ⟨i,rfl,q⟩:=h
 obtain ⟨t,rfl⟩:=rx
 exact rule i t s _ _ ⟨.int (g i),H,I.tok _,⟨_,rfl⟩,q⟩
theorem awd:UnR X (unaryOp .USub) (rU fun i => .int (-i)):=unI fun _ _ _ _ _ q=>neg_int q
end
noncomputable def scal:V->V->Bool
 | .non,.non=>true | .non,.int _=>true | .int _,.non=>true | .non,.bl _=>true | .bl _,.non=>true | .non,.str _=>true | .str _,.non=>true
 | .int _,.int _=>true | .bl _,.bl _=>true | .str _,.str _=>true | .byt _,.byt _=>true
 | .int _,.str _=>true | .str _,.int _=>true | .bl _,.str _=>true | .str _,.bl _=>true
 | _,_=>false
def rEq:R2:=fun x y H Q=>scal x y=true/\Q (.bl (decide (x=y))) H
def rNe:R2:=fun x y H Q=>scal x y=true/\Q (.bl (!decide (x=y))) H
theorem af8 {i j:Int}:decide (V.int i=V.int j)=(i == j):=by
 rw [Bool.eq_iff_iff]
 simp
theorem ao8 {i j:Bool}:decide (V.bl i=V.bl j)=(i == j):=by
 rw [Bool.eq_iff_iff]
 simp
theorem amt {i j:Str}:decide (V.str i=V.str j)=(i == j):=by
 rw [Bool.eq_iff_iff]
 simp
theorem amu {i j:Array UInt8}:decide (V.byt i=V.byt j)=(i.toList == j.toList):=by
 rw [Bool.eq_iff_iff]
 cases i
 cases j
 simp
section
variable {X:Cx} {a b c:Expr} {ta tb tc:TE} {pos:Pos}
theorem aa1 {pins:List (Addr × Obj)} {σ:St} {H:Hp} {s:Shared} {Q:VK} {k k':Bool} (I:Inv X pins σ H s) (q:Q (.bl k) H) (e:k=k'):EP X pins σ Q (.bool k') s:=by
 subst e
 exact ⟨.bl k,H,I,rfl,q⟩
theorem atk:OpR X (compareOp .Eq) rEq:=by
 intro pins s σ H x y v u Q I rx ry h
 obtain ⟨hs,q⟩:=h
 cases x with
 | non =>
  cases rx
  cases y with
  | non=>cases ry;exact PySem.EqNone.eq_none_none (aa1 I q (by simp))
  | bl j=>cases ry;exact PySem.EqNone.eq_none_bool (aa1 I q (by simp))
  | int j=>obtain ⟨t',rfl⟩:=ry;exact PySem.EqNone.eq_none_int (aa1 I q (by simp))
  | str j=>obtain ⟨t',rfl⟩:=ry;exact PySem.EqNone.eq_none_str (aa1 I q (by simp))
  | _=>exact absurd (show false=true from hs) Bool.false_ne_true
 | bl i =>
  cases rx
  cases y with
  | non=>cases ry;exact PySem.EqNone.eq_bool_none (aa1 I q (by simp))
  | bl j=>cases ry;exact eq_bool (aa1 I q ao8)
  | str j=>obtain ⟨t',rfl⟩:=ry;exact PySem.EqMixed.eq_bool_str (aa1 I q (by simp))
  | _=>exact absurd (show false=true from hs) Bool.false_ne_true
 | int i =>
  obtain ⟨t,rfl⟩:=rx
  cases y with
  | non=>cases ry;exact PySem.EqNone.eq_int_none (aa1 I q (by simp))
  | int j=>obtain ⟨t',rfl⟩:=ry;exact eq_int (aa1 I q af8)
  | str j=>obtain ⟨t',rfl⟩:=ry;exact PySem.EqMixed.eq_int_str (aa1 I q (by simp))
  | _=>exact absurd (show false=true from hs) Bool.false_ne_true
 | str i =>
  obtain ⟨t,rfl⟩:=rx
  cases y with
  | non=>cases ry;exact PySem.EqNone.eq_str_none (aa1 I q (by simp))
  | bl j=>cases ry;exact PySem.EqMixed.eq_str_bool (aa1 I q (by simp))
  | int j=>obtain ⟨t',rfl⟩:=ry;exact PySem.EqMixed.eq_str_int (aa1 I q (by simp))
  | str j=>obtain ⟨t',rfl⟩:=ry;exact eq_str (aa1 I q amt)
  | _=>exact absurd (show false=true from hs) Bool.false_ne_true
 | byt i =>
  obtain ⟨t,rfl⟩:=rx
  cases y with
  | byt j=>obtain ⟨t',rfl⟩:=ry;exact PySem.W.eq_bytes (aa1 I q amu)
  | _=>exact absurd (show false=true from hs) Bool.false_ne_true
 | _=>cases y <;> exact absurd (show false=true from hs) Bool.false_ne_true
theorem atl:OpR X (compareOp .NotEq) rNe:=by
 intro pins s σ H x y v u Q I rx ry h
 obtain ⟨hs,q⟩:=h
 cases x with
 | non =>
  cases rx
  cases y with
  | non=>cases ry;exact PySem.EqNone.ne_none_none (aa1 I q (by simp))
  | bl j=>cases ry;exact PySem.EqNone.ne_none_bool (aa1 I q (by simp))
  | int j=>obtain ⟨t',rfl⟩:=ry;exact PySem.EqNone.ne_none_int (aa1 I q (by simp))
  | str j=>obtain ⟨t',rfl⟩:=ry;exact PySem.EqNone.ne_none_str (aa1 I q (by simp))
  | _=>exact absurd (show false=true from hs) Bool.false_ne_true
 | bl i =>
  cases rx
  cases y with
  | non=>cases ry;exact PySem.EqNone.ne_bool_none (aa1 I q (by simp))
  | bl j=>cases ry;exact ne_bool (aa1 I q (congrArg not ao8))
  | str j=>obtain ⟨t',rfl⟩:=ry;exact PySem.EqMixed.ne_bool_str (aa1 I q (by simp))
  | _=>exact absurd (show false=true from hs) Bool.false_ne_true
 | int i =>
  obtain ⟨t,rfl⟩:=rx
  cases y with
  | non=>cases ry;exact PySem.EqNone.ne_int_none (aa1 I q (by simp))
  | int j=>obtain ⟨t',rfl⟩:=ry;exact ne_int (aa1 I q (congrArg not af8))
  | str j=>obtain ⟨t',rfl⟩:=ry;exact PySem.EqMixed.ne_int_str (aa1 I q (by simp))
  | _=>exact absurd (show false=true from hs) Bool.false_ne_true
 | str i =>
  obtain ⟨t,rfl⟩:=rx
  cases y with
  | non=>cases ry;exact PySem.EqNone.ne_str_none (aa1 I q (by simp))
  | bl j=>cases ry;exact PySem.EqMixed.ne_str_bool (aa1 I q (by simp))
  | int j=>obtain ⟨t',rfl⟩:=ry;exact PySem.EqMixed.ne_str_int (aa1 I q (by simp))
  | str j=>obtain ⟨t',rfl⟩:=ry;exact ne_str (aa1 I q (congrArg not amt))
  | _=>exact absurd (show false=true from hs) Bool.false_ne_true
 | byt i =>
  obtain ⟨t,rfl⟩:=rx
  cases y with
  | byt j=>obtain ⟨t',rfl⟩:=ry;exact PySem.W.ne_bytes (aa1 I q (congrArg not amu))
  | _=>exact absurd (show false=true from hs) Bool.false_ne_true
 | _=>cases y <;> exact absurd (show false=true from hs) Bool.false_ne_true
theorem acn:OpR X (compareOp .Lt) (rI0 fun i j => .bl (decide (i < j))):=opB0 fun _ _ _ _ _ _ _ q=>lt_int q
theorem atm:OpR X (compareOp .LtE) (rI0 fun i j => .bl (decide (i<=j))):=opB0 fun _ _ _ _ _ _ _ q=>le_int q
theorem af9:OpR X (compareOp .Gt) (rI0 fun i j => .bl (decide (j < i))):=opB0 fun _ _ _ _ _ _ _ q=>gt_int q
theorem aj9:OpR X (compareOp .GtE) (rI0 fun i j => .bl (decide (j<=i))):=opB0 fun _ _ _ _ _ _ _ q=>ge_int q
theorem awe:OpR X (compareOp .Is) (fun x y H Q=>y=.non/\Q (.bl (decide (x=.non))) H):=by
 intro pins s σ H x y v u Q I rx ry h
 obtain ⟨rfl,q⟩:=h
 cases ry
 refine is_none_gen (aa1 I q ?_)
 cases x <;> first
  | (cases rx;rfl)
  | (obtain ⟨t,rfl⟩:=rx;rfl)
theorem aaz (b:Expr) {op:CmpOp} (h:op ≠ .In:=by decide) (h2:op ≠ .NotIn:=by decide):behindInMarks op b=false:=by
 have e1:(op == CmpOp.In)=false:=by cases op <;> first | rfl | exact absurd rfl h
 have e2:(op == CmpOp.NotIn)=false:=by cases op <;> first | rfl | exact absurd rfl h2
 cases b <;> simp [behindInMarks,e1,e2]
theorem acb {op:CmpOp} {r:R2} (ho:OpR X (compareOp op) r) (ha:PE X a ta) (hb:PE X b tb) (hm:behindInMarks op b=false):PE X (.Compare a [op] [b] pos) (tOp r ta tb):=by
 intro pins s σ H Q I h
 exact wpAny_Compare1 (binT ha hb I h fun v u s2 x y H2 I2 rx ry q=>ho pins s2 σ H2 x y v u Q I2 rx ry q) hm
def atn (t:TE):TT:=fun σ H Q=>t σ H fun x H'=>∃ k,x=.bl k/\Q k H'
theorem aa3 {op:CmpOp} {r:R2} (ho:OpR X (compareOp op) r) (ha:PE X a ta) (hb:PE X b tb) (hm:behindInMarks op b=false):PT X (.Compare a [op] [b] pos) (atn (tOp r ta tb)):=by
 intro pins s σ H Q I h
 refine wpAny_isTrue_Compare1 (thn (ha pins s σ H _ I h) fun v s1 ⟨x,H1,I1,r1,q1⟩=>thn (hb pins s1 σ H1 _ I1 q1) fun u s2 ⟨y,H2,I2,r2,q2⟩ =>
  thn (ho pins s2 σ H2 x y v u _ I2 r1 r2 q2) fun c s3 ⟨z,H3,I3,r3,k,e,q3⟩=>?_) hm
 subst e
 cases r3
 exact wpAny_truthy_bool ⟨H3,I3,q3⟩
def akn (r r':R2) (ta tb tc:TE):TE:=fun σ H Q=>ta σ H fun x H1=>tb σ H1 fun y H2=>r x y H2 fun z H3=>∃ k,z=.bl k /\
 (if k=true then tc σ H3 fun w' H4=>r' y w' H4 Q else Q (.bl false) H3)
theorem ara {op op':CmpOp} {r r':R2} (ho:OpR X (compareOp op) r) (ho':OpR X (compareOp op') r') (ha:PE X a ta) (hb:PE X b tb) (hc:PE X c tc)
  (hm:lastMarks [op,op'] [b,c]=false:=by with_unfolding_all rfl):PE X (.Compare a [op,op'] [b,c] pos) (akn r r' ta tb tc):=by
 intro pins s σ H Q I h
 refine Compare_chain (thn (ha pins s σ H _ I h) fun v s1 ⟨x,H1,I1,r1,q1⟩=>chain_link (thn (hb pins s1 σ H1 _ I1 q1) fun u s2 ⟨y,H2,I2,r2,q2⟩ =>
  thn (ho pins s2 σ H2 x y v u _ I2 r1 r2 q2) fun d s3 ⟨z,H3,I3,r3,k,e,q3⟩=>?_)) hm
 subst e
 cases r3
 refine wpAny_truthy_bool ?_
 cases k with
 | false=>exact ite_ff ⟨.bl false,H3,I3,rfl,q3⟩
 | true=>exact ite_tt (chain_last (thn (hc pins s3 σ H3 _ I3 q3) fun w' s4 ⟨z',H4,I4,r4,q4⟩=>ho' pins s4 σ H4 y z' u w' Q I4 r2 r4 q4))
def TruV (K:Frag) (x:V) (H:Hp) (k:Bool):Prop :=
 match x with
 | .non=>k=false
 | .bl b=>k=b
 | .int i=>k=(i != 0)
 | .str y=>y.length<=sizeLine/\k=((y.length:Int) != 0)
 | .byt y=>y.size<=sizeLine/\k=((y.size:Int) != 0)
 | .ref p=>(∃ xs,SqL K H p xs/\k = !xs.isEmpty)\/(∃ xs,SqT K H p xs/\k = !xs.isEmpty)\/∃ kvs,H p=some (.dK kvs)/\k = !kvs.isEmpty
 | _=>False
theorem an6 {κ:Type} {kvs:List (κ × V)} {vs:List (κ × Value)} (r:KV kvs vs):(!vs.isEmpty) = !kvs.isEmpty:=by
 cases r <;> rfl
theorem ag8 {xs:List V} {its:List Value} (r:Vals xs its):(!its.toArray.isEmpty) = !xs.isEmpty:=by
 cases r <;> simp
theorem afr:(sizeLine:Nat) < 2 ^ 63:=by rw [sizeLine_eq];decide
theorem awf:TruR X (fun x H Q=>∃ k,TruV X.K x H k/\Q k H):=by
 intro pins s σ H x v Q I rx h
 obtain ⟨k,e,q⟩:=h
 have hl:=afr
 have hs:sizeLine=16777216:=sizeLine_eq
 cases x with
 | non =>
  cases rx
  have e':k=false:=e
  subst e'
  exact truthy_none ⟨H,I,q⟩
 | bl b =>
  cases rx
  have e':k=b:=e
  subst e'
  exact wpAny_truthy_bool ⟨H,I,q⟩
 | int i =>
  obtain ⟨t,rfl⟩:=rx
  have e':k=(i != 0):=e
  subst e'
  exact PySem.P.truthy_int ⟨H,I,q⟩
 | str y =>
  obtain ⟨t,rfl⟩:=rx
  obtain ⟨hy,e'⟩:y.length<=sizeLine/\k=((y.length:Int) != 0):=e
  subst e'
  exact PySem.P.truthy_str (by omega) ⟨H,I.tok _,q⟩
 | byt y =>
  obtain ⟨t,rfl⟩:=rx
  obtain ⟨hy,e'⟩:y.size<=sizeLine/\k=((y.size:Int) != 0):=e
  subst e'
  exact PySem.W.truthy_bytes (by omega) ⟨H,I.tok _,q⟩
 | ref p =>
  cases rx
  have e':(∃ xs,SqL X.K H p xs/\k = !xs.isEmpty)\/(∃ xs,SqT X.K H p xs/\k = !xs.isEmpty)\/∃ kvs,H p=some (.dK kvs)/\k = !kvs.isEmpty:=e
  rcases e' with ⟨xs,hx,e'⟩ | ⟨xs,hx,e'⟩ | ⟨kvs,hx,e'⟩
  ·subst e'
   obtain ⟨its,r,pl,hz⟩:=I.list hx
   have hlen:=r.length
   exact wpAny_truthy_list pl.isList (by simp only [List.size_toArray];omega) ⟨H,I.tok _,by rw [ag8 r];exact q⟩
  ·subst e'
   obtain ⟨its,r,pl,hz⟩:=I.tuple hx
   have hlen:=r.length
   exact truthy_tuple pl (by simp only [List.size_toArray];omega) ⟨H,I.tok _,by rw [ag8 r];exact q⟩
  ·subst e'
   obtain ⟨hz,hS,vs,r,m⟩:kvs.length<=sizeLine/\(p == sysModules)=false/\∃ vs,KV kvs vs/\s.heap.DictOf (abq X.prog X.w) p vs:=I.hok p _ hx
   have hlen:kvs.length=vs.length:=Paired.length r
   exact wpAny_truthy_dict hS m (by omega) ⟨H,I.tok _,by rw [an6 r];exact q⟩
 | _=>exact (show False from e).elim
theorem arb (ha:PE X a ta) (he:∀ whole,isTrue a X.env whole=(do let v ← whole;standAt a.pos;holding [v] (truthy v))) :
  PT X a (fun σ H Q=>ta σ H fun x H'=>∃ k,TruV X.K x H' k/\Q k H'):=by
 intro pins s σ H Q I h
 exact isTrue_plain (thn (ha pins s σ H _ I h) fun v s1 ⟨x,H1,I1,r1,q1⟩=>awf pins s1 σ H1 x v Q I1 r1 q1) (he _)
theorem adc {x:V} {us:List Value} (r:Vals [x] us):∃ u,us=[u]/\RelV x u:=by
 cases r with
 | cons r1 r2=>cases r2;exact ⟨_,rfl,r1⟩
theorem an7 {x y:V} {us:List Value} (r:Vals [x,y] us):∃ u w',us=[u,w']/\RelV x u/\RelV y w':=by
 cases r with
 | cons r1 r2 =>
  cases r2 with
  | cons r3 r4=>cases r4;exact ⟨_,_,rfl,r1,r3⟩
theorem ao9 (hc:X.calm=true):abg X (.builtin "max") (fun xs H Q=>∃ i j,xs=[.int i,.int j]/\Q (.int (if j > i then j else i)) H):=by
 intro pins s σ H xs us Q I r h
 obtain ⟨i,j,rfl,q⟩:=h
 obtain ⟨u,w',rfl,⟨t,rfl⟩,⟨t',rfl⟩⟩:=an7 r
 refine max_two_ints (I.ok.hd hc) fun h' tk k=>⟨_,H,I.kept k,?_,q⟩
 by_cases hj:j > i
 ·rw [if_pos hj,if_pos hj];exact ⟨_,rfl⟩
 ·rw [if_neg hj,if_neg hj];exact ⟨_,rfl⟩
theorem apa (hc:X.calm=true):abg X (.builtin "min") (fun xs H Q=>∃ i j,xs=[.int i,.int j]/\Q (.int (if j < i then j else i)) H):=by
 intro pins s σ H xs us Q I r h
 obtain ⟨i,j,rfl,q⟩:=h
 obtain ⟨u,w',rfl,⟨t,rfl⟩,⟨t',rfl⟩⟩:=an7 r
 refine min_two_ints (I.ok.hd hc) fun h' tk k=>⟨_,H,I.kept k,?_,q⟩
 by_cases hj:j < i
 ·rw [if_pos hj,if_pos hj];exact ⟨_,rfl⟩
 ·rw [if_neg hj,if_neg hj];exact ⟨_,rfl⟩
theorem apb:abg X (.type "int") (fun xs H Q=>(∃ i,xs=[.int i]/\Q (.int i) H)\/∃ k,xs=[.bl k]/\Q (.int (if k then 1 else 0)) H):=by
 intro pins s σ H xs us Q I r h
 rcases h with ⟨i,rfl,q⟩ | ⟨k,rfl,q⟩
 ·obtain ⟨u,rfl,t,rfl⟩:=adc r
  exact call_int_int ⟨.int i,H,I,⟨_,rfl⟩,q⟩
 ·obtain ⟨u,rfl,r1⟩:=adc r
  cases r1
  exact call_int_bool ⟨.int (if k then 1 else 0),H,I.tok _,⟨_,rfl⟩,q⟩
end
structure ObjM (h:Heap) (x dx C:Addr) (mA:Str->Option Value):Prop where
 obj:h.get? x=some (PySem.W.instObj C dx)
 ns:h.Ns1 dx mA
 ne:dx ≠ x
theorem apc {h:Heap} {dx:Addr} {mA:Str->Option Value} (n:h.Ns1 dx mA):∃ od,h.get? dx=some od/\∀ name,PySem.W.lookIn name od=some (mA name):=by
 obtain ⟨o,es,ep,ho,hd,hk,_,hm⟩:=n
 refine ⟨o,ho,fun name=>?_⟩
 have e:=hm name
 unfold nsFind findBy at e
 rw [← Array.find?_toList] at e
 unfold PySem.W.lookIn
 rw [hd]
 dsimp only
 split
 ·rename_i y q
  rw [q] at e
  exact congrArg some e
 ·rename_i q
  rw [q] at e
  have a:es.toList.any (·.refKey)=false:=by
   rw [List.any_eq_false]
   intro y hy
   obtain ⟨z,t,hkey⟩:=hk y (Array.mem_toList_iff.mp hy)
   simp [DictEntry.refKey,hkey]
  have a':¬ es.toList.any (·.refKey)=true:=by rw [a];exact Bool.false_ne_true
  rw [if_neg a']
  exact congrArg some e
theorem ObjM.look {h:Heap} {x dx C:Addr} {mA:Str->Option Value} (I:ObjM h x dx C mA):∃ od,PySem.W.InstAt h x (PySem.W.instObj C dx) C (some od)/\∀ name,PySem.W.lookIn name od=some (mA name) :=
 let ⟨od,ho,hl⟩:=apc I.ns
 ⟨od,⟨I.obj,rfl,rfl,ho⟩,hl⟩
section
variable {prog:Program} {w:World} {A:Around} {E:Value->Shared->Prop} {s:Shared} {K:Frag} {x dx C f:Addr} {mA:Str->Option Value} {name:Str} {v:Value}
end
noncomputable def putF (f:Str) (v:V):List (Str × V)->List (Str × V)
 | []=>[(f,v)]
 | (g,x) :: r=>if g=f then (g,v) :: r else (g,x) :: putF f v r
section
variable {P:Program} {w:World} {H H':Hp} {h h':Heap} {a C dx:Addr} {fs fs':List (Str × V)}
theorem at4 (hok:HOk P w H h) (e:H a=some (.ins C dx fs)):∃ mA,ObjM h a dx C mA/\(∀ f,RelO (fs.lookup f) (mA f))/\PySem.Within mA (fs.map (·.1))/\fs.length<=1000/\H dx=some (.own a):=by
 obtain ⟨d,z,ne,ob,mA,n,r,q⟩:=(show ObjOk P w H h a (.ins C dx fs) from hok a _ e)
 exact ⟨mA,⟨ob,n,ne⟩,r,q,z,d⟩
end
structure Cls (K:Frag) (C:Addr):Prop where
 pg:PySem.W.plainGet K C Str.empty=true
 hd:PySem.W.hasDictIn K C=true
 po:PySem.W.plainOver K C=true
 sa:PySem.W.findIn K (.ref C) "__setattr__" = some (some (.builtin "object.__setattr__"))
theorem Cls.get {K:Frag} {C:Addr} (c:Cls K C) (f:Str):PySem.W.plainGet K C f=true:=c.pg
section
variable {X:Cx} {pins:List (Addr × Obj)} {σ:St} {H:Hp} {s:Shared} {a C dx:Addr} {fs:List (Str × V)} {f:Str} {v:V} {A:Around} {E:Value->Shared->Prop}
end
section
variable {X:Cx} {o e value:Expr} {f:Str} {pos pos' tpos:Pos} {ta tv:TE}
end
section
variable {X:Cx} {pins:List (Addr × Obj)} {σ:St} {H:Hp} {s:Shared} {A:Around} {E:Value->Shared->Prop} {Q:Value->Shared->Prop} {c:Value} {b:Bool}
inductive TyOf (K:Frag) (H:Hp):V->Value->Prop where
 | non:TyOf K H .non (.type "NoneType")
 | bl (x:Bool):TyOf K H (.bl x) (.type "bool")
 | int (i:Int):TyOf K H (.int i) (.type "int")
 | str (x:Str):TyOf K H (.str x) (.type "str")
 | flt (x:UInt64):TyOf K H (.flt x) (.type "float")
 | lst {a:Addr} {xs:List V} (e:H a=some (.lst xs)):TyOf K H (.ref a) (.type "list")
 | frz {a:Addr} {o:Obj} {xs:List V} (e:H a=some (.frz o (.lst xs))):TyOf K H (.ref a) (.type "list")
 | tup {a:Addr} {xs:List V} (e:H a=some (.tup xs)):TyOf K H (.ref a) (.type "tuple")
 | dK {a:Addr} {kvs:List (Key × V)} (e:H a=some (.dK kvs)):TyOf K H (.ref a) (.type "dict")
 | dT {a:Addr} {kvs:List (List Key × V)} (e:H a=some (.dT kvs)):TyOf K H (.ref a) (.type "dict")
 | ins {a C dx:Addr} {fs:List (Str × V)} (e:H a=some (.ins C dx fs)) (cl:Cls K C) (ha:PySem.W.findIn K (.ref C) "__class__" = some (some (.builtin "object.__class__")))
   (hn:PySem.W.specialIn K (.builtin "object.__class__") "__get__" = some (some (.builtin "getset_descriptor.__get__"))) (htk:PySem.W.takesIn K (.builtin "object.__class__")=some true)
   (hm:mroIn K C (.type "object")=some true):TyOf K H (.ref a) (.ref C)
theorem apd {x:V} {u t:Value} (I:Inv X pins σ H s) (rx:RelV x u) (ty:TyOf X.K H x t) (e:kitOne X.K t c=some b) (h:∀ tk,Q (.bool b) { s with toks:=tk }) :
  wpAny (model X.prog X.w) A (call (.builtin "isinstance") [u,c]) Q E s:=by
 cases ty with
 | non=>cases (show u=Value.none from rx);exact PySem.W.kia_one PySem.W.kitx_none I.kIn True.intro e (fun z=>nomatch z) h
 | bl y=>cases (show u=Value.bool y from rx);exact PySem.W.kia_one PySem.W.kitx_bool I.kIn True.intro e (fun z=>nomatch z) h
 | int i=>obtain ⟨t,q⟩:=(show ∃ t,u=Value.int i t from rx);cases q;exact PySem.W.kia_one PySem.W.kitx_int I.kIn True.intro e (fun z=>nomatch z) h
 | str y=>obtain ⟨t,q⟩:=(show ∃ t,u=Value.str y t from rx);cases q;exact PySem.W.kia_one PySem.W.kitx_str I.kIn True.intro e (fun z=>nomatch z) h
 | flt y=>obtain ⟨t,q⟩:=(show ∃ t,u=Value.float y t from rx);cases q;exact PySem.W.kia_one PySem.W.kitx_float I.kIn True.intro e (fun z=>nomatch z) h
 | @lst a xs ea =>
  cases (show u=Value.ref a from rx)
  obtain ⟨_,_,n,_,h1⟩:=(show ObjOk X.prog X.w H s.heap a (.lst xs) from I.hok a _ ea)
  exact PySem.W.kia_one PySem.W.kitx_list I.kIn ⟨_,h1,rfl⟩ e (fun z=>nomatch z) h
 | @frz a ob xs ea =>
  cases (show u=Value.ref a from rx)
  obtain ⟨_,_,_,n,_,h1⟩:=(show ObjOk X.prog X.w H s.heap a (.frz ob (.lst xs)) from I.hok a _ ea)
  exact PySem.W.kia_one PySem.W.kitx_list I.kIn ⟨_,h1,rfl⟩ e (fun z=>nomatch z) h
 | @tup a xs ea =>
  cases (show u=Value.ref a from rx)
  obtain ⟨_,_,_,p⟩:=(show ObjOk X.prog X.w H s.heap a (.tup xs) from I.hok a _ ea)
  obtain ⟨o,h1,h2,_⟩:=p
  exact PySem.W.kia_one PySem.W.kitx_tuple I.kIn ⟨o,h1,h2⟩ e (fun z=>nomatch z) h
 | @dK a kvs ea =>
  cases (show u=Value.ref a from rx)
  obtain ⟨_,_,vs,_,p⟩:=(show ObjOk X.prog X.w H s.heap a (.dK kvs) from I.hok a _ ea)
  obtain ⟨o,es,ep,h1,h2,_⟩:=p
  exact PySem.W.kia_one PySem.W.kitx_dict I.kIn ⟨o,h1,h2.1⟩ e (fun z=>nomatch z) h
 | @dT a kvs ea =>
  cases (show u=Value.ref a from rx)
  obtain ⟨_,_,xs,_,o,es,ep,h1,h2,_⟩:=(show ObjOk X.prog X.w H s.heap a (.dT kvs) from I.hok a _ ea)
  exact PySem.W.kia_one PySem.W.kitx_dict I.kIn ⟨o,h1,h2.1⟩ e (fun z=>nomatch z) h
 | @ins a C dx fs ea cl ha hn htk hm =>
  cases (show u=Value.ref a from rx)
  obtain ⟨mA,O,_⟩:=at4 I.hok ea
  obtain ⟨od,J,_⟩:=O.look
  exact PySem.W.kia_one (PySem.W.kitx_own (cl.get _) cl.hd ha hn htk hm) I.kIn J e (fun z=>nomatch z) h
end
structure Room (k:Nat) (A:Around):Prop where
 hd:A.handled=none
 dp:A.depth+3 * k+5 < recursionLimit
 un:A.units+16 * k+200 < cLine
theorem Room.mono {j k:Nat} {A:Around} (r:Room k A) (h:j<=k):Room j A:=⟨r.hd,by have:=r.dp;omega,by have:=r.un;omega⟩
theorem Room.deeper {k:Nat} {A:Around} (r:Room (k+1) A) (env:Env):Room k (A.deeper env) :=
 ⟨r.hd,by have:=r.dp;show A.depth+1+3 * k+5 < _;omega,by have:=r.un;show A.units+3+16 * k+200 < _;omega⟩
theorem Room.in1 {k:Nat} {A:Around} (r:Room (k+1) A):Room k A.in1 :=
 ⟨r.hd,by have:=r.dp;show A.depth+3 * k+5 < _;omega,by have:=r.un;show A.units+1+16 * k+200 < _;omega⟩
theorem Room.depth {k:Nat} {A:Around} (r:Room k A):A.depth < recursionLimit:=by have:=r.dp;omega
theorem Room.units {k:Nat} {A:Around} (r:Room k A):A.units+64 < cLine:=by have:=r.un;omega
theorem Room.units0 {k:Nat} {A:Around} (r:Room k A):A.units < cLine:=by have:=r.un;omega
def tNil:TA:=fun _ H Q=>Q [] H
def aco (ta:TE) (tr:TA):TA:=fun σ H Q=>ta σ H fun x H1=>tr σ H1 fun xs H2=>Q (x :: xs) H2
section
variable {X:Cx} {e:Expr} {es:List Expr} {te:TE} {t:TA} {pos:Pos}
theorem aab:PA X [] tNil:=fun _ _ _ _ H Q I h=>Calls.spliced_nil ⟨[],H,I,.nil,h⟩
theorem aaa (ha:PE X e te) (hr:PA X es t) (hs:starEach (e :: es) X.env=(false,eval e X.env) :: starEach es X.env:=by rfl):PA X (e :: es) (aco te t):=by
 intro pos pins s σ H Q I h
 rw [hs]
 show wpAny _ _ (spliced ((false,eval e X.env) :: backTo pos (starEach es X.env))) _ _ s
 refine Calls.spliced_cons (thn (ha pins s σ H _ I h) fun u s1 ⟨x,H1,I1,r1,q1⟩=>?_)
 exact thn (hr pos pins s1 σ H1 _ I1 q1) fun us s2 ⟨xs,H2,I2,r2,q2⟩=>⟨x :: xs,H2,I2,.cons r1 r2,q2⟩
def tTup (t:TA):TE:=fun σ H Q=>t σ H fun xs H1=>xs.length<=sizeLine/\∀ p,H1 p=none->Q (.ref p) (upd H1 p (.tup xs))
def tLst (t:TA):TE:=fun σ H Q=>t σ H fun xs H1=>xs.length<=sizeLine/\∀ p,H1 p=none->Q (.ref p) (upd H1 p (.lst xs))
theorem ab2 {x1} (h:PA X es t):PE X (.Tuple es x1 pos) (tTup t):=by
 intro pins s σ H Q I hq
 refine wpAny_Tuple_spliced (thn (h pos pins s σ H _ I hq) fun us s1 ⟨xs,H1,I1,r,z,q⟩=>⟨by rw [← r.length];exact z,?_⟩)
 have hf:H1 s1.heap.objs.size=none:=I1.hok.fresh (Nat.le_refl _)
 refine ⟨.ref s1.heap.objs.size,upd H1 s1.heap.objs.size (.tup xs),I1.laid (t':=s1.toks) (fun b u e=>Heap.get?_push_of_some _ e) (Nat.le_refl _) ?_,rfl,q _ hf⟩
 exact ⟨z,us,r,⟨_,Heap.get?_push_size _ rfl,rfl,_,rfl⟩⟩
theorem abt (h:PA X es t):PE X (.List es pos) (tLst t):=by
 intro pins s σ H Q I hq
 refine wpAny_List_spliced (thn (h pos pins s σ H _ I hq) fun us s1 ⟨xs,H1,I1,r,z,q⟩=>⟨by rw [← r.length];exact z,?_⟩)
 have hf:H1 s1.heap.objs.size=none:=I1.hok.fresh (Nat.le_refl _)
 refine ⟨.ref s1.heap.objs.size,upd H1 s1.heap.objs.size (.lst xs),I1.laid (t':=s1.toks) (fun b u e=>Heap.get?_push_of_some _ e) (Nat.le_refl _) ?_,rfl,q _ hf⟩
 exact ⟨z,us,0,r,Heap.get?_push_size _ rfl⟩
end
noncomputable abbrev Sp:=List V->Hp->VK->XK->Prop
noncomputable abbrev CXT:=List Env->Hp->Shared->XK->Value->Shared->Prop
structure Env0 (P:Program) (w:World) (K:Frag) (mg:Str->Option Value) (base:Heap) (A:Around) (outer:List Env) (s:Shared) (H:Hp):Prop where
 frames:A.frames=some outer
 mod:Mod K mg base
 bs:∀ b o,base.get? b=some o->s.heap.get? b=some o/\H b=none
 bsz:base.objs.size<=s.heap.objs.size
 funs:s.heap.FunFrames base outer
 frf:∀ b∈frs outer,H b=none
 hok:HOk P w H s.heap
 bare:AllBare s.gens
def CE (outer:List Env) (P:Program) (w:World) (H:Hp) (s:Shared) (Q:VK) (u:Value) (s':Shared):Prop :=
 ∃ v H',s'.os=s.os/\AllBare s'.gens/\Un (frs outer) [] H H' s.heap s'.heap/\HOk P w H' s'.heap/\RelV v u/\Q v H'
def CR (CX:CXT) (outer:List Env) (P:Program) (w:World) (H:Hp) (s:Shared) (Q:VK) (E:XK) (r:Result) (s':Shared):Prop :=
 match r with
 | .ok (.ret u)=>CE outer P w H s Q u s'
 | .ok _=>False
 | .error e=>CX outer H s E e s'
structure FnOk (P:Program) (w:World) (K:Frag) (mg:Str->Option Value) (base:Heap) (CX:CXT) (k:Nat) (f:Addr) (fd:FuncData) (ps:List Str) (sp:Sp):Prop where
 len:∀ vs H Q E,sp vs H Q E->vs.length=ps.length
 run:∀ (A:Around) (outer:List Env) (s:Shared) (H:Hp) (args:Args) (us:List Value) (vs:List V) (Q:VK) (E:XK),Room k A->Env0 P w K mg base A outer s H->BindsTo s fd args (ps.zip us)->Vals vs us->sp vs H Q E ->
  codeAny (model P w) A (.call (.ref f) args) (CR CX outer P w H s Q E) s
theorem FnOk.mono {P:Program} {w:World} {K:Frag} {mg:Str->Option Value} {base:Heap} {CX:CXT} {j k:Nat} {f:Addr} {fd:FuncData} {ps:List Str} {sp:Sp} (F:FnOk P w K mg base CX j f fd ps sp) (h:j<=k) :
  FnOk P w K mg base CX k f fd ps sp:=⟨F.len,fun A outer s H args us vs Q E hr=>F.run A outer s H args us vs Q E (hr.mono h)⟩
theorem FnOk.imp {P:Program} {w:World} {K:Frag} {mg:Str->Option Value} {base:Heap} {CX:CXT} {k:Nat} {f:Addr} {fd:FuncData} {ps:List Str} {sp sp':Sp} (F:FnOk P w K mg base CX k f fd ps sp)
  (h:∀ vs H Q E,sp' vs H Q E->sp vs H Q E):FnOk P w K mg base CX k f fd ps sp' :=
 ⟨fun vs H Q E q=>F.len vs H Q E (h _ _ _ _ q),fun A outer s H args us vs Q E hr he hb hv hs=>F.run A outer s H args us vs Q E hr he hb hv (h _ _ _ _ hs)⟩
theorem Env0.in1 {P:Program} {w:World} {K:Frag} {mg:Str->Option Value} {base:Heap} {A:Around} {outer:List Env} {s:Shared} {H:Hp} (e:Env0 P w K mg base A outer s H) :
  Env0 P w K mg base A.in1 outer s H:=⟨e.frames,e.mod,e.bs,e.bsz,e.funs,e.frf,e.hok,e.bare⟩
section
variable {X:Cx} {pins:List (Addr × Obj)} {σ:St} {H:Hp} {s s':Shared}
theorem Inv.env0 (I:Inv X pins σ H s):Env0 X.prog X.w X.K X.mg X.base X.A X.stack s H :=
 ⟨I.ok.frames,I.ok.mod,I.bs,Nat.le_trans I.ok.bsz I.sz,I.stack,I.stkFree,I.hok,I.bare⟩
theorem Inv.after {Q:VK} {u:Value} (I:Inv X pins σ H s) (h:CE X.stack X.prog X.w H s Q u s'):EP X pins σ Q u s':=by
 obtain ⟨v,H',os,bare,un,hok,r,q⟩:=h
 obtain ⟨hh,g,d,t,os'⟩:=s'
 obtain rfl:os'=s.os:=os
 exact ⟨v,H',I.call (h':=hh) (g':=g) (d':=d) (t':=t) (ch:=[]) un hok bare (fun b z=>absurd z (by simp)),r,q⟩
end
def adz (sp:Sp) (dvs:List V) (E:XK) (t:TA):TE:=fun σ H Q=>t σ H fun vs H1=>sp (vs ++ dvs) H1 Q E
def Binds (K:Frag) (fd:FuncData) (ps:List Str) (ds:List Value):Prop :=
 ∀ (s:Shared) (us:List Value),K.In s.heap->(us ++ ds).length=ps.length->BindsTo s fd ⟨us,[]⟩ (ps.zip (us ++ ds))
theorem Binds.all {K:Frag} {fd:FuncData} {ps:List Str} (h:∀ us:List Value,us.length=ps.length->bindArgs fd ⟨us,[]⟩=pure (ps.zip us)):Binds K fd ps []:=fun s us _ hl=>by
 rw [List.append_nil] at hl ⊢
 exact .of_eq (h us hl)
def ako (CX:CXT) (X:Cx) (E:XK):Prop:=∀ (pins:List (Addr × Obj)) (σ:St) (H:Hp) (s:Shared) (e:Value) (s':Shared),Inv X pins σ H s->CX X.stack H s E e s'->X.xe e s'
section
variable {X:Cx} {CX:CXT} {k:Nat} {f C:Addr} {fd:FuncData} {ps:List Str} {sp:Sp} {dvs:List V} {ds:List Value} {E:XK} {x m:Str} {p pos apos:Pos} {e o:Expr} {es:List Expr} {ta:TE} {t:TA}
theorem awg {pins:List (Addr × Obj)} {σ:St} {H:Hp} {s:Shared} {Q:VK} {us:List Value} {vs:List V} (F:FnOk X.prog X.w X.K X.mg X.base CX k f fd ps sp) (hr:Room k X.A) (hb:Binds X.K fd ps ds) (hd:Vals dvs ds) (hx:ako CX X E)
  (I:Inv X pins σ H s) (r:Vals vs us) (h:sp (vs ++ dvs) H Q E):wpAny (model X.prog X.w) X.A (call (.ref f) us) (EP X pins σ Q) X.xe s:=by
 have r2:Vals (vs ++ dvs) (us ++ ds):=r.append hd
 have hl:(us ++ ds).length=ps.length:=by rw [← r2.length];exact F.len _ _ _ _ h
 refine wpAny_call (codeAny_mono (F.run X.A X.stack s H ⟨us,[]⟩ (us ++ ds) (vs ++ dvs) Q E hr I.env0 (hb s us I.kIn hl) r2 h) fun r s' hq=>?_)
 cases r with
 | error e=>exact hx pins σ H s e s' I hq
 | ok fl =>
  cases fl with
  | ret u=>exact I.after hq
  | next=>exact False.elim hq
  | brk=>exact False.elim hq
  | cont=>exact False.elim hq
theorem at6 (F:FnOk X.prog X.w X.K X.mg X.base CX k f fd ps sp) (hr:Room k X.A) (hg:Gl X x) (hm:X.mg x=some (.ref f)) (hk:keepIn X.K (.ref f)=true) (hb:Binds X.K fd ps ds) (hd:Vals dvs ds) (hx:ako CX X E)
  (ha:PA X (e :: es) t) (hdb:(x == ("__debug__" : Str))=false:=by decide) (he:starEach (e :: es) X.env=(false,eval e X.env) :: starEach es X.env:=by rfl) (hpl:(backTo pos (starEach es X.env)).any (·.1)=false:=by rfl) :
  PE X (.Call (.Name x p) (e :: es) [] pos) (adz sp dvs E t):=by
 intro pins s σ H Q I h
 refine wpAny_Call_Name_kw (amr I hg hm ?_ hdb)
 refine PySem.W.callWith_K (h₀:=X.base) I.ok.mod.kin hk (thn (ha pos pins s σ H _ I h) fun us s1 ⟨vs,H1,I1,r,q⟩=>⟨I1.kIn,?_⟩) he hpl
 exact awg F hr hb hd hx I1 r q
end
section
variable {X:Cx} {CX:CXT} {k:Nat} {f C:Addr} {fd:FuncData} {ps ks:List Str} {sp:Sp} {E:XK} {x m:Str} {p pos apos kpos:Pos} {e o:Expr} {es:List Expr} {kws:List Keyword} {te ta:TE} {t tk:TA} {nm:Option Str}
variable {g:List Value->List Value->List Value} {gV:List V->List V->List V}
end
structure FnScope (N P:List Str) (sc:Scope):Prop where
 kind:sc.kind=.function
 co:sc.isCoroutine=false
 gen:sc.isGenerator=false
 nd:N.Nodup
 pre:N.take P.length=P
 par:∀ x∈P,sc.names.lookup x=some .local\/sc.names.lookup x=some .cell
 nofree:∀ y∈sc.names,y.2 ≠ .free
theorem ait {kindOf:Str->Option NameKind} {x:Str}:∀ {binds:List (Str × Value)} {m:Str->Option Value},(∀ v,(x,v) ∉ binds)->bindL kindOf binds m x=m x
 | [],_,_=>rfl
 | (n,v) :: r,m,h=>by
  unfold bindL
  rw [ait fun w hw=>h w (List.mem_cons_of_mem _ hw)]
  split
  ·have:x ≠ n:=by rintro rfl;exact h v List.mem_cons_self
   simp [this]
  ·rfl
theorem aiu {kindOf:Str->Option NameKind} {x:Str}:∀ {binds:List (Str × Value)} {m:Str->Option Value},(∀ v,(x,v) ∉ binds)->bindC kindOf binds m x=m x
 | [],_,_=>rfl
 | (n,v) :: r,m,h=>by
  unfold bindC
  rw [aiu fun w hw=>h w (List.mem_cons_of_mem _ hw)]
  split
  ·rfl
  ·have:x ≠ n:=by rintro rfl;exact h v List.mem_cons_self
   simp [this]
theorem aiv {kindOf:Str->Option NameKind} {x:Str} {v:Value}:∀ {P:List Str} {vs:List Value} {i:Nat} {m:Str->Option Value},P.Nodup->P[i]?=some x->vs[i]?=some v->kindOf x=some .local ->
  bindL kindOf (P.zip vs) m x=some v
 | [],_,_,_,_,h,_,_=>by simp at h
 | _ :: _,[],_,_,_,_,h,_=>by simp at h
 | p :: P,w :: vs,0,m,nd,h1,h2,hk=>by
  simp at h1 h2;subst h1;subst h2
  show bindL kindOf ((p,w) :: P.zip vs) m p=_
  unfold bindL
  rw [ait fun v hv=>(List.nodup_cons.mp nd).1 (List.of_mem_zip hv).1,if_pos hk]
  simp
 | p :: P,w :: vs,i+1,m,nd,h1,h2,hk=>by
  show bindL kindOf ((p,w) :: P.zip vs) m x=_
  unfold bindL
  exact aiv (i:=i) (List.nodup_cons.mp nd).2 (by simpa using h1) (by simpa using h2) hk
theorem aiw {kindOf:Str->Option NameKind} {x:Str} {v:Value}:∀ {P:List Str} {vs:List Value} {i:Nat} {m:Str->Option Value},P.Nodup->P[i]?=some x->vs[i]?=some v->kindOf x ≠ some .local ->
  bindC kindOf (P.zip vs) m x=some v
 | [],_,_,_,_,h,_,_=>by simp at h
 | _ :: _,[],_,_,_,_,h,_=>by simp at h
 | p :: P,w :: vs,0,m,nd,h1,h2,hk=>by
  simp at h1 h2;subst h1;subst h2
  show bindC kindOf ((p,w) :: P.zip vs) m p=_
  unfold bindC
  rw [aiu fun v hv=>(List.nodup_cons.mp nd).1 (List.of_mem_zip hv).1,if_neg hk]
  simp
 | p :: P,w :: vs,i+1,m,nd,h1,h2,hk=>by
  show bindC kindOf ((p,w) :: P.zip vs) m x=_
  unfold bindC
  exact aiw (i:=i) (List.nodup_cons.mp nd).2 (by simpa using h1) (by simpa using h2) hk
noncomputable def start (N:List Str) (vs:List V):St:=vs.map some ++ List.replicate (N.length - vs.length) none
noncomputable def cxOf (CX:CXT) (P:Program) (w:World) (K:Frag) (mg:Str->Option Value) (base:Heap) (N:List Str) (qual:Str) (scope:Scope) (f:Addr) (cd:Value) (A:Around) (outer:List Env) (s:Shared) (H:Hp) (E:XK):Cx where
 prog:=P
 w:=w
 K:=K
 mg:=mg
 base:=base
 A:=A.deeper (envOfC qual scope s.heap.objs.size f cd)
 N:=N
 s₀:=s
 H₀:=H
 env:=envOfC qual scope s.heap.objs.size f cd
 outer:=outer
 stack:=envOfC qual scope s.heap.objs.size f cd :: outer
 ex:=[]
 calm:=true
 fn:=fun _=>true
 pn:=[]
 xe:=fun e s'=>wpAny (model P w) (A.deeper (envOfC qual scope s.heap.objs.size f cd)) (leaving (envOfC qual scope s.heap.objs.size f cd) e) (fun _ s''=>CX outer H s E e s'') (fun e' s''=>CX outer H s E e' s'') s'
theorem akp {sc:Scope} {n:Nat} {x:Str} (h:sc.names.lookup x=some .cell):∃ c,(cellsFrom n sc.names []).lookup x=some c:=by
 have q:=PySem.W.cellsFrom_some sc.names n [] (.inl h)
 exact Option.isSome_iff_exists.mp q
theorem ape {CX:CXT} {P:Program} {w:World} {K:Frag} {mg:Str->Option Value} {base:Heap} {N ps:List Str} {qual:Str} {scope:Scope} {f:Addr} {cd:Value} {A:Around} {outer:List Env} {s s1:Shared} {H:Hp} {E:XK} {us:List Value} {vs:List V}
  (S:FnScope N ps scope) (hd:A.handled=none) (e0:Env0 P w K mg base A outer s H) (hl:vs.length=ps.length) (r:Vals vs us)
  (x:InCallC s s.heap.objs.size (bindL (envOfC qual scope s.heap.objs.size f cd).kindOf (ps.zip us) fun _=>none) (cellsFrom (s.heap.objs.size+1) scope.names []) (bindC (envOfC qual scope s.heap.objs.size f cd).kindOf (ps.zip us) fun _=>none) s1) :
  Inv (cxOf CX P w K mg base N qual scope f cd A outer s H E) [] (start N vs) H s1:=by
 have hpl:ps.length<=N.length:=by have:=congrArg List.length S.pre;rw [List.length_take] at this;omega
 obtain ⟨h1,tk,rfl,hk⟩:=x.done
 have noA:∀ b:Addr,b ∉ (cxOf CX P w K mg base N qual scope f cd A outer s H E).ex:=fun b z=>absurd (show b∈([]:List Addr) from z) (by simp)
 refine ⟨⟨e0.mod,S.kind,rfl,rfl,Nat.le_refl _,fun y z c h1 h2=>?_,fun y hy=>?_,fun y c _ h=>?_,fun _=>hd,Around.frames_deeper e0.frames,.inr ⟨rfl,rfl⟩,fun b z=>absurd z (noA b),e0.bs,e0.bsz,fun b _ _=>noA b,fun b z=>absurd z (noA b),e0.funs,e0.frf⟩,
  rfl,e0.bare,Un.kept hk,⟨_,x.toInCall.ns,fun i y v h1 h2 h3=>?_⟩,fun y c h=>⟨_,x.cell y c h⟩,e0.hok.fresh (Nat.le_refl _),fun y c h=>?_,fun p hp=>absurd (show p∈([]:List (Addr × Obj)) from hp) (by simp),e0.hok.kept hk,?_⟩
 ·exact name_of_addr x.apart (PySem.mem_of_lookup h1) (PySem.mem_of_lookup h2)
 ·have hy:scope.names.lookup y=some .cell\/scope.names.lookup y=some .free:=hy
  rcases hy with hy | hy
  ·exact akp hy
  ·exact absurd rfl (S.nofree _ (PySem.mem_of_lookup hy))
 ·exact Nat.le_of_lt (x.above y c (PySem.mem_of_lookup h))
 ·have hi:i < vs.length:=by
   unfold start at h2
   by_cases hi:i < vs.length
   ·exact hi
   ·rw [List.getElem?_append_right (by simpa using hi)] at h2
    rw [List.getElem?_replicate] at h2
    split at h2 <;> cases h2
  have ha:vs[i]?=some v:=by
   unfold start at h2
   rw [List.getElem?_append_left (by simpa using hi),List.getElem?_map] at h2
   cases e:vs[i]? with
   | none=>rw [e] at h2;cases h2
   | some a=>rw [e] at h2;cases h2;rfl
  obtain ⟨u,hu,rv⟩:=r.get ha
  have hp:ps[i]?=some y:=by
   rw [← S.pre,List.getElem?_take_of_lt (by omega)];exact h1
  have ndP:ps.Nodup:=by rw [← S.pre];exact S.nd.sublist (List.take_sublist _ _)
  refine ⟨u,rv,?_⟩
  rcases S.par y (List.mem_of_getElem? hp) with k | k
  ·exact .inl ⟨k,aiv ndP hp hu k⟩
  ·obtain ⟨c,e⟩:=akp (n:=s.heap.objs.size+1) k
   refine .inr ⟨.inl k,c,e,?_⟩
   have q:=x.cell y c e
   rw [aiw ndP hp hu (by show scope.names.lookup y ≠ _;rw [k];decide)] at q
   exact q
 ·exact e0.hok.fresh (Nat.le_of_lt (x.above y c (PySem.mem_of_lookup h)))
 ·unfold start
  show _=N.length
  rw [List.length_append,List.length_map,List.length_replicate]
  omega
theorem ayc {CX:CXT} {P:Program} {w:World} {K:Frag} {mg:Str->Option Value} {base:Heap} {k:Nat} {f:Addr} {name qual:Str} {params:Arguments} {body:List Stmt} {scope:Scope} {dV kV doc pm cdv ct oc:Value} {an od:Option Addr}
  {osl:Array (Option Value)} {N ps:List Str} {sp:Sp} (lk:K.lookup f=some ⟨oc,od,.func (fnOf name qual params body scope dV kV doc pm an cdv ct),osl⟩) (hcd:codeIn K cdv qual=true) (S:FnScope N ps scope)
  (len:∀ vs H Q E,sp vs H Q E->vs.length=ps.length)
  (hbody:∀ (A:Around) (outer:List Env) (s:Shared) (H:Hp) (vs:List V) (Q:VK) (E:XK),Room k (A.deeper (envOfC qual scope s.heap.objs.size f cdv))->sp vs H Q E ->
   ∃ t,PSs (cxOf CX P w K mg base N qual scope f cdv A outer s H E) body t/\t { nx:=fun _ H'=>Q .non H',rt:=Q } (start N vs) H) :
  FnOk P w K mg base CX (k+1) f (fnOf name qual params body scope dV kV doc pm an cdv ct) ps sp:=by
 refine ⟨len,fun A outer s H args us vs Q E hr e0 hb r hsp=>?_⟩
 have hl:=len _ _ _ _ hsp
 have KX:K.In s.heap:=e0.mod.kin.keeps fun b o e=>(e0.bs b o e).1
 have lim:s.heap.NoLimit:=e0.mod.nolimit.keeps fun b o e=>(e0.bs b o e).1
 have hkind:∀ y∈ps.zip us,scope.names.lookup y.1=some .local\/(scope.names.lookup y.1=some .cell/\((cellsFrom (s.heap.objs.size+1) scope.names []).lookup y.1).isSome=true):=fun ⟨n,v⟩ hy=>by
  rcases S.par n (List.of_mem_zip hy).1 with q | q
  ·exact .inl q
  ·exact .inr ⟨q,PySem.W.cellsFrom_some _ _ _ (.inl q)⟩
 refine codeAny_call_function hr.depth (KX _ _ lk) rfl S.co S.gen rfl (PySem.W.codeRec_of KX hcd) (hb _ _ _ _ ?_)
 refine wpAny_newFunctionEnv_cells S.kind hkind fun env he s1 x=>?_
 subst he
 refine ⟨lim.keeps x.toInCall.keep,codeAny_func ?_⟩
 obtain ⟨t,ht,hq⟩:=hbody A outer s H vs Q E (hr.deeper _) hsp
 have I:Inv (cxOf CX P w K mg base N qual scope f cdv A outer s H E) [] (start N vs) H s1:=ape S hr.hd e0 hl r x
 refine wpAny_mono (ht [] s1 (start N vs) H _ I hq) (fun fl s' hs=>?_) fun e s' hs=>hs
 have fin:∀ {σ':St} {H':Hp} {v:V} {u:Value},Inv (cxOf CX P w K mg base N qual scope f cdv A outer s H E) [] σ' H' s'->RelV v u->Q v H'->CE outer P w H s Q u s' :=
  fun {σ' H' v u} J rv q=>⟨v,H',J.os,J.bare,J.base,J.hok,rv,q⟩
 cases fl with
 | ret u =>
  obtain ⟨v,σ',H',J,rv,q⟩:=hs
  exact fin J rv q
 | next =>
  obtain ⟨σ',H',J,q⟩:=hs
  exact fin (v:=V.non) (u:=Value.none) J rfl q
 | brk =>
  obtain ⟨_,_,_,q⟩:=hs
  exact False.elim q
 | cont =>
  obtain ⟨_,_,_,q⟩:=hs
  exact False.elim q
section
variable {X:Cx} {x:Str} {p pos:Pos} {e:Expr} {es:List Expr} {t:TA} {id T:String} {r:List V->Hp->VK->Prop}
def tCB (r:List V->Hp->VK->Prop) (t:TA):TE:=fun σ H Q=>t σ H fun vs H1=>r vs H1 Q
theorem aal (hc:abg X (.builtin id) r) (hg:Gl X x) (hm:X.mg x=none) (hv:bootBuiltins x=some (.builtin id)) (ha:PA X (e :: es) t) (hn:x ≠ "__name__":=by decide) (hdb:(x == ("__debug__" : Str))=false:=by decide)
  (he:starEach (e :: es) X.env=(false,eval e X.env) :: starEach es X.env:=by rfl) (hpl:(backTo pos (starEach es X.env)).any (·.1)=false:=by rfl):PE X (.Call (.Name x p) (e :: es) [] pos) (tCB r t):=by
 intro pins s σ H Q I h
 refine wpAny_Call_Name_kw (acu I hg hm hv ?_ hn hdb)
 exact PyProof.Rows.callWith_builtin1 (thn (ha pos pins s σ H _ I h) fun us s1 ⟨vs,H1,I1,r1,q1⟩=>hc pins s1 σ H1 vs us Q I1 r1 q1) he hpl
theorem apf (hc:abg X (.type T) r) (hg:Gl X x) (hm:X.mg x=none) (hv:bootBuiltins x=some (.type T)) (ha:PA X (e :: es) t) (hn:x ≠ "__name__":=by decide) (hdb:(x == ("__debug__" : Str))=false:=by decide)
  (he:starEach (e :: es) X.env=(false,eval e X.env) :: starEach es X.env:=by rfl) (hpl:(backTo pos (starEach es X.env)).any (·.1)=false:=by rfl):PE X (.Call (.Name x p) (e :: es) [] pos) (tCB r t):=by
 intro pins s σ H Q I h
 refine wpAny_Call_Name_kw (acu I hg hm hv ?_ hn hdb)
 exact PyProof.Rows.callWith_type1 (thn (ha pos pins s σ H _ I h) fun us s1 ⟨vs,H1,I1,r1,q1⟩=>hc pins s1 σ H1 vs us Q I1 r1 q1) he hpl
end
end L2
namespace HT
open PySem PyProof.Rows
noncomputable def lexLt:List Int->List Int->Bool
 | [],[]=>false
 | [],_ :: _=>true
 | _ :: _,[]=>false
 | x :: xs,y :: ys=>if x=y then lexLt xs ys else decide (x < y)
theorem ad0 (x y:Int) (xs ys:List Int):lexLt (x :: xs) (y :: ys)=if x=y then lexLt xs ys else decide (x < y):=rfl
theorem ajj:lexLt [] []=false:=rfl
theorem ah0 (y:Int) (ys:List Int):lexLt [] (y :: ys)=true:=rfl
theorem ah1 (x:Int) (xs:List Int):lexLt (x :: xs) []=false:=rfl
theorem arc (A:Around) (s:Shared) (a:Int) (t:Tok) (c:Int) (u:Tok):∃ e,SeqAt.EqAt A s (.int a t) (.int c u) e/\(e=true ↔ a=c) :=
 ⟨(a == c),SeqAt.EqAt.int_int a t c u,by simp⟩
theorem ard (A:Around) (s:Shared) (a:Int) (t:Tok) (c:Int) (u:Tok) (prog:Program) (w:World) (E:Value->Shared->Prop) (Q:Value->Shared->Prop) (h:Q (.bool (decide (a < c))) s) :
  wpAny (model prog w) A (richCompare .Lt (.int a t) (.int c u)) Q E s :=
 (PyProof.Rows.lt_int h:wpAny (model prog w) A (compareOp .Lt (.int a t) (.int c u)) Q E s)
section
open PySem.SeqAt
open PySem.AutoSeq1 (wpAny_loadPart')
open PySem.MeetsSeq PySem.MeetsSeq2 PySem.MeetsSeq3
theorem ajk (l b:Addr) (items items2:Array Value) (n n2:Nat) (dd dd2:Option Addr) (sl sl2:Array (Option Value)) (ns ms:List Int) (hi:IntsAre items.toList ns) (hj:IntsAre items2.toList ms) :
  Meets (Builtin.«tuple.__lt__» ⟨[.ref l,.ref b],[]⟩)
   (fun _ R s=>s.heap.get? l=some { cls:=.type "tuple",dict:=dd,data:=.seq items n,slots:=sl }/\s.heap.get? b=some { cls:=.type "tuple",dict:=dd2,data:=.seq items2 n2,slots:=sl2 } /\
    R (.ok (.ret (.bool (lexLt ns ms)))) s) :=
 .of_wp fun prog w A R s h=>by
  obtain ⟨hp,g,d,tk,os⟩:=s;obtain ⟨hl,hb,h⟩:=h
  have f2:=AutoSeq1.sub_tuple_tuple
  have z1:items.size=ns.length:=by rw [← hi.length];simp
  have z2:items2.size=ms.length:=by rw [← hj.length];simp
  wp_walk using wpAny_loadPart' hl,wpAny_loadPart' hb,wpAny_forIn_list _ (fun rest b s'=>b.1=none/\s'=⟨hp,g,d,tk,os⟩/\∃ (vs ws:List Value) (ns' ms':List Int),rest=vs.zip ws /\
   IntsAre vs ns'/\IntsAre ws ms'/\ns'.length+items2.size=ms'.length+items.size/\R (.ok (.ret (.bool (lexLt ns' ms')))) ⟨hp,g,d,tk,os⟩) _
  case turn =>
   rintro ⟨y,x⟩ rest b s' ⟨hb',rfl,vs,ws,ns',ms',hz,hvi,hwi,hlen,hR⟩
   cases hvi with
   | nil=>rw [List.zip_nil_left] at hz;cases hz
   | cons a t hvi' =>
    cases hwi with
    | nil=>rw [List.zip_nil_right] at hz;cases hz
    | cons c u hwi' =>
     rw [List.zip_cons_cons] at hz
     injection hz with hyx hrest
     injection hyx with hy hx
     subst hy hx
     rw [ad0] at hR
     simp only [List.length_cons] at hlen
     obtain ⟨e,he,hiff⟩:=arc A.in1 ⟨hp,g,d,tk,os⟩ a t c u
     refine wpAny_bind (he prog w _ _ ?_)
     cases e with
     | true =>
      rw [if_pos (hiff.mp rfl)] at hR
      wp_walk
      exact ⟨rfl,rfl,_,_,_,_,hrest,hvi',hwi',by omega,hR⟩
     | false =>
      rw [if_neg (fun q=>absurd (hiff.mpr q) Bool.false_ne_true)] at hR
      have hri:=ard A.in1 ⟨hp,g,d,tk,os⟩ a t c u prog w
      wp_walk using hri
      exact ⟨_,rfl,by simpa using hR⟩
  case fin =>
   rintro ⟨b1,b2⟩ s' ⟨hb',rfl,vs,ws,ns',ms',hz,hvi,hwi,hlen,hR⟩
   simp only at hb'
   subst hb'
   have hv:lexLt ns' ms'=decide (items.size < items2.size):=by
    cases hvi with
    | nil =>
     cases hwi with
     | nil =>
      simp only [List.length_nil] at hlen
      rw [ajj]
      exact (decide_eq_false (by omega)).symm
     | cons c u hw =>
      simp only [List.length_nil,List.length_cons] at hlen
      rw [ah0]
      exact (decide_eq_true (by omega)).symm
    | cons a t hv =>
     cases hwi with
     | nil =>
      simp only [List.length_nil,List.length_cons] at hlen
      rw [ah1]
      exact (decide_eq_false (by omega)).symm
     | cons c u hw =>
      rw [List.zip_cons_cons] at hz
      cases hz
   rw [hv] at hR
   wp_walk
   exact ⟨_,rfl,by simpa [Builtin.Tuple.tupleCompareSizes] using hR⟩
  case h =>
   exact ⟨rfl,rfl,items.toList,items2.toList,ns,ms,rfl,hi,hj,by omega,h⟩
end
section
variable {prog:Program} {w:World} {A:Around} {E:Value->Shared->Prop} {s:Shared}
theorem lt_tupInts {l b:Addr} {items items2:Array Value} {ns ms:List Int} {Q:Value->Shared->Prop} (hl:IsTup s.heap l items) (hb:IsTup s.heap b items2) (hi:IntsAre items.toList ns) (hj:IntsAre items2.toList ms)
  (hu:A.units < cLine) (h:Q (.bool (lexLt ns ms)) s):wpAny (model prog w) A (compareOp .Lt (.ref l) (.ref b)) Q E s:=by
 obtain ⟨⟨cls,dd,data,sl⟩,ho,hc,n,hd⟩:=id hl
 obtain ⟨⟨cls2,dd2,data2,sl2⟩,ho2,hc2,n2,hd2⟩:=id hb
 simp only at hc hd hc2 hd2
 subst hc hd hc2 hd2
 exact richCompare_meets_room (op:=.Lt) ⟨_,ho,rfl⟩ ⟨_,ho2,rfl⟩ PySem.F.slot_tuple_lt PySem.F.entry_tuple_lt (PySem.F.args_tuple_lt_2 _ _) (ajk l b items items2 n n2 dd dd2 sl sl2 ns ms hi hj)
  ⟨ho,ho2,show Value.bool (lexLt ns ms) ≠ Value.notImplemented/\Q (.bool (lexLt ns ms)) s from ⟨(fun x=>nomatch x),h⟩⟩ hu
noncomputable def sIx (n d:Nat):Option Int->Nat
 | none=>d
 | some v=>if v < 0 then (v+(n:Int)).toNat else min v.toNat n
theorem sIx_none (n d:Nat):sIx n d none=d:=rfl
theorem sIx_nat (n d k:Nat):sIx n d (some (k:Int))=min k n:=by
 show (if (k:Int) < 0 then ((k:Int)+(n:Int)).toNat else min (k:Int).toNat n)=min k n
 rw [if_neg (by omega),Int.toNat_natCast]
end
end HT
namespace L2
open PySem PySem.Spec PyProof.Rows
noncomputable abbrev TO:=St->Hp->(Option Int->Hp->Prop)->Prop
def PO (X:Cx) (e:Option Expr) (t:TO):Prop :=
 ∀ (pins:List (Addr × Obj)) (s:Shared) (σ:St) (H:Hp) (Q:Option Int->Hp->Prop),Inv X pins σ H s->t σ H Q ->
  wpAny (model X.prog X.w) X.A (evalPart e X.env) (fun u s'=>∃ o H',Inv X pins σ H' s'/\IsPart u o/\Q o H') X.xe s
def amv:TO:=fun _ H Q=>Q none H
def ato (t:TE):TO:=fun σ H Q=>t σ H fun x H1=>∃ i,x=.int i/\Q (some i) H1
theorem ab3 {ns:List Int}:∀ {us:List Value},Vals (ns.map V.int) us->IntsAre us ns:=by
 induction ns with
 | nil=>intro us r;rw [List.map_nil] at r;cases r;exact .nil
 | cons n ns ih =>
  intro us r
  rw [List.map_cons] at r
  cases r with
  | cons r1 r2 =>
   obtain ⟨t,e⟩:=r1
   subst e
   exact .cons n t (ih r2)
section
variable {X:Cx} {e:Expr} {te:TE} {lo hi:Option Expr} {tl th:TO} {pos p2:Pos}
theorem amw:PO X none amv:=by
 intro pins s σ H Q I h
 rw [evalPart_none]
 exact wpAny_pure ⟨none,H,I,.none,h⟩
theorem amx (h:PE X e te):PO X (some e) (ato te):=by
 intro pins s σ H Q I hw
 rw [evalPart_some]
 refine thn (h pins s σ H _ I hw) fun u s1 ⟨x,H1,I1,r1,q1⟩=>?_
 obtain ⟨i,rfl,q⟩:=q1
 obtain ⟨t,rfl⟩:=r1
 exact ⟨some i,H1,I1,.int i t,q⟩
def SlR (X:Cx) (r:V->Option Int->Option Int->Hp->VK->Prop):Prop :=
 ∀ (pins:List (Addr × Obj)) (s:Shared) (σ:St) (H:Hp) (x:V) (v vl vu:Value) (lo hi:Option Int) (sl:Addr) (Q:VK),Inv X pins σ H s->RelV x v->s.heap.IsSliceOf sl vl vu .none->IsPart vl lo->IsPart vu hi->r x lo hi H Q ->
  ∃ T id,typeLookup (.type T) "__getitem__" = pure (some (.builtin id))/\s.TypeIs v T/\wpAny (model X.prog X.w) X.A (getItem v (.ref sl)) (EP X pins σ Q) X.xe s
def tSl (r:V->Option Int->Option Int->Hp->VK->Prop) (te:TE) (tl th:TO):TE:=fun σ H Q=>te σ H fun x H1=>tl σ H1 fun l H2=>th σ H2 fun u H3=>r x l u H3 Q
theorem akq {r:V->Option Int->Option Int->Hp->VK->Prop} (hr:SlR X r) (he:PE X e te) (hl:PO X lo tl) (hu:PO X hi th):PE X (.Subscript e (.Slice lo hi none p2) pos) (tSl r te tl th):=by
 intro pins s σ H Q I h
 refine Subscript_ (thn (he pins s σ H _ I h) fun v s1 ⟨x,H1,I1,r1,q1⟩=>?_)
 refine wpAny_Slice (thn (hl pins s1 σ H1 _ I1 q1) fun vl s2 ⟨l,H2,I2,pl,q2⟩=>thn (hu pins s2 σ H2 _ I2 q2) fun vu s3 ⟨u,H3,I3,pu,q3⟩=>?_)
 rw [evalPart_none]
 refine wpAny_pure ?_
 have I4:Inv X pins σ H3 { s3 with heap:=s3.heap.push { cls:=.type "slice",data:=.fields #[vl,vu,.none] } }:=I3.kept (t':=s3.toks) fun b ob q=>Heap.get?_push_of_some _ q
 obtain ⟨T,id,hT,ht,hg⟩:=hr pins { s3 with heap:=s3.heap.push { cls:=.type "slice",data:=.fields #[vl,vu,.none] } } σ H3 x v vl vu l u s3.heap.objs.size Q I4 r1 (Heap.IsSliceOf.new ..) pl pu q3
 show wpAny (model X.prog X.w) X.A (subscriptTail e (.Slice lo hi none p2) v (.ref s3.heap.objs.size)) (EP X pins σ Q) X.xe { s3 with heap:=s3.heap.push { cls:=.type "slice",data:=.fields #[vl,vu,.none] } }
 exact tail_any (ops:=[.ref s3.heap.objs.size,v]) ht hT hg (by with_unfolding_all rfl)
noncomputable def cutV (xs:List V) (lo hi:Option Int):List V:=(xs.drop (HT.sIx xs.length 0 lo)).take (HT.sIx xs.length xs.length hi - HT.sIx xs.length 0 lo)
theorem amc (xs:List V) (lo hi:Option Int):(cutV xs lo hi).length<=xs.length:=by
 unfold cutV
 rw [List.length_take,List.length_drop]
 omega
def rLtT (K:Frag):R2:=fun x y H Q=>∃ a b ns ms,x=.ref a/\y=.ref b/\SqT K H a (ns.map V.int)/\SqT K H b (ms.map V.int)/\Q (.bl (HT.lexLt ns ms)) H
theorem awh (hu:X.A.units < cLine):OpR X (compareOp .Lt) (rLtT X.K):=by
 intro pins s σ H x y v u Q I rx ry h
 obtain ⟨a,b,ns,ms,rfl,rfl,ha,hb,q⟩:=h
 cases rx
 cases ry
 obtain ⟨its,r1,p1,_⟩:=I.tuple ha
 obtain ⟨its2,r2,p2,_⟩:=I.tuple hb
 have i1:IntsAre its.toArray.toList ns:=ab3 r1
 have i2:IntsAre its2.toArray.toList ms:=ab3 r2
 exact HT.lt_tupInts p1 p2 i1 i2 hu ⟨.bl (HT.lexLt ns ms),H,I,rfl,q⟩
end
noncomputable def ixN (n:Nat) (i:Int):Option Nat:=if 0<=i then (if i < n then some i.toNat else none) else if -(n:Int)<=i then some (i+n).toNat else none
noncomputable def atI {α:Type} (xs:List α) (i:Int):Option α:=(ixN xs.length i).bind fun j=>xs[j]?
theorem amy {n:Nat} {i:Int} {j:Nat} (h:ixN n i=some j):seqIndex? i n=some j/\j < n/\-(n:Int)<=i/\i < n:=by
 unfold ixN at h
 by_cases h0:0<=i
 ·rw [if_pos h0] at h
  by_cases h1:i < n
  ·rw [if_pos h1] at h
   have e:i.toNat=j:=Option.some.inj h
   exact ⟨by rw [seqIndex_of h0 h1,e],by omega,by omega,h1⟩
  ·rw [if_neg h1] at h;cases h
 ·rw [if_neg h0] at h
  by_cases h1 : -(n:Int)<=i
  ·rw [if_pos h1] at h
   have e:(i+n).toNat=j:=Option.some.inj h
   exact ⟨by rw [seqIndex_neg (by omega) h1,e],by omega,h1,by omega⟩
  ·rw [if_neg h1] at h;cases h
theorem amz {α:Type} {xs:List α} {i:Int} {v : α} (h:atI xs i=some v):∃ j,seqIndex? i xs.length=some j/\xs[j]?=some v/\j < xs.length/\-(xs.length:Int)<=i/\i < xs.length:=by
 unfold atI at h
 cases e:ixN xs.length i with
 | none=>rw [e] at h;cases h
 | some j =>
  rw [e] at h
  obtain ⟨h1,h2,h3,h4⟩:=amy e
  exact ⟨j,h1,h,h2,h3,h4⟩
theorem aga {α:Type} {xs:List α} {j:Nat} {v : α} (h:xs[j]?=some v):atI xs (j:Int)=some v:=by
 have hj:j < xs.length:=(List.getElem?_eq_some_iff.mp h).1
 have e:ixN xs.length (j:Int)=some j:=by
  unfold ixN
  rw [if_pos (by omega),if_pos (by omega)];simp
 unfold atI;rw [e];exact h
def at7 (b:Expr):Prop:=∀ o i,subscripted b false o i=operate [o,i] (getItem o i)
def IxR (X:Cx) (r:R2):Prop :=
 ∀ (value slice:Expr) (pins:List (Addr × Obj)) (s:Shared) (σ:St) (H:Hp) (x y:V) (v u:Value) (Q:VK),Inv X pins σ H s->RelV x v->RelV y u->r x y H Q ->
  subscripted slice false v u=operate [v,u] (getItem v u)->wpAny (model X.prog X.w) X.A (subscriptTail value slice v u) (EP X pins σ Q) X.xe s
def MtR (X:Cx) (id:String) (r:V->List V->Hp->VK->Prop):Prop :=
 ∀ (pins:List (Addr × Obj)) (s:Shared) (σ:St) (H:Hp) (x:V) (xs:List V) (v:Value) (us:List Value) (Q:VK),Inv X pins σ H s->RelV x v->Vals xs us->r x xs H Q ->
  wpAny (model X.prog X.w) X.A (call (.builtin id) (v :: us)) (EP X pins σ Q) X.xe s
section
variable {X:Cx} {a b:Expr} {ta tb:TE} {pos:Pos}
theorem IxR.or {r r':R2} (h:IxR X r) (h':IxR X r'):IxR X (fun x y H Q=>r x y H Q\/r' x y H Q):=by
 intro value slice pins s σ H x y v u Q I rx ry q hs
 rcases q with q | q
 ·exact h value slice pins s σ H x y v u Q I rx ry q hs
 ·exact h' value slice pins s σ H x y v u Q I rx ry q hs
theorem aap {r:R2} (hr:IxR X r) (ha:PE X a ta) (hb:PE X b tb) (hs:at7 b):PE X (.Subscript a b pos) (tOp r ta tb):=by
 intro pins s σ H Q I h
 exact Subscript_ (binT ha hb I h fun v u s2 x y H2 I2 rx ry q=>hr a b pins s2 σ H2 x y v u Q I2 rx ry q (hs _ _))
def rIxL (K:Frag):R2:=fun x y H Q=>∃ p xs i v,x=.ref p/\y=.int i/\SqL K H p xs/\atI xs i=some v/\Q v H
def rIxT (K:Frag):R2:=fun x y H Q=>∃ p xs i v,x=.ref p/\y=.int i/\SqT K H p xs/\atI xs i=some v/\Q v H
theorem ix_list:IxR X (rIxL X.K):=by
 intro value slice pins s σ H x y v u Q I rx ry h hs
 obtain ⟨p,xs,i,z,rfl,rfl,hq,he,q⟩:=h
 cases rx
 obtain ⟨t,rfl⟩:=ry
 obtain ⟨its,r,pl,hz⟩:=I.list hq
 obtain ⟨j,h1,h2,h3,h4,h5⟩:=amz he
 obtain ⟨w,ew,rw'⟩:=r.get h2
 have hl:=r.length
 have hn:=afr
 have fin:EP X pins σ Q w s:=⟨z,H,I,rw',q⟩
 by_cases h0:0<=i
 ·have hj:i.toNat=j:=by
   rw [seqIndex_of h0 h5] at h1
   exact Option.some.inj h1
  exact item_listR pl.isList h0 (by omega) (by rw [hj];simpa using ew) fin hs
 ·have hj:(i+(its.toArray.size:Int)).toNat=j:=by
   rw [seqIndex_neg (by omega) h4] at h1
   rw [List.size_toArray,← hl]
   exact Option.some.inj h1
  exact subscriptTail_builtinR (x:=w) pl.isList.typeIs slot_list_getitem.lookup
   (wpAny_getItem_list_neg (Q:=fun r s'=>r=w/\EP X pins σ Q r s') pl.isList (by omega) (by rw [List.size_toArray] <;> omega) (by omega) (by rw [hj];simpa using ew) ⟨rfl,fin⟩) hs
theorem awi:IxR X (rIxT X.K):=by
 intro value slice pins s σ H x y v u Q I rx ry h hs
 obtain ⟨p,xs,i,z,rfl,rfl,hq,he,q⟩:=h
 cases rx
 obtain ⟨t,rfl⟩:=ry
 obtain ⟨its,r,pl,hz⟩:=I.tuple hq
 obtain ⟨j,h1,h2,h3,h4,h5⟩:=amz he
 obtain ⟨w,ew,rw'⟩:=r.get h2
 have hl:=r.length
 have hn:=afr
 have fin:EP X pins σ Q w s:=⟨z,H,I,rw',q⟩
 exact subscriptTail_builtinR (x:=w) pl.typeIs slot_tuple_getitem.lookup
  (getItem_tuple (j:=j) (Q:=fun r s'=>r=w/\EP X pins σ Q r s') pl (by omega) (by omega) (by rw [List.size_toArray,← hl];exact h1) (by simpa using ew) ⟨rfl,fin⟩) hs
theorem an8 (its:List Value) (n j:Nat) (u:Value):Obj.mapSeq (·.setIfInBounds j u) { cls:=.type "list",data:=.seq its.toArray n }={ cls:=.type "list",data:=.seq (its.set j u).toArray n }:=by
 simp [Obj.mapSeq]
theorem Inv.lst {pins:List (Addr × Obj)} {σ:St} {H:Hp} {s:Shared} {p:Addr} {xs:List V} (I:Inv X pins σ H s) (h:H p=some (.lst xs)) :
  ∃ (its:List Value) (n:Nat),Vals xs its/\s.heap.get? p=some { cls:=.type "list",data:=.seq its.toArray n }/\xs.length<=sizeLine:=by
 obtain ⟨z,its,n,r,e⟩:=I.hok p _ h
 exact ⟨its,n,r,e,z⟩
theorem Inv.lstUpd {pins:List (Addr × Obj)} {σ:St} {H:Hp} {s:Shared} {p:Addr} {xs ys:List V} {its its':List Value} {n n':Nat} {f:Obj->Obj} (I:Inv X pins σ H s) (h:H p=some (.lst xs))
  (ho:s.heap.get? p=some { cls:=.type "list",data:=.seq its.toArray n }) (hf:f { cls:=.type "list",data:=.seq its.toArray n }={ cls:=.type "list",data:=.seq its'.toArray n' }) (r:Vals ys its') (hz:ys.length<=sizeLine) (t:Nat) :
  Inv X pins σ (upd H p (.lst ys)) { s with heap:=s.heap.update p f,toks:=t }:=by
 have e:(s.heap.update p f).get? p=some { cls:=.type "list",data:=.seq its'.toArray n' }:=by
  rw [Heap.get?_update_self f ho (by rw [hf] <;> rfl),hf]
 refine I.write (x:=p) (e:=p) (by rw [h];trivial) (.inl rfl) (fun b u hb q=>(Heap.get?_update_other _ _ (Ne.symm hb)).trans q) ⟨_,e⟩ ?_
 exact ⟨hz,its',n',r,e⟩
def an9:V->V->V->Hp->(Hp->Prop)->Prop:=fun o i v H Q=>∃ p xs k j,o=.ref p/\i=.int k/\H p=some (.lst xs)/\ixN xs.length k=some j/\Q (upd H p (.lst (xs.set j v)))
theorem akr:PSet X an9:=by
 intro pins s σ H o i v ov iv u Q I ro ri rv h
 obtain ⟨p,xs,k,j,rfl,rfl,hp,hj,q⟩:=h
 cases ro
 obtain ⟨t,rfl⟩:=ri
 obtain ⟨its,n,r,ho,hz⟩:=I.lst hp
 obtain ⟨h1,h2,h3,h4⟩:=amy hj
 have hl:=r.length
 have hn:=afr
 have I':Inv X pins σ (upd H p (.lst (xs.set j v))) { s with heap:=s.heap.update p (Obj.mapSeq (·.setIfInBounds j u)) } :=
  I.lstUpd hp ho (an8 its n j u) (r.set rv j) (by rw [List.length_set];exact hz) s.toks
 by_cases h0:0<=k
 ·have hk:k.toNat=j:=by
   rw [seqIndex_of h0 h4] at h1
   exact Option.some.inj h1
  exact PySem.W.ki_setAt ho h0 (by omega) (by rw [List.size_toArray,← hl];exact h4) (by rw [hk];exact ⟨_,I',q⟩)
 ·have hk:(k+(its.toArray.size:Int)).toNat=j:=by
   rw [seqIndex_neg (by omega) h3] at h1
   rw [List.size_toArray,← hl]
   exact Option.some.inj h1
  exact PySem.W.ki_setBack ho (by omega) (by rw [List.size_toArray,← hl];exact h3) (by omega) (by rw [hk];exact ⟨_,I',q⟩)
theorem aks (lo hi:Option Int) (n:Nat):(sliceBounds lo hi none n).1=((HT.sIx n 0 lo:Nat):Int)/\(sliceBounds lo hi none n).2.1=((HT.sIx n n hi:Nat):Int)/\(sliceBounds lo hi none n).2.2=1:=by
 refine ⟨?_,?_,rfl⟩
 ·cases lo with
  | none=>simp [sliceBounds,HT.sIx]
  | some i =>
   simp only [sliceBounds,HT.sIx,Option.getD_none,show (1:Int) > 0 by decide,if_true]
   by_cases h:i < 0
   ·simp only [h,if_true] <;> omega
   ·simp only [h,if_false] <;> omega
 ·cases hi with
  | none=>simp [sliceBounds,HT.sIx]
  | some i =>
   simp only [sliceBounds,HT.sIx,Option.getD_none,show (1:Int) > 0 by decide,if_true]
   by_cases h:i < 0
   ·simp only [h,if_true] <;> omega
   ·simp only [h,if_false] <;> omega
theorem ajl (its:List Value) (lo hi:Option Int):slicePick its.toArray lo hi none=((its.drop (HT.sIx its.length 0 lo)).take (HT.sIx its.length its.length hi - HT.sIx its.length 0 lo)).toArray:=by
 obtain ⟨h1,h2,h3⟩:=aks lo hi its.toArray.size
 unfold slicePick
 rw [h1,h2,h3]
 simp only [sliceRange_one,pick_run,List.size_toArray] <;> rfl
def rSlL (K:Frag):V->Option Int->Option Int->Hp->VK->Prop:=fun x lo hi H Q=>∃ a xs,x=.ref a/\SqL K H a xs/\∀ p,H p=none->Q (.ref p) (upd H p (.lst (cutV xs lo hi)))
theorem am0:SlR X (rSlL X.K):=by
 intro pins s σ H x v vl vu lo hi sl Q I rx hs pl pu h
 obtain ⟨a,xs,rfl,hx,q⟩:=h
 cases rx
 obtain ⟨its,r,ht,hz⟩:=I.list hx
 have hlen:=r.length
 refine ⟨"list",_,slot_list_getitem.lookup,ht.isList.typeIs,?_⟩
 refine wpAny_getItem_list_slice ht.isList hs pl pu .none (by simp) ?_ (by rw [List.size_toArray] <;> omega)
 rw [ajl,← hlen]
 refine ⟨.ref s.heap.objs.size,_,I.laid (t':=s.toks) (o:=.lst (cutV xs lo hi)) (fun b ob q=>Heap.get?_push_of_some _ q) (Nat.le_refl _) ?_,rfl,q _ (I.hok.fresh (Nat.le_refl _))⟩
 exact ⟨Nat.le_trans (amc xs lo hi) hz,_,0,(r.drop (HT.sIx xs.length 0 lo)).take (HT.sIx xs.length xs.length hi - HT.sIx xs.length 0 lo),Heap.get?_push_size _ rfl⟩
theorem akt:abg X (.builtin "len") (fun xs H Q=>∃ p ys,xs=[.ref p]/\(SqL X.K H p ys\/SqT X.K H p ys)/\Q (.int ys.length) H):=by
 intro pins s σ H xs us Q I r h
 obtain ⟨p,ys,rfl,hq,q⟩:=h
 obtain ⟨u,rfl,rx⟩:=adc r
 cases rx
 have hn:=afr
 rcases hq with hq | hq
 ·obtain ⟨its,r',pl,hz⟩:=I.list hq
  have hlen:=r'.length
  exact Calls.call_len_list pl.isList (by simp only [List.size_toArray] <;> omega) ⟨.int ys.length,H,I.tok _,⟨s.toks+1,by rw [List.size_toArray,hlen]⟩,q⟩
 ·obtain ⟨its,r',pl,hz⟩:=I.tuple hq
  have hlen:=r'.length
  exact len_tuple pl (by simp only [List.size_toArray] <;> omega) ⟨.int ys.length,H,I.tok _,⟨s.toks+1,by rw [List.size_toArray,hlen]⟩,q⟩
def tyV (K:Frag) (T:String) (x:V) (H:Hp):Prop:=match x with
 | .str _=>T = "str"
 | .int _=>T = "int"
 | .ref p=>(T = "list"/\∃ xs,SqL K H p xs)\/(T = "tuple"/\∃ o,K.lookup p=some o/\o.cls=.type "tuple"/\o.dict=none) ∨
   (T = "dict"/\((∃ kvs,H p=some (.dK kvs))\/∃ kvs,H p=some (.dT kvs)))\/(T = "set"/\∃ S n,H p=some (.set S n))
 | _=>False
theorem awj {pins:List (Addr × Obj)} {σ:St} {H:Hp} {s:Shared} {T:String} {x:V} {v:Value} (I:Inv X pins σ H s) (r:RelV x v) (ty:tyV X.K T x H) :
  s.TypeIs v T/\∀ a,v=.ref a->∃ ob,s.heap.get? a=some ob/\ob.dict=none:=by
 cases x with
 | str z =>
  obtain ⟨t,rfl⟩:=r
  cases (show T = "str" from ty)
  exact ⟨typeIs_str s z t,fun _ e=>nomatch e⟩
 | int i =>
  obtain ⟨t,rfl⟩:=r
  cases (show T = "int" from ty)
  exact ⟨typeIs_int s i t,fun _ e=>nomatch e⟩
 | ref p =>
  cases r
  rcases ty with ⟨rfl,xs,hq⟩ | ⟨rfl,o,hk,hc,hd⟩ | ⟨rfl,hk⟩ | ⟨rfl,S,n,hk⟩
  ·obtain ⟨its,_,pl,_⟩:=I.list hq
   refine ⟨pl.isList.typeIs,fun a e=>?_⟩
   cases e
   obtain ⟨o,n,e,c,hd,_⟩:=pl
   exact ⟨o,e,hd⟩
  ·refine ⟨⟨o,I.kIn p o hk,hc⟩,fun a e=>?_⟩
   cases e
   exact ⟨o,I.kIn _ o hk,hd⟩
  ·have z:∃ o,s.heap.get? p=some o/\o.ExactDict:=by
    rcases hk with ⟨kvs,hk⟩ | ⟨kvs,hk⟩
    ·obtain ⟨_,_,_,_,o,_,_,e,ex,_⟩:=I.hok p _ hk
     exact ⟨o,e,ex⟩
    ·obtain ⟨_,_,_,_,o,_,_,e,ex,_⟩:=I.hok p _ hk
     exact ⟨o,e,ex⟩
   obtain ⟨o,e,ex⟩:=z
   refine ⟨⟨o,e,ex.1⟩,fun a e2=>?_⟩
   cases e2
   exact ⟨o,e,ex.2.1⟩
  ·obtain ⟨o,_,_,_,e,ex,_⟩:=I.hok p _ hk
   refine ⟨⟨o,e,ex.1⟩,fun a e2=>?_⟩
   cases e2
   exact ⟨o,e,ex.2.1⟩
 | _=>exact False.elim ty
def tBM (K:Frag) (T:String) (r:V->List V->Hp->VK->Prop) (to:TE) (t:TA):TE:=fun σ H Q=>to σ H fun x H1=>tyV K T x H1/\t σ H1 fun xs H2=>r x xs H2 Q
variable {o e:Expr} {es:List Expr} {to:TE} {t:TA} {name:Str} {apos cpos:Pos} {T id:String} {r:V->List V->Hp->VK->Prop}
theorem acj (pa:PlainAttrs T) (slot:Slot T name id) (hty:typeOf (.builtin id)=pure (.type "method_descriptor")) (hm:MtR X id r) (ho:PE X o to) (ha:PA X (e :: es) t)
  (hbase:attributeBase o name X.env (eval o X.env)=eval o X.env:=by rfl)
  (hfew:((backTo cpos (starEach (e :: es) X.env)).all (fun x => !x.1) && (backToKw cpos (keywordEach [] X.env)).all (fun x=>x.1.isSome)
   && decide ((e :: es).length+([]:List Keyword).length+(if ([]:List Keyword).isEmpty then 0 else 1) < 30))=true:=by rfl)
  (hline:(apos.endLine == cpos.line)=true:=by rfl) (hs:starEach (e :: es) X.env=(false,eval e X.env) :: starEach es X.env:=by rfl) (hplain:(backTo cpos (starEach es X.env)).any (·.1)=false:=by rfl) :
  PE X (.Call (.Attribute o name apos) (e :: es) [] cpos) (tBM X.K T r to t):=by
 intro pins s σ H Q I h
 refine wpAny_Call_method_late hbase hfew hline rfl (thn (ho pins s σ H _ I h) fun v s1 ⟨x,H1,I1,r1,ty,q1⟩=>?_)
 obtain ⟨h1,h2⟩:=awj I1 r1 ty
 refine ⟨T,id,pa,slot,hty,h1,h2,?_⟩
 have hA:=ha cpos pins s1 σ H1 _ I1 q1
 rw [hs] at hA ⊢
 refine Calls.callWith_builtin (by show (false || (backTo cpos (starEach es X.env)).any (·.1))=false;rw [hplain] <;> rfl) (Calls.evalArgs_plain ?_)
 exact thn hA fun us s2 ⟨vs,H2,I2,r2,q2⟩=>hm pins s2 σ H2 x vs v us Q I2 r1 r2 q2
/- xs.append(e), list.index on a module's tuple .. are MtR facts of 06m -/
end
def MtM (X:Cx) (id:String) (r:V->List V->Hp->VK->Prop):Prop :=
 ∀ (pins:List (Addr × Obj)) (s:Shared) (σ:St) (H:Hp) (x:V) (xs:List V) (v:Value) (us:List Value) (Q:VK),Inv X pins σ H s->RelV x v->Vals xs us->r x xs H Q ->
  wpAny (model X.prog X.w) X.A (call (.builtin id) (v :: us)) (EP X pins σ Q) X.xe s
theorem Vals.one:∀ {x:V} {us:List Value},Vals [x] us->∃ u,us=[u]/\RelV x u
 | _,_,.cons r .nil=>⟨_,rfl,r⟩
theorem Vals.eraseIdx:∀ {xs:List V} {us:List Value} (i:Nat),Vals xs us->Vals (xs.eraseIdx i) (us.eraseIdx i)
 | _,_,_,.nil => .nil
 | _,_,0,.cons _ t=>t
 | _,_,i+1,.cons r t => .cons r (Vals.eraseIdx i t)
theorem Vals.reverse {xs:List V} {us:List Value} (h:Vals xs us):Vals xs.reverse us.reverse:=by
 induction h with
 | nil=>exact .nil
 | cons r t ih=>rw [List.reverse_cons,List.reverse_cons];exact Vals.append ih (.cons r .nil)
theorem Vals.rep {xs:List V} {us:List Value} (h:Vals xs us):∀ k:Nat,Vals (List.replicate k xs).flatten (List.replicate k us).flatten
 | 0 => .nil
 | k+1=>by
  rw [List.replicate_succ,List.replicate_succ,List.flatten_cons,List.flatten_cons]
  exact Vals.append h (Vals.rep h k)
theorem aix {α:Type}:∀ (l:List α) (i:Nat),(l.eraseIdx i).length<=l.length
 | [],_=>Nat.le_refl _
 | _ :: _,0=>Nat.le_succ _
 | _ :: r,i+1=>Nat.succ_le_succ (aix r i)
theorem aiy (its:List Value):∀ (k:Nat) (acc:List Value),
  List.foldl (fun x1 x2=>x1 ++ x2) acc.toArray (List.replicate k its.toArray)=(acc ++ (List.replicate k its).flatten).toArray
 | 0,acc=>by simp
 | k+1,acc=>by
  have e:acc.toArray ++ its.toArray=(acc ++ its).toArray:=by simp
  have e2:(acc ++ its) ++ (List.replicate k its).flatten=acc ++ (List.replicate (k+1) its).flatten:=by
   rw [List.replicate_succ,List.flatten_cons,List.append_assoc]
  rw [← e2,← aiy its k (acc ++ its),← e,List.replicate_succ,List.foldl_cons]
section
variable {X:Cx} {pins:List (Addr × Obj)} {σ:St} {H:Hp} {s:Shared} {l b:Addr} {xs ys zs:List V}
theorem Inv.lset {its its':List Value} {n:Nat} {f:Array Value->Array Value} {t':Nat} (I:Inv X pins σ H s) (hH:H l=some (.lst xs))
  (e:s.heap.get? l=some { cls:=.type "list",data:=.seq its.toArray n }) (hf:f its.toArray=its'.toArray) (hv:Vals ys its') (hz:ys.length<=sizeLine) :
  Inv X pins σ (upd H l (.lst ys)) { s with heap:=s.heap.update l (Obj.mapSeq f),toks:=t' }:=by
 have q:=PySem.IsL.update e f
 rw [hf] at q
 refine I.write (x:=l) (e:=l) (by rw [hH];exact trivial) (.inl rfl) (fun b' u hb hu=>(Heap.get?_update_other s.heap (Obj.mapSeq f) (Ne.symm hb)).trans hu) ⟨_,q⟩ ?_
 exact ⟨hz,its',_,hv,q⟩
theorem Inv.lnew {its:List Value} {t':Nat} (I:Inv X pins σ H s) (hv:Vals ys its) (hz:ys.length<=sizeLine) :
  Inv X pins σ (upd H s.heap.objs.size (.lst ys)) { s with heap:=s.heap.push { cls:=.type "list",data:=.seq its.toArray },toks:=t' } :=
 I.laid (fun _ _ q=>Heap.get?_push_of_some _ q) (Nat.le_refl _) ⟨hz,its,0,hv,Heap.get?_push_size _ rfl⟩
theorem Inv.fresh (I:Inv X pins σ H s):H s.heap.objs.size=none:=I.hok.fresh (Nat.le_refl _)
theorem Inv.lstM (I:Inv X pins σ H s) (hH:H l=some (.lst xs)):xs.length<=sizeLine/\∃ (its:List Value) (n:Nat),Vals xs its/\xs.length=its.length/\s.heap.get? l=some { cls:=.type "list",data:=.seq its.toArray n }:=by
 obtain ⟨z,its,n,r,e⟩:=I.hok l _ hH
 exact ⟨z,its,n,r,r.length,e⟩
theorem arf {n:Nat} (h:n<=sizeLine):Builtin.List.listTooLong n=false:=by
 unfold Builtin.List.listTooLong
 exact decide_eq_false (by omega)
end
section
variable {X:Cx}
def aex:V->List V->Hp->VK->Prop:=fun x vs H Q=>∃ l xs y,x=.ref l/\vs=[y]/\H l=some (.lst xs)/\xs.length < sizeLine/\Q .non (upd H l (.lst (xs ++ [y])))
theorem abb:MtM X "list.append" aex:=by
 intro pins s σ H x vs v us Q I rx rv h
 obtain ⟨l,xs,y,rfl,rfl,hH,hz,q⟩:=h
 cases rx
 obtain ⟨u,rfl,ru⟩:=rv.one
 obtain ⟨z,its,n,r,hl,e⟩:=I.lstM hH
 refine call_meets F.slot_list_append ⟨_,e,rfl⟩ F.entry_list_append (F.args_list_append_2 _ _) (PySem.list_append l its.toArray n u (by rw [List.size_toArray];omega)) ⟨e,?_⟩
 refine ⟨.non,_,I.lset (its':=its ++ [u]) hH e (by simp) (r.append (.cons ru .nil)) ?_,rfl,q⟩
 rw [List.length_append,List.length_singleton]
 omega
def aku:V->List V->Hp->VK->Prop:=fun x vs H Q=>∃ l xs i k y,x=.ref l/\vs=[.int i]/\H l=some (.lst xs)/\-(2 ^ 63)<=i/\i < 2 ^ 63/\seqIndex? i xs.length=some k/\xs[k]?=some y/\Q y (upd H l (.lst (xs.eraseIdx k)))
theorem akv:MtM X "list.pop" aku:=by
 intro pins s σ H x vs v us Q I rx rv h
 obtain ⟨l,xs,i,k,y,rfl,rfl,hH,h1,h2,hk,hy,q⟩:=h
 cases rx
 obtain ⟨u,rfl,ru⟩:=rv.one
 obtain ⟨t,rfl⟩:=ru
 obtain ⟨z,its,n,r,hl,e⟩:=I.lstM hH
 obtain ⟨w,hw,rw'⟩:=r.get hy
 refine call_meets F.slot_list_pop ⟨_,e,rfl⟩ F.entry_list_pop (F.args_list_pop_2 _ _)
  (MeetsSeq.list_pop_at l its.toArray n i t k w (fitsIndex_both h1 h2) (by rw [List.size_toArray,← hl];exact hk) (by rw [← Array.getElem?_toList];exact hw) (by rw [List.size_toArray];omega)) ⟨e,?_⟩
 refine ⟨y,_,I.lset (its':=its.eraseIdx k) hH e ?_ (r.eraseIdx k) ?_,rw',q⟩
 ·show its.toArray.eraseIdxIfInBounds k=(its.eraseIdx k).toArray
  rw [List.eraseIdxIfInBounds_toArray]
 ·have:=aix xs k
  omega
def rCat:R2:=fun x y H Q=>∃ l b xs zs,x=.ref l/\y=.ref b/\H l=some (.lst xs)/\H b=some (.lst zs)/\xs.length+zs.length<=sizeLine/\∀ p,H p=none->Q (.ref p) (upd H p (.lst (xs ++ zs)))
theorem apg:OpR X (binaryOp .Add) rCat:=by
 intro pins s σ H x y v u Q I rx ry h
 obtain ⟨l,b,xs,zs,rfl,rfl,hH,hB,hz,q⟩:=h
 cases rx
 cases ry
 obtain ⟨z,its,n,r,hl,e⟩:=I.lstM hH
 obtain ⟨z2,its2,n2,r2,hl2,e2⟩:=I.lstM hB
 refine PySem.P.add_list e e2 ?_ (by rw [List.size_toArray,List.size_toArray];omega)
 have ea:its.toArray ++ its2.toArray=(its ++ its2).toArray:=by simp
 rw [ea]
 exact ⟨.ref _,_,I.lnew (t':=s.toks) (r.append r2) (by rw [List.length_append];omega),rfl,q _ I.fresh⟩
def rRep:R2:=fun x y H Q=>∃ l k xs,x=.ref l/\y=.int k/\H l=some (.lst xs)/\-(2 ^ 63)<=k/\k < 2 ^ 63/\xs.length * k.toNat<=sizeLine /\
 ∀ p,H p=none->Q (.ref p) (upd H p (.lst (List.replicate k.toNat xs).flatten))
theorem am1 {α:Type} (xs:List α) (k:Nat):(List.replicate k xs).flatten.length=k * xs.length:=by
 induction k with
 | zero=>simp
 | succ k ih=>rw [List.replicate_succ,List.flatten_cons,List.length_append,ih,Nat.succ_mul,Nat.add_comm]
theorem awk:OpR X (binaryOp .Mult) rRep:=by
 intro pins s σ H x y v u Q I rx ry h
 obtain ⟨l,k,xs,rfl,rfl,hH,h1,h2,hz,q⟩:=h
 cases rx
 obtain ⟨t,rfl⟩:=ry
 obtain ⟨z,its,n,r,hl,e⟩:=I.lstM hH
 have hlen:its.toArray.size * k.toNat<=sizeLine:=by rw [List.size_toArray,← hl];exact hz
 have hcap:¬ its.toArray.size * k.toNat > (2 ^ 63 - 1) / 8:=by
  have:(sizeLine:Nat)<=(2 ^ 63 - 1) / 8:=by decide
  omega
 have hfit:¬ (!Builtin.List.listFitsIndex k)=true:=by
  rw [fitsIndex_both h1 h2]
  exact Bool.false_ne_true
 have hlong:¬ Builtin.List.listTooLong (its.toArray.size * k.toNat)=true:=by
  rw [arf hlen]
  exact Bool.false_ne_true
 have hnew:List.foldl (fun x1 x2=>x1 ++ x2) #[] (List.replicate (if its.toArray.isEmpty=true then 0 else k.toNat) its.toArray)=(List.replicate k.toNat its).flatten.toArray:=by
  have f0:∀ m:Nat,List.foldl (fun x1 x2=>x1 ++ x2) #[] (List.replicate m its.toArray)=(List.replicate m its).flatten.toArray:=fun m=>by
   have:=aiy its m []
   rw [List.nil_append] at this
   exact this
  rw [f0]
  cases its with
  | nil=>simp
  | cons a r'=>rw [if_neg (by simp)]
 refine wpAny_binaryOp_repeat_ref (T:="list") (U:="int") (by decide) ⟨_,e,rfl⟩ (fun s'=>typeIs_int s' k t) noFill_list_mul F.fills_int_mul F.slot_int_rmul repeat_list F.slot_int_index.lookup
  (call_meets F.slot_int_rmul (typeIs_int s k t) F.entry_int_rmul (F.args_int_rmul_2 _ _) (int___rmul___int_list k t l its.toArray n)
   ⟨e,rfl,⟨_,e,rfl⟩,call_meets F.slot_list_mul ⟨_,e,rfl⟩ F.entry_list_mul (F.args_list_mul_2 _ _) (AutoListH.list___mul___list_int_3 l its.toArray n k t hfit hcap hlong) ⟨e,?_⟩⟩)
 rw [hnew]
 exact ⟨.ref _,_,I.lnew (t':=s.toks) (r.rep k.toNat) (by rw [am1,Nat.mul_comm];exact hz),rfl,q _ I.fresh⟩
end
section
variable {prog:Program} {w:World} {A:Around} {E:Value->Shared->Prop} {s:Shared}
end
section
variable {X:Cx}
end
section
variable {κ:Type} [DecidableEq κ]
noncomputable def valV (kvs:List (κ × V)) (k : κ):Option V:=(kvs.find? fun kv=>decide (kv.1=k)).map (·.2)
noncomputable def putK (kvs:List (κ × V)) (k : κ) (v:V):List (κ × V) :=
 if (kvs.any fun kv=>decide (kv.1=k))=true then kvs.map (fun kv=>if kv.1=k then (kv.1,v) else kv) else kvs ++ [(k,v)]
noncomputable def atp (kvs:List (κ × V)) (k : κ):List (κ × V):=kvs.filter fun kv=>decide (kv.1 ≠ k)
theorem agq {p : κ × V} {r:List (κ × V)} {k : κ} (e:p.1=k):valV (p :: r) k=some p.2:=by simp [valV,List.find?_cons,e]
theorem agr {p : κ × V} {r:List (κ × V)} {k : κ} (e:¬ p.1=k):valV (p :: r) k=valV r k:=by simp [valV,List.find?_cons,e]
theorem akw (k : κ):∀ kvs:List (κ × V),(kvs.any fun kv=>decide (kv.1=k))=(valV kvs k).isSome
 | []=>rfl
 | p :: r=>by
  rw [List.any_cons]
  by_cases e:p.1=k
  ·simp only [agq e,decide_eq_true e,Bool.true_or,Option.isSome_some]
  ·rw [agr e,decide_eq_false e,Bool.false_or];exact akw k r
theorem agm (kvs:List (κ × V)) (k : κ) (v:V):(putK kvs k v).length<=kvs.length+1:=by
 unfold putK
 split
 ·rw [List.length_map];omega
 ·rw [List.length_append,List.length_cons,List.length_nil];omega
theorem RelO.isSome_eq {o:Option V} {u:Option Value} (r:RelO o u):o.isSome=u.isSome:=by
 cases o with
 | none=>cases u with
  | none=>rfl
  | some _=>exact (show False from r).elim
 | some _=>cases u with
  | none=>exact (show False from r).elim
  | some _=>rfl
theorem RelO.getD {o:Option V} {u:Option Value} {d:V} {d':Value} (r:RelO o u) (rd:RelV d d'):RelV (o.getD d) (u.getD d'):=by
 cases o with
 | none=>cases u with
  | none=>exact rd
  | some _=>exact (show False from r).elim
 | some _=>cases u with
  | none=>exact (show False from r).elim
  | some _=>exact r
theorem KV.val {kvs:List (κ × V)} {vs:List (κ × Value)} (r:KV kvs vs) (k : κ):RelO (valV kvs k) (valueAt vs k):=by
 unfold KV at r
 induction r with
 | nil=>exact True.intro
 | @cons p q ps qs h t ih =>
  obtain ⟨h1,h2⟩:=h
  by_cases e:p.1=k
  ·have e':q.1=k:=h1.symm.trans e
   have b:valueAt (q :: qs) k=some q.2:=by simp [valueAt,List.find?_cons,e']
   rw [agq e,b];exact h2
  ·have e':¬ q.1=k:=fun z=>e (h1.trans z)
   have b:valueAt (q :: qs) k=valueAt qs k:=by simp [valueAt,List.find?_cons,e']
   rw [agr e,b];exact ih
theorem KV.any {kvs:List (κ × V)} {vs:List (κ × Value)} (r:KV kvs vs) (k : κ):(kvs.any fun kv=>decide (kv.1=k))=vs.any fun kv=>decide (kv.1=k):=by
 unfold KV at r
 induction r with
 | nil=>rfl
 | cons h t ih=>rw [List.any_cons,List.any_cons,ih,h.1]
theorem KV.repl {kvs:List (κ × V)} {vs:List (κ × Value)} (r:KV kvs vs) (k : κ) {y:V} {u:Value} (ry:RelV y u) :
  KV (kvs.map fun kv=>if kv.1=k then (kv.1,y) else kv) (vs.map fun kv=>if kv.1=k then (kv.1,u) else kv):=by
 unfold KV at r ⊢
 induction r with
 | nil=>exact .nil
 | @cons p q ps qs h t ih =>
  rw [List.map_cons,List.map_cons]
  refine .cons ?_ ih
  obtain ⟨h1,h2⟩:=h
  by_cases e:p.1=k
  ·rw [if_pos e,if_pos (h1.symm.trans e)];exact ⟨h1,ry⟩
  ·rw [if_neg e,if_neg (fun z=>e (h1.trans z))];exact ⟨h1,h2⟩
theorem KV.put {kvs:List (κ × V)} {vs:List (κ × Value)} (r:KV kvs vs) (k : κ) {y:V} {u:Value} (ry:RelV y u):KV (putK kvs k y) (stored vs k u):=by
 unfold putK stored
 rw [r.any k]
 by_cases e:(vs.any fun kv=>decide (kv.1=k))=true
 ·rw [if_pos e,if_pos e];exact r.repl k ry
 ·rw [if_neg e,if_neg e];exact Paired.snoc r ⟨rfl,ry⟩
theorem KV.drop {kvs:List (κ × V)} {vs:List (κ × Value)} (r:KV kvs vs) (k : κ):KV (atp kvs k) (without vs k):=by
 unfold KV at r ⊢
 unfold atp without
 induction r with
 | nil=>exact .nil
 | @cons p q ps qs h t ih =>
  obtain ⟨h1,h2⟩:=h
  rw [List.filter_cons,List.filter_cons]
  by_cases e:p.1=k
  ·have a:¬ decide (p.1 ≠ k)=true:=by simp [e]
   have b:¬ decide (q.1 ≠ k)=true:=by simp [h1.symm.trans e]
   rw [if_neg a,if_neg b];exact ih
  ·have e':¬ q.1=k:=fun z=>e (h1.trans z)
   have a:decide (p.1 ≠ k)=true:=by simp [e]
   have b:decide (q.1 ≠ k)=true:=by simp [e']
   rw [if_pos a,if_pos b];exact .cons ⟨h1,h2⟩ ih
theorem KV.length {kvs:List (κ × V)} {vs:List (κ × Value)} (r:KV kvs vs):kvs.length=vs.length:=Paired.length r
end
theorem atq {P:Program} {w:World} {k:Key} {u:Value} (r:RelV (kV k) u):(abq P w).is k u=true:=by
 cases k with
 | inl i=>obtain ⟨t,e⟩:=(show ∃ t,u=Value.int i t from r);subst e;exact ama P w i t
 | inr x=>obtain ⟨t,e⟩:=(show ∃ t,u=Value.str x t from r);subst e;exact amb P w x t
theorem aiz {P:Program} {w:World}:∀ {ks:List Key} {us:List Value},Vals (ks.map kV) us->ItemsAre (abq P w) ks us
 | [],_,r=>by rw [List.map_nil] at r;cases r;exact .nil
 | k :: ks,_,r=>by
  rw [List.map_cons] at r
  cases r with
  | cons h t=>exact .cons (atq h) (aiz t)
abbrev KT (H:Hp):List (List Key × V)->List (List Key × Addr × Value)->Prop:=Paired fun p q=>p.1=q.1/\H q.2.1=some (.tup (p.1.map kV))/\RelV p.2 q.2.2
theorem KT.val {H:Hp} {kvs:List (List Key × V)} {xs:List (List Key × Addr × Value)} (r:KT H kvs xs) (k:List Key):RelO (valV kvs k) ((atKey xs k).map (·.2)):=by
 induction r with
 | nil=>exact True.intro
 | @cons p q ps qs h t ih =>
  obtain ⟨h1,_,h2⟩:=h
  by_cases e:p.1=k
  ·have e':q.1=k:=h1.symm.trans e
   have b:atKey (q :: qs) k=some q.2:=by simp [atKey,List.find?_cons,e']
   rw [agq e,b];exact h2
  ·have e':¬ q.1=k:=fun z=>e (h1.trans z)
   have b:atKey (q :: qs) k=atKey qs k:=by simp [atKey,List.find?_cons,e']
   rw [agr e,b];exact ih
theorem KT.repl {H:Hp} {kvs:List (List Key × V)} {xs:List (List Key × Addr × Value)} (r:KT H kvs xs) (k:List Key) {y:V} {u:Value} (ry:RelV y u) :
  KT H (kvs.map fun kv=>if kv.1=k then (kv.1,y) else kv) (xs.map (putAt k u)):=by
 induction r with
 | nil=>exact .nil
 | @cons p q ps qs h t ih =>
  rw [List.map_cons,List.map_cons]
  refine .cons ?_ ih
  obtain ⟨h1,h2,h3⟩:=h
  unfold putAt
  by_cases e:p.1=k
  ·rw [if_pos e,if_pos (h1.symm.trans e)];exact ⟨h1,h2,ry⟩
  ·rw [if_neg e,if_neg (fun z=>e (h1.trans z))];exact ⟨h1,h2,h3⟩
theorem KT.put {H:Hp} {kvs:List (List Key × V)} {xs:List (List Key × Addr × Value)} (r:KT H kvs xs) (k:List Key) {b:Addr} {y:V} {u:Value} (hb:H b=some (.tup (k.map kV))) (ry:RelV y u) :
  KT H (putK kvs k y) (storedH xs k b u):=by
 have e:(kvs.any fun kv=>decide (kv.1=k))=(atKey xs k).isSome:=by
  rw [akw,(r.val k).isSome_eq,Option.isSome_map]
 unfold putK storedH
 rw [e]
 by_cases q:(atKey xs k).isSome=true
 ·rw [if_pos q,if_pos q];exact r.repl k ry
 ·rw [if_neg q,if_neg q];exact Paired.snoc r ⟨rfl,hb,ry⟩
theorem KT.keeps {H H':Hp} {kvs:List (List Key × V)} {xs:List (List Key × Addr × Value)} (r:KT H kvs xs) (ht:∀ b ys,H b=some (.tup ys)->H' b=some (.tup ys)):KT H' kvs xs :=
 Paired.mapP r fun _ _ z=>⟨z.1,ht _ _ z.2.1,z.2.2⟩
section
variable {P:Program} {w:World} {H:Hp} {h:Heap} {a:Addr}
theorem atr {u:HO} (ok:HOk P w H h) (e:Rd H a u):ObjOk P w H h a u:=e.ok ok
theorem ayd {kvs:List (Key × V)} (ok:HOk P w H h) (e:Rd H a (.dK kvs)):kvs.length<=sizeLine/\(a == sysModules)=false/\∃ vs,KV kvs vs/\h.DictOf (abq P w) a vs :=
 show ObjOk P w H h a (.dK kvs) from atr ok e
theorem aye {kvs:List (Key × V)} (ok:HOk P w H h) (e:H a=some (.dK kvs)):kvs.length<=sizeLine/\(a == sysModules)=false/\∃ vs,KV kvs vs/\h.DictOf (abq P w) a vs:=ayd ok (.inl e)
theorem aph {ks:List Key} (ok:HOk P w H h) (e:H a=some (.tup (ks.map kV))):(tupleKind (abq P w)).is h ks a:=by
 obtain ⟨_,its,r,o,h1,h2,n,h3⟩:=(show ObjOk P w H h a (.tup (ks.map kV)) from ok a _ e)
 exact ⟨o,its.toArray,n,h1,h2,h3,by simpa using aiz r⟩
theorem ayf {kvs:List (List Key × V)} (ok:HOk P w H h) (e:Rd H a (.dT kvs)):kvs.length<=sizeLine/\(a == sysModules)=false /\
  ∃ xs,KT H kvs xs/\h.DictOfH (tupleKind (abq P w)) a xs:=by
 obtain ⟨z,y,xs,r,o,es,ep,h1,h2,h3,h4,h5⟩:=(show ObjOk P w H h a (.dT kvs) from atr ok e)
 refine ⟨z,y,xs,r,o,es,ep,h1,h2,h3,h4,fun x hx=>?_,h5⟩
 have all:∀ {l:List (List Key × V)} {m:List (List Key × Addr × Value)},KT H l m->∀ x∈m,(tupleKind (abq P w)).is h x.1 x.2.1:=by
  intro l m q
  induction q with
  | nil=>intro x hx;exact nomatch hx
  | @cons p q ps qs hq t ih =>
   intro x hx
   rcases List.mem_cons.mp hx with e | hx
   ·subst e
    exact aph ok (by rw [← hq.1];exact hq.2.1)
   ·exact ih x hx
 exact all r x hx
theorem ayg {kvs:List (List Key × V)} (ok:HOk P w H h) (e:H a=some (.dT kvs)):kvs.length<=sizeLine/\(a == sysModules)=false /\
  ∃ xs,KT H kvs xs/\h.DictOfH (tupleKind (abq P w)) a xs:=ayf ok (.inl e)
end
def DGet (H:Hp) (a:Addr) (y:V) (r:Option V):Prop :=
 (∃ kvs k,Rd H a (.dK kvs)/\y=kV k/\r=valV kvs k)\/∃ kvs k b,Rd H a (.dT kvs)/\y=.ref b/\H b=some (.tup (k.map kV))/\r=valV kvs k
def DPut (H:Hp) (a:Addr) (y v:V) (H':Hp):Prop :=
 (∃ kvs k,H a=some (.dK kvs)/\y=kV k/\kvs.length < sizeLine/\H'=upd H a (.dK (putK kvs k v))) ∨
 ∃ kvs k b,H a=some (.dT kvs)/\y=.ref b/\H b=some (.tup (k.map kV))/\kvs.length < sizeLine/\H'=upd H a (.dT (putK kvs k v))
theorem DGet.k {H:Hp} {a:Addr} {kvs:List (Key × V)} {k:Key} (e:H a=some (.dK kvs)):DGet H a (kV k) (valV kvs k):=.inl ⟨kvs,k,.inl e,rfl,rfl⟩
theorem DGet.t {H:Hp} {a b:Addr} {kvs:List (List Key × V)} {k:List Key} (e:H a=some (.dT kvs)) (eb:H b=some (.tup (k.map kV))):DGet H a (.ref b) (valV kvs k):=.inr ⟨kvs,k,b,.inl e,rfl,eb,rfl⟩
theorem DPut.k {H:Hp} {a:Addr} {kvs:List (Key × V)} {k:Key} {v:V} (e:H a=some (.dK kvs)) (hl:kvs.length < sizeLine):DPut H a (kV k) v (upd H a (.dK (putK kvs k v))):=.inl ⟨kvs,k,e,rfl,hl,rfl⟩
theorem DPut.t {H:Hp} {a b:Addr} {kvs:List (List Key × V)} {k:List Key} {v:V} (e:H a=some (.dT kvs)) (eb:H b=some (.tup (k.map kV))) (hl:kvs.length < sizeLine) :
  DPut H a (.ref b) v (upd H a (.dT (putK kvs k v))):=.inr ⟨kvs,k,b,e,rfl,eb,hl,rfl⟩
section
variable {X:Cx} {pins:List (Addr × Obj)} {σ:St} {H:Hp} {s:Shared} {a:Addr} {y v:V} {u r:Value} {o:Option V} {A:Around} {E:Value->Shared->Prop}
theorem Inv.big (I:Inv X pins σ H s):sysModules < s.heap.objs.size:=by
 have h:mainGlobals < s.heap.objs.size:=(I.mod.glob.keeps I.bk).lt
 exact Nat.lt_trans (by decide) h
theorem am2 {h':Heap} {t':Nat} {ob:HO} (I:Inv X pins σ H s) (mu:Mut (H a)) (hs:Heap.SameBut a s.heap h') (he:∃ q,h'.get? a=some q) (new:ObjOk X.prog X.w (upd H a ob) h' a ob) :
  Inv X pins σ (upd H a ob) { s with heap:=h',toks:=t' } :=
 I.write (x:=a) (e:=a) mu (.inl rfl) (fun b q hb z=>(hs.2 b hb).trans z) he new
theorem awl {P:Program} {w:World} {H':Hp} {h':Heap} {kvs:List (Key × V)} {vs:List (Key × Value)} (z:kvs.length<=sizeLine) (hd:(a == sysModules)=false) (rel:KV kvs vs) (dd:h'.DictOf (abq P w) a vs) :
  ObjOk P w H' h' a (.dK kvs):=⟨z,hd,vs,rel,dd⟩
theorem api {H':Hp} {Q:Unit->Shared->Prop} (hu:A.units+1 < cLine) (I:Inv X pins σ H s) (g:DPut H a y v H') (ry:RelV y u) (rv:RelV v r) (h:∀ s',Inv X pins σ H' s'->Q () s') :
  wpAny (model X.prog X.w) A (setItem (.ref a) u r) Q E s:=by
 rcases g with ⟨kvs,k,e,ey,l,eH⟩ | ⟨kvs,k,b,e,ey,eb,l,eH⟩
 ·subst ey eH
  obtain ⟨z,hd,vs,rel,dd⟩:=aye I.hok e
  have hz:vs.length<=sizeLine:=by rw [← rel.length];exact z
  have hl:(putK kvs k v).length<=sizeLine:=by have:=agm kvs k v;omega
  refine wpAny_setItem_pairs (hsz:=hz) (atq ry) dd fun h' dd' hs=>h _ ?_
  have he:∃ q,h'.get? a=some q:=let ⟨q,_,_,hq,_⟩:=dd';⟨q,hq⟩
  exact am2 I (by rw [e];exact True.intro) hs he (awl hl hd (rel.put k rv) dd')
 ·subst ey eH
  cases (show u=Value.ref b from ry)
  obtain ⟨z,hd,xs,rel,dd⟩:=ayg I.hok e
  have hz:xs.length<=sizeLine:=by rw [← Paired.length rel];exact z
  have hl:(putK kvs k v).length<=sizeLine:=by have:=agm kvs k v;omega
  refine wpAny_setItem_heap (hsz:=hz) (tupleKind_room_in1 hu) (aph I.hok eb) dd fun h' dd' hs=>h _ ?_
  obtain ⟨q,es,ep,hq,h2,h3,h4,_,h5⟩:=dd'
  refine am2 I (by rw [e];exact True.intro) hs ⟨q,hq⟩ ⟨hl,hd,_,(rel.put k eb rv).keeps fun c ys ec=>?_,q,es,ep,hq,h2,h3,h4,h5⟩
  rw [aag (aya ec e (fun z=>nomatch z))]
  exact ec
end
section
variable {X:Cx} {pins:List (Addr × Obj)} {σ:St} {H:Hp} {s:Shared} {a:Addr} {kvs:List (Key × V)} {k:Key} {u:Value} {A:Around} {E:Value->Shared->Prop}
end
def aoa (td ty tv:TE):TS:=fun D σ H=>tv σ H fun v H1=>td σ H1 fun x H2=>ty σ H2 fun y H3=>∃ a H4,x=.ref a/\DPut H3 a y v H4/\D.nx σ H4
section
variable {X:Cx} {o i e value:Expr} {pos pos' tpos:Pos} {td ty tv:TE}
theorem agb (hu:X.A.units+1 < cLine) (ho:PE X o td) (hi:PE X i ty) (hv:PE X value tv) (hs:swapsWith value (some (.Subscript o i pos')) pos.line X.env=pure false) :
  PS X (.Assign [.Subscript o i pos'] value pos) (aoa td ty tv):=by
 intro pins s σ H D I h
 refine wpAny_Assign_Subscript (thn (hv pins s σ H _ I h) fun r s1 ⟨v,H1,I1,rv,q1⟩=>thn (ho pins s1 σ H1 _ I1 q1) fun u s2 ⟨x,H2,I2,rx,q2⟩=>thn (hi pins s2 σ H2 _ I2 q2) fun iv s3 ⟨y,H3,I3,ry,a,H4,ex,g,q3⟩=>?_) hs
 subst ex
 obtain rfl:u=Value.ref a:=rx
 exact api hu I3 g ry rv fun s4 I4=>⟨σ,H4,I4,q3⟩
end
theorem arh {P:Program} {w:World} {H:Hp} (h:Heap) (hb:sysModules < h.objs.size):ObjOk P w H (h.push { cls:=.type "dict",data:=.dict #[] }) h.objs.size (.dT []) :=
 ⟨Nat.zero_le _,beq_eq_false_iff_ne.mpr (Ne.symm (Nat.ne_of_lt hb)),[],.nil,_,#[],0,Heap.get?_push_size _ rfl,⟨rfl,rfl,rfl⟩,rfl,rfl,List.nodup_nil⟩
def apj:TE:=fun _ H Q=>∀ p,H p=none->Q (.ref p) (upd H p (.dT []))
section
variable {X:Cx} {pos:Pos}
theorem ari:PE X (.Dict [] [] pos) apj:=fun pins s σ H Q I h =>
 wpAny_Dict_empty ⟨.ref s.heap.objs.size,_,I.laid (a:=s.heap.objs.size) (o:=.dT []) (t':=s.toks) (fun _ _ q=>Heap.get?_push_of_some _ q) (Nat.le_refl _) (arh s.heap I.big),rfl,h _ (I.hok.fresh (Nat.le_refl _))⟩
end
section
variable {X:Cx} {pins:List (Addr × Obj)} {σ:St} {H:Hp} {s:Shared} {a:Addr} {y d:V} {u r:Value} {o:Option V} {A:Around} {E:Value->Shared->Prop}
end
section
variable {X:Cx} {o e f:Expr} {apos cpos:Pos} {td ty tx:TE}
end
section
variable {X:Cx} {pins:List (Addr × Obj)} {σ:St} {H:Hp} {s:Shared} {a:Addr} {kvs:List (Key × V)} {A:Around} {E:Value->Shared->Prop}
end
section
variable {X:Cx} {pins:List (Addr × Obj)} {σ:St} {H:Hp} {s:Shared} {a:Addr} {y:V} {u:Value} {A:Around} {E:Value->Shared->Prop}
end
end L2
namespace Att
open PySem PySem.W PySem.Calls PyProof.Rows
theorem ag9 {P:Params} {h:Heap}:∀ (ns:List Int) (vs:List Value),WellAll P h vs (ns.map WData.int)->IntsAre vs ns:=by
 intro ns
 induction ns with
 | nil =>
  intro vs w
  rw [List.map_nil] at w
  cases w
  exact .nil
 | cons n ns ih =>
  intro vs w
  rw [List.map_cons] at w
  cases w with
  | cons a b =>
   cases a
   exact .cons _ _ (ih _ b)
theorem apk {l:OpenLaw} {n:Nat} (hn:l.most=some n) {P:Params} {h:Heap} {args:List WData} {vals:List Value}
  (hpre:l.row.toRowW.claim.pre args=true) (hwl:WellAll P h vals args) :
  ∃ a vs ns,vals=[Value.ref a]/\args=[WData.list (ns.map WData.int)]/\h.get? a=some { cls:=.type "list",data:=.seq vs.toArray }/\IntsAre vs ns/\ns.length<=n:=by
 have hsh:WShape.hasAll [] args [.list .int]=true:=(pre_splitW hpre).1
 have hc:l.pre.holds [] { args:=args }=true:=(pre_splitW hpre).2
 obtain ⟨d,r,rfl,h1,h2⟩:=hasAllW_cons hsh
 obtain rfl:=hasAllW_nil h2
 obtain ⟨xs,rfl,h3⟩:=hasW_list h1
 obtain ⟨ns,rfl⟩:=items_int h3
 have hlen:ns.length<=n:=by
  unfold OpenLaw.pre at hc
  have h4:(WTm.not (.lt (.lit (.int (n:Int))) (.len (.arg 0)))).holds [] { args:=[.list (ns.map .int)] }=true:=by
   have h4:=(holds_andW hc).1
   rw [hn] at h4
   exact h4
  have h5:=condW_of h4 (w_not (w_lt w_lit (w_len_list (w_arg rfl))))
  rw [List.length_map] at h5
  refine Nat.le_of_not_lt fun q=>?_
  have q':(n:Int) < ((ns.length:Nat):Int):=by omega
  first
   | (rw [decide_eq_true q'] at h5;exact absurd h5 (by decide))
   | (simp at h5;omega)
 cases hwl with
 | cons w1 w2 =>
  cases w2
  cases w1 with
  | list ho hall=>exact ⟨_,_,ns,rfl,rfl,ho,ag9 ns _ hall,hlen⟩
theorem apl (l:OpenLaw) (args:List WData):l.row.toRowW.claim.post args (.bool true) args=true :=
 postW_of (r:=l.row.toRowW) (X:=(true == true))
  (show WShape.has [] (.bool true) .bool=true by first | rfl | decide | simp [WShape.has,WShape.arms,WShape.armsAll])
  (show (WTm.eq .res (.lit (.bool true))).value [] { args:=args,res:=some (.bool true),after:=args }=some (.bool (true == true)) from w_eq_bool (w_res rfl) w_lit) rfl
theorem attach_call {l:OpenLaw} {n:Nat} {q:Program} {loose:List Str} {XP:(Str->Option Value)->Heap->Prop} {YP:World->Heap->Prop} {d:DefRec}
  (hn:l.most=some n) (hdf:d.params.defaults=[])
  (call:∀ (w:World) (s₀ s₁:Shared) (mg mb:Str->Option Value) (fa:Addr) (o:Obj) (pm cd doc:Value) (a:Addr) (vs:List Value) (ns:List Int),
   Ground q loose [] XP w s₀ mg mb s₁.heap->YP w s₁.heap ->
   s₁.heap.get? fa=some o->o.data=.func (docDef d.name d.params d.body d.scope pm cd doc)->s₁.heap.CodeRec cd d.name->mg d.name=some (.ref fa) ->
   s₁.heap.get? a=some { cls:=.type "list",data:=.seq vs.toArray }->IntsAre vs ns->ns.length<=n->s₁.gens = #[] ->
   codeAny (model l.prog w) callerA (.call (.ref fa) ⟨[.ref a],[]⟩) (fun r s'=>r=.ok (.ret (.bool true))/\OldK s₁.heap s'.heap/\s'.os=s₁.os/\AllBare s'.gens) s₁) :
  WalkO q loose XP YP l.row.toRowW d [] (fun f vs=>PySem.call f vs):=by
 intro w s₀ s₁ mg mb G Y fa o pm cd doc dV kV ho hd hcd hD hmg hg args vals as hpre hlay hrd hwl hlo
 obtain rfl:dV=.none:=Dflts.none hD hdf
 obtain rfl:kV=.none:=Dflts.noKw hD
 obtain ⟨a,vs,ns,rfl,rfl,hobj,hints,hlen⟩:=apk hn hpre hwl
 refine enter_call (codeAny_mono (call w s₀ s₁ mg mb fa o pm cd doc a vs ns G Y ho (fd_plain hd) hcd hmg hobj hints hlen hg) fun r s' hq=>?_)
 obtain ⟨rfl,h2,h3,h4⟩:=hq
 exact ⟨.inl ⟨.bool true,.bool true,[],rfl,fun _=>rfl,.bool true,apl l _,fun _=>⟨List.Pairwise.nil,fun _ hm=>(nomatch hm)⟩⟩,h2,h3,h4⟩
section
variable {prog:Program} {w:World} {A:Around} {E:Value->Shared->Prop} {s:Shared} {K:Frag}
end
end Att
namespace L2
open PySem PySem.Spec PyProof.Rows
theorem afs:∀ {vs:List Value} {ns:List Int},IntsAre vs ns->Vals (ns.map V.int) vs
 | _,_,.nil => .nil
 | _,_,.cons n t h => .cons ⟨t,rfl⟩ (afs h)
def Only (H:Hp):Prop:=∀ b,H b=none\/∃ o xs,H b=some (.frz o (.lst xs))
theorem arj {P:Program} {w:World} {K:Frag} {mg mb:Str->Option Value} {CX:CXT} {k:Nat} {fa a:Addr} {fd:FuncData} {x:Str} {sp:Sp} {s₁:Shared} {vs:List Value} {ns:List Int}
  (KX:K.In s₁.heap) (hns:s₁.heap.Ns mainGlobals mg) (hb:s₁.heap.Ns builtinsNs mb) (hbb:∀ x:Str,x ≠ "__name__"->mb x=bootBuiltins x) (hlim:s₁.heap.NoLimit) (hg:s₁.gens = #[])
  (ha:s₁.heap.get? a=some { cls:=.type "list",data:=.seq vs.toArray }) (hi:IntsAre vs ns) (hl:ns.length<=sizeLine) (hr:Room k callerA)
  (F:∀ base:Heap,K.In base->base.Ns mainGlobals mg->FnOk P w K mg base CX k fa fd [x] sp) (hbind:∀ (s:Shared) (u:Value),BindsTo s fd ⟨[u],[]⟩ [(x,u)])
  (hsp:∀ H:Hp,Only H->SqL K H a (ns.map V.int)->sp [.ref a] H (fun v _=>v=.bl true) fun _ _ _=>False)
  (hCX:∀ H e s',CX [] H s₁ (fun _ _ _=>False) e s'->False) :
  codeAny (model P w) callerA (.call (.ref fa) ⟨[.ref a],[]⟩) (fun r s'=>r=.ok (.ret (.bool true))/\OldK s₁.heap s'.heap/\s'.os=s₁.os/\AllBare s'.gens) s₁:=by
 have rv:=afs hi
 have lenV:=hi.length
 -- from an abstract heap in which nothing but the script may be tracked
 have core:∀ H:Hp,Only H->SqL K H a (ns.map V.int)->HOk P w H s₁.heap->(∀ b,H b ≠ none->b=a)->(H a ≠ none->K.lookup a=none) ->
   codeAny (model P w) callerA (.call (.ref fa) ⟨[.ref a],[]⟩) (fun r s'=>r=.ok (.ret (.bool true))/\OldK s₁.heap s'.heap/\s'.os=s₁.os/\AllBare s'.gens) s₁:=by
  intro H hO hS hok hA hK
  have base_of:∀ {b:Addr} {o:Obj},s₁.heap.get? b=some o->H b=none->(hidT s₁.heap H).get? b=some o:=fun e n=>aq8 e n
  have noA:∀ {b:Addr} {o:Obj} {es:Array DictEntry} {ep:Nat},s₁.heap.get? b=some o->o.data=.dict es ep->H b=none:=fun {b o es ep} e d=>by
   cases q:H b with
   | none=>rfl
   | some u =>
    have e':b=a:=hA b (by rw [q];simp)
    subst e'
    rw [ha] at e;cases e
    have d':Data.seq vs.toArray _=Data.dict es ep:=d
    cases d'
  have nsK:∀ {b:Addr} {m:Str->Option Value},s₁.heap.Ns b m->(hidT s₁.heap H).Ns b m:=fun {b m} ⟨o,es,ep,e,d,r⟩=>⟨o,es,ep,base_of e (noA e d),d,r⟩
  have hKb:K.In (hidT s₁.heap H):=fun b o e=>base_of (KX b o e) (by
   cases q:H b with
   | none=>rfl
   | some u =>
    have e':b=a:=hA b (by rw [q];simp)
    subst e'
    rw [hK (by rw [q];simp)] at e;cases e)
  have hM:Mod K mg (hidT s₁.heap H):=⟨hKb,nsK hns,⟨mb,nsK hb,hbb⟩,let ⟨mc,h1,h2⟩:=hlim;⟨mc,nsK h1,h2⟩⟩
  have e0:Env0 P w K mg (hidT s₁.heap H) callerA [] s₁ H:=⟨rfl,hM,fun b o e=>atz e,Nat.le_of_eq (ao3 _ _),trivial,fun b hb=>absurd (show b∈([]:List Addr) from hb) (by simp),hok,.of_eq hg⟩
  refine codeAny_mono ((F _ hKb (nsK hns)).run callerA [] s₁ H ⟨[.ref a],[]⟩ [.ref a] [.ref a] _ _ hr e0 (hbind s₁ (.ref a)) (.cons rfl .nil) (hsp H hO hS)) fun r s' h=>?_
  cases r with
  | error e=>exact (hCX H e s' h).elim
  | ok fl =>
   cases fl with
   | next=>exact False.elim h
   | brk=>exact False.elim h
   | cont=>exact False.elim h
   | ret u =>
    obtain ⟨v,H',os,bare,un,hok',r',q⟩:=h
    have q':v=.bl true:=q
    subst q'
    obtain rfl:u=Value.bool true:=r'
    refine ⟨rfl,OldK.of_keep fun b o e=>?_,os,bare⟩
    cases q:H b with
    | none=>exact un.keep b o e q (by intro z;exact absurd (show b∈([]:List Addr) from z) (by simp)) (by simp)
    | some u =>
     rcases hO b with z | ⟨ob,xs,z⟩
     ·rw [q] at z;cases z
     ·have z2:=un.frzs b ob _ z
      obtain ⟨e1,_⟩:=hok b _ z
      obtain ⟨e2,_⟩:=hok' b _ z2
      rw [e] at e1;cases e1
      exact e2
 cases hk:K.lookup a with
 | some o =>
  -- the script is one of the module's own objects
  have e:=KX a o hk
  rw [ha] at e
  cases e
  refine core (fun _=>none) (fun _ => .inl rfl) (.inr ⟨_,vs.toArray,_,hk,rfl,rfl,rfl,by rw [List.size_toArray,lenV];exact hl,by simpa using rv⟩) (fun b u z=>by have z':(none:Option HO)=some u:=z;cases z') (fun b z=>absurd rfl z) fun z=>absurd rfl z
 | none =>
  refine core (fun b=>if b=a then some (.frz { cls:=.type "list",data:=.seq vs.toArray } (.lst (ns.map V.int))) else none) (fun b=>?_) (.inl (.inr ⟨{ cls:=.type "list",data:=.seq vs.toArray },if_pos rfl⟩)) (fun b u z=>?_) (fun b z=>?_) fun _=>hk
  ·by_cases hb:b=a
   ·exact .inr ⟨_,_,if_pos hb⟩
   ·exact .inl (if_neg hb)
  ·by_cases hb:b=a
   ·have z':=(if_pos hb).symm.trans z
    cases z'
    subst hb
    exact ⟨ha,by rw [List.length_map];exact hl,vs,_,rv,ha⟩
   ·have z':=(if_neg hb).symm.trans z
    cases z'
  ·by_cases hb:b=a
   ·exact hb
   ·exact absurd (if_neg hb) z
noncomputable abbrev KOf {K:Frag} {h:Heap} (_:K.In h):Frag:=K
theorem walk_of {l:PySem.W.OpenLaw} {n k:Nat} {q:Program} {loose:List Str} {XP:(Str->Option Value)->Heap->Prop} {YP:World->Heap->Prop} {d:DefRec} {K:Params->Frag} {CX:World->CXT} {sp:World->Sp} {x:Str}
  (hn:l.most=some n) (hn2:n<=sizeLine) (hdf:d.params.defaults=[]) (hr:Room k callerA)
  (hY:∀ (w:World) (h:Heap),YP w h->(K w.params).In h)
  (F:∀ (w:World) (mg:Str->Option Value) (fa:Addr) (h:Heap),(K w.params).In h->h.Ns mainGlobals mg->mg d.name=some (.ref fa) ->
   ∃ fd:FuncData,(∀ (s:Shared) (u:Value),BindsTo s fd ⟨[u],[]⟩ [(x,u)]) /\
    ∀ base:Heap,(K w.params).In base->base.Ns mainGlobals mg->FnOk l.prog w (K w.params) mg base (CX w) k fa fd [x] (sp w))
  (hsp:∀ (w:World) (H:Hp) (a:Addr) (ns:List Int),ns.length<=n->Only H->SqL (K w.params) H a (ns.map V.int)->sp w [.ref a] H (fun v _=>v=.bl true) fun _ _ _=>False)
  (hCX:∀ (w:World) (H:Hp) (s:Shared) (e:Value) (s':Shared),CX w [] H s (fun _ _ _=>False) e s'->False) :
  PySem.W.WalkO q loose XP YP l.row.toRowW d [] (fun f vs=>PySem.call f vs):=by
 refine Att.attach_call hn hdf fun w s₀ s₁ mg mb fa o pm cd doc a vs ns G Y ho hd hcd hmg hobj hints hlen hg=>?_
 have KX:=hY w _ Y
 obtain ⟨fd,hb,hF⟩:=F w mg fa _ KX G.T.g hmg
 exact arj KX G.T.g G.T.b G.T.builtins G.T.nolimit hg hobj hints (Nat.le_trans hlen hn2) hr hF hb (fun H hO hS=>hsp w H a ns hlen hO hS) fun H e s'=>hCX w H s₁ e s'
end L2
/- THE LAST THEOREM (shape; LID, My.* are yours):
  My.Adr: a structure of the addresses that your layer names (classes,functions);My.Txt K t: a structure (Prop) of the equations over K;
  My.txt_mk:{K} {implicit addresses ..} (e1:nsIn K mainGlobals "law" = some (some (.ref f))) (e2:K.lookup f=some ⟨oc,od,.func (fnOf "law" "law" params body scope dV kV doc pm an cdv ct),sl⟩) (e3:codeIn K cdv "law" = true) .. : ∃ t,My.Txt K t
set_option maxRecDepth 100000 in
set_option maxHeartbeats 0 in
theorem PySem.Challenge.cw_LID_holds : PySem.Challenge.rw_LID.Holds := by
 w_on;o_law;k_head;(case hw=>w_witness2)
 k_fill
 refine L2.walk_of (l:=PySem.Challenge.rw_LID) (n:=63) (k:=40) (x:="script") (CX:=fun w => ..) (sp:=fun _=>My.sp_law) rfl (by decide) rfl ⟨rfl,by decide,by decide⟩ (fun w h Y=>PySem.W.kIn_of Y) ?F ?S ?C
 case F =>
  intro w mg fa h KX G hmg
  have T:∃ t,My.Txt (L2.KOf KX) t:=by
   dsimp only [L2.KOf]                          -- K must stand as «<heap const> w.params» for k_is
   refine' My.txt_mk ?e1 ?e2 ?e3 ..
   (case e1=>PySem.W.k_is)                    -- in the order: a name -> its address -> its object -> its parts
   (case e2=>PySem.W.k_is)
   ..
  obtain ⟨t,T⟩:=T
  have e0:=hmg.symm.trans (mg_of KX G T.law)
  cases e0                                       -- fa is the law's own address
  exact ⟨_,fun s u => .of_eq rfl,fun base kb nb=>My.law_fn T kb nb⟩     -- if «.of_eq rfl» comes too early: refine' ⟨_,?b,fun base kb nb=>My.law_fn T kb nb⟩;exact fun s u => .of_eq rfl
 case S=>exact fun w H a ns hl hO hS => ..
 case C=>exact ..
(the tactic k_is has no namespace: write k_is) -/
namespace L2
open PySem PySem.Spec PyProof.Rows
noncomputable def acd (s:Stmt):Arguments:=match s with
 | .FunctionDef _ a _ _ _ _ _ _ _ _=>a
 | _=>{ posonlyargs:=[],args:=[],vararg:=none,kwonlyargs:=[],kw_defaults:=[],kwarg:=none,defaults:=[] }
noncomputable def aby (s:Stmt):List Stmt:=match s with
 | .FunctionDef _ _ b _ _ _ _ _ _ _=>b
 | _=>[]
noncomputable def aai (s:Stmt):Scope:=match s with
 | .FunctionDef _ _ _ _ _ _ sc _ _ _=>sc
 | _=>{ kind:=.function,names:=[],isGenerator:=false,isCoroutine:=false }
noncomputable abbrev CX0:CXT:=fun _ _ _ _ _ _=>False
noncomputable abbrev E0:XK:=fun _ _ _=>False
theorem ayh {X:Cx}:ako CX0 X E0:=fun _ _ _ _ _ _ _ h=>h.elim
structure Fun (K:Frag) (x qual:Str) (st:Stmt) (f:Addr) (fd:FuncData):Prop where
 ex:∃ (oc:Value) (od:Option Addr) (kV doc pm:Value) (an:Option Addr) (cdv ct:Value) (osl:Array (Option Value)),
  fd=fnOf x qual (acd st) (aby st) (aai st) .none kV doc pm an cdv ct/\K.lookup f=some ⟨oc,od,.func fd,osl⟩/\codeIn K cdv qual=true
 kp:keepIn K (.ref f)=true
section
variable {P:Program} {w:World} {K:Frag} {mg:Str->Option Value} {base:Heap}
theorem Fun.ok {x qual:Str} {st:Stmt} {f:Addr} {fd:FuncData} {N ps:List Str} {k:Nat} {sp:Sp} (F:Fun K x qual st f fd) (S:FnScope N ps (aai st)) (len:∀ vs H Q E,sp vs H Q E->vs.length=ps.length)
  (hbody:∀ (cdv:Value) (A:Around) (outer:List Env) (s:Shared) (H:Hp) (vs:List V) (Q:VK) (E:XK),Room k (A.deeper (envOfC qual (aai st) s.heap.objs.size f cdv))->sp vs H Q E ->
   ∃ t,PSs (cxOf CX0 P w K mg base N qual (aai st) f cdv A outer s H E).nox (aby st) t/\t { nx:=fun _ H'=>Q .non H',rt:=Q } (start N vs) H):FnOk P w K mg base CX0 (k+1) f fd ps sp:=by
 obtain ⟨oc,od,kV,doc,pm,an,cdv,ct,osl,rfl,lk,hcd⟩:=F.ex
 refine ayc lk hcd S len fun A outer s H vs Q E hr hsp=>?_
 obtain ⟨t,h,q⟩:=hbody cdv A outer s H vs Q E hr hsp
 exact ⟨t,h.nox,q⟩
theorem Fun.binds {x qual:Str} {st:Stmt} {f:Addr} {fd:FuncData} {ps:List Str} (F:Fun K x qual st f fd)
  (h:∀ (kV doc pm:Value) (an:Option Addr) (cdv ct:Value) (us:List Value),us.length=ps.length->bindArgs (fnOf x qual (acd st) (aby st) (aai st) .none kV doc pm an cdv ct) ⟨us,[]⟩=pure (ps.zip us)):Binds K fd ps []:=by
 obtain ⟨oc,od,kV,doc,pm,an,cdv,ct,osl,rfl,lk,hcd⟩:=F.ex
 exact .all (h kV doc pm an cdv ct)
theorem awm {x qual:Str} {st:Stmt} {f:Addr} {oc:Value} {od an:Option Addr} {osl:Array (Option Value)} {kV doc pm cdv ct:Value} (l:K.lookup f=some ⟨oc,od,.func (fnOf x qual (acd st) (aby st) (aai st) .none kV doc pm an cdv ct),osl⟩)
  (c:codeIn K cdv qual=true) (k:keepIn K (.ref f)=true):Fun K x qual st f (fnOf x qual (acd st) (aby st) (aai st) .none kV doc pm an cdv ct):=⟨⟨oc,od,kV,doc,pm,an,cdv,ct,osl,rfl,l,c⟩,k⟩
end
theorem aka {A:Around} {k:Nat} (hr:Room k A):A.units+1 < cLine:=Nat.lt_of_le_of_lt (Nat.add_le_add_left (by decide:1<=64) _) hr.units
theorem ael {n:Nat} (h:n<=1000):n < sizeLine:=Nat.lt_of_le_of_lt h (by decide)
section
variable {X:Cx}
theorem pv (i:Nat) {x:Str} {pos:Pos} (hN:X.N[i]?=some x:=by rfl) (hv:Vis X.env.scope x:=by first | exact Or.inl rfl | exact Or.inr (Or.inl rfl) | exact Or.inr (Or.inr rfl)) (hd:(x == ("__debug__" : Str))=false:=by decide)
  (hcd:(x == ("__classdict__" : Str))=false:=by decide):PE X (.Name x pos) (tVar i):=av9 hN hv hd hcd
end
theorem iteF {A B:Prop} (h:B):if false=true then A else B:=by
 rw [if_neg Bool.false_ne_true]
 exact h
theorem iteT {A B:Prop} (h:A):if true=true then A else B:=by
 rw [if_pos rfl]
 exact h
def Same (H H':Hp):Prop:=∀ b o,H b=some o->H' b=some o
theorem Same.refl (H:Hp):Same H H:=fun _ _ h=>h
theorem Same.trans {H H1 H2:Hp} (a:Same H H1) (b:Same H1 H2):Same H H2:=fun c o h=>b c o (a c o h)
theorem Same.free {H H':Hp} (e:Same H H') {l:Addr} (h:H' l=Option.none):H l=Option.none:=by
 cases q:H l with
 | none=>rfl
 | some o =>
  rw [e l o q] at h
  cases h
theorem Same.seq {K:Frag} {H H':Hp} {a:Addr} {xs:List V} (e:Same H H') (h:SqL K H a xs):SqL K H' a xs:=by
 rcases h with (h | ⟨o,h⟩) | h
 ·exact .inl (.inl (e _ _ h))
 ·exact .inl (.inr ⟨o,e _ _ h⟩)
 ·exact .inr h
section
variable {X:Cx}
end
section
variable {κ:Type} [DecidableEq κ]
end
noncomputable def clos (env:Env):List (Str × NameKind)->List (Str × Addr)->List (Str × Addr)
 | [],cs=>cs
 | (n,k) :: r,cs=>if k == NameKind.free then (match env.cells.lookup n with | some a=>clos env r ((n,a) :: cs) | none=>clos env r cs) else clos env r cs
theorem aem {env:Env} {sc:Scope} (h:∀ n,(n,NameKind.free)∈sc.names->∃ a,env.cells.lookup n=some a):closureFor sc env=pure (clos env sc.names []):=by
 have all:∀ (l:List (Str × NameKind)) (cs:List (Str × Addr)),(∀ n,(n,NameKind.free)∈l->∃ a,env.cells.lookup n=some a) ->
   (forIn l cs fun (x:Str × NameKind) (cs:List (Str × Addr))=>match x with | (name,kind)=>if kind == NameKind.free then (do let a ← cellOf env name;pure (ForInStep.yield ((name,a) :: cs))) else pure (ForInStep.yield cs))=(pure (clos env l cs):Sem _):=by
  intro l
  induction l with
  | nil=>intro cs _;rfl
  | cons p r ih =>
   intro cs hl
   obtain ⟨n,k⟩:=p
   rw [List.forIn_cons]
   unfold clos
   dsimp only
   cases hk:(k == NameKind.free) with
   | false =>
    simp only [Bool.false_eq_true,if_false,pure_bind]
    exact ih cs fun m hm=>hl m (List.mem_cons_of_mem _ hm)
   | true =>
    have ek:k=NameKind.free:=by simpa using hk
    subst ek
    obtain ⟨a,ha⟩:=hl n List.mem_cons_self
    have ec:cellOf env n=pure a:=by unfold cellOf;rw [ha]
    simp only [if_true,ec,pure_bind,ha]
    exact ih _ fun m hm=>hl m (List.mem_cons_of_mem _ hm)
 have e:=all sc.names [] h
 unfold closureFor
 refine Eq.trans (b:=(pure (clos env sc.names []):Sem _) >>= fun cs=>pure cs) ?_ (pure_bind _ _)
 exact congrArg (fun z:Sem (List (Str × Addr))=>z >>= fun cs=>pure cs) e
theorem ads {env:Env} {x:Str} {c:Addr}:∀ {l:List (Str × NameKind)} {cs:List (Str × Addr)},(clos env l cs).lookup x=some c->env.cells.lookup x=some c\/cs.lookup x=some c
 | [],cs,h => .inr h
 | (n,k) :: r,cs,h=>by
  unfold clos at h
  by_cases hk:(k == NameKind.free)=true
  ·rw [if_pos hk] at h
   cases ha:env.cells.lookup n with
   | none=>rw [ha] at h;exact ads h
   | some a =>
    rw [ha] at h
    rcases ads h with e | e
    ·exact .inl e
    ·rw [List.lookup_cons] at e
     cases hx:(x == n) with
     | true =>
      rw [hx] at e
      have:x=n:=by simpa using hx
      subst this
      cases e
      exact .inl ha
     | false=>rw [hx] at e;exact .inr e
  ·rw [if_neg hk] at h
   exact ads h
theorem aen {env:Env} {x:Str}:∀ {l:List (Str × NameKind)} {cs:List (Str × Addr)},(∃ c,cs.lookup x=some c)->∃ c,(clos env l cs).lookup x=some c
 | [],cs,h=>h
 | (n,k) :: r,cs,h=>by
  unfold clos
  by_cases hk:(k == NameKind.free)=true
  ·rw [if_pos hk]
   cases ha:env.cells.lookup n with
   | none=>exact aen h
   | some a =>
    refine aen ?_
    rw [List.lookup_cons]
    cases hx:(x == n) with
    | true=>exact ⟨_,rfl⟩
    | false=>exact h
  ·rw [if_neg hk]
   exact aen h
theorem acy {env:Env} {x:Str} (h:∃ a,env.cells.lookup x=some a):∀ {l:List (Str × NameKind)} {cs:List (Str × Addr)},(x,NameKind.free)∈l->∃ c,(clos env l cs).lookup x=some c
 | [],_,hm=>absurd hm (by simp)
 | (n,k) :: r,cs,hm=>by
  rcases List.mem_cons.mp hm with e | hm
  ·cases e
   obtain ⟨a,ha⟩:=h
   unfold clos
   rw [if_pos (by rfl),ha]
   refine aen ⟨a,?_⟩
   rw [List.lookup_cons]
   simp
  ·unfold clos
   by_cases hk:(k == NameKind.free)=true
   ·rw [if_pos hk]
    cases ha:env.cells.lookup n with
    | none=>exact acy h hm
    | some a=>exact acy h hm
   ·rw [if_neg hk]
    exact acy h hm
theorem aft {env:Env} {x:Str}:∀ {names:List (Str × NameKind)},(∀ y∈names,y.2 ≠ .cell) ->
  ((names.map fun (n,k)=>if (k == NameKind.free && env.scope.kind == .function && env.kindOf n == some .cell) then (n,NameKind.cell) else (n,k)).lookup x=some .cell ∨
   (names.map fun (n,k)=>if (k == NameKind.free && env.scope.kind == .function && env.kindOf n == some .cell) then (n,NameKind.cell) else (n,k)).lookup x=some .free)->names.lookup x=some .free
 | [],_,h=>by rcases h with h | h <;> simp at h
 | (n,k) :: r,hc,h=>by
  have ih:=@aft env x r fun y hy=>hc y (List.mem_cons_of_mem _ hy)
  rw [List.lookup_cons]
  simp only [List.map_cons] at h
  by_cases hq:(k == NameKind.free && env.scope.kind == .function && env.kindOf n == some .cell)=true
  ·rw [if_pos hq] at h
   have ek:k=NameKind.free:=by
    have:=hq;simp only [Bool.and_eq_true] at this;simpa using this.1.1
   subst ek
   cases hx:(x == n) with
   | true=>rfl
   | false=>simp only [List.lookup_cons,hx] at h;exact ih h
  ·rw [if_neg hq] at h
   cases hx:(x == n) with
   | true =>
    simp only [List.lookup_cons,hx] at h
    rcases h with h | h
    ·cases h;exact absurd rfl (hc (n,NameKind.cell) List.mem_cons_self)
    ·exact h
   | false=>simp only [List.lookup_cons,hx] at h;exact ih h
theorem ade {env:Env} {x:Str}:∀ {names:List (Str × NameKind)},names.lookup x=some .free ->
  ((names.map fun (n,k)=>if (k == NameKind.free && env.scope.kind == .function && env.kindOf n == some .cell) then (n,NameKind.cell) else (n,k)).lookup x=some .cell ∨
   (names.map fun (n,k)=>if (k == NameKind.free && env.scope.kind == .function && env.kindOf n == some .cell) then (n,NameKind.cell) else (n,k)).lookup x=some .free)
 | [],h=>by simp at h
 | (n,k) :: r,h=>by
  have ih:=@ade env x r
  rw [List.lookup_cons] at h
  simp only [List.map_cons]
  by_cases hq:(k == NameKind.free && env.scope.kind == .function && env.kindOf n == some .cell)=true
  ·rw [if_pos hq]
   cases hx:(x == n) with
   | true=>left;simp [List.lookup_cons,hx]
   | false=>rw [hx] at h;simp only [List.lookup_cons,hx];exact ih h
  ·rw [if_neg hq]
   cases hx:(x == n) with
   | true=>rw [hx] at h;right;simp only [List.lookup_cons,hx];exact h
   | false=>rw [hx] at h;simp only [List.lookup_cons,hx];exact ih h
noncomputable def Cx.comp (X:Cx) (N:List Str) (sc:Scope) (C:Addr) (s0:Shared) (H0:Hp) (ex:List Addr):Cx where
 prog:=X.prog
 w:=X.w
 K:=X.K
 mg:=X.mg
 base:=X.base
 A:=X.A
 N:=N
 s₀:=s0
 H₀:=H0
 env:=compEnvC sc (clos X.env sc.names []) C X.env
 outer:=X.stack
 stack:=X.stack
 ex:=ex
 fn:=fun _=>false
 calm:=X.calm
 pn:=[]
 xe:=fun _ _=>False
noncomputable def pick (src:List (Option Nat)) (σ:St):St:=src.map fun o=>match o with | some j=>(σ[j]?).getD none | none=>none
structure LcOk (X:Cx) (N:List Str) (sc:Scope) (src:List (Option Nat)):Prop where
 kind:sc.kind=.function
 nocell:∀ y∈sc.names,y.2 ≠ .cell
 own:∀ y∈sc.names,y.2=.local->sc.names.lookup y.1=some .local
 outs:∀ y∈sc.names,y.2=.free->X.env.kindOf y.1=some .cell\/X.env.kindOf y.1=some .free
 len:src.length=N.length
 from':∀ (i j:Nat),src[i]?=some (some j)->∃ x,N[i]?=some x/\X.N[j]?=some x/\sc.names.lookup x=some .free
theorem LcOk.clo {X:Cx} {N:List Str} {sc:Scope} {src:List (Option Nat)} (L:LcOk X N sc src) (ok:X.Ok):closureFor sc X.env=pure (clos X.env sc.names []) :=
 aem fun n hn=>ok.has n (L.outs (n,.free) hn rfl)
theorem akx {X:Cx} {pins:List (Addr × Obj)} {σ:St} {H:Hp} {s:Shared} {N:List Str} {sc:Scope} {src:List (Option Nat)} {fp:List Addr} {h1:Heap} {t':Nat}
  (L:LcOk X N sc src) (I:Inv X pins σ H s) (hf:∀ b∈fp,FpOk X pins H b) (ho:∀ b∈fp,b < s.heap.objs.size)
  (hn:h1.Ns s.heap.objs.size fun _=>none) (hk:∀ b o,s.heap.get? b=some o->h1.get? b=some o) :
  Inv (X.comp N sc s.heap.objs.size s H fp) [] (pick src σ) H { s with heap:=h1,toks:=t' }:=by
 have look:∀ {x c},(clos X.env sc.names []).lookup x=some c->X.env.cells.lookup x=some c:=fun {x c} e=>by
  rcases ads e with z | z
  ·exact z
  ·simp at z
 refine ⟨⟨I.ok.mod,L.kind,I.ok.glob,I.ok.blt,Nat.le_refl _,fun x y c e1 e2=>?_,fun x hx=>?_,fun x c z _=>?_,I.ok.hd,I.ok.frames,.inl rfl,fun b hb=>⟨?_,fun x c e=>?_⟩,I.bs,Nat.le_trans I.ok.bsz I.sz,fun b o e hb=>?_,fun b hb z=>?_,I.stack,I.stkFree⟩,
  rfl,I.bare,Un.kept hk,⟨_,hn,fun i x v e1 e2 e3=>?_⟩,fun x c e=>?_,I.hok.fresh (Nat.le_refl _),fun x c e=>I.freeC x c (look e),fun p hp=>?_,I.hok.kept hk,?_⟩
 ·exact I.ok.inj x y c (look e1) (look e2)
 ·have q:=aft (env:=X.env) (x:=x) L.nocell hx
  exact acy (I.ok.has x (L.outs (x,.free) (PySem.mem_of_lookup q) rfl)) (PySem.mem_of_lookup q)
 ·exact Bool.noConfusion z
 ·exact Nat.ne_of_lt (ho b hb)
 ·exact (hf b hb).2.2.2.2.1 x c (look e)
 ·rcases (hf b hb).2.2.2.1 with z | z
  ·exact I.ok.noex b o e z
  ·exact absurd (Nat.lt_of_lt_of_le (Heap.lt_size e) (Nat.le_trans I.ok.bsz z)) (Nat.lt_irrefl _)
 ·rcases List.mem_cons.mp (I.stkSub b z) with q | q
  ·exact (hf b hb).2.1 q
  ·exact (hf b hb).2.2.1 q
 ·unfold pick at e2
  rw [List.getElem?_map] at e2
  cases q:src[i]? with
  | none=>rw [q] at e2;cases e2
  | some o =>
   rw [q] at e2
   cases o with
   | none=>cases e2
   | some j =>
    obtain ⟨y,n1,n2,n3⟩:=L.from' i j q
    have e1':N[i]?=some x:=e1
    rw [e1'] at n1
    cases n1
    have ej : σ[j]?=some (some v):=by
     cases q2 : σ[j]? with
     | none=>simp [q2] at e2
     | some z=>simp [q2] at e2;rw [e2]
    have ho:=L.outs (x,.free) (PySem.mem_of_lookup n3) rfl
    have vis:Vis X.env.scope x:=by
     rcases ho with z | z
     ·exact .inr (.inl z)
     ·exact .inr (.inr z)
    obtain ⟨m,_,hl⟩:=I.loc
    obtain ⟨u,r,l⟩:=hl j x v n2 ej vis
    refine ⟨u,r,.inr ⟨?_,?_⟩⟩
    ·exact ade (env:=X.env) n3
    ·rcases l with ⟨z,_⟩ | ⟨_,c,hc,oc,hoc,hd⟩
     ·rcases ho with z' | z' <;> (rw [z'] at z;cases z)
     ·obtain ⟨c',e'⟩:=acy (env:=X.env) ⟨c,hc⟩ (PySem.mem_of_lookup n3) (cs:=[])
      have:=look e'
      rw [hc] at this;cases this
      exact ⟨c,e',oc,hk c oc hoc,hd⟩
 ·obtain ⟨v,oc,hoc,hd⟩:=I.cell x c (look e)
  exact ⟨v,oc,hk c oc hoc,hd⟩
 ·exact absurd (show p∈([]:List (Addr × Obj)) from hp) (by simp)
 ·show (pick src σ).length=N.length
  unfold pick
  rw [List.length_map]
  exact L.len
def PIf (X:Cx) (ifs:List Expr) (t:TT):Prop :=
 ∀ (pins:List (Addr × Obj)) (s:Shared) (σ:St) (H:Hp) (Q:Bool->Hp->Prop),Inv X pins σ H s->t σ H Q ->
  wpAny (model X.prog X.w) X.A (forIn ifs true fun c r=>if r=true then do let ok ← isTrue c X.env (eval c X.env);pure (ForInStep.yield ok) else pure (ForInStep.yield r)) (TP X pins σ Q) X.xe s
def tYes:TT:=fun _ H Q=>Q true H
theorem abe {X:Cx}:PIf X [] tYes:=fun _ _ _ H _ I h=>wpAny_tests_nil ⟨H,I,h⟩
theorem ah2 {X:Cx} {c:Expr} {t:TT} (h:PT X c t):PIf X [c] t:=fun pins s σ H Q I q=>wpAny_tests_one (h pins s σ H Q I q)
noncomputable abbrev LW:=Nat->Nat->List V->St->Hp->Prop
def aha (J:It) (g:TG) (tif:TT) (te:TE) (acc:Addr) (Qd:List V->Hp->Prop) (W:LW):Prop:=∀ (i m:Nat) (ys:List V) (σ:St) (H:Hp),W i m ys σ H->H acc=some (.lst ys)/\((J.stop i H/\Qd ys H)\/(J.go i H /\
 ∃ Nx:List V->St->Hp->Prop,(∀ ys' σ' H',Nx ys' σ' H'->∃ m',m' < m/\W (i+1) m' ys' σ' H')/\∀ x H2,J.yld i H x H2 ->
 g x σ H2 fun σ3 H3=>tif σ3 H3 fun b H4=>if b=true then te σ3 H4 fun y H5=>H5 acc=some (.lst ys)/\ys.length < sizeLine/\Nx (ys ++ [y]) σ3 (upd H5 acc (.lst (ys ++ [y]))) else Nx ys σ3 H4))
theorem ai0 {X:Cx} {tg iter elt:Expr} {ifs:List Expr} {sc:Scope} {pos:Pos} {J:It} {fp:List Addr} {it:Addr} {tn:Nat->Heap->Prop} {g:TG} {tif:TT} {te:TE} {acc:Addr} {Qd:List V->Hp->Prop} {W:LW} {R:Result->Shared->Prop}
  (T:Turn X.prog X.w X.K tg J fp it tn) (hc:X.calm=true) (hxe:∀ e s,¬ X.xe e s) (hg:PG X tg g) (hif:PIf X ifs tif) (he:PE X elt te)
  (turn:aha J g tif te acc Qd W) (hR:∀ ys σ H s,Inv X [] σ H s->Qd ys H->R (.ok .next) s)
  {i m:Nat} {ys:List V} {σ:St} {H:Hp} {s:Shared} (I:Inv X [] σ H s) (st:tn i s.heap) (hf:∀ b∈fp,FpOk X [] H b) (w:W i m ys σ H) :
  codeAny (model X.prog X.w) X.A (.compLoop (.ListComp elt [⟨tg,iter,ifs,0⟩] sc pos) 0 (.ref it) (.ref acc) X.env) R s:=by
 have stat:∀ {H':Hp},(∀ b∈fp,H' b=none)->∀ b∈fp,FpOk X [] H' b:=fun hn b hb=>⟨hn b hb,(hf b hb).2⟩
 refine codeAny_loop rfl (fun n s'=>∃ i ys σ' H',Inv X [] σ' H' s'/\tn i s'.heap/\(∀ b∈fp,H' b=none)/\W i n ys σ' H') ?_ m ⟨i,ys,σ,H,I,st,fun b hb=>(hf b hb).1,w⟩
 rintro n s1 ⟨i,ys,σ1,H1,I1,st1,fr1,w1⟩
 show wpAny _ X.A ((compTurn (.ListComp elt [⟨tg,iter,ifs,0⟩] sc pos) 0 (.ref it) (.ref acc) X.env).onRaise (fun x=>do noteFrame x X.env;theTreesLotGoes x)) _ _ s1
 refine wpAny_noted ?_
 rw [compTurn_list]
 refine wpAny_bind (wpAny_standAt (wpAny_bind ?_))
 obtain ⟨hacc,⟨stop,qd⟩ | ⟨go,Nx,hNx,step⟩⟩:=turn i n ys σ1 H1 w1
 ·refine thn (T.done X rfl rfl rfl hc i [] s1 σ1 H1 _ I1 (stat fr1) st1 stop) fun r s2 ⟨hr,I2⟩=>?_
  subst hr
  exact wpAny_pure (hR ys σ1 H1 s2 I2 qd)
 ·refine thn (T.item X rfl rfl rfl hc i [] s1 σ1 H1 _ I1 (stat fr1) st1 go) fun r s2 ⟨u,hr,h2⟩=>?_
  subst hr
  refine wpAny_bind (thn h2 fun _ s3 ⟨x,H3,I3,r3,y3,st3,fr3⟩=>?_)
  have I3':=I3.pinned (stat fr3) (T.obj _ _ st3)
  refine wpAny_bind (wpAny_mono (hg _ s3 σ1 H3 x u _ I3' r3 (step x H3 y3)) (fun _ s4 ⟨σ4,H4,I4,q4⟩=>?_) fun e s' z=>(hxe e s' z).elim)
  have back:∀ {σ7:St} {H7:Hp} {s7:Shared} {zs:List V},Inv X ([] ++ aef fp s3.heap) σ7 H7 s7->(∃ m',m' < n/\W (i+1) m' zs σ7 H7)->∃ m,m < n/\∃ i ys σ' H',Inv X [] σ' H' s7/\tn i s7.heap/\(∀ b∈fp,H' b=none)/\W i m ys σ' H':=fun {σ7 H7 s7 zs} I7 w7=>by
   obtain ⟨m',hm,w7⟩:=w7
   refine ⟨m',hm,i+1,zs,σ7,H7,I7.unpinned,T.keep _ _ _ st3 fun b hb o e=>(I7.pin (b,o) (List.mem_append_right _ (List.mem_append_right _ (ab1 hb e)))).1,fun b hb=>?_,w7⟩
   obtain ⟨o,e,d⟩:=T.obj _ _ st3 b hb
   exact (I7.pin (b,o) (List.mem_append_right _ (List.mem_append_right _ (ab1 hb e)))).2.1
  refine wpAny_bind (wpAny_mono (hif _ s4 σ4 H4 _ I4 q4) (fun b s5 ⟨H5,I5,q5⟩=>?_) fun e s' z=>(hxe e s' z).elim)
  cases b with
  | false =>
   rw [if_neg Bool.false_ne_true] at q5
   exact wpAny_pure ⟨rfl,back I5 (hNx _ _ _ q5)⟩
  | true =>
   rw [if_pos rfl] at q5
   refine wpAny_bind (wpAny_bind (wpAny_mono (he _ s5 σ4 H5 _ I5 q5) (fun yv s6 ⟨y,H6,I6,r6,a6,l6,w6⟩=>?_) fun e s' z=>(hxe e s' z).elim))
   have ap:=abb (X:=X) _ s6 σ4 H6 (.ref acc) [y] (.ref acc) [yv] (fun _ H'=>H'=upd H6 acc (.lst (ys ++ [y]))) I6 rfl (.cons r6 .nil) ⟨acc,ys,y,rfl,rfl,a6,l6,rfl⟩
   refine wpAny_bind (wpAny_mono ap (fun _ s7 ⟨v7,H7,I7,_,e7⟩=>?_) fun e s' z=>(hxe e s' z).elim)
   subst e7
   exact wpAny_pure (wpAny_pure ⟨rfl,back I7 (hNx _ _ _ w6)⟩)
def tLC (src:List (Option Nat)) (wi:TI) (g:TG) (tif:TT) (te:TE):TE:=fun σ H Q=>wi σ H fun J H1=>∀ acc,H1 acc=none->∃ W:LW,(∃ m,W 0 m [] (pick src σ) (upd H1 acc (.lst [])))/\aha J g tif te acc (fun _ H'=>Q (.ref acc) H') W
section
variable {X:Cx} {N:List Str} {tg iter elt:Expr} {ifs:List Expr} {sc:Scope} {src:List (Option Nat)} {wi:TI} {g:TG} {tif:TT} {te:TE} {pos:Pos}
theorem at8 (hc:X.calm=true) (L:LcOk X N sc src) (hg:∀ C s0 H0 ex,PG (X.comp N sc C s0 H0 ex) tg g) (hif:∀ C s0 H0 ex,PIf (X.comp N sc C s0 H0 ex) ifs tif) (he:∀ C s0 H0 ex,PE (X.comp N sc C s0 H0 ex) elt te)
  {pins:List (Addr × Obj)} {s3:Shared} {σ:St} {H3:Hp} {Q:VK} (I3:Inv X pins σ H3 s3) {it acc:Addr} {fp:List Addr} {J:It} {tn:Nat->Heap->Prop} (T:Turn X.prog X.w X.K tg J fp it tn) (st3:tn 0 s3.heap) (f3:∀ b∈fp,FpOk X pins H3 b)
  {W:LW} {m0:Nat} (w0:W 0 m0 [] (pick src σ) H3) (turn:aha J g tif te acc (fun _ H'=>Q (.ref acc) H') W) (use:Option (Value->Sem Unit)) (P:Value->Shared->Prop)
  (hP:∀ C H' s' m,Inv X pins σ H' s'->Q (.ref acc) H'->s'.heap.Ns C m->H' C=none->C ≠ X.env.locals->(C∈X.ex\/X.s₀.heap.objs.size<=C)->(∀ x c,X.env.cells.lookup x=some c->c ≠ C)->(∀ p∈X.pn ++ pins,p.1 ≠ C) ->
   compPost (model X.prog X.w) X.A X.xe use P (.ref acc) C (.ok .next) s') :
  wpAny (model X.prog X.w) X.A (newFunctionEnv sc X.env.globals (clos X.env sc.names []) [] X.env.qual none .none (some X.env)) (fun cenv s₄ =>
    codeAny (model X.prog X.w) X.A (.compStart (.ListComp elt [⟨tg,iter,ifs,0⟩] sc pos) 0 (.ref it) (.ref acc) { cenv with scope:=relabel sc X.env }) (compPost (model X.prog X.w) X.A X.xe use P (.ref acc) cenv.locals) s₄) X.xe s3:=by
 refine wpAny_newFunctionEnv L.nocell (by intro y hy;simp at hy) (fun h4 hns4 hsb4=>?_) L.kind
 have szf:∀ b∈fp,b < s3.heap.objs.size:=fun b hb=>by
  obtain ⟨o,ho,_⟩:=T.obj _ _ st3 b hb
  exact Heap.lt_size ho
 have k34:∀ b o,s3.heap.get? b=some o->h4.get? b=some o:=fun b o e=>hsb4.extBut b o (Nat.ne_of_lt (Heap.lt_size e)) (Heap.get?_push_of_some _ e)
 have I4:=akx (t':=s3.toks+([]:List (Str × Value)).length) L I3 f3 szf (by simpa using hns4) k34
 have st4:tn 0 h4:=T.keep _ _ _ st3 fun b _ o e=>k34 b o e
 have f4:∀ b∈fp,FpOk (X.comp N sc s3.heap.objs.size s3 H3 fp) [] H3 b:=fun b hb =>
  ⟨(f3 b hb).1,(I4.ok.exf b hb).1,I4.ok.exfs b hb,.inl hb,(I4.ok.exf b hb).2,fun p hp=>absurd (show p∈([]:List (Addr × Obj)) from hp) (by simp)⟩
 have fin:∀ (ys:List V) σ' H' s',Inv (X.comp N sc s3.heap.objs.size s3 H3 fp) [] σ' H' s'->Q (.ref acc) H'->compPost (model X.prog X.w) X.A X.xe use P (.ref acc) s3.heap.objs.size (.ok .next) s':=fun ys σ' H' s' J' q'=>by
  have Jo:Inv X pins σ H' s':=I3.call' (ch:=fp) J'.os J'.base J'.hok J'.bare fun b hb=>⟨(f3 b hb).2.2.2.1,(f3 b hb).2.1,(f3 b hb).2.2.2.2.1,(f3 b hb).2.2.2.2.2⟩
  obtain ⟨m,hn,_⟩:=J'.loc
  refine hP _ H' s' m Jo q' hn J'.free (Nat.ne_of_gt I3.lt) (.inr I3.sz) (fun x c e z=>?_) fun p hp z=>?_
  ·obtain ⟨v,o,ho,_⟩:=I3.cell x c e
   exact absurd (Heap.lt_size ho) (by rw [z];exact Nat.lt_irrefl _)
  ·exact absurd (Heap.lt_size (I3.pin p hp).1) (by rw [z];exact Nat.lt_irrefl _)
 have loop:codeAny (model X.prog X.w) X.A (.compLoop (.ListComp elt [⟨tg,iter,ifs,0⟩] sc pos) 0 (.ref it) (.ref acc) (X.comp N sc s3.heap.objs.size s3 H3 fp).env)
   (compPost (model X.prog X.w) X.A X.xe use P (.ref acc) s3.heap.objs.size) { s3 with heap:=h4,toks:=s3.toks+([]:List (Str × Value)).length } :=
  ai0 (X:=X.comp N sc s3.heap.objs.size s3 H3 fp) T hc (fun _ _ z=>z) (hg _ _ _ _) (hif _ _ _ _) (he _ _ _ _) turn fin I4 st4 f4 w0
 exact codeAny_compStart_list loop (T.self _ 0 _ _ _ st4 loop)
theorem aky (hc:X.calm=true) (L:LcOk X N sc src) (hi:PI X tg iter wi) (hg:∀ C s0 H0 ex,PG (X.comp N sc C s0 H0 ex) tg g) (hif:∀ C s0 H0 ex,PIf (X.comp N sc C s0 H0 ex) ifs tif) (he:∀ C s0 H0 ex,PE (X.comp N sc C s0 H0 ex) elt te)
  {pins:List (Addr × Obj)} {s:Shared} {σ:St} {H:Hp} {Q:VK} (I:Inv X pins σ H s) (h:tLC src wi g tif te σ H Q) (use:Option (Value->Sem Unit)) (P:Value->Shared->Prop)
  (hP:∀ acc C H' s' m,Inv X pins σ H' s'->Q (.ref acc) H'->s'.heap.Ns C m->H' C=none->C ≠ X.env.locals->(C∈X.ex\/X.s₀.heap.objs.size<=C)->(∀ x c,X.env.cells.lookup x=some c->c ≠ C)->(∀ p∈X.pn ++ pins,p.1 ≠ C) ->
   compPost (model X.prog X.w) X.A X.xe use P (.ref acc) C (.ok .next) s')
  (hs:∀ x,foldedSetIterable iter X.env x=pure x) :
  wpAny (model X.prog X.w) X.A (comprehension (.ListComp elt [⟨tg,iter,ifs,0⟩] sc pos) sc X.env (firstIterPos [⟨tg,iter,ifs,0⟩] pos) (newList []) false (eval iter X.env) use) P X.xe s:=by
 refine wpAny_comprehension_free rfl hs (L.clo I.ok) L.kind L.own (thn (hi pins s σ H _ I h) fun v s1 h1=>thn h1 fun itv s2 h2=>?_)
 obtain ⟨it,fp,tn,J,H2,e,I2,T,st2,f2,q2⟩:=h2
 subst e
 have hacc:H2 s2.heap.objs.size=none:=I2.hok.fresh (Nat.le_refl _)
 obtain ⟨W,⟨m0,w0⟩,turn⟩:=q2 s2.heap.objs.size hacc
 have szf:∀ b∈fp,b < s2.heap.objs.size:=fun b hb=>by
  obtain ⟨o,ho,_⟩:=T.obj _ _ st2 b hb
  exact Heap.lt_size ho
 refine wpAny_newObj_type ?_
 refine at8 hc L hg hif he (H3:=upd H2 s2.heap.objs.size (.lst [])) ?_ T ?_ ?_ w0 turn use P (hP _)
 ·exact I2.laid (t':=s2.toks) (fun b u e=>Heap.get?_push_of_some _ e) (Nat.le_refl _) ⟨Nat.zero_le _,[],0,.nil,Heap.get?_push_size _ rfl⟩
 ·exact T.keep _ _ _ st2 fun b _ o e=>Heap.get?_push_of_some _ e
 ·exact fun b hb=>⟨by rw [aag (Nat.ne_of_lt (szf b hb))];exact (f2 b hb).1,(f2 b hb).2⟩
theorem adf (hc:X.calm=true) (L:LcOk X N sc src) (hi:PI X tg iter wi) (hg:∀ C s0 H0 ex,PG (X.comp N sc C s0 H0 ex) tg g) (hif:∀ C s0 H0 ex,PIf (X.comp N sc C s0 H0 ex) ifs tif) (he:∀ C s0 H0 ex,PE (X.comp N sc C s0 H0 ex) elt te)
  (hs:∀ x,foldedSetIterable iter X.env x=pure x:=by intro _;rfl):PE X (.ListComp elt [⟨tg,iter,ifs,0⟩] sc pos) (tLC src wi g tif te):=by
 intro pins s σ H Q I h
 rw [eval_ListComp]
 refine aky hc L hi hg hif he I h none _ (fun acc C H' s' m J q hn hC hL hx hcl hp=>?_) hs
 refine ⟨m,hn,fun h' sb=>⟨.ref acc,H',?_,rfl,q⟩⟩
 exact J.turned (t':=s'.toks) (fun b o hb e=>sb.extBut b o hb e) hC hL hx hcl hp
end
section
variable {X:Cx} {N:List Str} {tg iter elt:Expr} {ifs:List Expr} {sc:Scope} {src:List (Option Nat)} {wi:TI} {g:TG} {tif:TT} {te:TE} {pos spos px:Pos}
theorem ags {i:Nat} {x:Str} (hN:X.N.Nodup) (hi':X.N[i]?=some x) (hx:Loc X.env.scope x) (hc:X.calm=true) (L:LcOk X N sc src) (hi:PI X tg iter wi) (hg:∀ C s0 H0 ex,PG (X.comp N sc C s0 H0 ex) tg g)
  (hif:∀ C s0 H0 ex,PIf (X.comp N sc C s0 H0 ex) ifs tif) (he:∀ C s0 H0 ex,PE (X.comp N sc C s0 H0 ex) elt te)
  (hsw:swapsWith (.ListComp elt [⟨tg,iter,ifs,0⟩] sc pos) (some (.Name x px)) spos.line X.env=pure true:=by rfl)
  (hf:X.fn x=true\/X.env.scope.names.lookup x=some .local:=by first | exact .inl rfl | exact .inr rfl | assumption)
  (hs:∀ x,foldedSetIterable iter X.env x=pure x:=by intro _;rfl):PS X (.Assign [.Name x px] (.ListComp elt [⟨tg,iter,ifs,0⟩] sc pos) spos) (tAsg (tLC src wi g tif te) (aay i)):=by
 intro pins s σ H D I h
 rw [exec_Assign_Name_used _ _ _ _ hsw]
 refine wpAny_bind (wpAny_standAt (wpAny_bind ?_))
 show wpAny _ X.A (do let _ ← comprehension (.ListComp elt [⟨tg,iter,ifs,0⟩] sc pos) sc X.env _ (newList []) false (eval iter X.env) (some (assign (.Name x px) X.env))) _ _ s
 refine wpAny_bind (wpAny_mono (aky hc L hi hg hif he I h (some (assign (.Name x px) X.env)) (fun _ s'=>SP X pins D .next s') (fun acc C H' s' m J q hn hC hL hx' hcl hp=>?_) hs) (fun _ s' hq=>wpAny_pure (wpAny_pure hq)) fun _ _ e=>e)
 show wpAny _ X.A (assign (.Name x px) X.env (.ref acc)) _ _ _
 refine wpAny_assign_Name (afn J hN hi' hx (v:=.ref acc) rfl (fun s2 J2 ⟨a,sb,ha⟩=>?_) hf)
 have hne:C ≠ a:=by
  rcases ha with z | z
  ·rw [z];exact hL
  ·exact (hcl x a z).symm
 refine ⟨m,hn.sameBut sb hne,fun h' sb'=>⟨_,H',?_,q⟩⟩
 exact J2.turned (t':=s2.toks) (fun b o hb e=>sb'.extBut b o hb e) hC hL hx' hcl hp
end
section
variable {g:TG} {tif:TT} {te:TE} {acc:Addr} {Qd:List V->Hp->Prop} {σ0:St} {H0:Hp}
end
def am3 (J:It) (g:TG) (tif:TT) (te:TE) (acc:Addr) (Qd:List V->St->Hp->Prop) (W:LW):Prop:=∀ (i m:Nat) (ys:List V) (σ:St) (H:Hp),W i m ys σ H->H acc=some (.lst ys)/\((J.stop i H/\Qd ys σ H)\/(J.go i H /\
 ∃ Nx:List V->St->Hp->Prop,(∀ ys' σ' H',Nx ys' σ' H'->∃ m',m' < m/\W (i+1) m' ys' σ' H')/\∀ x H2,J.yld i H x H2 ->
 g x σ H2 fun σ3 H3=>tif σ3 H3 fun b H4=>if b=true then te σ3 H4 fun y H5=>H5 acc=some (.lst ys)/\ys.length < sizeLine/\Nx (ys ++ [y]) σ3 (upd H5 acc (.lst (ys ++ [y]))) else Nx ys σ3 H4))
def ah3 (J:It) (g:TG) (tif:TT) (wi2:TI) (g2:TG) (tif2:TT) (te:TE) (acc:Addr) (Qd:List V->Hp->Prop) (W:LW):Prop:=∀ (i m:Nat) (ys:List V) (σ:St) (H:Hp),W i m ys σ H->((J.stop i H/\Qd ys H)\/(J.go i H /\
 ∃ Nx:List V->St->Hp->Prop,(∀ ys' σ' H',Nx ys' σ' H'->∃ m',m' < m/\W (i+1) m' ys' σ' H')/\∀ x H2,J.yld i H x H2 ->
 g x σ H2 fun σ3 H3=>tif σ3 H3 fun b H4=>if b=true then wi2 σ3 H4 fun J2 H5=>∃ W2:LW,(∃ m2,W2 0 m2 ys σ3 H5)/\am3 J2 g2 tif2 te acc Nx W2 else Nx ys σ3 H4))
theorem ajm (elt t1 i1 t2 i2:Expr) (f1 f2:List Expr) (sc:Scope) (pos:Pos) (it acc:Value) (env:Env) :
  compTurn (.ListComp elt [⟨t1,i1,f1,0⟩,⟨t2,i2,f2,0⟩] sc pos) 0 it acc env=(do
   standAt i1.pos
   match ← pyNext it with
   | none=>pure (.done .next)
   | some v =>
    letOwnedTupleGo t1 it v
    assign t1 env v
    let mut ok:=true
    for c in f1 do
     if ok then ok ← isTrue c env (eval c env)
    if ok then
     let x ← eval i2 env
     standAt i2.pos
     let x ← foldedSetIterable i2 env x
     let _ ← runOwn (.compStart (.ListComp elt [⟨t1,i1,f1,0⟩,⟨t2,i2,f2,0⟩] sc pos) 1 (← holding [x] (pyIter x)) acc env) env
    again (.compLoop (.ListComp elt [⟨t1,i1,f1,0⟩,⟨t2,i2,f2,0⟩] sc pos) 0 it acc env)):=by rfl
theorem ajn (elt t1 i1 t2 i2:Expr) (f1 f2:List Expr) (sc:Scope) (pos:Pos) (it acc:Value) (env:Env) :
  compTurn (.ListComp elt [⟨t1,i1,f1,0⟩,⟨t2,i2,f2,0⟩] sc pos) 1 it acc env=(do
   standAt i2.pos
   match ← pyNext it with
   | none=>pure (.done .next)
   | some v =>
    letOwnedTupleGo t2 it v
    assign t2 env v
    let mut ok:=true
    for c in f2 do
     if ok then ok ← isTrue c env (eval c env)
    if ok then
     (do let _ ← call (.builtin "list.append") [acc,← eval elt env])
    again (.compLoop (.ListComp elt [⟨t1,i1,f1,0⟩,⟨t2,i2,f2,0⟩] sc pos) 1 it acc env)):=by rfl
theorem apm {prog:Program} {w:World} {A:Around} {R:Result->Shared->Prop} {s:Shared} {elt t1 i1 t2 i2:Expr} {f1 f2:List Expr} {sc:Scope} {pos:Pos} {it acc:Value} {env:Env}
  (h0:codeAny (model prog w) A (.compLoop (.ListComp elt [⟨t1,i1,f1,0⟩,⟨t2,i2,f2,0⟩] sc pos) 1 it acc env) R s)
  (h:wpAny (model prog w) A (pyIter it) (fun it' s'=>codeAny (model prog w) A (.compLoop (.ListComp elt [⟨t1,i1,f1,0⟩,⟨t2,i2,f2,0⟩] sc pos) 1 it' acc env) R s') (notedBy (model prog w) A env fun x s'=>R (.error x) s') s) :
  codeAny (model prog w) A (.compStart (.ListComp elt [⟨t1,i1,f1,0⟩,⟨t2,i2,f2,0⟩] sc pos) 1 it acc env) R s:=by
 refine codeAny_of_tree ?_
 show wpAny _ _ ((compStart (.ListComp elt [⟨t1,i1,f1,0⟩,⟨t2,i2,f2,0⟩] sc pos) 1 it acc env).onRaise (fun x=>do noteFrame x env;standAt theWindowsPlace)) _ _ s
 refine wpAny_notedAt ?_
 unfold compStart
 show wpAny _ _ (ask >>= _) _ _ s
 apply wpAny_bind;apply wpAny_askSetting;apply wpAny_ite;split
 ·first | exact wpAny_bind (wpAny_pure (wpAny_pure ⟨rfl,h0⟩)) | exact wpAny_pure ⟨rfl,h0⟩
 ·have q:wpAny (model prog w) A (pyIter it >>= fun it'=>again (.compLoop (.ListComp elt [⟨t1,i1,f1,0⟩,⟨t2,i2,f2,0⟩] sc pos) 1 it' acc env)) (fun fin s'=>match fin with | .done f=>R (.ok f) s' | .again c'=>c'.quiet=true/\codeAny (model prog w) A c' R s') (notedBy (model prog w) A env fun x s'=>R (.error x) s') s :=
   wpAny_bind (wpAny_mono h (fun it' s' h'=>wpAny_pure ⟨rfl,h'⟩) fun _ _ x=>x)
  first
   | exact wpAny_bind (wpAny_rule (wpAny_bind (wpAny_standAt (wpAny_bind (wpAny_mono h (fun it' s' h'=>wpAny_pure ⟨rfl,h'⟩) fun _ _ x=>x)))))
   | (apply wpAny_bind;apply wpAny_rule;show wpAny _ _ (standAt i2.pos >>= _) _ _ s;exact wpAny_bind (wpAny_standAt (wpAny_bind (wpAny_mono h (fun it' s' h'=>wpAny_pure ⟨rfl,h'⟩) fun _ _ x=>x))))
theorem aob {X:Cx} {elt t1 i1 tg iter:Expr} {f1 ifs:List Expr} {sc:Scope} {pos:Pos} {J:It} {fp:List Addr} {it:Addr} {tn:Nat->Heap->Prop} {g:TG} {tif:TT} {te:TE} {acc:Addr} {Qd:List V->St->Hp->Prop} {W:LW} {R:Result->Shared->Prop} {pins:List (Addr × Obj)}
  (T:Turn X.prog X.w X.K tg J fp it tn) (hc:X.calm=true) (hxe:∀ e s,¬ X.xe e s) (hg:PG X tg g) (hif:PIf X ifs tif) (he:PE X elt te)
  (turn:am3 J g tif te acc Qd W) (hR:∀ ys σ H s,Inv X pins σ H s->Qd ys σ H->R (.ok .next) s)
  {i m:Nat} {ys:List V} {σ:St} {H:Hp} {s:Shared} (I:Inv X pins σ H s) (st:tn i s.heap) (hf:∀ b∈fp,FpOk X pins H b) (w:W i m ys σ H) :
  codeAny (model X.prog X.w) X.A (.compLoop (.ListComp elt [⟨t1,i1,f1,0⟩,⟨tg,iter,ifs,0⟩] sc pos) 1 (.ref it) (.ref acc) X.env) R s:=by
 have stat:∀ {H':Hp},(∀ b∈fp,H' b=none)->∀ b∈fp,FpOk X pins H' b:=fun hn b hb=>⟨hn b hb,(hf b hb).2⟩
 refine codeAny_loop rfl (fun n s'=>∃ i ys σ' H',Inv X pins σ' H' s'/\tn i s'.heap/\(∀ b∈fp,H' b=none)/\W i n ys σ' H') ?_ m ⟨i,ys,σ,H,I,st,fun b hb=>(hf b hb).1,w⟩
 rintro n s1 ⟨i,ys,σ1,H1,I1,st1,fr1,w1⟩
 show wpAny _ X.A ((compTurn (.ListComp elt [⟨t1,i1,f1,0⟩,⟨tg,iter,ifs,0⟩] sc pos) 1 (.ref it) (.ref acc) X.env).onRaise (fun x=>do noteFrame x X.env;theTreesLotGoes x)) _ _ s1
 refine wpAny_noted ?_
 rw [ajn]
 refine wpAny_bind (wpAny_standAt (wpAny_bind ?_))
 obtain ⟨hacc,⟨stop,qd⟩ | ⟨go,Nx,hNx,step⟩⟩:=turn i n ys σ1 H1 w1
 ·refine thn (T.done X rfl rfl rfl hc i pins s1 σ1 H1 _ I1 (stat fr1) st1 stop) fun r s2 ⟨hr,I2⟩=>?_
  subst hr
  exact wpAny_pure (hR ys σ1 H1 s2 I2 qd)
 ·refine thn (T.item X rfl rfl rfl hc i pins s1 σ1 H1 _ I1 (stat fr1) st1 go) fun r s2 ⟨u,hr,h2⟩=>?_
  subst hr
  refine wpAny_bind (thn h2 fun _ s3 ⟨x,H3,I3,r3,y3,st3,fr3⟩=>?_)
  have I3':=I3.pinned (stat fr3) (T.obj _ _ st3)
  refine wpAny_bind (wpAny_mono (hg _ s3 σ1 H3 x u _ I3' r3 (step x H3 y3)) (fun _ s4 ⟨σ4,H4,I4,q4⟩=>?_) fun e s' z=>(hxe e s' z).elim)
  have back:∀ {σ7:St} {H7:Hp} {s7:Shared} {zs:List V},Inv X (pins ++ aef fp s3.heap) σ7 H7 s7->(∃ m',m' < n/\W (i+1) m' zs σ7 H7)->∃ m,m < n/\∃ i ys σ' H',Inv X pins σ' H' s7/\tn i s7.heap/\(∀ b∈fp,H' b=none)/\W i m ys σ' H':=fun {σ7 H7 s7 zs} I7 w7=>by
   obtain ⟨m',hm,w7⟩:=w7
   refine ⟨m',hm,i+1,zs,σ7,H7,I7.unpinned,T.keep _ _ _ st3 fun b hb o e=>(I7.pin (b,o) (List.mem_append_right _ (List.mem_append_right _ (ab1 hb e)))).1,fun b hb=>?_,w7⟩
   obtain ⟨o,e,d⟩:=T.obj _ _ st3 b hb
   exact (I7.pin (b,o) (List.mem_append_right _ (List.mem_append_right _ (ab1 hb e)))).2.1
  refine wpAny_bind (wpAny_mono (hif _ s4 σ4 H4 _ I4 q4) (fun b s5 ⟨H5,I5,q5⟩=>?_) fun e s' z=>(hxe e s' z).elim)
  cases b with
  | false =>
   rw [if_neg Bool.false_ne_true] at q5
   exact wpAny_pure ⟨rfl,back I5 (hNx _ _ _ q5)⟩
  | true =>
   rw [if_pos rfl] at q5
   refine wpAny_bind (wpAny_bind (wpAny_mono (he _ s5 σ4 H5 _ I5 q5) (fun yv s6 ⟨y,H6,I6,r6,a6,l6,w6⟩=>?_) fun e s' z=>(hxe e s' z).elim))
   have ap:=abb (X:=X) _ s6 σ4 H6 (.ref acc) [y] (.ref acc) [yv] (fun _ H'=>H'=upd H6 acc (.lst (ys ++ [y]))) I6 rfl (.cons r6 .nil) ⟨acc,ys,y,rfl,rfl,a6,l6,rfl⟩
   refine wpAny_bind (wpAny_mono ap (fun _ s7 ⟨v7,H7,I7,_,e7⟩=>?_) fun e s' z=>(hxe e s' z).elim)
   subst e7
   exact wpAny_pure (wpAny_pure ⟨rfl,back I7 (hNx _ _ _ w6)⟩)
theorem aoc {X:Cx} {elt t1 i1 t2 i2:Expr} {f1 f2:List Expr} {sc:Scope} {pos:Pos} {J:It} {fp:List Addr} {it:Addr} {tn:Nat->Heap->Prop} {g:TG} {tif:TT} {wi2:TI} {g2:TG} {tif2:TT} {te:TE} {acc:Addr} {Qd:List V->Hp->Prop} {W:LW} {R:Result->Shared->Prop}
  (T:Turn X.prog X.w X.K t1 J fp it tn) (hc:X.calm=true) (hxe:∀ e s,¬ X.xe e s) (hg:PG X t1 g) (hif:PIf X f1 tif) (hi2:PI X t2 i2 wi2) (hg2:PG X t2 g2) (hif2:PIf X f2 tif2) (he:PE X elt te)
  (hs2:∀ x,foldedSetIterable i2 X.env x=pure x)
  (turn:ah3 J g tif wi2 g2 tif2 te acc Qd W) (hR:∀ ys σ H s,Inv X [] σ H s->Qd ys H->R (.ok .next) s)
  {i m:Nat} {ys:List V} {σ:St} {H:Hp} {s:Shared} (I:Inv X [] σ H s) (st:tn i s.heap) (hf:∀ b∈fp,FpOk X [] H b) (w:W i m ys σ H) :
  codeAny (model X.prog X.w) X.A (.compLoop (.ListComp elt [⟨t1,i1,f1,0⟩,⟨t2,i2,f2,0⟩] sc pos) 0 (.ref it) (.ref acc) X.env) R s:=by
 have stat:∀ {H':Hp},(∀ b∈fp,H' b=none)->∀ b∈fp,FpOk X [] H' b:=fun hn b hb=>⟨hn b hb,(hf b hb).2⟩
 refine codeAny_loop rfl (fun n s'=>∃ i ys σ' H',Inv X [] σ' H' s'/\tn i s'.heap/\(∀ b∈fp,H' b=none)/\W i n ys σ' H') ?_ m ⟨i,ys,σ,H,I,st,fun b hb=>(hf b hb).1,w⟩
 rintro n s1 ⟨i,ys,σ1,H1,I1,st1,fr1,w1⟩
 show wpAny _ X.A ((compTurn (.ListComp elt [⟨t1,i1,f1,0⟩,⟨t2,i2,f2,0⟩] sc pos) 0 (.ref it) (.ref acc) X.env).onRaise (fun x=>do noteFrame x X.env;theTreesLotGoes x)) _ _ s1
 refine wpAny_noted ?_
 rw [ajm]
 refine wpAny_bind (wpAny_standAt (wpAny_bind ?_))
 obtain ⟨stop,qd⟩ | ⟨go,Nx,hNx,step⟩:=turn i n ys σ1 H1 w1
 ·refine thn (T.done X rfl rfl rfl hc i [] s1 σ1 H1 _ I1 (stat fr1) st1 stop) fun r s2 ⟨hr,I2⟩=>?_
  subst hr
  exact wpAny_pure (hR ys σ1 H1 s2 I2 qd)
 ·refine thn (T.item X rfl rfl rfl hc i [] s1 σ1 H1 _ I1 (stat fr1) st1 go) fun r s2 ⟨u,hr,h2⟩=>?_
  subst hr
  refine wpAny_bind (thn h2 fun _ s3 ⟨x,H3,I3,r3,y3,st3,fr3⟩=>?_)
  have I3':=I3.pinned (stat fr3) (T.obj _ _ st3)
  refine wpAny_bind (wpAny_mono (hg _ s3 σ1 H3 x u _ I3' r3 (step x H3 y3)) (fun _ s4 ⟨σ4,H4,I4,q4⟩=>?_) fun e s' z=>(hxe e s' z).elim)
  have back:∀ {σ7:St} {H7:Hp} {s7:Shared} {zs:List V},Inv X ([] ++ aef fp s3.heap) σ7 H7 s7->(∃ m',m' < n/\W (i+1) m' zs σ7 H7)->∃ m,m < n/\∃ i ys σ' H',Inv X [] σ' H' s7/\tn i s7.heap/\(∀ b∈fp,H' b=none)/\W i m ys σ' H':=fun {σ7 H7 s7 zs} I7 w7=>by
   obtain ⟨m',hm,w7⟩:=w7
   refine ⟨m',hm,i+1,zs,σ7,H7,I7.unpinned,T.keep _ _ _ st3 fun b hb o e=>(I7.pin (b,o) (List.mem_append_right _ (List.mem_append_right _ (ab1 hb e)))).1,fun b hb=>?_,w7⟩
   obtain ⟨o,e,d⟩:=T.obj _ _ st3 b hb
   exact (I7.pin (b,o) (List.mem_append_right _ (List.mem_append_right _ (ab1 hb e)))).2.1
  refine wpAny_bind (wpAny_mono (hif _ s4 σ4 H4 _ I4 q4) (fun b s5 ⟨H5,I5,q5⟩=>?_) fun e s' z=>(hxe e s' z).elim)
  cases b with
  | false =>
   rw [if_neg Bool.false_ne_true] at q5
   exact wpAny_pure ⟨rfl,back I5 (hNx _ _ _ q5)⟩
  | true =>
   rw [if_pos rfl] at q5
   refine wpAny_bind (wpAny_mono (hi2 _ s5 σ4 H5 _ I5 q5) (fun xv s6 h6=>?_) fun e s' z=>(hxe e s' z).elim)
   refine wpAny_bind (wpAny_standAt (wpAny_bind ?_))
   rw [hs2 xv]
   refine wpAny_pure (wpAny_bind (wpAny_holding (wpAny_mono h6 (fun itv s7 h7=>?_) fun e s' z=>(hxe e s' z).elim)))
   obtain ⟨it2,fp2,tn2,J2,H7,e,I7,T2,st2,f2',W2,⟨m2,w2⟩,turn2⟩:=h7
   subst e
   refine wpAny_bind (wpAny_runOwn ?_)
   have loop:=aob (R:=fun r s'=>match r with | .ok f=>(∃ m,m < n/\∃ i ys σ' H',Inv X [] σ' H' s'/\tn i s'.heap/\(∀ b∈fp,H' b=none)/\W i m ys σ' H') | .error e=>False) (t1:=t1) (i1:=i1) (f1:=f1) (iter:=i2) (sc:=sc) (pos:=pos) T2 hc hxe hg2 hif2 he turn2 (fun ys' σ8 H8 s8 I8 q8=>back I8 (hNx _ _ _ q8)) I7 st2 f2' w2
   have st:=apm loop (T2.self _ 0 _ _ _ st2 loop)
   refine codeAny_mono st fun r s' h=>?_
   cases r with
   | error e=>exact h.elim
   | ok f=>exact wpAny_pure ⟨rfl,h⟩
def tLC2 (src:List (Option Nat)) (wi:TI) (g:TG) (tif:TT) (wi2:TI) (g2:TG) (tif2:TT) (te:TE):TE:=fun σ H Q=>wi σ H fun J H1=>∀ acc,H1 acc=none->∃ W:LW,(∃ m,W 0 m [] (pick src σ) (upd H1 acc (.lst [])))/\ah3 J g tif wi2 g2 tif2 te acc (fun _ H'=>Q (.ref acc) H') W
section
variable {X:Cx} {N:List Str} {t1 i1 t2 i2 elt:Expr} {f1 f2:List Expr} {sc:Scope} {src:List (Option Nat)} {wi wi2:TI} {g g2:TG} {tif tif2:TT} {te:TE} {pos:Pos}
theorem akz (hc:X.calm=true) (L:LcOk X N sc src) (hg:∀ C s0 H0 ex,PG (X.comp N sc C s0 H0 ex) t1 g) (hif:∀ C s0 H0 ex,PIf (X.comp N sc C s0 H0 ex) f1 tif) (hi2:∀ C s0 H0 ex,PI (X.comp N sc C s0 H0 ex) t2 i2 wi2) (hg2:∀ C s0 H0 ex,PG (X.comp N sc C s0 H0 ex) t2 g2) (hif2:∀ C s0 H0 ex,PIf (X.comp N sc C s0 H0 ex) f2 tif2) (he:∀ C s0 H0 ex,PE (X.comp N sc C s0 H0 ex) elt te)
  (hs2:∀ C s0 H0 ex x,foldedSetIterable i2 (X.comp N sc C s0 H0 ex).env x=pure x)
  {pins:List (Addr × Obj)} {s3:Shared} {σ:St} {H3:Hp} {Q:VK} (I3:Inv X pins σ H3 s3) {it acc:Addr} {fp:List Addr} {J:It} {tn:Nat->Heap->Prop} (T:Turn X.prog X.w X.K t1 J fp it tn) (st3:tn 0 s3.heap) (f3:∀ b∈fp,FpOk X pins H3 b)
  {W:LW} {m0:Nat} (w0:W 0 m0 [] (pick src σ) H3) (turn:ah3 J g tif wi2 g2 tif2 te acc (fun _ H'=>Q (.ref acc) H') W) (use:Option (Value->Sem Unit)) (P:Value->Shared->Prop)
  (hP:∀ C H' s' m,Inv X pins σ H' s'->Q (.ref acc) H'->s'.heap.Ns C m->H' C=none->C ≠ X.env.locals->(C∈X.ex\/X.s₀.heap.objs.size<=C)->(∀ x c,X.env.cells.lookup x=some c->c ≠ C)->(∀ p∈X.pn ++ pins,p.1 ≠ C) ->
   compPost (model X.prog X.w) X.A X.xe use P (.ref acc) C (.ok .next) s') :
  wpAny (model X.prog X.w) X.A (newFunctionEnv sc X.env.globals (clos X.env sc.names []) [] X.env.qual none .none (some X.env)) (fun cenv s₄ =>
    codeAny (model X.prog X.w) X.A (.compStart (.ListComp elt [⟨t1,i1,f1,0⟩,⟨t2,i2,f2,0⟩] sc pos) 0 (.ref it) (.ref acc) { cenv with scope:=relabel sc X.env }) (compPost (model X.prog X.w) X.A X.xe use P (.ref acc) cenv.locals) s₄) X.xe s3:=by
 refine wpAny_newFunctionEnv L.nocell (by intro y hy;simp at hy) (fun h4 hns4 hsb4=>?_) L.kind
 have szf:∀ b∈fp,b < s3.heap.objs.size:=fun b hb=>by
  obtain ⟨o,ho,_⟩:=T.obj _ _ st3 b hb
  exact Heap.lt_size ho
 have k34:∀ b o,s3.heap.get? b=some o->h4.get? b=some o:=fun b o e=>hsb4.extBut b o (Nat.ne_of_lt (Heap.lt_size e)) (Heap.get?_push_of_some _ e)
 have I4:=akx (t':=s3.toks+([]:List (Str × Value)).length) L I3 f3 szf (by simpa using hns4) k34
 have st4:tn 0 h4:=T.keep _ _ _ st3 fun b _ o e=>k34 b o e
 have f4:∀ b∈fp,FpOk (X.comp N sc s3.heap.objs.size s3 H3 fp) [] H3 b:=fun b hb =>
  ⟨(f3 b hb).1,(I4.ok.exf b hb).1,I4.ok.exfs b hb,.inl hb,(I4.ok.exf b hb).2,fun p hp=>absurd (show p∈([]:List (Addr × Obj)) from hp) (by simp)⟩
 have fin:∀ (ys:List V) σ' H' s',Inv (X.comp N sc s3.heap.objs.size s3 H3 fp) [] σ' H' s'->Q (.ref acc) H'->compPost (model X.prog X.w) X.A X.xe use P (.ref acc) s3.heap.objs.size (.ok .next) s':=fun ys σ' H' s' J' q'=>by
  have Jo:Inv X pins σ H' s':=I3.call' (ch:=fp) J'.os J'.base J'.hok J'.bare fun b hb=>⟨(f3 b hb).2.2.2.1,(f3 b hb).2.1,(f3 b hb).2.2.2.2.1,(f3 b hb).2.2.2.2.2⟩
  obtain ⟨m,hn,_⟩:=J'.loc
  refine hP _ H' s' m Jo q' hn J'.free (Nat.ne_of_gt I3.lt) (.inr I3.sz) (fun x c e z=>?_) fun p hp z=>?_
  ·obtain ⟨v,o,ho,_⟩:=I3.cell x c e
   exact absurd (Heap.lt_size ho) (by rw [z];exact Nat.lt_irrefl _)
  ·exact absurd (Heap.lt_size (I3.pin p hp).1) (by rw [z];exact Nat.lt_irrefl _)
 have loop:codeAny (model X.prog X.w) X.A (.compLoop (.ListComp elt [⟨t1,i1,f1,0⟩,⟨t2,i2,f2,0⟩] sc pos) 0 (.ref it) (.ref acc) (X.comp N sc s3.heap.objs.size s3 H3 fp).env)
   (compPost (model X.prog X.w) X.A X.xe use P (.ref acc) s3.heap.objs.size) { s3 with heap:=h4,toks:=s3.toks+([]:List (Str × Value)).length } :=
  aoc (X:=X.comp N sc s3.heap.objs.size s3 H3 fp) T hc (fun _ _ z=>z) (hg _ _ _ _) (hif _ _ _ _) (hi2 _ _ _ _) (hg2 _ _ _ _) (hif2 _ _ _ _) (he _ _ _ _) (hs2 _ _ _ _) turn fin I4 st4 f4 w0
 exact codeAny_compStart_list loop (T.self _ 0 _ _ _ st4 loop)
theorem awn (hc:X.calm=true) (L:LcOk X N sc src) (hi:PI X t1 i1 wi) (hg:∀ C s0 H0 ex,PG (X.comp N sc C s0 H0 ex) t1 g) (hif:∀ C s0 H0 ex,PIf (X.comp N sc C s0 H0 ex) f1 tif) (hi2:∀ C s0 H0 ex,PI (X.comp N sc C s0 H0 ex) t2 i2 wi2) (hg2:∀ C s0 H0 ex,PG (X.comp N sc C s0 H0 ex) t2 g2) (hif2:∀ C s0 H0 ex,PIf (X.comp N sc C s0 H0 ex) f2 tif2) (he:∀ C s0 H0 ex,PE (X.comp N sc C s0 H0 ex) elt te)
  (hs:∀ x,foldedSetIterable i1 X.env x=pure x:=by intro _;rfl) (hs2:∀ C s0 H0 ex x,foldedSetIterable i2 (X.comp N sc C s0 H0 ex).env x=pure x:=by intros;rfl):PE X (.ListComp elt [⟨t1,i1,f1,0⟩,⟨t2,i2,f2,0⟩] sc pos) (tLC2 src wi g tif wi2 g2 tif2 te):=by
 intro pins s σ H Q I h
 rw [eval_ListComp]
 refine wpAny_comprehension_free rfl hs (L.clo I.ok) L.kind L.own (thn (hi pins s σ H _ I h) fun v s1 h1=>thn h1 fun itv s2 h2=>?_)
 obtain ⟨it,fp,tn,J,H2,e,I2,T,st2,f2',q2⟩:=h2
 subst e
 have hacc:H2 s2.heap.objs.size=none:=I2.hok.fresh (Nat.le_refl _)
 obtain ⟨W,⟨m0,w0⟩,turn⟩:=q2 s2.heap.objs.size hacc
 have szf:∀ b∈fp,b < s2.heap.objs.size:=fun b hb=>by
  obtain ⟨o,ho,_⟩:=T.obj _ _ st2 b hb
  exact Heap.lt_size ho
 refine wpAny_newObj_type ?_
 refine akz (pins:=pins) hc L hg hif hi2 hg2 hif2 he hs2 (H3:=upd H2 s2.heap.objs.size (.lst [])) ?_ T ?_ ?_ w0 turn none _ ?_
 ·exact I2.laid (t':=s2.toks) (fun b u e=>Heap.get?_push_of_some _ e) (Nat.le_refl _) ⟨Nat.zero_le _,[],0,.nil,Heap.get?_push_size _ rfl⟩
 ·exact T.keep _ _ _ st2 fun b _ o e=>Heap.get?_push_of_some _ e
 ·exact fun b hb=>⟨by rw [aag (Nat.ne_of_lt (szf b hb))];exact (f2' b hb).1,(f2' b hb).2⟩
 ·intro C H' s' m J q hn hC hL hx hcl hp
  refine ⟨m,hn,fun h' sb=>⟨.ref s2.heap.objs.size,H',?_,rfl,q⟩⟩
  exact J.turned (t':=s'.toks) (fun b o hb e=>sb.extBut b o hb e) hC hL hx hcl hp
end
theorem afj {env:Env} {x x0:Str}:∀ {names:List (Str × NameKind)},(∀ y∈names,y.2=.cell->y.1=x0) ->
  ((names.map fun (n,k)=>if (k == NameKind.free && env.scope.kind == .function && env.kindOf n == some .cell) then (n,NameKind.cell) else (n,k)).lookup x=some .cell ∨
   (names.map fun (n,k)=>if (k == NameKind.free && env.scope.kind == .function && env.kindOf n == some .cell) then (n,NameKind.cell) else (n,k)).lookup x=some .free)->x=x0\/names.lookup x=some .free
 | [],_,h=>by rcases h with h | h <;> simp at h
 | (n,k) :: r,hc,h=>by
  have ih:=@afj env x x0 r fun y hy=>hc y (List.mem_cons_of_mem _ hy)
  rw [List.lookup_cons]
  simp only [List.map_cons] at h
  by_cases hq:(k == NameKind.free && env.scope.kind == .function && env.kindOf n == some .cell)=true
  ·rw [if_pos hq] at h
   have ek:k=NameKind.free:=by
    have:=hq;simp only [Bool.and_eq_true] at this;simpa using this.1.1
   subst ek
   cases hx:(x == n) with
   | true=>exact .inr rfl
   | false=>simp only [List.lookup_cons,hx] at h;exact ih h
  ·rw [if_neg hq] at h
   cases hx:(x == n) with
   | true =>
    simp only [List.lookup_cons,hx] at h
    rcases h with h | h
    ·cases h
     exact .inl ((beq_iff_eq.mp hx).trans (hc (n,NameKind.cell) List.mem_cons_self rfl))
    ·exact .inr h
   | false=>simp only [List.lookup_cons,hx] at h;exact ih h
noncomputable def Cx.compC (X:Cx) (N:List Str) (sc:Scope) (x0:Str) (C:Addr) (s0:Shared) (H0:Hp) (ex:List Addr):Cx where
 prog:=X.prog
 w:=X.w
 K:=X.K
 mg:=X.mg
 base:=X.base
 A:=X.A
 N:=N
 s₀:=s0
 H₀:=H0
 env:=compEnvC sc ((x0,C+1) :: clos X.env sc.names []) C X.env
 outer:=X.stack
 stack:=X.stack
 ex:=ex
 fn:=fun x=>x == x0
 calm:=X.calm
 pn:=[]
 xe:=fun _ _=>False
structure LcOkC (X:Cx) (N:List Str) (sc:Scope) (src:List (Option Nat)) (x0:Str):Prop where
 kind:sc.kind=.function
 cells:∀ a cl,cellsFrom a sc.names cl=(x0,a) :: cl
 push:∀ h,pushCells h sc.names=h.push { cls:=.type "cell",data:=.cell none }
 only:∀ y∈sc.names,y.2=.cell->y.1=x0
 own:∀ y∈sc.names,y.2=.local->sc.names.lookup y.1=some .local
 outs:∀ y∈sc.names,y.2=.free->X.env.kindOf y.1=some .cell\/X.env.kindOf y.1=some .free
 nof:∀ y∈sc.names,y.2=.free->y.1 ≠ x0
 len:src.length=N.length
 from':∀ (i j:Nat),src[i]?=some (some j)->∃ x,N[i]?=some x/\X.N[j]?=some x/\sc.names.lookup x=some .free
theorem LcOkC.clo {X:Cx} {N:List Str} {sc:Scope} {src:List (Option Nat)} {x0:Str} (L:LcOkC X N sc src x0) (ok:X.Ok):closureFor sc X.env=pure (clos X.env sc.names []) :=
 aem fun n hn=>ok.has n (L.outs (n,.free) hn rfl)
theorem apn {X:Cx} {pins:List (Addr × Obj)} {σ:St} {H:Hp} {s:Shared} {N:List Str} {sc:Scope} {src:List (Option Nat)} {x0:Str} {fp:List Addr} {h1:Heap} {t':Nat}
  (L:LcOkC X N sc src x0) (I:Inv X pins σ H s) (hf:∀ b∈fp,FpOk X pins H b) (ho:∀ b∈fp,b < s.heap.objs.size)
  (hn:h1.Ns s.heap.objs.size fun _=>none) (hk:∀ b o,s.heap.get? b=some o->h1.get? b=some o) (hcl:h1.IsCell (s.heap.objs.size+1) none) :
  Inv (X.compC N sc x0 s.heap.objs.size s H fp) [] (pick src σ) H { s with heap:=h1,toks:=t' }:=by
 have look0:∀ {x c},(clos X.env sc.names []).lookup x=some c->X.env.cells.lookup x=some c:=fun {x c} e=>by
  rcases ads e with z | z
  ·exact z
  ·simp at z
 have look:∀ {x c},(((x0,s.heap.objs.size+1) :: clos X.env sc.names []:List (Str × Addr))).lookup x=some c->(x=x0/\c=s.heap.objs.size+1)\/(X.env.cells.lookup x=some c/\(clos X.env sc.names []).lookup x=some c/\x ≠ x0):=fun {x c} e=>by
  rw [List.lookup_cons] at e
  cases hx:(x == x0) with
  | true=>rw [hx] at e;cases e;exact .inl ⟨beq_iff_eq.mp hx,rfl⟩
  | false=>rw [hx] at e;exact .inr ⟨look0 e,e,fun z=>by rw [z] at hx;simp at hx⟩
 have old:∀ {x c},X.env.cells.lookup x=some c->c < s.heap.objs.size:=fun {x c} e=>by
  obtain ⟨v,o,ho,_⟩:=I.cell x c e
  exact Heap.lt_size ho
 have neL:∀ {x c},x ≠ x0->(clos X.env sc.names []).lookup x=some c->(((x0,s.heap.objs.size+1) :: clos X.env sc.names []:List (Str × Addr))).lookup x=some c:=fun {x c} hx e=>by
  rw [List.lookup_cons,show (x == x0)=false by simpa using hx];exact e
 refine ⟨⟨I.ok.mod,L.kind,I.ok.glob,I.ok.blt,Nat.le_refl _,fun x y c e1 e2=>?_,fun x hx=>?_,fun x c z e=>?_,I.ok.hd,I.ok.frames,.inl rfl,fun b hb=>⟨?_,fun x c e=>?_⟩,I.bs,Nat.le_trans I.ok.bsz I.sz,fun b o e hb=>?_,fun b hb z=>?_,I.stack,I.stkFree⟩,
  rfl,I.bare,Un.kept hk,⟨_,hn,fun i x v e1 e2 e3=>?_⟩,fun x c e=>?_,I.hok.fresh (Nat.le_refl _),fun x c e=>?_,fun p hp=>?_,I.hok.kept hk,?_⟩
 ·rcases look e1 with ⟨a1,b1⟩ | ⟨a1,_,_⟩ <;> rcases look e2 with ⟨a2,b2⟩ | ⟨a2,_,_⟩
  ·rw [a1,a2]
  ·exact absurd (old a2) (by rw [b1];exact Nat.not_lt.mpr (Nat.le_succ _))
  ·exact absurd (old a1) (by rw [b2];exact Nat.not_lt.mpr (Nat.le_succ _))
  ·exact I.ok.inj x y c a1 a2
 ·rcases afj (env:=X.env) (x:=x) L.only hx with q | q
  ·exact ⟨s.heap.objs.size+1,by rw [q];show List.lookup x0 ((x0,_) :: _)=_;rw [List.lookup_cons];simp⟩
  ·obtain ⟨c,e⟩:=acy (I.ok.has x (L.outs (x,.free) (PySem.mem_of_lookup q) rfl)) (PySem.mem_of_lookup q) (cs:=[])
   exact ⟨c,neL (L.nof (x,.free) (PySem.mem_of_lookup q) rfl) e⟩
 ·rcases look e with ⟨_,b⟩ | ⟨_,_,hne⟩
  ·rw [b];exact Nat.le_succ _
  ·exact absurd (beq_iff_eq.mp z) hne
 ·exact Nat.ne_of_lt (ho b hb)
 ·rcases look e with ⟨_,b'⟩ | ⟨a,_,_⟩
  ·rw [b'];exact Nat.ne_of_gt (Nat.lt_succ_of_lt (ho b hb))
  ·exact (hf b hb).2.2.2.2.1 x c a
 ·rcases (hf b hb).2.2.2.1 with z | z
  ·exact I.ok.noex b o e z
  ·exact absurd (Nat.lt_of_lt_of_le (Heap.lt_size e) (Nat.le_trans I.ok.bsz z)) (Nat.lt_irrefl _)
 ·rcases List.mem_cons.mp (I.stkSub b z) with q | q
  ·exact (hf b hb).2.1 q
  ·exact (hf b hb).2.2.1 q
 ·unfold pick at e2
  rw [List.getElem?_map] at e2
  cases q:src[i]? with
  | none=>rw [q] at e2;cases e2
  | some o =>
   rw [q] at e2
   cases o with
   | none=>cases e2
   | some j =>
    obtain ⟨y,n1,n2,n3⟩:=L.from' i j q
    have e1':N[i]?=some x:=e1
    rw [e1'] at n1
    cases n1
    have ej : σ[j]?=some (some v):=by
     cases q2 : σ[j]? with
     | none=>simp [q2] at e2
     | some z=>simp [q2] at e2;rw [e2]
    have ho:=L.outs (x,.free) (PySem.mem_of_lookup n3) rfl
    have vis:Vis X.env.scope x:=by
     rcases ho with z | z
     ·exact .inr (.inl z)
     ·exact .inr (.inr z)
    obtain ⟨m,_,hl⟩:=I.loc
    obtain ⟨u,r,l⟩:=hl j x v n2 ej vis
    refine ⟨u,r,.inr ⟨?_,?_⟩⟩
    ·exact ade (env:=X.env) n3
    ·rcases l with ⟨z,_⟩ | ⟨_,c,hc,oc,hoc,hd⟩
     ·rcases ho with z' | z' <;> (rw [z'] at z;cases z)
     ·obtain ⟨c',e'⟩:=acy (env:=X.env) ⟨c,hc⟩ (PySem.mem_of_lookup n3) (cs:=[])
      have:=look0 e'
      rw [hc] at this;cases this
      exact ⟨c,neL (L.nof (x,.free) (PySem.mem_of_lookup n3) rfl) e',oc,hk c oc hoc,hd⟩
 ·rcases look e with ⟨_,b⟩ | ⟨a,_,_⟩
  ·rw [b];exact ⟨none,hcl⟩
  ·obtain ⟨v,oc,hoc,hd⟩:=I.cell x c a
   exact ⟨v,oc,hk c oc hoc,hd⟩
 ·rcases look e with ⟨_,b⟩ | ⟨a,_,_⟩
  ·rw [b];exact I.hok.fresh (Nat.le_succ _)
  ·exact I.freeC x c a
 ·exact absurd (show p∈([]:List (Addr × Obj)) from hp) (by simp)
 ·show (pick src σ).length=N.length
  unfold pick
  rw [List.length_map]
  exact L.len
theorem ah4 {sc:Scope} {x0:Str} {g:Addr} {cl:List (Str × Addr)} {qual:Str} {outer:Env} {M:Model} {A:Around} {E:Value->Shared->Prop} {s:Shared} {Q:Env->Shared->Prop}
  (hc:∀ a cl,cellsFrom a sc.names cl=(x0,a) :: cl) (hp:∀ h,pushCells h sc.names=h.push { cls:=.type "cell",data:=.cell none })
  (h:∀ h',h'.Ns s.heap.objs.size (fun _=>none)->(∀ b o,s.heap.get? b=some o->h'.get? b=some o)->h'.IsCell (s.heap.objs.size+1) none ->
   Q { scope:=sc,locals:=s.heap.objs.size,globals:=g,cells:=(x0,s.heap.objs.size+1) :: cl,qual:=qual,func:=none,code:=outer.code,frame:=outer.frame,builtins:=outer.builtins } { s with heap:=h' }) :
  wpAny M A (newFunctionEnv sc g cl [] qual none .none (some outer)) Q E s:=by
 simp only [newFunctionEnv,Option.isSome_some,if_true]
 refine wpAny_bind (wpAny_alloc ?_)
 refine wpAny_bind (wpAny_layCells _ (fun name kind cells=>by cases hkc:kind == NameKind.cell <;> simp [hkc]) _ _ _ _ ?_)
 rw [hc,hp]
 rw [show ({ s with heap:=s.heap.push { cls:=.type "dict",data:=.dict #[] } }:Shared).heap.objs.size=s.heap.objs.size+1 from Heap.size_push ..]
 simp only [List.forIn_nil,pure_bind]
 refine wpAny_pure ?_
 have hsz:(s.heap.push { cls:=.type "dict",data:=.dict #[] }).objs.size=s.heap.objs.size+1:=Heap.size_push ..
 refine h _ ((Heap.Ns.new s.heap (.type "dict")).keeps fun b o e=>Heap.get?_push_of_some _ e) (fun b o e=>Heap.get?_push_of_some _ (Heap.get?_push_of_some _ e)) ?_
 rw [← hsz]
 exact ⟨_,Heap.get?_push_size _ rfl,rfl⟩
section
variable {X:Cx} {N:List Str} {tg iter elt:Expr} {ifs:List Expr} {sc:Scope} {src:List (Option Nat)} {x0:Str} {wi:TI} {g:TG} {tif:TT} {te:TE} {pos:Pos}
theorem ark (hc:X.calm=true) (L:LcOkC X N sc src x0) (hg:∀ C s0 H0 ex,PG (X.compC N sc x0 C s0 H0 ex) tg g) (hif:∀ C s0 H0 ex,PIf (X.compC N sc x0 C s0 H0 ex) ifs tif) (he:∀ C s0 H0 ex,PE (X.compC N sc x0 C s0 H0 ex) elt te)
  {pins:List (Addr × Obj)} {s3:Shared} {σ:St} {H3:Hp} {Q:VK} (I3:Inv X pins σ H3 s3) {it acc:Addr} {fp:List Addr} {J:It} {tn:Nat->Heap->Prop} (T:Turn X.prog X.w X.K tg J fp it tn) (st3:tn 0 s3.heap) (f3:∀ b∈fp,FpOk X pins H3 b)
  {W:LW} {m0:Nat} (w0:W 0 m0 [] (pick src σ) H3) (turn:aha J g tif te acc (fun _ H'=>Q (.ref acc) H') W) (use:Option (Value->Sem Unit)) (P:Value->Shared->Prop)
  (hP:∀ C H' s' m,Inv X pins σ H' s'->Q (.ref acc) H'->s'.heap.Ns C m->H' C=none->C ≠ X.env.locals->(C∈X.ex\/X.s₀.heap.objs.size<=C)->(∀ x c,X.env.cells.lookup x=some c->c ≠ C)->(∀ p∈X.pn ++ pins,p.1 ≠ C) ->
   compPost (model X.prog X.w) X.A X.xe use P (.ref acc) C (.ok .next) s') :
  wpAny (model X.prog X.w) X.A (newFunctionEnv sc X.env.globals (clos X.env sc.names []) [] X.env.qual none .none (some X.env)) (fun cenv s₄ =>
    codeAny (model X.prog X.w) X.A (.compStart (.ListComp elt [⟨tg,iter,ifs,0⟩] sc pos) 0 (.ref it) (.ref acc) { cenv with scope:=relabel sc X.env }) (compPost (model X.prog X.w) X.A X.xe use P (.ref acc) cenv.locals) s₄) X.xe s3:=by
 refine ah4 L.cells L.push fun h4 hns4 k34 hcl4=>?_
 have szf:∀ b∈fp,b < s3.heap.objs.size:=fun b hb=>by
  obtain ⟨o,ho,_⟩:=T.obj _ _ st3 b hb
  exact Heap.lt_size ho
 have I4:=apn (t':=s3.toks) L I3 f3 szf hns4 k34 hcl4
 have st4:tn 0 h4:=T.keep _ _ _ st3 fun b _ o e=>k34 b o e
 have f4:∀ b∈fp,FpOk (X.compC N sc x0 s3.heap.objs.size s3 H3 fp) [] H3 b:=fun b hb =>
  ⟨(f3 b hb).1,(I4.ok.exf b hb).1,I4.ok.exfs b hb,.inl hb,(I4.ok.exf b hb).2,fun p hp=>absurd (show p∈([]:List (Addr × Obj)) from hp) (by simp)⟩
 have fin:∀ (ys:List V) σ' H' s',Inv (X.compC N sc x0 s3.heap.objs.size s3 H3 fp) [] σ' H' s'->Q (.ref acc) H'->compPost (model X.prog X.w) X.A X.xe use P (.ref acc) s3.heap.objs.size (.ok .next) s':=fun ys σ' H' s' J' q'=>by
  have Jo:Inv X pins σ H' s':=I3.call' (ch:=fp) J'.os J'.base J'.hok J'.bare fun b hb=>⟨(f3 b hb).2.2.2.1,(f3 b hb).2.1,(f3 b hb).2.2.2.2.1,(f3 b hb).2.2.2.2.2⟩
  obtain ⟨m,hn,_⟩:=J'.loc
  refine hP _ H' s' m Jo q' hn J'.free (Nat.ne_of_gt I3.lt) (.inr I3.sz) (fun x c e z=>?_) fun p hp z=>?_
  ·obtain ⟨v,o,ho,_⟩:=I3.cell x c e
   exact absurd (Heap.lt_size ho) (by rw [z];exact Nat.lt_irrefl _)
  ·exact absurd (Heap.lt_size (I3.pin p hp).1) (by rw [z];exact Nat.lt_irrefl _)
 have loop:codeAny (model X.prog X.w) X.A (.compLoop (.ListComp elt [⟨tg,iter,ifs,0⟩] sc pos) 0 (.ref it) (.ref acc) (X.compC N sc x0 s3.heap.objs.size s3 H3 fp).env)
   (compPost (model X.prog X.w) X.A X.xe use P (.ref acc) s3.heap.objs.size) { s3 with heap:=h4 } :=
  ai0 (X:=X.compC N sc x0 s3.heap.objs.size s3 H3 fp) T hc (fun _ _ z=>z) (hg _ _ _ _) (hif _ _ _ _) (he _ _ _ _) turn fin I4 st4 f4 w0
 exact codeAny_compStart_list loop (T.self _ 0 _ _ _ st4 loop)
theorem awo (hc:X.calm=true) (L:LcOkC X N sc src x0) (hi:PI X tg iter wi) (hg:∀ C s0 H0 ex,PG (X.compC N sc x0 C s0 H0 ex) tg g) (hif:∀ C s0 H0 ex,PIf (X.compC N sc x0 C s0 H0 ex) ifs tif) (he:∀ C s0 H0 ex,PE (X.compC N sc x0 C s0 H0 ex) elt te)
  (hs:∀ x,foldedSetIterable iter X.env x=pure x:=by intro _;rfl):PE X (.ListComp elt [⟨tg,iter,ifs,0⟩] sc pos) (tLC src wi g tif te):=by
 intro pins s σ H Q I h
 rw [eval_ListComp]
 refine wpAny_comprehension_free rfl hs (L.clo I.ok) L.kind L.own (thn (hi pins s σ H _ I h) fun v s1 h1=>thn h1 fun itv s2 h2=>?_)
 obtain ⟨it,fp,tn,J,H2,e,I2,T,st2,f2,q2⟩:=h2
 subst e
 have hacc:H2 s2.heap.objs.size=none:=I2.hok.fresh (Nat.le_refl _)
 obtain ⟨W,⟨m0,w0⟩,turn⟩:=q2 s2.heap.objs.size hacc
 have szf:∀ b∈fp,b < s2.heap.objs.size:=fun b hb=>by
  obtain ⟨o,ho,_⟩:=T.obj _ _ st2 b hb
  exact Heap.lt_size ho
 refine wpAny_newObj_type ?_
 refine ark (pins:=pins) hc L hg hif he (H3:=upd H2 s2.heap.objs.size (.lst [])) ?_ T ?_ ?_ w0 turn none _ (fun C H' s' m J q hn hC hL hx hcl hp=>?_)
 ·exact I2.laid (t':=s2.toks) (fun b u e=>Heap.get?_push_of_some _ e) (Nat.le_refl _) ⟨Nat.zero_le _,[],0,.nil,Heap.get?_push_size _ rfl⟩
 ·exact T.keep _ _ _ st2 fun b _ o e=>Heap.get?_push_of_some _ e
 ·exact fun b hb=>⟨by rw [aag (Nat.ne_of_lt (szf b hb))];exact (f2 b hb).1,(f2 b hb).2⟩
 ·refine ⟨m,hn,fun h' sb=>⟨.ref _,H',?_,rfl,q⟩⟩
  exact J.turned (t':=s'.toks) (fun b o hb e=>sb.extBut b o hb e) hC hL hx hcl hp
end
theorem arl {X:Cx} {N:List Str} {sc:Scope} {src:List (Option Nat)} {x0:Str} (h1:sc.kind=.function) (hc:∀ a cl,cellsFrom a sc.names cl=(x0,a) :: cl) (hp:∀ h,pushCells h sc.names=h.push { cls:=.type "cell",data:=.cell none })
  (h2:sc.names.all (fun y=>y.2 != .cell || y.1 == x0)=true) (h3:sc.names.all (fun y=>y.2 != .local || sc.names.lookup y.1 == some .local)=true)
  (h4:sc.names.all (fun y=>y.2 != .free || X.env.kindOf y.1 == some .cell || X.env.kindOf y.1 == some .free)=true) (h7:sc.names.all (fun y=>y.2 != .free || y.1 != x0)=true) (h5:src.length=N.length)
  (h6:(List.range src.length).all (fun i=>match src[i]? with | some (some j)=>(match N[i]?,X.N[j]? with | some x,some y=>x == y && sc.names.lookup x == some .free | _,_=>false) | _=>true)=true):LcOkC X N sc src x0:=by
 refine ⟨h1,hc,hp,fun y hy e=>?_,fun y hy e=>?_,fun y hy e=>?_,fun y hy e=>?_,h5,fun i j e=>?_⟩
 ·have:=List.all_eq_true.mp h2 y hy
  rw [e] at this
  simpa using this
 ·have:=List.all_eq_true.mp h3 y hy
  rw [e] at this
  simpa using this
 ·have:=List.all_eq_true.mp h4 y hy
  rw [e] at this
  simpa using this
 ·have:=List.all_eq_true.mp h7 y hy
  rw [e] at this
  simpa using this
 ·have hi:i < src.length:=(List.getElem?_eq_some_iff.mp e).1
  have:=List.all_eq_true.mp h6 i (List.mem_range.mpr hi)
  simp only [e] at this
  cases hN:N[i]? with
  | none=>rw [hN] at this;simp at this
  | some x =>
   cases hX:X.N[j]? with
   | none=>rw [hN,hX] at this;simp at this
   | some y =>
    rw [hN,hX] at this
    simp only [Bool.and_eq_true,beq_iff_eq] at this
    exact ⟨x,rfl,by rw [this.1],this.2⟩
section
variable {X:Cx} {N:List Str} {t1 i1 t2 i2 elt:Expr} {f1 f2:List Expr} {sc:Scope} {src:List (Option Nat)} {wi wi2:TI} {g g2:TG} {tif tif2:TT} {te:TE} {pos spos px:Pos}
theorem apo {i:Nat} {x:Str} (hN:X.N.Nodup) (hi':X.N[i]?=some x) (hx:Loc X.env.scope x) (hc:X.calm=true) (L:LcOk X N sc src) (hi:PI X t1 i1 wi) (hg:∀ C s0 H0 ex,PG (X.comp N sc C s0 H0 ex) t1 g)
  (hif:∀ C s0 H0 ex,PIf (X.comp N sc C s0 H0 ex) f1 tif) (hi2:∀ C s0 H0 ex,PI (X.comp N sc C s0 H0 ex) t2 i2 wi2) (hg2:∀ C s0 H0 ex,PG (X.comp N sc C s0 H0 ex) t2 g2) (hif2:∀ C s0 H0 ex,PIf (X.comp N sc C s0 H0 ex) f2 tif2) (he:∀ C s0 H0 ex,PE (X.comp N sc C s0 H0 ex) elt te)
  (hsw:swapsWith (.ListComp elt [⟨t1,i1,f1,0⟩,⟨t2,i2,f2,0⟩] sc pos) (some (.Name x px)) spos.line X.env=pure true:=by rfl)
  (hf:X.fn x=true\/X.env.scope.names.lookup x=some .local:=by first | exact .inl rfl | exact .inr rfl | assumption)
  (hs:∀ x,foldedSetIterable i1 X.env x=pure x:=by intro _;rfl) (hs2:∀ C s0 H0 ex x,foldedSetIterable i2 (X.comp N sc C s0 H0 ex).env x=pure x:=by intros;rfl) :
  PS X (.Assign [.Name x px] (.ListComp elt [⟨t1,i1,f1,0⟩,⟨t2,i2,f2,0⟩] sc pos) spos) (tAsg (tLC2 src wi g tif wi2 g2 tif2 te) (aay i)):=by
 intro pins s σ H D I h
 rw [exec_Assign_Name_used _ _ _ _ hsw]
 refine wpAny_bind (wpAny_standAt (wpAny_bind ?_))
 show wpAny _ X.A (do let _ ← comprehension (.ListComp elt [⟨t1,i1,f1,0⟩,⟨t2,i2,f2,0⟩] sc pos) sc X.env _ (newList []) false (eval i1 X.env) (some (assign (.Name x px) X.env))) _ _ s
 refine wpAny_bind (wpAny_mono (Q:=fun _ s'=>SP X pins D .next s') ?_ (fun _ s' hq=>wpAny_pure (wpAny_pure hq)) fun _ _ e=>e)
 refine wpAny_comprehension_free rfl hs (L.clo I.ok) L.kind L.own (thn (hi pins s σ H _ I h) fun v s1 h1=>thn h1 fun itv s2 h2=>?_)
 obtain ⟨it,fp,tn,J,H2,e,I2,T,st2,f2',q2⟩:=h2
 subst e
 have hacc:H2 s2.heap.objs.size=none:=I2.hok.fresh (Nat.le_refl _)
 obtain ⟨W,⟨m0,w0⟩,turn⟩:=q2 s2.heap.objs.size hacc
 have szf:∀ b∈fp,b < s2.heap.objs.size:=fun b hb=>by
  obtain ⟨o,ho,_⟩:=T.obj _ _ st2 b hb
  exact Heap.lt_size ho
 refine wpAny_newObj_type ?_
 refine akz (pins:=pins) (Q:=fun x H1=>aay i x σ H1 D.nx) hc L hg hif hi2 hg2 hif2 he hs2 (H3:=upd H2 s2.heap.objs.size (.lst [])) ?_ T ?_ ?_ w0 turn (some (assign (.Name x px) X.env)) _ ?_
 ·exact I2.laid (t':=s2.toks) (fun b u e=>Heap.get?_push_of_some _ e) (Nat.le_refl _) ⟨Nat.zero_le _,[],0,.nil,Heap.get?_push_size _ rfl⟩
 ·exact T.keep _ _ _ st2 fun b _ o e=>Heap.get?_push_of_some _ e
 ·exact fun b hb=>⟨by rw [aag (Nat.ne_of_lt (szf b hb))];exact (f2' b hb).1,(f2' b hb).2⟩
 ·intro C H' s' m J q hn hC hL hx' hcl hp
  show wpAny _ X.A (assign (.Name x px) X.env (.ref s2.heap.objs.size)) _ _ _
  refine wpAny_assign_Name (afn J hN hi' hx (v:=.ref s2.heap.objs.size) rfl (fun s2 J2 ⟨a,sb,ha⟩=>?_) hf)
  have hne:C ≠ a:=by
   rcases ha with z | z
   ·rw [z];exact hL
   ·exact (hcl x a z).symm
  refine ⟨m,hn.sameBut sb hne,fun h' sb'=>⟨_,H',?_,q⟩⟩
  exact J2.turned (t':=s2.toks) (fun b o hb e=>sb'.extBut b o hb e) hC hL hx' hcl hp
end
def rLen (K:Frag):List V->Hp->VK->Prop:=fun xs H Q=>∃ p ys,xs=[.ref p]/\(SqL K H p ys\/SqT K H p ys)/\Q (.int ys.length) H
theorem aa9 {X:Cx}:abg X (.builtin "len") (rLen X.K):=akt
def akb:List V->Hp->VK->Prop:=fun xs H Q=>∃ i j,xs=[.int i,.int j]/\Q (.int (if j > i then j else i)) H
def akc:List V->Hp->VK->Prop:=fun xs H Q=>∃ i j,xs=[.int i,.int j]/\Q (.int (if j < i then j else i)) H
theorem ahb {X:Cx} (hc:X.calm=true):abg X (.builtin "max") akb:=ao9 hc
theorem ae4 {X:Cx} (hc:X.calm=true):abg X (.builtin "min") akc:=apa hc
def akd:List V->Hp->VK->Prop:=fun xs H Q=>(∃ i,xs=[.int i]/\Q (.int i) H)\/∃ k,xs=[.bl k]/\Q (.int (if k then 1 else 0)) H
theorem aod {X:Cx}:abg X (.type "int") akd:=apb
section
variable {σ:St} {H:Hp} {D:Ends} {K:Frag}
theorem am4 {i:Nat} {v:V} {Q:St->Hp->Prop} (h:Q (σ.set i (some v)) H):aay i v σ H Q:=h
theorem apq {Q:List V->Hp->Prop} (h:Q [] H):tNil σ H Q:=h
theorem awp {t:TA} {Q:VK} (h:t σ H fun xs H1=>xs.length<=sizeLine/\∀ p,H1 p=none->Q (.ref p) (upd H1 p (.lst xs))):tLst t σ H Q:=h
theorem apr {i j:Int} {Q:VK} (h:Q (.bl (decide (i=j))) H):rEq (.int i) (.int j) H Q:=by
 have e:decide (V.int i=V.int j)=decide (i=j):=by rw [af8];exact Bool.beq_eq_decide_eq i j
 exact ⟨rfl,by rw [e];exact h⟩
theorem awq {i j:Int} {Q:VK} (h:Q (.bl (!decide (i=j))) H):rNe (.int i) (.int j) H Q:=by
 have e:decide (V.int i=V.int j)=decide (i=j):=by rw [af8];exact Bool.beq_eq_decide_eq i j
 exact ⟨rfl,by rw [e];exact h⟩
theorem awr {a:Addr} {xs:List V} {i:Int} {v:V} {Q:VK} (ha:H a=some (.lst xs)) (hv:atI xs i=some v) (h:Q v H):rIxL K (.ref a) (.int i) H Q:=⟨a,xs,i,v,rfl,rfl,SqL.of ha,hv,h⟩
theorem aws {a:Addr} {xs:List V} {i:Int} {v:V} {Q:VK} (ha:H a=some (.tup xs)) (hv:atI xs i=some v) (h:Q v H):rIxT K (.ref a) (.int i) H Q:=⟨a,xs,i,v,rfl,rfl,SqT.of ha,hv,h⟩
theorem am5 {a:Addr} {xs:List V} {k:Int} {j:Nat} {v:V} {Q:Hp->Prop} (ha:H a=some (.lst xs)) (hj:ixN xs.length k=some j) (h:Q (upd H a (.lst (xs.set j v)))):an9 (.ref a) (.int k) v H Q:=⟨a,xs,k,j,rfl,rfl,ha,hj,h⟩
theorem afu {a:Addr} {xs:List V} {y:V} {Q:VK} (ha:H a=some (.lst xs)) (hl:xs.length < sizeLine) (h:Q .non (upd H a (.lst (xs ++ [y])))):aex (.ref a) [y] H Q:=⟨a,xs,y,rfl,rfl,ha,hl,h⟩
theorem awt {a b:Addr} {xs zs:List V} {Q:VK} (ha:H a=some (.lst xs)) (hb:H b=some (.lst zs)) (hl:xs.length+zs.length<=sizeLine) (h:∀ p,H p=none->Q (.ref p) (upd H p (.lst (xs ++ zs)))):rCat (.ref a) (.ref b) H Q:=⟨a,b,xs,zs,rfl,rfl,ha,hb,hl,h⟩
theorem am6 {a:Addr} {xs:List V} {Q:VK} (ha:H a=some (.lst xs)) (h:Q (.int xs.length) H):rLen K [.ref a] H Q:=⟨a,xs,rfl,.inl (SqL.of ha),h⟩
theorem at9 {a:Addr} {xs:List V} {Q:VK} (ha:H a=some (.tup xs)) (h:Q (.int xs.length) H):rLen K [.ref a] H Q:=⟨a,xs,rfl,.inr (SqT.of ha),h⟩
theorem am7 {i j:Int} {Q:VK} (h:Q (.int (if j > i then j else i)) H):akb [.int i,.int j] H Q:=⟨i,j,rfl,h⟩
theorem am8 {i j:Int} {Q:VK} (h:Q (.int (if j < i then j else i)) H):akc [.int i,.int j] H Q:=⟨i,j,rfl,h⟩
theorem am9 {k:Bool} {Q:VK} (h:Q (.int (if k then 1 else 0)) H):akd [.bl k] H Q:=.inr ⟨k,rfl,h⟩
theorem ah5 {c:Prop} [Decidable c] {A B:Prop} (hc:c) (h:A):if decide c=true then A else B:=by rw [decide_eq_true hc];exact iteT h
theorem ah6 {c:Prop} [Decidable c] {A B:Prop} (hc:¬ c) (h:B):if decide c=true then A else B:=by rw [decide_eq_false hc];exact iteF h
theorem ab4 {c:Prop} [Decidable c] {A B:Prop} (h1:c->A) (h2:¬ c->B):if decide c=true then A else B:=by
 by_cases hc:c
 ·exact ah5 hc (h1 hc)
 ·exact ah6 hc (h2 hc)
end
structure CallOk (P:Program) (w:World) (K:Frag) (mg:Str->Option Value) (base:Heap) (x:Str) (k:Nat) (ps:List Str) (sp:Sp) (f:Addr) (fd:FuncData):Prop where
 ok:FnOk P w K mg base CX0 k f fd ps sp
 mgx:mg x=some (.ref f)
 kp:keepIn K (.ref f)=true
 bd:Binds K fd ps []
def Can (P:Program) (w:World) (K:Frag) (mg:Str->Option Value) (base:Heap) (x:Str) (k:Nat) (ps:List Str) (sp:Sp):Prop:=∃ f fd,CallOk P w K mg base x k ps sp f fd
structure DefAt (K:Frag) (mg:Str->Option Value) (x:Str) (st:Stmt) (ps:List Str) (f:Addr) (fd:FuncData):Prop where
 fn:Fun K x x st f fd
 mgx:mg x=some (.ref f)
 bd:Binds K fd ps []
theorem DefAt.can {P:Program} {w:World} {K:Frag} {mg:Str->Option Value} {base:Heap} {x:Str} {st:Stmt} {k:Nat} {ps:List Str} {sp:Sp} {f:Addr} {fd:FuncData} (D:DefAt K mg x st ps f fd) (ok:FnOk P w K mg base CX0 k f fd ps sp):Can P w K mg base x k ps sp :=
 ⟨f,fd,ok,D.mgx,D.fn.kp,D.bd⟩
section
variable {X:Cx} {k j:Nat} {ps:List Str} {sp:Sp} {x:Str} {p pos:Pos} {e:Expr} {es:List Expr} {t:TA}
theorem aah (F:Can X.prog X.w X.K X.mg X.base x k ps sp) (hr:Room j X.A) (ha:PA X (e :: es) t) (hj:k<=j:=by decide) (hg:Gl X x:=by rfl) (hdb:(x == ("__debug__" : Str))=false:=by decide)
  (he:starEach (e :: es) X.env=(false,eval e X.env) :: starEach es X.env:=by rfl) (hpl:(backTo pos (starEach es X.env)).any (·.1)=false:=by rfl) :
  PE X (.Call (.Name x p) (e :: es) [] pos) (adz sp [] E0 t):=by
 obtain ⟨f,fd,C⟩:=F
 exact at6 C.ok (hr.mono hj) hg C.mgx C.kp C.bd .nil ayh ha hdb he hpl
end
theorem abf {X:Cx} {N:List Str} {sc:Scope} {src:List (Option Nat)} (h1:sc.kind=.function) (h2:sc.names.all (fun y=>y.2 != .cell)=true) (h3:sc.names.all (fun y=>y.2 != .local || sc.names.lookup y.1 == some .local)=true)
  (h4:sc.names.all (fun y=>y.2 != .free || X.env.kindOf y.1 == some .cell || X.env.kindOf y.1 == some .free)=true) (h5:src.length=N.length)
  (h6:(List.range src.length).all (fun i=>match src[i]? with | some (some j)=>(match N[i]?,X.N[j]? with | some x,some y=>x == y && sc.names.lookup x == some .free | _,_=>false) | _=>true)=true):LcOk X N sc src:=by
 refine ⟨h1,fun y hy e=>?_,fun y hy e=>?_,fun y hy e=>?_,h5,fun i j e=>?_⟩
 ·have:=List.all_eq_true.mp h2 y hy
  rw [e] at this
  exact absurd this (by decide)
 ·have:=List.all_eq_true.mp h3 y hy
  rw [e] at this
  simpa using this
 ·have:=List.all_eq_true.mp h4 y hy
  rw [e] at this
  simpa using this
 ·have hi:i < src.length:=(List.getElem?_eq_some_iff.mp e).1
  have:=List.all_eq_true.mp h6 i (List.mem_range.mpr hi)
  rw [e] at this
  dsimp only at this
  cases h7:N[i]? with
  | none=>rw [h7] at this;cases this
  | some x =>
   cases h8:X.N[j]? with
   | none=>rw [h7,h8] at this;cases this
   | some y =>
    rw [h7,h8] at this
    simp only [Bool.and_eq_true] at this
    have e1:x=y:=by simpa using this.1
    subst e1
    exact ⟨x,rfl,rfl,by simpa using this.2⟩
section
variable {σ:St} {H:Hp} {D:Ends} {K:Frag}
theorem aps {Q:Bool->Hp->Prop} (h:Q true H):tYes σ H Q:=h
theorem arm {a:Addr} {xs:List V} {i:Int} {k:Nat} {y:V} {Q:VK} (ha:H a=some (.lst xs)) (h1 : -(2 ^ 63)<=i) (h2:i < 2 ^ 63) (h3:seqIndex? i xs.length=some k) (h4:xs[k]?=some y) (h:Q y (upd H a (.lst (xs.eraseIdx k)))):aku (.ref a) [.int i] H Q :=
 ⟨a,xs,i,k,y,rfl,rfl,ha,h1,h2,h3,h4,h⟩
end
end L2
namespace L2
open PySem
theorem ab5:bootBuiltins "len" = some (.builtin "len"):=by decide +kernel
theorem afv:bootBuiltins "max" = some (.builtin "max"):=by decide +kernel
theorem ahc:bootBuiltins "min" = some (.builtin "min"):=by decide +kernel
theorem aeo:bootBuiltins "sorted" = some (.builtin "sorted"):=by decide +kernel
theorem abz:bootBuiltins "isinstance" = some (.builtin "isinstance"):=by decide +kernel
theorem aey:bootBuiltins "all" = some (.builtin "all"):=by decide +kernel
theorem apt:bootBuiltins "int" = some (.type "int"):=by decide +kernel
theorem ah7:bootBuiltins "list" = some (.type "list"):=by decide +kernel
theorem ak0:bootBuiltins "tuple" = some (.type "tuple"):=by decide +kernel
theorem ak1:bootBuiltins "enumerate" = some (.type "enumerate"):=by decide +kernel
theorem aua:bootBuiltins "bool" = some (.type "bool"):=by decide +kernel
end L2
namespace TS
open PySem PyProof.Rows
noncomputable def ah8:Bool->Keyed->Array Keyed->Nat->Nat->Nat->StateT SortSt Sem (Option Nat):=sortPriv% PySem.Builtin.gallop
noncomputable def arn:Array Keyed->Array Keyed->StateT SortSt Sem (Array Keyed):=sortPriv% PySem.Builtin.mergeLo
noncomputable def aro:Array Keyed->Array Keyed->StateT SortSt Sem (Array Keyed):=sortPriv% PySem.Builtin.mergeHi
noncomputable def ak2:Nat->StateT SortSt Sem Bool:=sortPriv% PySem.Builtin.mergeAt
noncomputable def aub:Nat->Nat->StateT SortSt Sem (Option Nat):=sortPriv% PySem.Builtin.countRun
noncomputable def arp:Nat->Nat->Nat->StateT SortSt Sem Bool:=sortPriv% PySem.Builtin.binarySort
noncomputable def ayi:StateT SortSt Sem Unit:=sortPriv% PySem.Builtin.sortRuns
structure Cmp (M:Model) (A:Around) (E:Value->Shared->Prop) (s:Shared) (κ:SortKind) (S:Keyed->Prop) (R:Keyed->Keyed->Bool):Prop where
 ask:∀ x y,S x->S y->∀ (Q:Option Bool->SortSt->Prop) (st:SortSt),kindOf st = κ->Q (some (R x y)) st->wpS M A E s (lt' x y) Q st
 asy:∀ x y,S x->S y->R x y=true->R y x=false
 tr:∀ x y z,S x->S y->S z->R y x=false->R z y=false->R z x=false
section
variable {M:Model} {A:Around} {E:Value->Shared->Prop} {s:Shared} {κ:SortKind} {S:Keyed->Prop} {R:Keyed->Keyed->Bool}
theorem aa0 {arr:Array Keyed} {i:Nat} {x:Keyed} {Q:Keyed->SortSt->Prop} {st:SortSt} (hx:arr[i]?=some x) (h:Q x st):wpS M A E s (elem' arr i) Q st:=by
 rw [elem'_eq,hx]
 exact wpS_pure h
theorem adk {x:String} {Q:Unit->SortSt->Prop} {st:SortSt} (h:Q () st):wpS M A E s (liftM (PySem.rule x):StateT SortSt Sem Unit) Q st :=
 wpS_lift (wpAny_rule ⟨rfl,h⟩)
noncomputable def bey (left:Bool) (key:Keyed) (arr:Array Keyed) (base i:Nat):StateT SortSt Sem (Option Bool):=do
 let x ← elem' arr (base+i)
 if left=true then lt' x key else do
  let r ← lt' key x
  pure (Option.map (fun b => !b) r)
theorem ai1 {left:Bool} {key:Keyed} {arr:Array Keyed} {base n hint:Nat} {B:Nat->Bool}
  (hb:∀ i,i < n->∀ (Q:Option Bool->SortSt->Prop) (st:SortSt),kindOf st = κ->Q (some (B i)) st->wpS M A E s (bey left key arr base i) Q st)
  (mono:∀ i j,i < j->j < n->B j=true->B i=true) (hh:hint < n) {Q:Option Nat->SortSt->Prop} {st:SortSt} (hk:kindOf st = κ)
  (h:∀ k,k<=n->(∀ i,i < k->B i=true)->(∀ i,k<=i->i < n->B i=false)->Q (some k) st):wpS M A E s (ah8 left key arr base n hint) Q st:=by
 have monoF:∀ i j,i < j->j < n->B i=false->B j=false:=fun i j hij hj hi=>by
  cases e:B j with
  | false=>rfl
  | true=>rw [mono i j hij hj e] at hi;cases hi
 -- the last loop
 have last:∀ (lo hi:Nat) (F:Option (Option Nat) × Nat × Nat->StateT SortSt Sem (Option Nat)),lo<=hi->hi<=n->(∀ i,i < lo->B i=true)->(∀ i,hi<=i->i < n->B i=false) ->
   (∀ lo hi,F (none,lo,hi)=pure (some hi)) ->
   wpS M A E s (forIn [:n] ((none,lo,hi):Option (Option Nat) × Nat × Nat) (fun (_:Nat) z=>if z.2.1 ≥ z.2.2 then pure (ForInStep.done (none,z.2.1,z.2.2)) else bey left key arr base (z.2.1+(z.2.2 - z.2.1) / 2) >>= fun r=>match r with
    | some more=>if more=true then pure (ForInStep.yield (none,z.2.1+(z.2.2 - z.2.1) / 2+1,z.2.2)) else pure (ForInStep.yield (none,z.2.1,z.2.1+(z.2.2 - z.2.1) / 2))
    | _=>pure (ForInStep.done (some none,z.2.1,z.2.2))) >>= F) Q st:=by
  intro lo hi F h1 h2 h3 h4 hF
  refine wpS_bind (wpS_forRange (fun t z st'=>st'=st/\z.1=none/\z.2.1<=z.2.2/\z.2.2<=n/\z.2.2 - z.2.1+t<=n/\(∀ i,i < z.2.1->B i=true)/\(∀ i,z.2.2<=i->i < n->B i=false)) ?_ ?_ ⟨rfl,rfl,h1,h2,by dsimp only;omega,h3,h4⟩)
  ·rintro t ⟨o,l,u⟩ st' _ ht ⟨rfl,e,q1,q2,q3,q4,q5⟩
   dsimp only at e q1 q2 q3 q4 q5 ⊢
   subst e
   by_cases hlu:l ≥ u
   ·rw [if_pos hlu]
    have:l=u:=by omega
    subst this
    exact wpS_pure (by dsimp only;rw [hF];exact wpS_pure (h l q2 q4 q5))
   ·rw [if_neg hlu]
    have hm:l+(u - l) / 2 < u:=by omega
    refine wpS_bind (hb _ (by omega) _ _ hk ?_)
    dsimp only
    cases e:B (l+(u - l) / 2) with
    | true =>
     rw [if_pos rfl]
     refine wpS_pure ⟨rfl,rfl,by dsimp only;omega,q2,by dsimp only;omega,fun i hi=>?_,q5⟩
     dsimp only at hi
     by_cases hi2:i=l+(u - l) / 2
     ·rw [hi2];exact e
     ·exact mono i _ (by omega) (by omega) e
    | false =>
     rw [if_neg (by simp)]
     refine wpS_pure ⟨rfl,rfl,by dsimp only;omega,by dsimp only;omega,by dsimp only;omega,q4,fun i hi hn=>?_⟩
     dsimp only at hi
     by_cases hi2:i=l+(u - l) / 2
     ·rw [hi2];exact e
     ·exact monoF _ i (by omega) hn e
  ·rintro ⟨o,l,u⟩ st' ⟨rfl,e,q1,q2,q3,q4,q5⟩
   dsimp only at e q1 q2 q3 q4 q5 ⊢
   subst e
   have : l = u := by have:n ≤ max 0 n := by omega
                      omega
   subst this
   rw [hF]
   exact wpS_pure (h l q2 q4 q5)
 refine wpS_bind (f:=fun __x=>_) (m:=bey left key arr base hint) (hb hint hh _ st hk ?_)
 dsimp only
 cases e0:B hint with
 | true =>
  rw [if_pos rfl]
  refine wpS_bind ?_
  refine wpS_forRange (fun t (z:Option (Option Nat) × Nat × Nat) st'=>st'=st/\z.1=none/\z.2.1 < z.2.2/\hint+z.2.1 < n/\B (hint+z.2.1)=true/\t+1<=z.2.2) ?_ ?_ ⟨rfl,rfl,by decide,by dsimp only;omega,e0,Nat.le_refl _⟩
  ·rintro t ⟨o,l,u⟩ st' _ ht ⟨rfl,e,q1,q2,q3,q4⟩
   dsimp only at e q1 q2 q3 q4 ⊢
   subst e
   by_cases hu:u ≥ n - hint
   ·rw [if_pos hu]
    refine wpS_pure ?_
    dsimp only
    refine last _ _ _ (by omega) (by omega) (fun i hi=>?_) (fun i hi hn=>by omega) (fun _ _=>rfl)
    by_cases hi2:i=hint+l
    ·rw [hi2];exact q3
    ·exact mono i _ (by omega) q2 q3
   ·rw [if_neg hu]
    refine wpS_bind (m:=bey left key arr base (hint+u)) (hb _ (by omega) _ _ hk ?_)
    dsimp only
    cases e1:B (hint+u) with
    | true =>
     rw [if_neg (by decide)]
     exact wpS_pure ⟨rfl,rfl,by dsimp only;omega,by dsimp only;omega,e1,by dsimp only;omega⟩
    | false =>
     rw [if_pos (by decide)]
     refine wpS_pure ?_
     dsimp only
     refine last _ _ _ (by omega) (by omega) (fun i hi=>?_) (fun i hi hn=>?_) (fun _ _=>rfl)
     ·by_cases hi2:i=hint+l
      ·rw [hi2];exact q3
      ·exact mono i _ (by omega) q2 q3
     ·by_cases hi2:i=hint+u
      ·rw [hi2];exact e1
      ·exact monoF _ i (by omega) hn e1
  ·rintro ⟨o,l,u⟩ st' ⟨rfl,e,q1,q2,q3,q4⟩
   dsimp only at e q1 q2 q3 q4 ⊢
   subst e
   dsimp only
   refine last _ _ _ (by omega) (by omega) (fun i hi=>?_) (fun i hi hn=>by omega) (fun _ _=>rfl)
   by_cases hi2:i=hint+l
   ·rw [hi2];exact q3
   ·exact mono i _ (by omega) q2 q3
 | false =>
  rw [if_neg (by decide)]
  refine wpS_bind ?_
  refine wpS_forRange (fun t (z:Option (Option Nat) × Nat × Nat) st'=>st'=st/\z.1=none/\z.2.1 < z.2.2/\z.2.1<=hint/\B (hint - z.2.1)=false/\t+1<=z.2.2) ?_ ?_ ⟨rfl,rfl,by decide,Nat.zero_le _,e0,Nat.le_refl _⟩
  ·rintro t ⟨o,l,u⟩ st' _ ht ⟨rfl,e,q1,q2,q3,q4⟩
   dsimp only at e q1 q2 q3 q4 ⊢
   subst e
   have past:∀ i,hint - l<=i->i < n->B i=false:=fun i hi hn=>by
    by_cases hi2:i=hint - l
    ·rw [hi2];exact q3
    ·exact monoF _ i (by omega) hn q3
   by_cases hu:u ≥ hint+1
   ·rw [if_pos hu]
    refine wpS_pure ?_
    dsimp only
    exact last _ _ _ (by omega) (by omega) (fun i hi=>by omega) past (fun _ _=>rfl)
   ·rw [if_neg hu]
    refine wpS_bind (m:=bey left key arr base (hint - u)) (hb _ (by omega) _ _ hk ?_)
    dsimp only
    cases e1:B (hint - u) with
    | true =>
     rw [if_pos rfl]
     refine wpS_pure ?_
     dsimp only
     refine last _ _ _ (by omega) (by omega) (fun i hi=>?_) past (fun _ _=>rfl)
     by_cases hi2:i=hint - u
     ·rw [hi2];exact e1
     ·exact mono i _ (by omega) (by omega) e1
    | false =>
     rw [if_neg (by decide)]
     exact wpS_pure ⟨rfl,rfl,by dsimp only;omega,by dsimp only;omega,e1,by dsimp only;omega⟩
  ·rintro ⟨o,l,u⟩ st' ⟨rfl,e,q1,q2,q3,q4⟩
   dsimp only at e q1 q2 q3 q4 ⊢
   subst e
   dsimp only
   refine last _ _ _ (by omega) (by omega) (fun i hi=>by omega) (fun i hi hn=>?_) (fun _ _=>rfl)
   by_cases hi2:i=hint - l
   ·rw [hi2];exact q3
   ·exact monoF _ i (by omega) hn q3
end
def Srt (R:Keyed->Keyed->Bool) (l:List Keyed):Prop:=l.Pairwise fun x y=>R y x=false
structure Mid (R:Keyed->Keyed->Bool) (L out a b:List Keyed):Prop where
 perm:(out ++ a ++ b).Perm L
 so:Srt R out
 le:∀ x∈out,∀ y∈a ++ b,R y x=false
 sa:Srt R a
 sb:Srt R b
section
variable {R:Keyed->Keyed->Bool} {L out a b p:List Keyed}
theorem Mid.takeA (m:Mid R L out (p ++ a) b) (h:∀ x∈p,∀ y∈b,R y x=false):Mid R L (out ++ p) a b:=by
 have sp:=List.pairwise_append.mp m.sa
 refine ⟨by have:=m.perm;rw [← List.append_assoc] at this;exact this,List.pairwise_append.mpr ⟨m.so,sp.1,fun x hx y hy=>m.le x hx y (List.mem_append_left _ (List.mem_append_left _ hy))⟩,fun x hx y hy=>?_,sp.2.1,m.sb⟩
 rcases List.mem_append.mp hx with hx | hx
 ·refine m.le x hx y ?_
  rcases List.mem_append.mp hy with hy | hy
  ·exact List.mem_append_left _ (List.mem_append_right _ hy)
  ·exact List.mem_append_right _ hy
 ·rcases List.mem_append.mp hy with hy | hy
  ·exact sp.2.2 x hx y hy
  ·exact h x hx y hy
theorem Mid.takeB (m:Mid R L out a (p ++ b)) (h:∀ x∈p,∀ y∈a,R y x=false):Mid R L (out ++ p) a b:=by
 have sp:=List.pairwise_append.mp m.sb
 refine ⟨List.Perm.trans ?_ m.perm,List.pairwise_append.mpr ⟨m.so,sp.1,fun x hx y hy=>m.le x hx y (List.mem_append_right _ (List.mem_append_left _ hy))⟩,fun x hx y hy=>?_,m.sa,sp.2.1⟩
 ·rw [← List.append_assoc (out ++ a) p b]
  refine List.Perm.append_right b ?_
  rw [List.append_assoc,List.append_assoc]
  exact List.Perm.append_left out List.perm_append_comm
 ·rcases List.mem_append.mp hx with hx | hx
  ·refine m.le x hx y ?_
   rcases List.mem_append.mp hy with hy | hy
   ·exact List.mem_append_left _ hy
   ·exact List.mem_append_right _ (List.mem_append_right _ hy)
  ·rcases List.mem_append.mp hy with hy | hy
   ·exact h x hx y hy
   ·exact sp.2.2 x hx y hy
theorem Mid.done (m:Mid R L out a b) (h:a=[]\/b=[]):(out ++ a ++ b).Perm L/\Srt R (out ++ a ++ b):=by
 refine ⟨m.perm,?_⟩
 rw [List.append_assoc]
 refine List.pairwise_append.mpr ⟨m.so,?_,m.le⟩
 rcases h with h | h
 ·subst h;exact m.sb
 ·subst h;rw [List.append_nil];exact m.sa
theorem Mid.last (m:Mid R L out a b) (h:∀ y∈b,∀ x∈a,R x y=false):(out ++ b ++ a).Perm L/\Srt R (out ++ b ++ a):=by
 refine ⟨List.Perm.trans ?_ m.perm,?_⟩
 ·rw [List.append_assoc,List.append_assoc]
  exact List.Perm.append_left out List.perm_append_comm
 ·rw [List.append_assoc]
  refine List.pairwise_append.mpr ⟨m.so,List.pairwise_append.mpr ⟨m.sb,m.sa,h⟩,fun x hx y hy=>m.le x hx y ?_⟩
  rcases List.mem_append.mp hy with hy | hy
  ·exact List.mem_append_right _ hy
  ·exact List.mem_append_left _ hy
end
structure Eqv (st st':SortSt):Prop where
 k:kindOf st'=kindOf st
 a:arrOf st'=arrOf st
 p:pendingOf st'=pendingOf st
 f:failedOf st'=failedOf st
theorem Eqv.refl (st:SortSt):Eqv st st:=⟨rfl,rfl,rfl,rfl⟩
theorem Eqv.trans {a b c:SortSt} (h:Eqv a b) (g:Eqv b c):Eqv a c:=⟨g.k.trans h.k,g.a.trans h.a,g.p.trans h.p,g.f.trans h.f⟩
theorem agc (a:Array Keyed) (i:Nat):(a.extract i a.size).toList=a.toList.drop i:=by
 rw [Array.toList_extract];simp only [List.extract_eq_take_drop];exact List.take_of_length_le (by simp)
theorem ah9 (a:Array Keyed) (i k:Nat):(a.extract i (i+k)).toList=(a.toList.drop i).take k:=by
 rw [Array.toList_extract];simp [List.extract]
theorem abk {a:Array Keyed} {i:Nat} (h:i < a.size):a.toList.drop i=a[i] :: a.toList.drop (i+1):=by
 rw [List.drop_eq_getElem_cons (by simpa using h)];simp
section
variable {M:Model} {A:Around} {E:Value->Shared->Prop} {s:Shared} {κ:SortKind} {S:Keyed->Prop} {R:Keyed->Keyed->Bool}
theorem Cmp.irr {x:Keyed} (C:Cmp M A E s κ S R) (hx:S x):R x x=false:=by
 cases e:R x x with
 | false=>rfl
 | true=>have:=C.asy x x hx hx e;rw [e] at this;cases this
theorem afw (C:Cmp M A E s κ S R) {key:Keyed} {arr:Array Keyed} {base n hint:Nat} (hkey:S key) (hS:∀ x∈arr.toList,S x) (hn:base+n<=arr.size) (hs:Srt R ((arr.toList.drop base).take n)) (hh:hint < n)
  {Q:Option Nat->SortSt->Prop} {st:SortSt} (hk:kindOf st = κ)
  (h:∀ k,k<=n->(∀ x∈(arr.toList.drop base).take k,R key x=false)->(∀ x∈((arr.toList.drop base).take n).drop k,R key x=true)->Q (some k) st) :
  wpS M A E s (ah8 false key arr base n hint) Q st:=by
 have at':∀ i,i < n->∃ x,arr[base+i]?=some x/\S x/\((arr.toList.drop base).take n)[i]?=some x:=fun i hi=>by
  have hlt:base+i < arr.size:=by omega
  refine ⟨arr[base+i],Array.getElem?_eq_getElem hlt,hS _ (by simp),?_⟩
  rw [List.getElem?_take_of_lt hi,List.getElem?_drop]
  simp [hlt]
 have hsort:∀ i j x y,i < j->j < n->arr[base+i]?=some x->arr[base+j]?=some y->R y x=false:=fun i j x y hij hj ex ey=>by
  obtain ⟨x',e1,_,e2⟩:=at' i (by omega)
  obtain ⟨y',e3,_,e4⟩:=at' j hj
  rw [ex] at e1;cases e1
  rw [ey] at e3;cases e3
  obtain ⟨l1,e2⟩:=List.getElem?_eq_some_iff.mp e2
  obtain ⟨l2,e4⟩:=List.getElem?_eq_some_iff.mp e4
  have:=List.pairwise_iff_getElem.mp hs i j l1 l2 hij
  rw [e2,e4] at this
  exact this
 refine ai1 (κ:=κ) (B:=fun i=>match arr[base+i]? with | some x => !(R key x) | none=>false) (fun i hi Q' st' hk' hq=>?_) (fun i j hij hj hBj=>?_) hh hk fun k hk1 h1 h2=>h k hk1 (fun x hx=>?_) fun x hx=>?_
 ·obtain ⟨x,e1,sx,_⟩:=at' i hi
  unfold bey
  refine wpS_bind (aa0 e1 ?_)
  rw [if_neg (by decide)]
  refine wpS_bind (C.ask _ _ hkey sx _ _ hk' ?_)
  refine wpS_pure ?_
  simp only [e1] at hq
  exact hq
 ·obtain ⟨x,e1,sx,_⟩:=at' i (by omega)
  obtain ⟨y,e2,sy,_⟩:=at' j hj
  simp only [e1,e2] at hBj ⊢
  have r1:=hsort i j x y hij hj e1 e2
  have r2:R key y=false:=by simpa using hBj
  have:=C.tr x y key sx sy hkey r1 r2
  simp [this]
 ·obtain ⟨i,hi,e⟩:=List.getElem_of_mem hx
  have hi2:i < k:=by rw [List.length_take] at hi;omega
  obtain ⟨y,e1,_,e2⟩:=at' i (by omega)
  have hb:=h1 i hi2
  simp only [e1] at hb
  have ex:x=y:=by
   have:((arr.toList.drop base).take k)[i]?=some x:=by rw [List.getElem?_eq_getElem hi,e]
   rw [List.getElem?_take_of_lt hi2] at this
   rw [List.getElem?_take_of_lt (by omega)] at e2
   rw [this] at e2;exact Option.some.inj e2
  subst ex
  simpa using hb
 ·obtain ⟨i,hi,e⟩:=List.getElem_of_mem hx
  have hi2:k+i < n:=by rw [List.length_drop,List.length_take] at hi;omega
  obtain ⟨y,e1,_,e2⟩:=at' (k+i) hi2
  have hb:=h2 (k+i) (by omega) hi2
  simp only [e1] at hb
  have ex:x=y:=by
   have:(((arr.toList.drop base).take n).drop k)[i]?=some x:=by rw [List.getElem?_eq_getElem hi,e]
   rw [List.getElem?_drop] at this
   rw [this] at e2;exact Option.some.inj e2
  subst ex
  simpa using hb
theorem agt (C:Cmp M A E s κ S R) {key:Keyed} {arr:Array Keyed} {base n hint:Nat} (hkey:S key) (hS:∀ x∈arr.toList,S x) (hn:base+n<=arr.size) (hs:Srt R ((arr.toList.drop base).take n)) (hh:hint < n)
  {Q:Option Nat->SortSt->Prop} {st:SortSt} (hk:kindOf st = κ)
  (h:∀ k,k<=n->(∀ x∈(arr.toList.drop base).take k,R x key=true)->(∀ x∈((arr.toList.drop base).take n).drop k,R x key=false)->Q (some k) st) :
  wpS M A E s (ah8 true key arr base n hint) Q st:=by
 have at':∀ i,i < n->∃ x,arr[base+i]?=some x/\S x/\((arr.toList.drop base).take n)[i]?=some x:=fun i hi=>by
  have hlt:base+i < arr.size:=by omega
  refine ⟨arr[base+i],Array.getElem?_eq_getElem hlt,hS _ (by simp),?_⟩
  rw [List.getElem?_take_of_lt hi,List.getElem?_drop]
  simp [hlt]
 have hsort:∀ i j x y,i < j->j < n->arr[base+i]?=some x->arr[base+j]?=some y->R y x=false:=fun i j x y hij hj ex ey=>by
  obtain ⟨x',e1,_,e2⟩:=at' i (by omega)
  obtain ⟨y',e3,_,e4⟩:=at' j hj
  rw [ex] at e1;cases e1
  rw [ey] at e3;cases e3
  obtain ⟨l1,e2⟩:=List.getElem?_eq_some_iff.mp e2
  obtain ⟨l2,e4⟩:=List.getElem?_eq_some_iff.mp e4
  have:=List.pairwise_iff_getElem.mp hs i j l1 l2 hij
  rw [e2,e4] at this
  exact this
 refine ai1 (κ:=κ) (B:=fun i=>match arr[base+i]? with | some x=>R x key | none=>false) (fun i hi Q' st' hk' hq=>?_) (fun i j hij hj hBj=>?_) hh hk fun k hk1 h1 h2=>h k hk1 (fun x hx=>?_) fun x hx=>?_
 ·obtain ⟨x,e1,sx,_⟩:=at' i hi
  unfold bey
  refine wpS_bind (aa0 e1 ?_)
  rw [if_pos rfl]
  simp only [e1] at hq
  exact C.ask _ _ sx hkey _ _ hk' hq
 ·obtain ⟨x,e1,sx,_⟩:=at' i (by omega)
  obtain ⟨y,e2,sy,_⟩:=at' j hj
  simp only [e1,e2] at hBj ⊢
  have r1:=hsort i j x y hij hj e1 e2
  cases e:R x key with
  | true=>rfl
  | false =>
   have:=C.tr key x y hkey sx sy e r1
   rw [this] at hBj;cases hBj
 ·obtain ⟨i,hi,e⟩:=List.getElem_of_mem hx
  have hi2:i < k:=by rw [List.length_take] at hi;omega
  obtain ⟨y,e1,_,e2⟩:=at' i (by omega)
  have hb:=h1 i hi2
  simp only [e1] at hb
  have ex:x=y:=by
   have:((arr.toList.drop base).take k)[i]?=some x:=by rw [List.getElem?_eq_getElem hi,e]
   rw [List.getElem?_take_of_lt hi2] at this
   rw [List.getElem?_take_of_lt (by omega)] at e2
   rw [this] at e2;exact Option.some.inj e2
  subst ex
  exact hb
 ·obtain ⟨i,hi,e⟩:=List.getElem_of_mem hx
  have hi2:k+i < n:=by rw [List.length_drop,List.length_take] at hi;omega
  obtain ⟨y,e1,_,e2⟩:=at' (k+i) hi2
  have hb:=h2 (k+i) (by omega) hi2
  simp only [e1] at hb
  have ex:x=y:=by
   have:(((arr.toList.drop base).take n).drop k)[i]?=some x:=by rw [List.getElem?_eq_getElem hi,e]
   rw [List.getElem?_drop] at this
   rw [this] at e2;exact Option.some.inj e2
  subst ex
  exact hb
end
section
variable {M:Model} {A:Around} {E:Value->Shared->Prop} {s:Shared} {κ:SortKind} {S:Keyed->Prop} {R:Keyed->Keyed->Bool}
structure Two (S:Keyed->Prop) (R:Keyed->Keyed->Bool) (a b:Array Keyed):Prop where
 ha:∀ x∈a.toList,S x
 hb:∀ x∈b.toList,S x
 sa:Srt R a.toList
 sb:Srt R b.toList
 a0:0 < a.size
 b0:0 < b.size
 first:∀ x∈a.toList,∀ y,b[0]?=some y->R x y=false
 last:∀ y∈b.toList,∀ x,a[a.size - 1]?=some x->R x y=false
def Fin2 (R:Keyed->Keyed->Bool) (a b m:Array Keyed):Prop:=m.toList.Perm (a.toList ++ b.toList)/\Srt R m.toList
structure Lo (S:Keyed->Prop) (R:Keyed->Keyed->Bool) (a b out:Array Keyed) (ia ib:Nat):Prop where
 mid:Mid R (a.toList ++ b.toList) out.toList (a.toList.drop ia) (b.toList.drop ib)
 ia:ia<=a.size
 ib:ib<=b.size
theorem Lo.len {a b out:Array Keyed} {ia ib:Nat} (l:Lo S R a b out ia ib):out.size+(a.size - ia)+(b.size - ib)=a.size+b.size:=by
 have:=l.mid.perm.length_eq
 simp at this
 omega
theorem Lo.doneA {a b out:Array Keyed} {ia ib:Nat} (l:Lo S R a b out ia ib) (h:ib=b.size\/ia=a.size):Fin2 R a b (out ++ a.extract ia ++ b.extract ib):=by
 have:=l.mid.done (by
  rcases h with h | h
  ·right;rw [h];simp
  ·left;rw [h];simp)
 unfold Fin2
 rw [Array.toList_append,Array.toList_append,agc,agc]
 exact this
theorem apu {a:Array Keyed} {i:Nat} (h:i+1=a.size):a.toList.drop i=[a[a.size - 1]'(by omega)]:=by
 have hi:i < a.size:=by omega
 rw [abk hi]
 have:i=a.size - 1:=by omega
 subst this
 have e:a.toList.drop (a.size - 1+1)=[]:=by
  apply List.drop_eq_nil_of_le
  simp;omega
 rw [e]
theorem Lo.lastA {a b out:Array Keyed} {ia ib:Nat} (T:Two S R a b) (l:Lo S R a b out ia ib) (h:ia+1=a.size):Fin2 R a b (out ++ b.extract ib ++ a.extract ia):=by
 have:=l.mid.last (by
  intro y hy x hx
  rw [apu h] at hx
  have ex:x=a[a.size - 1]'(by omega):=by simpa using hx
  refine T.last y (List.mem_of_mem_drop hy) x ?_
  rw [ex]
  exact Array.getElem?_eq_getElem _)
 unfold Fin2
 rw [Array.toList_append,Array.toList_append,agc,agc]
 exact this
theorem aeg {x:Keyed} {l:List Keyed} (C:Cmp M A E s κ S R) (h:Srt R (x :: l)) (hx:S x):∀ y∈x :: l,R y x=false:=by
 intro y hy
 rcases List.mem_cons.mp hy with e | hy
 ·rw [e];exact C.irr hx
 ·exact (List.pairwise_cons.mp h).1 y hy
theorem Lo.pushB {a b out:Array Keyed} {ia ib:Nat} (C:Cmp M A E s κ S R) (T:Two S R a b) (l:Lo S R a b out ia ib) (hb:ib < b.size) (h:∀ x∈a.toList.drop ia,R x b[ib]=false):Lo S R a b (out.push b[ib]) ia (ib+1):=by
 refine ⟨?_,l.ia,hb⟩
 have m:=l.mid
 rw [abk hb] at m
 rw [Array.toList_push]
 exact m.takeB (p:=[b[ib]]) (fun x hx y hy=>by
  have:x=b[ib]:=by simpa using hx
  rw [this];exact h y hy)
theorem Lo.pushA {a b out:Array Keyed} {ia ib:Nat} (l:Lo S R a b out ia ib) (ha:ia < a.size) (h:∀ y∈b.toList.drop ib,R y a[ia]=false):Lo S R a b (out.push a[ia]) (ia+1) ib:=by
 refine ⟨?_,ha,l.ib⟩
 have m:=l.mid
 rw [abk ha] at m
 rw [Array.toList_push]
 exact m.takeA (p:=[a[ia]]) (fun x hx y hy=>by
  have:x=a[ia]:=by simpa using hx
  rw [this];exact h y hy)
theorem Lo.runA {a b out:Array Keyed} {ia ib k:Nat} (l:Lo S R a b out ia ib) (hk:ia+k<=a.size) (h:∀ x∈(a.toList.drop ia).take k,∀ y∈b.toList.drop ib,R y x=false):Lo S R a b (out ++ a.extract ia (ia+k)) (ia+k) ib:=by
 refine ⟨?_,hk,l.ib⟩
 have m:=l.mid
 rw [← List.take_append_drop k (a.toList.drop ia)] at m
 rw [Array.toList_append,ah9]
 have m2:=m.takeA h
 rw [List.drop_drop] at m2
 exact m2
theorem Lo.runB {a b out:Array Keyed} {ia ib k:Nat} (l:Lo S R a b out ia ib) (hk:ib+k<=b.size) (h:∀ x∈(b.toList.drop ib).take k,∀ y∈a.toList.drop ia,R y x=false):Lo S R a b (out ++ b.extract ib (ib+k)) ia (ib+k):=by
 refine ⟨?_,l.ia,hk⟩
 have m:=l.mid
 rw [← List.take_append_drop k (b.toList.drop ib)] at m
 rw [Array.toList_append,ah9]
 have m2:=m.takeB h
 rw [List.drop_drop] at m2
 exact m2
theorem acq {l:List Keyed} {i:Nat} (h:Srt R l):Srt R (l.drop i):=List.Pairwise.sublist (List.drop_sublist i l) h
theorem jpn {α β:Type} {prog : β->StateT SortSt Sem α} {P : β->Prop} {Q : α->SortSt->Prop} {st:SortSt} {G:Prop} (use:(∀ m,P m->wpS M A E s (prog m) Q st)->G) (pf:∀ m,P m->wpS M A E s (prog m) Q st):G:=use pf
theorem jpn2 {α:Type} {prog:Array Keyed->Nat->StateT SortSt Sem α} {P:Array Keyed->Nat->Prop} {Q : α->SortSt->Prop} {st:SortSt} {G:Prop} (use:(∀ o i,P o i->wpS M A E s (prog o i) Q st)->G) (pf:∀ o i,P o i->wpS M A E s (prog o i) Q st):G:=use pf
section
variable {ρ β γ δ ε ζ η:Type}
@[elab_as_elim] theorem un5 {J : β->γ->δ->ε->Prop} {G:Option ρ × β × γ × δ × ε->Prop} (z:Option ρ × β × γ × δ × ε) (h:z.1=none/\J z.2.1 z.2.2.1 z.2.2.2.1 z.2.2.2.2) (k:∀ x y u v,J x y u v->G (none,x,y,u,v)):G z:=by
 have e:z=(none,z.2.1,z.2.2.1,z.2.2.2.1,z.2.2.2.2):=by rw [← h.1]
 rw [e];exact k _ _ _ _ h.2
@[elab_as_elim] theorem un6 {J : β->γ->δ->ε->ζ->Prop} {G:Option ρ × β × γ × δ × ε × ζ->Prop} (z:Option ρ × β × γ × δ × ε × ζ) (h:z.1=none/\J z.2.1 z.2.2.1 z.2.2.2.1 z.2.2.2.2.1 z.2.2.2.2.2) (k:∀ x y u v a,J x y u v a->G (none,x,y,u,v,a)):G z:=by
 have e:z=(none,z.2.1,z.2.2.1,z.2.2.2.1,z.2.2.2.2.1,z.2.2.2.2.2):=by rw [← h.1]
 rw [e];exact k _ _ _ _ _ h.2
@[elab_as_elim] theorem un7 {J : β->γ->δ->ε->ζ->η->Prop} {G:Option ρ × β × γ × δ × ε × ζ × η->Prop} (z:Option ρ × β × γ × δ × ε × ζ × η) (h:z.1=none/\J z.2.1 z.2.2.1 z.2.2.2.1 z.2.2.2.2.1 z.2.2.2.2.2.1 z.2.2.2.2.2.2) (k:∀ x y u v a b,J x y u v a b->G (none,x,y,u,v,a,b)):G z:=by
 have e:z=(none,z.2.1,z.2.2.1,z.2.2.2.1,z.2.2.2.2.1,z.2.2.2.2.2.1,z.2.2.2.2.2.2):=by rw [← h.1]
 rw [e];exact k _ _ _ _ _ _ h.2
@[elab_as_elim] theorem unR {κ:Type} {F : ρ->Prop} {J : κ->Prop} {G:Option ρ × κ->Prop} (z:Option ρ × κ) (h:(∃ r,z.1=some r/\F r)\/(z.1=none/\J z.2)) (k1:∀ r x,F r->G (some r,x)) (k2:z.1=none/\J z.2->G z):G z:=by
 rcases h with ⟨r,e,hr⟩ | h
 ·have e:z=(some r,z.2):=by rw [← e]
  rw [e];exact k1 _ _ hr
 ·exact k2 h
end
theorem aam {c:Prop} [Decidable c] {α:Type} {m1 m2:StateT SortSt Sem α} {Q : α->SortSt->Prop} {st:SortSt} (h1:c->wpS M A E s m1 Q st) (h2:¬ c->wpS M A E s m2 Q st):wpS M A E s (if c then m1 else m2) Q st:=by
 by_cases h:c
 ·rw [if_pos h];exact h1 h
 ·rw [if_neg h];exact h2 h
theorem aoe (C:Cmp M A E s κ S R) {a b:Array Keyed} (T:Two S R a b) {Q:Array Keyed->SortSt->Prop} {st:SortSt} (hk:kindOf st = κ)
  (h:∀ m st',Eqv st st'->Fin2 R a b m->Q m st'):wpS M A E s (arn a b) Q st:=by
 have SA:∀ i (h:i < a.size),S a[i]:=fun i h=>T.ha _ (by simp)
 have SB:∀ i (h:i < b.size),S b[i]:=fun i h=>T.hb _ (by simp)
 have b0:=T.b0
 have a0:=T.a0
 refine wpS_bind (adk ?_)
 refine wpS_bind (aa0 (x:=b[0]'b0) (Array.getElem?_eq_getElem b0) ?_)
 have l1:Lo S R a b #[b[0]'b0] 0 1:=by
  have l0:Lo S R a b #[] 0 0:=⟨⟨by simp,List.Pairwise.nil,fun x hx=>by simp at hx,T.sa,T.sb⟩,Nat.zero_le _,Nat.zero_le _⟩
  exact l0.pushB C T b0 fun x hx=>T.first x (by simpa using hx) _ (Array.getElem?_eq_getElem b0)
 refine aam (fun e1=>wpS_pure (h _ _ (Eqv.refl _) (l1.doneA (.inl (beq_iff_eq.mp e1))))) (fun e1=>?_)
 refine aam (fun e2=>wpS_pure (h _ _ (Eqv.refl _) (l1.lastA T (beq_iff_eq.mp e2)))) (fun e2=>?_)
 replace e1:1 ≠ b.size:=fun q=>e1 (beq_iff_eq.mpr q)
 replace e2:0+1 ≠ a.size:=fun q=>e2 (beq_iff_eq.mpr q)
 refine wpS_bind (wpS_get ?_)
 refine wpS_bind (wpS_mono (Q:=fun (z:Option (Array Keyed) × Array Keyed × Nat × Nat × Nat) st'=>Eqv st st'/\∃ r,z.1=some r/\Fin2 R a b r) ?_ ?_)
 ·refine wpS_forRange (fun t (z:Option (Array Keyed) × Array Keyed × Nat × Nat × Nat) st'=>Eqv st st'/\z.1=none/\Lo S R a b z.2.1 z.2.2.1 z.2.2.2.1/\z.2.2.1+1 < a.size/\z.2.2.2.1 < b.size/\t+1<=z.2.1.size) ?_ ?_ ⟨Eqv.refl _,rfl,l1,by dsimp only;omega,by dsimp only;omega,by simp⟩
  ·intro t z st1 _ ht hI
   have q1:=hI.1
   refine un5 (J:=fun out ia ib _=>Lo S R a b out ia ib/\ia+1 < a.size/\ib < b.size/\t+1<=out.size) z hI.2 fun out ia ib mg hJ=>?_
   dsimp only
   refine wpS_bind (wpS_mono (Q:=fun (z:Option (Array Keyed) × Array Keyed × Nat × Nat × Nat × Nat) st'=>Eqv st st'/\((∃ r,z.1=some r/\Fin2 R a b r)\/(z.1=none/\Lo S R a b z.2.1 z.2.2.1 z.2.2.2.1/\z.2.2.1+1 < a.size/\z.2.2.2.1 < b.size/\t+2<=z.2.1.size))) ?_ ?_)
   ·refine wpS_forRange (fun i (z:Option (Array Keyed) × Array Keyed × Nat × Nat × Nat × Nat) st'=>Eqv st st'/\z.1=none/\Lo S R a b z.2.1 z.2.2.1 z.2.2.2.1/\z.2.2.1+1 < a.size/\z.2.2.2.1 < b.size/\t+1+min i 1<=z.2.1.size) ?_ ?_ ⟨q1,rfl,hJ.1,hJ.2.1,hJ.2.2.1,hJ.2.2.2⟩
    ·intro i z st2 _ hi hI
     have q:=hI.1
     refine un6 (J:=fun out ia ib _ _=>Lo S R a b out ia ib/\ia+1 < a.size/\ib < b.size/\t+1+min i 1<=out.size) z hI.2 fun out ia ib ac bc hJ=>?_
     have l:=hJ.1
     have hia:=hJ.2.1
     have hib:=hJ.2.2.1
     have hsz:=hJ.2.2.2
     have hia':ia < a.size:=Nat.lt_of_succ_lt hia
     refine wpS_bind (aa0 (x:=b[ib]) (Array.getElem?_eq_getElem hib) ?_)
     refine wpS_bind (aa0 (x:=a[ia]) (Array.getElem?_eq_getElem hia') ?_)
     refine wpS_bind (C.ask _ _ (SB ib hib) (SA ia hia') _ _ (q.k.trans hk) ?_)
     dsimp only
     refine aam (fun er=>?_) (fun er=>?_)
     ·refine wpS_bind (aa0 (x:=b[ib]) (Array.getElem?_eq_getElem hib) ?_)
      have l2:Lo S R a b (out.push b[ib]) ia (ib+1):=l.pushB C T hib fun x hx=>by
       rw [abk hia'] at hx
       have hd:Srt R (a[ia] :: a.toList.drop (ia+1)):=by rw [← abk hia'];exact acq T.sa
       have sx:S x:=T.ha x (List.mem_of_mem_drop (i:=ia) (by rw [abk hia'];exact hx))
       exact C.tr _ _ _ (SB ib hib) (SA ia hia') sx (C.asy _ _ (SB ib hib) (SA ia hia') er) (aeg C hd (SA ia hia') x hx)
      refine aam (fun e3=>wpS_pure ⟨q,.inl ⟨_,rfl,l2.doneA (.inl (beq_iff_eq.mp e3))⟩⟩) (fun e3=>?_)
      have hf:ib+1 < b.size/\t+2<=(out.push b[ib]).size:=by
       have e3':ib+1 ≠ b.size:=fun q=>e3 (beq_iff_eq.mpr q)
       rw [Array.size_push];omega
      refine aam (fun _=>wpS_pure ⟨q,.inr ⟨rfl,l2,hia,hf⟩⟩) (fun _=>wpS_pure ⟨q,rfl,l2,hia,hf.1,Nat.le_trans (by omega) hf.2⟩)
     ·refine wpS_bind (aa0 (x:=a[ia]) (Array.getElem?_eq_getElem hia') ?_)
      have l2:Lo S R a b (out.push a[ia]) (ia+1) ib:=l.pushA hia' fun y hy=>by
       rw [abk hib] at hy
       have hd:Srt R (b[ib] :: b.toList.drop (ib+1)):=by rw [← abk hib];exact acq T.sb
       have sy:S y:=T.hb y (List.mem_of_mem_drop (i:=ib) (by rw [abk hib];exact hy))
       exact C.tr _ _ _ (SA ia hia') (SB ib hib) sy (eq_false_of_ne_true er) (aeg C hd (SB ib hib) y hy)
      refine aam (fun e3=>wpS_pure ⟨q,.inl ⟨_,rfl,l2.lastA T (beq_iff_eq.mp e3)⟩⟩) (fun e3=>?_)
      have hf:ia+1+1 < a.size/\ib < b.size/\t+2<=(out.push a[ia]).size:=by
       have e3':ia+1+1 ≠ a.size:=fun q=>e3 (beq_iff_eq.mpr q)
       rw [Array.size_push];omega
      refine aam (fun _=>wpS_pure ⟨q,.inr ⟨rfl,l2,hf⟩⟩) (fun _=>wpS_pure ⟨q,rfl,l2,hf.1,hib,Nat.le_trans (by omega) hf.2.2⟩)
    ·exact fun z st2 hI=>⟨hI.1,.inr ⟨hI.2.1,hI.2.2.1,hI.2.2.2.1,hI.2.2.2.2.1,Nat.le_trans (by omega) hI.2.2.2.2.2⟩⟩
   ·intro z st2 hI
    have q2:=hI.1
    refine unR (J:=fun y:Array Keyed × Nat × Nat × Nat × Nat=>Lo S R a b y.1 y.2.1 y.2.2.1/\y.2.1+1 < a.size/\y.2.2.1 < b.size/\t+2<=y.1.size) z hI.2 (fun r x hr=>wpS_pure ⟨q2,r,rfl,hr⟩) fun hN=>?_
    refine un6 (J:=fun out ia ib _ _=>Lo S R a b out ia ib/\ia+1 < a.size/\ib < b.size/\t+2<=out.size) z hN fun out ia ib ac bc hJ=>?_
    dsimp only
    refine wpS_bind (adk ?_)
    refine wpS_bind (wpS_mono (Q:=fun (z:Option (Array Keyed) × Array Keyed × Nat × Nat × Nat × Nat × Nat) st'=>Eqv st st'/\((∃ r,z.1=some r/\Fin2 R a b r)\/(z.1=none/\Lo S R a b z.2.1 z.2.2.1 z.2.2.2.1/\z.2.2.1+1 < a.size/\z.2.2.2.1 < b.size/\t+2<=z.2.1.size))) ?_ ?_)
    ·refine wpS_forRange (fun i (z:Option (Array Keyed) × Array Keyed × Nat × Nat × Nat × Nat × Nat) st'=>Eqv st st'/\z.1=none/\Lo S R a b z.2.1 z.2.2.1 z.2.2.2.1/\z.2.2.1+1 < a.size/\z.2.2.2.1 < b.size/\t+2<=z.2.1.size) ?_ (fun z st2 hI=>⟨hI.1,.inr hI.2⟩) ⟨q2,rfl,hJ⟩
     intro i z st2 _ hi hI
     have q:=hI.1
     refine un7 (J:=fun out ia ib _ _ _=>Lo S R a b out ia ib/\ia+1 < a.size/\ib < b.size/\t+2<=out.size) z hI.2 fun out ia ib mg ac bc hJ=>?_
     have l:=hJ.1
     have hia:=hJ.2.1
     have hib:=hJ.2.2.1
     have hsz:=hJ.2.2.2
     dsimp only
     refine' jpn (M:=M) (A:=A) (E:=E) (s:=s) (st:=st2) (β:=Nat) (P:=fun _=>True) (prog:=?prog) (fun JP=>?use) (fun mg' _=>?pf)
     case use =>
      refine aam (fun hm=>?_) (fun hm=>?_)
      ·generalize mg - 1=m
       exact JP m trivial
      ·exact JP mg trivial
     refine wpS_bind (wpS_mono (Q:=fun _ st3=>Eqv st2 st3) (wpS_modify ⟨rfl,rfl,rfl,rfl⟩) fun _ st3 q3=>?_)
     replace q3:=q.trans q3
     refine wpS_bind (aa0 (x:=b[ib]) (Array.getElem?_eq_getElem hib) ?_)
     refine wpS_bind (afw C (SB ib hib) T.ha (by omega) (by rw [List.take_of_length_le (by simp)];exact acq T.sa) (by omega) (q3.k.trans hk) fun k hk1 h1 h2=>?_)
     rw [List.take_of_length_le (by simp),List.drop_drop] at h2
     dsimp only
     refine' jpn2 (M:=M) (A:=A) (E:=E) (s:=s) (st:=st3) (P:=fun out2 ia2=>Lo S R a b out2 ia2 ib/\ia2+1 < a.size/\(∀ x∈a.toList.drop ia2,R x b[ib]=false)/\t+2<=out2.size) (prog:=?prog2) (fun JP=>?use2) (fun out2 ia2 h5=>?pf2)
     case use2 =>
      have hrest:∀ x∈a.toList.drop (ia+k),R x b[ib]=false:=fun x hx=>C.asy _ _ (SB ib hib) (T.ha x (List.mem_of_mem_drop hx)) (h2 x hx)
      refine aam (fun k0=>?_) (fun k0=>?_)
      ·have l2:Lo S R a b (out ++ a.extract ia (ia+k)) (ia+k) ib:=l.runA (by omega) fun x hx y hy=>by
        rw [abk hib] at hy
        have hd:Srt R (b[ib] :: b.toList.drop (ib+1)):=by rw [← abk hib];exact acq T.sb
        have sy:S y:=T.hb y (List.mem_of_mem_drop (i:=ib) (by rw [abk hib];exact hy))
        exact C.tr _ _ _ (T.ha x (List.mem_of_mem_drop (List.mem_of_mem_take hx))) (SB ib hib) sy (h1 x hx) (aeg C hd (SB ib hib) y hy)
       refine aam (fun e3=>wpS_pure ⟨q3,.inl ⟨_,rfl,l2.lastA T (beq_iff_eq.mp e3)⟩⟩) (fun e3=>?_)
       refine aam (fun e4=>wpS_pure ⟨q3,.inl ⟨_,rfl,l2.doneA (.inr (beq_iff_eq.mp e4))⟩⟩) (fun e4=>?_)
       have hP:Lo S R a b (out ++ a.extract ia (ia+k)) (ia+k) ib/\ia+k+1 < a.size/\(∀ x∈a.toList.drop (ia+k),R x b[ib]=false)/\t+2<=(out ++ a.extract ia (ia+k)).size:=by
        have e3':ia+k+1 ≠ a.size:=fun q=>e3 (beq_iff_eq.mpr q)
        have e4':ia+k ≠ a.size:=fun q=>e4 (beq_iff_eq.mpr q)
        exact ⟨l2,by omega,hrest,by rw [Array.size_append];omega⟩
       revert hP
       clear e3 e4 l2 hrest
       generalize out ++ a.extract ia (ia+k)=out2
       generalize ia+k=ia2
       intro hP
       exact JP out2 ia2 hP
      ·have:k=0:=by omega
       rw [this] at hrest
       exact JP out ia ⟨l,hia,hrest,hsz⟩
     have l3:=h5.1
     have hia2:=h5.2.1
     have hle:=h5.2.2.1
     have hsz3:=h5.2.2.2
     have hia2':ia2 < a.size:=Nat.lt_of_succ_lt hia2
     refine wpS_bind (aa0 (x:=b[ib]) (Array.getElem?_eq_getElem hib) ?_)
     have l4:=l3.pushB C T hib hle
     refine aam (fun e5=>wpS_pure ⟨q3,.inl ⟨_,rfl,l4.doneA (.inl (beq_iff_eq.mp e5))⟩⟩) (fun e5=>?_)
     replace e5:ib+1 ≠ b.size:=fun q=>e5 (beq_iff_eq.mpr q)
     refine wpS_bind (aa0 (x:=a[ia2]) (Array.getElem?_eq_getElem hia2') ?_)
     refine wpS_bind (agt C (SA ia2 hia2') T.hb (by omega) (by rw [List.take_of_length_le (by simp)];exact acq T.sb) (by omega) (q3.k.trans hk) fun k2 hk2 h3 h4=>?_)
     rw [List.take_of_length_le (by simp),List.drop_drop] at h4
     dsimp only
     refine' jpn2 (M:=M) (A:=A) (E:=E) (s:=s) (st:=st3) (P:=fun out3 ib3=>Lo S R a b out3 ia2 ib3/\ib3 < b.size/\(∀ y∈b.toList.drop ib3,R y a[ia2]=false)/\t+2<=out3.size) (prog:=?prog3) (fun JP=>?use3) (fun out3 ib3 h6=>?pf3)
     case use3 =>
      refine aam (fun k0=>?_) (fun k0=>?_)
      ·have hd:Srt R (a[ia2] :: a.toList.drop (ia2+1)):=by rw [← abk hia2'];exact acq T.sa
       have l5:Lo S R a b (out2.push b[ib] ++ b.extract (ib+1) (ib+1+k2)) ia2 (ib+1+k2):=l4.runB (by omega) fun x hx y hy=>by
        rw [abk hia2'] at hy
        have sy:S y:=T.ha y (List.mem_of_mem_drop (i:=ia2) (by rw [abk hia2'];exact hy))
        have sx:S x:=T.hb x (List.mem_of_mem_drop (List.mem_of_mem_take hx))
        exact C.tr _ _ _ sx (SA ia2 hia2') sy (C.asy _ _ sx (SA ia2 hia2') (h3 x hx)) (aeg C hd (SA ia2 hia2') y hy)
       refine aam (fun e6=>wpS_pure ⟨q3,.inl ⟨_,rfl,l5.doneA (.inl (beq_iff_eq.mp e6))⟩⟩) (fun e6=>?_)
       have hP:Lo S R a b (out2.push b[ib] ++ b.extract (ib+1) (ib+1+k2)) ia2 (ib+1+k2)/\ib+1+k2 < b.size/\(∀ y∈b.toList.drop (ib+1+k2),R y a[ia2]=false)/\t+2<=(out2.push b[ib] ++ b.extract (ib+1) (ib+1+k2)).size:=by
        have e6':ib+1+k2 ≠ b.size:=fun q=>e6 (beq_iff_eq.mpr q)
        exact ⟨l5,by omega,h4,by rw [Array.size_append,Array.size_push];omega⟩
       revert hP
       clear e6 l5 hd
       generalize out2.push b[ib] ++ b.extract (ib+1) (ib+1+k2)=out3
       generalize ib+1+k2=ib3
       intro hP
       exact JP out3 ib3 hP
      ·have:k2=0:=by omega
       rw [this] at h4
       exact JP (out2.push b[ib]) (ib+1) ⟨l4,by omega,h4,by rw [Array.size_push];omega⟩
     refine wpS_bind (aa0 (x:=a[ia2]) (Array.getElem?_eq_getElem hia2') ?_)
     have l7:=h6.1.pushA hia2' h6.2.2.1
     refine aam (fun e7=>wpS_pure ⟨q3,.inl ⟨_,rfl,l7.lastA T (beq_iff_eq.mp e7)⟩⟩) (fun e7=>?_)
     have hf:ia2+1+1 < a.size/\ib3 < b.size/\t+2<=(out3.push a[ia2]).size:=by
      have e7':ia2+1+1 ≠ a.size:=fun q=>e7 (beq_iff_eq.mpr q)
      have h7:=h6.2.2.2
      exact ⟨by omega,h6.2.1,by rw [Array.size_push];omega⟩
     exact aam (fun _=>wpS_pure ⟨q3,.inr ⟨rfl,l7,hf⟩⟩) (fun _=>wpS_pure ⟨q3,rfl,l7,hf⟩)
    ·intro z st2 hI
     have q2:=hI.1
     refine unR (J:=fun y:Array Keyed × Nat × Nat × Nat × Nat × Nat=>Lo S R a b y.1 y.2.1 y.2.2.1/\y.2.1+1 < a.size/\y.2.2.1 < b.size/\t+2<=y.1.size) z hI.2 (fun r x hr=>wpS_pure ⟨q2,r,rfl,hr⟩) fun hN=>?_
     refine un7 (J:=fun out ia ib _ _ _=>Lo S R a b out ia ib/\ia+1 < a.size/\ib < b.size/\t+2<=out.size) z hN fun out ia ib mg ac bc hJ=>?_
     dsimp only
     refine wpS_bind (wpS_modify ?_)
     exact wpS_pure ⟨q2.trans ⟨rfl,rfl,rfl,rfl⟩,rfl,hJ⟩
  ·intro z st2 hI
   exfalso
   have h1:=hI.2.2.1.len
   have h2:=hI.2.2.2
   have:a.size+b.size<=max 0 (a.size+b.size):=by omega
   omega
 ·intro z st2 hI
  have q2:=hI.1
  exact unR (J:=fun _=>False) z (.inl hI.2) (fun r x hr=>wpS_pure (h r st2 q2 hr)) fun hN=>hN.2.elim
end
structure MidH (R:Keyed->Keyed->Bool) (L a b tl:List Keyed):Prop where
 perm:(a ++ b ++ tl).Perm L
 so:Srt R tl
 le:∀ x∈a ++ b,∀ y∈tl,R y x=false
 sa:Srt R a
 sb:Srt R b
section
variable {R:Keyed->Keyed->Bool} {L tl a b p:List Keyed}
theorem MidH.takeA (m:MidH R L (a ++ p) b tl) (h:∀ x∈b,∀ y∈p,R y x=false):MidH R L a b (p ++ tl):=by
 have sp:=List.pairwise_append.mp m.sa
 refine ⟨List.Perm.trans ?_ m.perm,List.pairwise_append.mpr ⟨sp.2.1,m.so,fun x hx y hy=>m.le x (List.mem_append_left _ (List.mem_append_right _ hx)) y hy⟩,fun x hx y hy=>?_,sp.1,m.sb⟩
 ·rw [← List.append_assoc,List.append_assoc a p b,List.append_assoc a b p]
  exact List.Perm.append_right tl (List.Perm.append_left a List.perm_append_comm)
 ·rcases List.mem_append.mp hy with hy | hy
  ·rcases List.mem_append.mp hx with hx | hx
   ·exact sp.2.2 x hx y hy
   ·exact h x hx y hy
  ·refine m.le x ?_ y hy
   rcases List.mem_append.mp hx with hx | hx
   ·exact List.mem_append_left _ (List.mem_append_left _ hx)
   ·exact List.mem_append_right _ hx
theorem MidH.takeB (m:MidH R L a (b ++ p) tl) (h:∀ x∈a,∀ y∈p,R y x=false):MidH R L a b (p ++ tl):=by
 have sp:=List.pairwise_append.mp m.sb
 refine ⟨by have:=m.perm;simp only [List.append_assoc] at this ⊢;exact this,List.pairwise_append.mpr ⟨sp.2.1,m.so,fun x hx y hy=>m.le x (List.mem_append_right _ (List.mem_append_right _ hx)) y hy⟩,fun x hx y hy=>?_,m.sa,sp.1⟩
 rcases List.mem_append.mp hy with hy | hy
 ·rcases List.mem_append.mp hx with hx | hx
  ·exact h x hx y hy
  ·exact sp.2.2 x hx y hy
 ·refine m.le x ?_ y hy
  rcases List.mem_append.mp hx with hx | hx
  ·exact List.mem_append_left _ hx
  ·exact List.mem_append_right _ (List.mem_append_left _ hx)
theorem MidH.done (m:MidH R L a b tl) (h:a=[]\/b=[]):(a ++ b ++ tl).Perm L/\Srt R (a ++ b ++ tl):=by
 refine ⟨m.perm,List.pairwise_append.mpr ⟨?_,m.so,m.le⟩⟩
 rcases h with h | h
 ·subst h;exact m.sb
 ·subst h;rw [List.append_nil];exact m.sa
theorem MidH.first (m:MidH R L a b tl) (h:∀ y∈b,∀ x∈a,R x y=false):(b ++ a ++ tl).Perm L/\Srt R (b ++ a ++ tl):=by
 refine ⟨List.Perm.trans (List.Perm.append_right tl List.perm_append_comm) m.perm,List.pairwise_append.mpr ⟨List.pairwise_append.mpr ⟨m.sb,m.sa,h⟩,m.so,fun x hx y hy=>m.le x ?_ y hy⟩⟩
 rcases List.mem_append.mp hx with hx | hx
 ·exact List.mem_append_right _ hx
 ·exact List.mem_append_left _ hx
end
theorem ace {a:Array Keyed} {i:Nat} (h0:0 < i) (h:i<=a.size):a.toList.take i=a.toList.take (i - 1) ++ [a[i - 1]'(by omega)]:=by
 obtain ⟨j,rfl⟩:∃ j,i=j+1:=⟨i - 1,by omega⟩
 rw [List.take_succ]
 have hj:j < a.size:=by omega
 simp [hj]
theorem ake (a:Array Keyed) (k:Nat):(a.extract 0 k).toList=a.toList.take k:=by
 rw [Array.toList_extract];simp [List.extract]
theorem ak3 (a:Array Keyed) (k n:Nat):(a.extract k n).toList=(a.toList.take n).drop k:=by
 rw [Array.toList_extract];simp [List.extract,List.drop_take]
section
variable {M:Model} {A:Around} {E:Value->Shared->Prop} {s:Shared} {κ:SortKind} {S:Keyed->Prop} {R:Keyed->Keyed->Bool}
structure Hi (S:Keyed->Prop) (R:Keyed->Keyed->Bool) (a b out:Array Keyed) (na nb:Nat):Prop where
 mid:MidH R (a.toList ++ b.toList) (a.toList.take na) (b.toList.take nb) out.toList.reverse
 na:na<=a.size
 nb:nb<=b.size
theorem Hi.len {a b out:Array Keyed} {na nb:Nat} (l:Hi S R a b out na nb):out.size+na+nb=a.size+b.size:=by
 have:=l.mid.perm.length_eq
 have h1:=l.na
 have h2:=l.nb
 simp at this
 omega
theorem Hi.doneA {a b out:Array Keyed} {na nb:Nat} (l:Hi S R a b out na nb) (h:na=0\/nb=0):Fin2 R a b (a.extract 0 na ++ b.extract 0 nb ++ out.reverse):=by
 have:=l.mid.done (by
  rcases h with h | h
  ·left;rw [h];simp
  ·right;rw [h];simp)
 unfold Fin2
 rw [Array.toList_append,Array.toList_append,ake,ake,Array.toList_reverse]
 exact this
theorem Hi.firstB {a b out:Array Keyed} {na nb:Nat} (T:Two S R a b) (l:Hi S R a b out na nb) (h:nb=1):Fin2 R a b (b.extract 0 nb ++ a.extract 0 na ++ out.reverse):=by
 subst h
 have:=l.mid.first (by
  intro y hy x hx
  rw [ace (by decide) l.nb] at hy
  have ey:y=b[0]'T.b0:=by simpa using hy
  exact T.first x (List.mem_of_mem_take hx) y (by rw [ey];exact Array.getElem?_eq_getElem _))
 unfold Fin2
 rw [Array.toList_append,Array.toList_append,ake,ake,Array.toList_reverse]
 exact this
theorem ab8 {l:List Keyed} {i:Nat} (h:Srt R l):Srt R (l.take i):=List.Pairwise.sublist (List.take_sublist i l) h
theorem adt {x:Keyed} {l:List Keyed} (C:Cmp M A E s κ S R) (h:Srt R (l ++ [x])) (hx:S x):∀ y∈l ++ [x],R x y=false:=by
 intro y hy
 rcases List.mem_append.mp hy with hy | hy
 ·exact (List.pairwise_append.mp h).2.2 y hy x (by simp)
 ·have:y=x:=by simpa using hy
  rw [this];exact C.irr hx
theorem Hi.pushA {a b out:Array Keyed} {na nb:Nat} (l:Hi S R a b out na nb) (h0:0 < na) (h:∀ x∈b.toList.take nb,R (a[na - 1]'(by have:=l.na;omega)) x=false):Hi S R a b (out.push (a[na - 1]'(by have:=l.na;omega))) (na - 1) nb:=by
 refine ⟨?_,by have:=l.na;omega,l.nb⟩
 have m:=l.mid
 rw [ace h0 l.na] at m
 rw [Array.toList_push,List.reverse_append]
 exact m.takeA (p:=[_]) (fun x hx y hy=>by
  rw [List.mem_singleton.mp hy];exact h x hx)
theorem Hi.pushB {a b out:Array Keyed} {na nb:Nat} (l:Hi S R a b out na nb) (h0:0 < nb) (h:∀ x∈a.toList.take na,R (b[nb - 1]'(by have:=l.nb;omega)) x=false):Hi S R a b (out.push (b[nb - 1]'(by have:=l.nb;omega))) na (nb - 1):=by
 refine ⟨?_,l.na,by have:=l.nb;omega⟩
 have m:=l.mid
 rw [ace h0 l.nb] at m
 rw [Array.toList_push,List.reverse_append]
 exact m.takeB (p:=[_]) (fun x hx y hy=>by
  rw [List.mem_singleton.mp hy];exact h x hx)
theorem Hi.runA {a b out:Array Keyed} {na nb k:Nat} (l:Hi S R a b out na nb) (hk:k<=na) (h:∀ x∈b.toList.take nb,∀ y∈(a.toList.take na).drop k,R y x=false):Hi S R a b (out ++ (a.extract k na).reverse) k nb:=by
 refine ⟨?_,by have:=l.na;omega,l.nb⟩
 have m:=l.mid
 rw [← List.take_append_drop k (a.toList.take na)] at m
 rw [Array.toList_append,Array.toList_reverse,ak3,List.reverse_append,List.reverse_reverse]
 have m2:=m.takeA h
 rw [List.take_take,Nat.min_eq_left hk] at m2
 exact m2
theorem Hi.runB {a b out:Array Keyed} {na nb k:Nat} (l:Hi S R a b out na nb) (hk:k<=nb) (h:∀ x∈a.toList.take na,∀ y∈(b.toList.take nb).drop k,R y x=false):Hi S R a b (out ++ (b.extract k nb).reverse) na k:=by
 refine ⟨?_,l.na,by have:=l.nb;omega⟩
 have m:=l.mid
 rw [← List.take_append_drop k (b.toList.take nb)] at m
 rw [Array.toList_append,Array.toList_reverse,ak3,List.reverse_append,List.reverse_reverse]
 have m2:=m.takeB h
 rw [List.take_take,Nat.min_eq_left hk] at m2
 exact m2
theorem aof (C:Cmp M A E s κ S R) {a b:Array Keyed} (T:Two S R a b) {Q:Array Keyed->SortSt->Prop} {st:SortSt} (hk:kindOf st = κ)
  (h:∀ m st',Eqv st st'->Fin2 R a b m->Q m st'):wpS M A E s (aro a b) Q st:=by
 have SA:∀ i (h:i < a.size),S a[i]:=fun i h=>T.ha _ (by simp)
 have SB:∀ i (h:i < b.size),S b[i]:=fun i h=>T.hb _ (by simp)
 have b0:=T.b0
 have a0:=T.a0
 have la:a.size - 1 < a.size:=by omega
 refine wpS_bind (adk ?_)
 refine wpS_bind (aa0 (x:=a[a.size - 1]'la) (Array.getElem?_eq_getElem la) ?_)
 have l1:Hi S R a b #[a[a.size - 1]'la] (a.size - 1) b.size:=by
  have l0:Hi S R a b #[] a.size b.size:=⟨⟨by simp [List.take_of_length_le],List.Pairwise.nil,fun x hx y hy=>by simp at hy,ab8 T.sa,ab8 T.sb⟩,Nat.le_refl _,Nat.le_refl _⟩
  exact l0.pushA a0 fun x hx=>T.last x (List.mem_of_mem_take hx) _ (Array.getElem?_eq_getElem la)
 refine aam (fun e1=>wpS_pure (h _ _ (Eqv.refl _) (l1.doneA (.inl (beq_iff_eq.mp e1))))) (fun e1=>?_)
 refine aam (fun e2=>wpS_pure (h _ _ (Eqv.refl _) (l1.firstB T (beq_iff_eq.mp e2)))) (fun e2=>?_)
 replace e1:a.size - 1 ≠ 0:=fun q=>e1 (beq_iff_eq.mpr q)
 replace e2:b.size ≠ 1:=fun q=>e2 (beq_iff_eq.mpr q)
 refine wpS_bind (wpS_get ?_)
 have upA:∀ {na nb:Nat} (h1:0 < na) (h2:na<=a.size) (h3:0 < nb) (h4:nb<=b.size),R (b[nb - 1]'(by omega)) (a[na - 1]'(by omega))=true->∀ x∈b.toList.take nb,R (a[na - 1]'(by omega)) x=false:=fun {na nb} h1 h2 h3 h4 er x hx=>by
  have sx:S x:=T.hb x (List.mem_of_mem_take hx)
  have hs:Srt R (b.toList.take (nb - 1) ++ [b[nb - 1]'(by omega)]):=by rw [← ace h3 h4];exact ab8 T.sb
  rw [ace h3 h4] at hx
  exact C.tr _ _ _ sx (SB _ _) (SA _ _) (adt C hs (SB _ _) x hx) (C.asy _ _ (SB _ _) (SA _ _) er)
 have upB:∀ {na nb:Nat} (h1:0 < na) (h2:na<=a.size) (h3:0 < nb) (h4:nb<=b.size),R (b[nb - 1]'(by omega)) (a[na - 1]'(by omega))=false->∀ x∈a.toList.take na,R (b[nb - 1]'(by omega)) x=false:=fun {na nb} h1 h2 h3 h4 er x hx=>by
  have sx:S x:=T.ha x (List.mem_of_mem_take hx)
  have hs:Srt R (a.toList.take (na - 1) ++ [a[na - 1]'(by omega)]):=by rw [← ace h1 h2];exact ab8 T.sa
  rw [ace h1 h2] at hx
  exact C.tr _ _ _ sx (SA _ _) (SB _ _) (adt C hs (SA _ _) x hx) er
 refine wpS_bind (wpS_mono (Q:=fun (z:Option (Array Keyed) × Nat × Nat × Array Keyed × Nat) st'=>Eqv st st'/\∃ r,z.1=some r/\Fin2 R a b r) ?_ ?_)
 ·refine wpS_forRange (fun t (z:Option (Array Keyed) × Nat × Nat × Array Keyed × Nat) st'=>Eqv st st'/\z.1=none/\Hi S R a b z.2.2.2.1 z.2.1 z.2.2.1/\0 < z.2.1/\1 < z.2.2.1/\t+1<=z.2.2.2.1.size) ?_ ?_ ⟨Eqv.refl _,rfl,l1,by dsimp only;omega,by dsimp only;omega,by simp⟩
  ·intro t z st1 _ ht hI
   have q1:=hI.1
   refine un5 (J:=fun na nb out _=>Hi S R a b out na nb/\0 < na/\1 < nb/\t+1<=out.size) z hI.2 fun na nb out mg hJ=>?_
   dsimp only
   refine wpS_bind (wpS_mono (Q:=fun (z:Option (Array Keyed) × Nat × Nat × Array Keyed × Nat × Nat) st'=>Eqv st st'/\((∃ r,z.1=some r/\Fin2 R a b r)\/(z.1=none/\Hi S R a b z.2.2.2.1 z.2.1 z.2.2.1/\0 < z.2.1/\1 < z.2.2.1/\t+2<=z.2.2.2.1.size))) ?_ ?_)
   ·refine wpS_forRange (fun i (z:Option (Array Keyed) × Nat × Nat × Array Keyed × Nat × Nat) st'=>Eqv st st'/\z.1=none/\Hi S R a b z.2.2.2.1 z.2.1 z.2.2.1/\0 < z.2.1/\1 < z.2.2.1/\t+1+min i 1<=z.2.2.2.1.size) ?_ ?_ ⟨q1,rfl,hJ.1,hJ.2.1,hJ.2.2.1,hJ.2.2.2⟩
    ·intro i z st2 _ hi hI
     have q:=hI.1
     refine un6 (J:=fun na nb out _ _=>Hi S R a b out na nb/\0 < na/\1 < nb/\t+1+min i 1<=out.size) z hI.2 fun na nb out ac bc hJ=>?_
     have l:=hJ.1
     have hna:=hJ.2.1
     have hnb:=hJ.2.2.1
     have hsz:=hJ.2.2.2
     have ia:na - 1 < a.size:=by have:=l.na;omega
     have ib:nb - 1 < b.size:=by have:=l.nb;omega
     refine wpS_bind (aa0 (x:=b[nb - 1]) (Array.getElem?_eq_getElem ib) ?_)
     refine wpS_bind (aa0 (x:=a[na - 1]) (Array.getElem?_eq_getElem ia) ?_)
     refine wpS_bind (C.ask _ _ (SB _ ib) (SA _ ia) _ _ (q.k.trans hk) ?_)
     dsimp only
     refine aam (fun er=>?_) (fun er=>?_)
     ·refine wpS_bind (aa0 (x:=a[na - 1]) (Array.getElem?_eq_getElem ia) ?_)
      have l2:=l.pushA hna (upA hna l.na (by omega) l.nb er)
      refine aam (fun e3=>wpS_pure ⟨q,.inl ⟨_,rfl,l2.doneA (.inl (beq_iff_eq.mp e3))⟩⟩) (fun e3=>?_)
      have hf:0 < na - 1/\1 < nb/\t+2<=(out.push a[na - 1]).size:=by
       have e3':na - 1 ≠ 0:=fun q=>e3 (beq_iff_eq.mpr q)
       rw [Array.size_push];omega
      exact aam (fun _=>wpS_pure ⟨q,.inr ⟨rfl,l2,hf⟩⟩) (fun _=>wpS_pure ⟨q,rfl,l2,hf.1,hnb,Nat.le_trans (by omega) hf.2.2⟩)
     ·refine wpS_bind (aa0 (x:=b[nb - 1]) (Array.getElem?_eq_getElem ib) ?_)
      have l2:=l.pushB (by omega) (upB hna l.na (by omega) l.nb (eq_false_of_ne_true er))
      refine aam (fun e3=>wpS_pure ⟨q,.inl ⟨_,rfl,l2.firstB T (beq_iff_eq.mp e3)⟩⟩) (fun e3=>?_)
      have hf:1 < nb - 1/\t+2<=(out.push b[nb - 1]).size:=by
       have e3':nb - 1 ≠ 1:=fun q=>e3 (beq_iff_eq.mpr q)
       rw [Array.size_push];omega
      exact aam (fun _=>wpS_pure ⟨q,.inr ⟨rfl,l2,hna,hf⟩⟩) (fun _=>wpS_pure ⟨q,rfl,l2,hna,hf.1,Nat.le_trans (by omega) hf.2⟩)
    ·exact fun z st2 hI=>⟨hI.1,.inr ⟨hI.2.1,hI.2.2.1,hI.2.2.2.1,hI.2.2.2.2.1,Nat.le_trans (by omega) hI.2.2.2.2.2⟩⟩
   ·intro z st2 hI
    have q2:=hI.1
    refine unR (J:=fun y:Nat × Nat × Array Keyed × Nat × Nat=>Hi S R a b y.2.2.1 y.1 y.2.1/\0 < y.1/\1 < y.2.1/\t+2<=y.2.2.1.size) z hI.2 (fun r x hr=>wpS_pure ⟨q2,r,rfl,hr⟩) fun hN=>?_
    refine un6 (J:=fun na nb out _ _=>Hi S R a b out na nb/\0 < na/\1 < nb/\t+2<=out.size) z hN fun na nb out ac bc hJ=>?_
    dsimp only
    refine wpS_bind (adk ?_)
    refine wpS_bind (wpS_mono (Q:=fun (z:Option (Array Keyed) × Nat × Nat × Array Keyed × Nat × Nat × Nat) st'=>Eqv st st'/\((∃ r,z.1=some r/\Fin2 R a b r)\/(z.1=none/\Hi S R a b z.2.2.2.1 z.2.1 z.2.2.1/\0 < z.2.1/\1 < z.2.2.1/\t+2<=z.2.2.2.1.size))) ?_ ?_)
    ·refine wpS_forRange (fun i (z:Option (Array Keyed) × Nat × Nat × Array Keyed × Nat × Nat × Nat) st'=>Eqv st st'/\z.1=none/\Hi S R a b z.2.2.2.1 z.2.1 z.2.2.1/\0 < z.2.1/\1 < z.2.2.1/\t+2<=z.2.2.2.1.size) ?_ (fun z st2 hI=>⟨hI.1,.inr hI.2⟩) ⟨q2,rfl,hJ⟩
     intro i z st2 _ hi hI
     have q:=hI.1
     refine un7 (J:=fun na nb out _ _ _=>Hi S R a b out na nb/\0 < na/\1 < nb/\t+2<=out.size) z hI.2 fun na nb out mg ac bc hJ=>?_
     have l:=hJ.1
     have hna:=hJ.2.1
     have hnb:=hJ.2.2.1
     have hsz:=hJ.2.2.2
     have hna':=l.na
     have hnb':=l.nb
     have ib:nb - 1 < b.size:=by omega
     dsimp only
     refine' jpn (M:=M) (A:=A) (E:=E) (s:=s) (st:=st2) (β:=Nat) (P:=fun _=>True) (prog:=?prog) (fun JP=>?use) (fun mg' _=>?pf)
     case use =>
      refine aam (fun hm=>?_) (fun hm=>?_)
      ·generalize mg - 1=m
       exact JP m trivial
      ·exact JP mg trivial
     refine wpS_bind (wpS_mono (Q:=fun _ st3=>Eqv st2 st3) (wpS_modify ⟨rfl,rfl,rfl,rfl⟩) fun _ st3 q3=>?_)
     replace q3:=q.trans q3
     refine wpS_bind (aa0 (x:=b[nb - 1]) (Array.getElem?_eq_getElem ib) ?_)
     refine wpS_bind (afw C (SB _ ib) T.ha (by omega) (by rw [List.drop_zero];exact ab8 T.sa) (by omega) (q3.k.trans hk) fun k hk1 h1 h2=>?_)
     rw [List.drop_zero] at h1 h2
     dsimp only
     generalize hac:na - k=ac2
     refine' jpn2 (M:=M) (A:=A) (E:=E) (s:=s) (st:=st3) (P:=fun out2 na2=>Hi S R a b out2 na2 nb/\0 < na2/\(∀ x∈a.toList.take na2,R b[nb - 1] x=false)/\t+2<=out2.size) (prog:=?prog2) (fun JP=>?use2) (fun out2 na2 h5=>?pf2)
     case use2 =>
      refine aam (fun k0=>?_) (fun k0=>?_)
      ·have hsB:Srt R (b.toList.take (nb - 1) ++ [b[nb - 1]]):=by rw [← ace (by omega) hnb'];exact ab8 T.sb
       have l2:Hi S R a b (out ++ (a.extract k na).reverse) k nb:=l.runA hk1 fun x hx y hy=>by
        have sx:S x:=T.hb x (List.mem_of_mem_take hx)
        have sy:S y:=T.ha y (List.mem_of_mem_take (List.mem_of_mem_drop hy))
        rw [ace (by omega) hnb'] at hx
        exact C.tr _ _ _ sx (SB _ ib) sy (adt C hsB (SB _ ib) x hx) (C.asy _ _ (SB _ ib) sy (h2 y hy))
       refine aam (fun e3=>wpS_pure ⟨q3,.inl ⟨_,rfl,l2.doneA (.inl (beq_iff_eq.mp e3))⟩⟩) (fun e3=>?_)
       have hP:Hi S R a b (out ++ (a.extract k na).reverse) k nb/\0 < k/\(∀ x∈a.toList.take k,R b[nb - 1] x=false)/\t+2<=(out ++ (a.extract k na).reverse).size:=by
        have e3':k ≠ 0:=fun q=>e3 (beq_iff_eq.mpr q)
        exact ⟨l2,by omega,h1,by rw [Array.size_append];omega⟩
       revert hP
       clear e3 l2
       generalize out ++ (a.extract k na).reverse=out2
       generalize k=na2
       intro hP
       exact JP out2 na2 hP
      ·have:k=na:=by omega
       rw [this] at h1
       exact JP out na ⟨l,hna,h1,hsz⟩
     have l3:=h5.1
     have hna2:=h5.2.1
     have hle:=h5.2.2.1
     have hsz3:=h5.2.2.2
     have hna2':=l3.na
     have ia:na2 - 1 < a.size:=by omega
     refine wpS_bind (aa0 (x:=b[nb - 1]) (Array.getElem?_eq_getElem ib) ?_)
     have l4:=l3.pushB (by omega) hle
     refine aam (fun e5=>wpS_pure ⟨q3,.inl ⟨_,rfl,l4.firstB T (beq_iff_eq.mp e5)⟩⟩) (fun e5=>?_)
     replace e5:nb - 1 ≠ 1:=fun q=>e5 (beq_iff_eq.mpr q)
     refine wpS_bind (aa0 (x:=a[na2 - 1]) (Array.getElem?_eq_getElem ia) ?_)
     refine wpS_bind (agt C (SA _ ia) T.hb (by omega) (by rw [List.drop_zero];exact ab8 T.sb) (by omega) (q3.k.trans hk) fun k2 hk2 h3 h4=>?_)
     rw [List.drop_zero] at h3 h4
     dsimp only
     generalize hbc:nb - 1 - k2=bc2
     refine' jpn2 (M:=M) (A:=A) (E:=E) (s:=s) (st:=st3) (P:=fun out3 nb3=>Hi S R a b out3 na2 nb3/\1 < nb3/\(∀ x∈b.toList.take nb3,R a[na2 - 1] x=false)/\t+2<=out3.size) (prog:=?prog3) (fun JP=>?use3) (fun out3 nb3 h6=>?pf3)
     case use3 =>
      have hlt:∀ x∈b.toList.take k2,R a[na2 - 1] x=false:=fun x hx=>C.asy _ _ (T.hb x (List.mem_of_mem_take hx)) (SA _ ia) (h3 x hx)
      refine aam (fun k0=>?_) (fun k0=>?_)
      ·have hsA:Srt R (a.toList.take (na2 - 1) ++ [a[na2 - 1]]):=by rw [← ace hna2 hna2'];exact ab8 T.sa
       have l5:Hi S R a b (out2.push b[nb - 1] ++ (b.extract k2 (nb - 1)).reverse) na2 k2:=l4.runB hk2 fun x hx y hy=>by
        have sx:S x:=T.ha x (List.mem_of_mem_take hx)
        have sy:S y:=T.hb y (List.mem_of_mem_take (List.mem_of_mem_drop hy))
        rw [ace hna2 hna2'] at hx
        exact C.tr _ _ _ sx (SA _ ia) sy (adt C hsA (SA _ ia) x hx) (h4 y hy)
       refine aam (fun e6=>wpS_pure ⟨q3,.inl ⟨_,rfl,l5.firstB T (beq_iff_eq.mp e6)⟩⟩) (fun e6=>?_)
       refine aam (fun e7=>wpS_pure ⟨q3,.inl ⟨_,rfl,l5.doneA (.inr (beq_iff_eq.mp e7))⟩⟩) (fun e7=>?_)
       have hP:Hi S R a b (out2.push b[nb - 1] ++ (b.extract k2 (nb - 1)).reverse) na2 k2/\1 < k2/\(∀ x∈b.toList.take k2,R a[na2 - 1] x=false)/\t+2<=(out2.push b[nb - 1] ++ (b.extract k2 (nb - 1)).reverse).size:=by
        have e6':k2 ≠ 1:=fun q=>e6 (beq_iff_eq.mpr q)
        have e7':k2 ≠ 0:=fun q=>e7 (beq_iff_eq.mpr q)
        exact ⟨l5,by omega,hlt,by rw [Array.size_append,Array.size_push];omega⟩
       revert hP
       clear e6 e7 l5
       generalize out2.push b[nb - 1] ++ (b.extract k2 (nb - 1)).reverse=out3
       generalize k2=nb3
       intro hP
       exact JP out3 nb3 hP
      ·have:k2=nb - 1:=by omega
       rw [this] at hlt
       exact JP (out2.push b[nb - 1]) (nb - 1) ⟨l4,by omega,hlt,by rw [Array.size_push];omega⟩
     refine wpS_bind (aa0 (x:=a[na2 - 1]) (Array.getElem?_eq_getElem ia) ?_)
     have l7:=h6.1.pushA hna2 h6.2.2.1
     refine aam (fun e7=>wpS_pure ⟨q3,.inl ⟨_,rfl,l7.doneA (.inl (beq_iff_eq.mp e7))⟩⟩) (fun e7=>?_)
     have hf:0 < na2 - 1/\1 < nb3/\t+2<=(out3.push a[na2 - 1]).size:=by
      have e7':na2 - 1 ≠ 0:=fun q=>e7 (beq_iff_eq.mpr q)
      have h7:=h6.2.2.2
      exact ⟨by omega,h6.2.1,by rw [Array.size_push];omega⟩
     exact aam (fun _=>wpS_pure ⟨q3,.inr ⟨rfl,l7,hf⟩⟩) (fun _=>wpS_pure ⟨q3,rfl,l7,hf⟩)
    ·intro z st2 hI
     have q2:=hI.1
     refine unR (J:=fun y:Nat × Nat × Array Keyed × Nat × Nat × Nat=>Hi S R a b y.2.2.1 y.1 y.2.1/\0 < y.1/\1 < y.2.1/\t+2<=y.2.2.1.size) z hI.2 (fun r x hr=>wpS_pure ⟨q2,r,rfl,hr⟩) fun hN=>?_
     refine un7 (J:=fun na nb out _ _ _=>Hi S R a b out na nb/\0 < na/\1 < nb/\t+2<=out.size) z hN fun na nb out mg ac bc hJ=>?_
     dsimp only
     refine wpS_bind (wpS_modify ?_)
     exact wpS_pure ⟨q2.trans ⟨rfl,rfl,rfl,rfl⟩,rfl,hJ⟩
  ·intro z st2 hI
   exfalso
   have h1:=hI.2.2.1.len
   have h2:=hI.2.2.2
   have:a.size+b.size<=max 0 (a.size+b.size):=by omega
   omega
 ·intro z st2 hI
  have q2:=hI.1
  exact unR (J:=fun _=>False) z (.inl hI.2) (fun r x hr=>wpS_pure (h r st2 q2 hr)) fun hN=>hN.2.elim
end
theorem ai2 (base:Nat):∀ (ms v u w:List Keyed) (j:Nat) (xs:Array Keyed),xs.toList=u ++ v ++ w->v.length=ms.length->u.length=base+j ->
  ((ms.zipIdx j).foldl (fun a x=>match x with | (p,j)=>a.setIfInBounds (base+j) p) xs).toList=u ++ ms ++ w
 | [],v,u,w,j,xs,h1,h2,h3=>by
  have:v=[]:=List.eq_nil_of_length_eq_zero h2
  subst this
  exact h1
 | m :: ms,v,u,w,j,xs,h1,h2,h3=>by
  cases v with
  | nil=>cases h2
  | cons y v =>
   rw [List.zipIdx_cons,List.foldl_cons]
   have ih:=ai2 base ms v (u ++ [m]) w (j+1) (xs.setIfInBounds (base+j) m) (by
    rw [Array.toList_setIfInBounds,h1,← h3]
    simp [List.set_append]) (by simpa using h2) (by simp [h3];omega)
   rw [ih]
   simp
section
variable {M:Model} {A:Around} {E:Value->Shared->Prop} {s:Shared} {κ:SortKind} {S:Keyed->Prop} {R:Keyed->Keyed->Bool}
theorem auc {σ:Type} {st st' : σ} {Q:PUnit->σ->Prop} (h:Q ⟨⟩ st'):wpS M A E s (set st':StateT σ Sem PUnit) Q st:=by
 unfold wpS
 rw [StateT.run_set]
 exact wpAny_pure ⟨rfl,h⟩
theorem aog (C:Cmp M A E s κ S R) {st:SortSt} {i pw pw2:Nat} {pre a b post:List Keyed} (hx:(arrOf st).toList=pre ++ a ++ b ++ post) (hS:∀ x∈(arrOf st).toList,S x)
  (hp1:(pendingOf st)[i]?=some (pre.length,a.length,pw)) (hp2:(pendingOf st)[i+1]?=some (pre.length+a.length,b.length,pw2)) (na:a ≠ []) (nb:b ≠ []) (sA:Srt R a) (sB:Srt R b) (hk:kindOf st = κ) (hf:failedOf st=none)
  {Q:Bool->SortSt->Prop}
  (h:∀ st' m,kindOf st' = κ->failedOf st'=none->pendingOf st'=((pendingOf st).setIfInBounds i (pre.length,a.length+b.length,pw)).eraseIdxIfInBounds (i+1)->(arrOf st').toList=pre ++ m ++ post->m.Perm (a ++ b)->Srt R m->Q true st') :
  wpS M A E s (ak2 i) Q st:=by
 have la:0 < a.length:=List.length_pos_iff.mpr na
 have lb:0 < b.length:=List.length_pos_iff.mpr nb
 have Sa:∀ x∈a,S x:=fun x hx'=>hS x (by rw [hx];simp [hx'])
 have Sb:∀ x∈b,S x:=fun x hx'=>hS x (by rw [hx];simp [hx'])
 have lx:(arrOf st).size=pre.length+a.length+b.length+post.length:=by
  have:=congrArg List.length hx
  simp at this
  omega
 have segA:((arrOf st).toList.drop pre.length).take a.length=a:=by rw [hx];simp [List.append_assoc]
 have segB:((arrOf st).toList.drop (pre.length+a.length)).take b.length=b:=by
  rw [show pre.length+a.length=(pre ++ a).length by simp,hx,List.append_assoc (pre ++ a),List.drop_left,List.take_left]
 refine wpS_bind (wpS_get ?_)
 rw [hp1,hp2]
 refine wpS_bind (wpS_mono (Q:=fun _ st1=>kindOf st1 = κ/\failedOf st1=none/\arrOf st1=arrOf st/\pendingOf st1=((pendingOf st).setIfInBounds i (pre.length,a.length+b.length,pw)).eraseIdxIfInBounds (i+1)) (auc ⟨hk,hf,rfl,rfl⟩) fun _ st1 ⟨k1,f1,a1,p1⟩=>?_)
 obtain ⟨b0,bt,eb⟩:∃ b0 bt,b=b0 :: bt:=by cases b with | nil=>exact absurd rfl nb | cons x r=>exact ⟨x,r,rfl⟩
 have eb0:(arrOf st)[pre.length+a.length]?=some b0:=by
  rw [← Array.getElem?_toList,hx,eb]
  simp [List.getElem?_append]
 have Sb0:S b0:=Sb b0 (by rw [eb];simp)
 have b0le:∀ y∈b,R y b0=false:=fun y hy=>by rw [eb] at hy sB;exact aeg C sB Sb0 y hy
 -- nothing is laid together: the two stand in order already
 have plain:(∀ x∈a,∀ y∈b,R y x=false)->∀ st',Eqv st1 st'->Q true st':=fun hc st' q=>by
  refine h st' (a ++ b) (q.k.trans k1) (q.f.trans f1) (q.p.trans p1) ?_ (List.Perm.refl _) (List.pairwise_append.mpr ⟨sA,sB,hc⟩)
  rw [q.a,a1,hx]
  simp [List.append_assoc]
 refine wpS_bind (aa0 eb0 ?_)
 refine wpS_bind (afw C Sb0 hS (by omega) (by rw [segA];exact sA) la k1 fun k hk1 h1 h2=>?_)
 rw [segA] at h2
 have h1':∀ x∈a.take k,R b0 x=false:=fun x hx'=>h1 x (by
  have:((arrOf st).toList.drop pre.length).take k=a.take k:=by rw [← segA,List.take_take,Nat.min_eq_left hk1]
  rw [this];exact hx')
 dsimp only
 refine aam (fun e=>?_) (fun e=>?_)
 ·have e':a.length - k=0:=by simpa using e
  refine wpS_pure (plain (fun x hx' y hy=>?_) st1 (Eqv.refl _))
  have:a.take k=a:=List.take_of_length_le (by omega)
  rw [this] at h1'
  exact C.tr x b0 y (Sa x hx') Sb0 (Sb y hy) (h1' x hx') (b0le y hy)
 ·have e':a.length - k ≠ 0:=by simpa using e
  -- the last of a
  have hlast:pre.length+k+(a.length - k) - 1=pre.length+(a.length - 1):=by omega
  have lt1:a.length - 1 < a.length:=by omega
  have ela:(arrOf st)[pre.length+k+(a.length - k) - 1]?=some (a[a.length - 1]'lt1):=by
   rw [← Array.getElem?_toList,hx,hlast]
   simp [List.getElem?_append,lt1,List.append_assoc]
  have Sl:S (a[a.length - 1]'lt1):=Sa _ (List.getElem_mem lt1)
  have split_a:a=a.take (a.length - 1) ++ [a[a.length - 1]'lt1]:=by
   have:=List.take_succ (l:=a) (i:=a.length - 1)
   rw [show a.length - 1+1=a.length by omega,List.take_length] at this
   simpa [lt1] using this
  have lele:∀ x∈a,R (a[a.length - 1]'lt1) x=false:=fun x hx'=>by
   have hs:Srt R (a.take (a.length - 1) ++ [a[a.length - 1]'lt1]):=by rw [← split_a];exact sA
   exact adt C hs Sl x (by rw [← split_a];exact hx')
  refine wpS_bind (aa0 ela ?_)
  refine wpS_bind (agt C Sl hS (by omega) (by rw [segB];exact sB) (by omega) k1 fun j hj1 h3 h4=>?_)
  rw [segB] at h4
  have tkB:((arrOf st).toList.drop (pre.length+a.length)).take j=b.take j:=by rw [← segB,List.take_take,Nat.min_eq_left hj1]
  rw [tkB] at h3
  dsimp only
  refine aam (fun e2=>?_) (fun e2=>?_)
  ·have e2':j=0:=by simpa using e2
   subst e2'
   refine wpS_pure (plain (fun x hx' y hy=>?_) st1 (Eqv.refl _))
   exact C.tr x _ y (Sa x hx') Sl (Sb y hy) (lele x hx') (h4 y (by simpa using hy))
  ·have e2':j ≠ 0:=by simpa using e2
   have ex:((arrOf st).extract (pre.length+k) (pre.length+a.length)).toList=a.drop k:=by
    rw [ak3,hx]
    simp [List.append_assoc,List.take_append,List.drop_append]
   have ey:((arrOf st).extract (pre.length+a.length) (pre.length+a.length+j)).toList=b.take j:=by
    rw [ah9,tkB]
   generalize hX:(arrOf st).extract (pre.length+k) (pre.length+a.length)=X at ex
   generalize hY:(arrOf st).extract (pre.length+a.length) (pre.length+a.length+j)=Y at ey
   have sX:X.size=a.length - k:=by have:=congrArg List.length ex;simpa using this
   have sY:Y.size=j:=by have:=congrArg List.length ey;simp at this;omega
   have T:Two S R X Y:=by
    refine ⟨fun x hx'=>Sa x (List.mem_of_mem_drop (by rw [← ex];exact hx')),fun x hx'=>Sb x (List.mem_of_mem_take (by rw [← ey];exact hx')),by rw [ex];exact acq sA,by rw [ey];exact ab8 sB,by omega,by omega,fun x hx' y hy=>?_,fun y hy x hx'=>?_⟩
    ·rw [← Array.getElem?_toList,ey,eb] at hy
     have:y=b0:=by
      obtain ⟨j',rfl⟩:∃ j',j=j'+1:=⟨j - 1,by omega⟩
      simpa using hy.symm
     rw [this]
     rw [ex] at hx'
     exact C.asy _ _ Sb0 (Sa x (List.mem_of_mem_drop hx')) (h2 x hx')
    ·rw [← Array.getElem?_toList,ex,sX] at hx'
     rw [List.getElem?_drop,show k+(a.length - k - 1)=a.length - 1 by omega,List.getElem?_eq_getElem lt1] at hx'
     cases hx'
     rw [ey] at hy
     exact C.asy _ _ (Sb y (List.mem_of_mem_take hy)) Sl (h3 y hy)
   have fin:∀ (m:Array Keyed) (st':SortSt),Eqv st1 st'->Fin2 R X Y m->wpS M A E s (do
     modify fun (z:SortSt)=>setArr z (List.foldl (fun a x=>match x with | (p,j)=>a.setIfInBounds (pre.length+k+j) p) (arrOf z) m.toList.zipIdx)
     let z ← get
     pure (failedOf z).isNone) Q st':=by
    intro m st' q ⟨mp,ms⟩
    rw [ex,ey] at mp
    refine wpS_bind (wpS_modify ?_)
    refine wpS_bind (wpS_get ?_)
    refine wpS_pure ?_
    show Q (failedOf st').isNone _
    rw [q.f,f1]
    have lm:m.toList.length=(a.drop k).length+(b.take j).length:=by rw [mp.length_eq,List.length_append]
    have memM:∀ z∈m.toList,z∈a.drop k\/z∈b.take j:=fun z hz=>List.mem_append.mp (mp.mem_iff.mp hz)
    refine h _ (a.take k ++ m.toList ++ b.drop j) (q.k.trans k1) (q.f.trans f1) (q.p.trans p1) ?_ ?_ ?_
    ·show (List.foldl _ (arrOf st') m.toList.zipIdx).toList=_
     have base:(arrOf st').toList=(pre ++ a.take k) ++ (a.drop k ++ b.take j) ++ (b.drop j ++ post):=by
      rw [q.a,a1,hx]
      have t1:=List.take_append_drop k a
      have t2:=List.take_append_drop j b
      calc pre ++ a ++ b ++ post=pre ++ (a.take k ++ a.drop k) ++ (b.take j ++ b.drop j) ++ post:=by rw [t1,t2]
       _=_:=by simp only [List.append_assoc]
     have:=ai2 (pre.length+k) m.toList (a.drop k ++ b.take j) (pre ++ a.take k) (b.drop j ++ post) 0 (arrOf st') base (by rw [List.length_append,lm]) (by rw [List.length_append,List.length_take];omega)
     rw [this]
     simp only [List.append_assoc]
    ·have t1:=List.take_append_drop k a
     have t2:=List.take_append_drop j b
     calc (a.take k ++ m.toList ++ b.drop j).Perm (a.take k ++ (a.drop k ++ b.take j) ++ b.drop j):=List.Perm.append_right _ (List.Perm.append_left _ mp)
      _ = a ++ b:=by
       simp only [List.append_assoc]
       rw [t2,← List.append_assoc,t1]
    ·have sa2:Srt R (a.take k ++ a.drop k):=by rw [List.take_append_drop];exact sA
     have sb2:Srt R (b.take j ++ b.drop j):=by rw [List.take_append_drop];exact sB
     have ca:=(List.pairwise_append.mp sa2).2.2
     have cb:=(List.pairwise_append.mp sb2).2.2
     refine List.pairwise_append.mpr ⟨List.pairwise_append.mpr ⟨ab8 sA,ms,fun x hx' y hy=>?_⟩,acq sB,fun x hx' y hy=>?_⟩
     ·rcases memM y hy with hy | hy
      ·exact ca x hx' y hy
      ·exact C.tr x b0 y (Sa x (List.mem_of_mem_take hx')) Sb0 (Sb y (List.mem_of_mem_take hy)) (h1' x hx') (b0le y (List.mem_of_mem_take hy))
     ·have Sy:=Sb y (List.mem_of_mem_drop hy)
      rcases List.mem_append.mp hx' with hx' | hx'
      ·exact C.tr x b0 y (Sa x (List.mem_of_mem_take hx')) Sb0 Sy (h1' x hx') (b0le y (List.mem_of_mem_drop hy))
      ·rcases memM x hx' with hx' | hx'
       ·exact C.tr x _ y (Sa x (List.mem_of_mem_drop hx')) Sl Sy (lele x (List.mem_of_mem_drop hx')) (h4 y hy)
       ·exact cb x hx' y hy
   refine aam (fun e3=>?_) (fun e3=>?_)
   ·exact wpS_bind (aoe C T k1 fun m st' q fm=>fin m st' q fm)
   ·exact wpS_bind (aof C T k1 fun m st' q fm=>fin m st' q fm)
end
noncomputable def e (xs:Array Keyed) (k:Nat):Keyed:=(xs[k]?).getD (.none,.none)
theorem ahd {xs:Array Keyed} {k:Nat} (h:k < xs.size):xs[k]?=some (e xs k):=by
 unfold e;rw [Array.getElem?_eq_getElem h];rfl
def Asc (R:Keyed->Keyed->Bool) (xs:Array Keyed) (l h:Nat):Prop:=∀ i j,l<=i->i<=j->j < h->R (e xs j) (e xs i)=false
def Des (R:Keyed->Keyed->Bool) (xs:Array Keyed) (l h:Nat):Prop:=∀ i j,l<=i->i<=j->j < h->R (e xs i) (e xs j)=false
structure Bs (κ:SortKind) (p0:Array (Nat × Nat × Nat)) (a0:Array Keyed) (lo:Nat) (st:SortSt):Prop where
 k:kindOf st = κ
 f:failedOf st=none
 p:pendingOf st=p0
 perm:(arrOf st).toList.Perm a0.toList
 pre:∀ k,k < lo->(arrOf st)[k]?=a0[k]?
theorem arq {xs:Array Keyed} {src d:Nat} (hs:src < xs.size) (hd:d<=src) (k:Nat):e (bubble xs src d) k=if k=src - d then e xs src else if src - d < k/\k<=src then e xs (k - 1) else e xs k:=by
 unfold e
 rw [getElem?_bubble hs d hd]
 repeat' split
 all_goals rfl
theorem acz {xs:Array Keyed} {i j:Nat} (hj:j<=xs.size) (k:Nat):e (mirror xs i j ((j - i) / 2)) k=if i<=k/\k < j then e xs (i+j - 1 - k) else e xs k:=by
 unfold e
 rw [getElem?_mirror_all hj]
 split <;> rfl
section
variable {M:Model} {A:Around} {E:Value->Shared->Prop} {s:Shared} {κ:SortKind} {S:Keyed->Prop} {R:Keyed->Keyed->Bool} {p0:Array (Nat × Nat × Nat)} {a0:Array Keyed} {lo:Nat}
theorem Bs.size {st:SortSt} (B:Bs κ p0 a0 lo st):(arrOf st).size=a0.size:=by
 have:=B.perm.length_eq
 simpa using this
theorem Bs.sat {st:SortSt} (B:Bs κ p0 a0 lo st) (hS:∀ x∈a0.toList,S x) {k:Nat} (hk:k < a0.size):S (e (arrOf st) k):=by
 have h:=ahd (xs:=arrOf st) (k:=k) (by rw [B.size];exact hk)
 refine hS _ (B.perm.mem_iff.mp ?_)
 rw [← Array.getElem?_toList] at h
 exact List.mem_of_getElem? h
theorem afx (C:Cmp M A E s κ S R) (hS:∀ x∈a0.toList,S x) {st:SortSt} (B:Bs κ p0 a0 lo st) {i j:Nat} (hi:i < a0.size) (hj:j < a0.size) {Q:Option Bool->SortSt->Prop} (h:Q (some (R (e (arrOf st) i) (e (arrOf st) j))) st) :
  wpS M A E s (ltAt' i j) Q st:=by
 rw [ltAt'_eq]
 refine wpS_bind (wpS_get ?_)
 refine wpS_bind (aa0 (ahd (by rw [B.size];exact hi)) ?_)
 refine wpS_bind (aa0 (ahd (by rw [B.size];exact hj)) ?_)
 exact C.ask _ _ (B.sat hS hi) (B.sat hS hj) _ _ B.k h
theorem ars (C:Cmp M A E s κ S R) {xs:Array Keyed} {l h:Nat} (hS:∀ k,k<=h->S (e xs k)) (hl:l < h) (a:Asc R xs l h) (n:R (e xs h) (e xs (h - 1))=false):Asc R xs l (h+1):=by
 intro i j h1 h2 h3
 by_cases hj:j=h
 ·subst hj
  by_cases hi:i=j
  ·subst hi;exact C.irr (hS _ (Nat.le_refl _))
  ·exact C.tr _ (e xs (j - 1)) _ (hS _ (by omega)) (hS _ (by omega)) (hS _ (by omega)) (a i (j - 1) h1 (by omega) (by omega)) n
 ·exact a i j h1 h2 (by omega)
theorem ae5 (C:Cmp M A E s κ S R) {xs:Array Keyed} {l h:Nat} (hS:∀ k,k<=h->S (e xs k)) (hl:l < h) (a:Des R xs l h) (n:R (e xs (h - 1)) (e xs h)=false):Des R xs l (h+1):=by
 intro i j h1 h2 h3
 by_cases hj:j=h
 ·subst hj
  by_cases hi:i=j
  ·subst hi;exact C.irr (hS _ (Nat.le_refl _))
  ·exact C.tr _ (e xs (j - 1)) _ (hS _ (by omega)) (hS _ (by omega)) (hS _ (by omega)) n (a i (j - 1) h1 (by omega) (by omega))
 ·exact a i j h1 h2 (by omega)
theorem Bs.set {st:SortSt} (B:Bs κ p0 a0 lo st) {xs:Array Keyed} (hp:xs.Perm (arrOf st)) (hl:∀ k,k < lo->xs[k]?=(arrOf st)[k]?):Bs κ p0 a0 lo (setArr st xs) :=
 ⟨B.k,B.f,B.p,hp.toList.trans B.perm,fun k hk=>(hl k hk).trans (B.pre k hk)⟩
theorem aoh (C:Cmp M A E s κ S R) (hS:∀ x∈a0.toList,S x) {st:SortSt} (B:Bs κ p0 a0 lo st) {n ok:Nat} (hn:lo+n<=a0.size) (hok:ok<=n) (h1:1<=n) (hs:Asc R (arrOf st) lo (lo+ok)) {Q:Bool->SortSt->Prop}
  (h:∀ st',Bs κ p0 a0 lo st'->Asc R (arrOf st') lo (lo+n)->Q true st'):wpS M A E s (arp lo n ok) Q st:=by
 refine wpS_bind (wpS_mono (Q:=fun (z:Option Bool × Unit) st'=>z.1=none/\Bs κ p0 a0 lo st'/\Asc R (arrOf st') lo (lo+n)) ?_ ?_)
 ·refine wpS_forRange (fun k (z:Option Bool × Unit) st'=>z.1=none/\Bs κ p0 a0 lo st'/\Asc R (arrOf st') lo (lo+k)) ?_ ?_ ⟨rfl,B,fun i j q1 q2 q3=>?_⟩
  ·rintro k ⟨o,_⟩ st1 hk1 hk2 ⟨rfl,B1,as⟩
   have SE:∀ j,j < lo+n->S (e (arrOf st1) j):=fun j hj=>B1.sat hS (by omega)
   refine wpS_bind (wpS_mono (Q:=fun (z:Option Bool × Nat × Nat) st'=>st'=st1/\z.1=none/\z.2.1<=k/\(∀ i,i < z.2.1->R (e (arrOf st1) (lo+k)) (e (arrOf st1) (lo+i))=false)/\(∀ i,z.2.1<=i->i < k->R (e (arrOf st1) (lo+k)) (e (arrOf st1) (lo+i))=true)) ?_ ?_)
   ·refine wpS_forRange (fun t (z:Option Bool × Nat × Nat) st'=>st'=st1/\z.1=none/\z.2.1<=z.2.2/\z.2.2<=k/\z.2.2 - z.2.1+t<=k/\(∀ i,i < z.2.1->R (e (arrOf st1) (lo+k)) (e (arrOf st1) (lo+i))=false)/\(∀ i,z.2.2<=i->i < k->R (e (arrOf st1) (lo+k)) (e (arrOf st1) (lo+i))=true)) ?_ ?_
     ⟨rfl,rfl,Nat.zero_le _,Nat.le_refl _,by dsimp only;omega,fun i hi=>absurd hi (Nat.not_lt_zero _),fun i q1 q2=>by dsimp only at q1;omega⟩
    ·rintro t ⟨o,l,r⟩ st2 _ ht ⟨rfl,eo,q1,q2,q3,q4,q5⟩
     dsimp only at eo q1 q2 q3 q4 q5 ⊢
     subst eo
     refine aam (fun hlr=>?_) (fun hlr=>?_)
     ·have:l=r:=by omega
      subst this
      exact wpS_pure ⟨rfl,rfl,q2,q4,q5⟩
     ·have hm:(l+r) / 2 < r:=by omega
      have hm2:l<=(l+r) / 2:=by omega
      refine wpS_bind (afx C hS B1 (by omega) (by omega) ?_)
      dsimp only
      cases er:R (e (arrOf st2) (lo+k)) (e (arrOf st2) (lo+(l+r) / 2)) with
      | true =>
       rw [if_pos rfl]
       refine wpS_pure ⟨rfl,rfl,hm2,by dsimp only;omega,by dsimp only;omega,q4,fun i i1 i2=>?_⟩
       dsimp only at i1
       cases e2:R (e (arrOf st2) (lo+k)) (e (arrOf st2) (lo+i)) with
       | true=>rfl
       | false =>
        have:=C.tr _ _ _ (SE _ (by omega)) (SE _ (by omega)) (SE _ (by omega)) (as (lo+(l+r) / 2) (lo+i) (by omega) (by omega) (by omega)) e2
        rw [this] at er;cases er
      | false =>
       rw [if_neg (by decide)]
       refine wpS_pure ⟨rfl,rfl,by dsimp only;omega,q2,by dsimp only;omega,fun i i1=>?_,q5⟩
       dsimp only at i1
       exact C.tr _ _ _ (SE _ (by omega)) (SE _ (by omega)) (SE _ (by omega)) (as (lo+i) (lo+(l+r) / 2) (by omega) (by omega) (by omega)) er
    ·rintro ⟨o,l,r⟩ st2 ⟨rfl,eo,q1,q2,q3,q4,q5⟩
     dsimp only at eo q1 q2 q3 q4 q5 ⊢
     have : l = r := by have:k ≤ max 0 k := by omega
                        omega
     subst this
     exact ⟨rfl,eo,q2,q4,q5⟩
   ·rintro ⟨o,l,r⟩ st2 ⟨rfl,eo,q1,q4,q5⟩
    dsimp only at eo q1 q4 q5 ⊢
    subst eo
    dsimp only
    have hsz:lo+k < (arrOf st2).size:=by rw [B1.size];omega
    have hd:(lo+k) - (lo+l)=k - l:=by omega
    refine wpS_bind (wpS_modify ?_)
    have eb:∀ j,e (bubble (arrOf st2) (lo+k) (lo+k - (lo+l))) j=if j=lo+l then e (arrOf st2) (lo+k) else if lo+l < j/\j<=lo+k then e (arrOf st2) (j - 1) else e (arrOf st2) j:=fun j=>by
     rw [arq hsz (by omega),show lo+k - (lo+k - (lo+l))=lo+l by omega]
    refine wpS_pure ⟨rfl,B1.set (bubble_perm _ _ _) (fun j hj=>?_),fun i j i1 i2 i3=>?_⟩
    ·show (bubble (arrOf st2) (lo+k) (lo+k - (lo+l)))[j]?=_
     rw [getElem?_bubble hsz _ (by omega),if_neg (by omega),if_neg (by omega)]
    ·show R (e (bubble (arrOf st2) (lo+k) (lo+k - (lo+l))) j) (e (bubble (arrOf st2) (lo+k) (lo+k - (lo+l))) i)=false
     rw [eb,eb]
     have SE':∀ j,j < lo+n->S (e (arrOf st2) j):=SE
     by_cases j1:j=lo+l
     ·rw [if_pos j1]
      by_cases i4:i=lo+l
      ·rw [if_pos i4];exact C.irr (SE _ (by omega))
      ·rw [if_neg i4,if_neg (by omega)]
       have:=q4 (i - lo) (by omega)
       rw [show lo+(i - lo)=i by omega] at this
       exact this
     ·rw [if_neg j1]
      by_cases j2:lo+l < j/\j<=lo+k
      ·rw [if_pos j2]
       have gt:=q5 (j - 1 - lo) (by omega) (by omega)
       rw [show lo+(j - 1 - lo)=j - 1 by omega] at gt
       by_cases i4:i=lo+l
       ·rw [if_pos i4];exact C.asy _ _ (SE _ (by omega)) (SE _ (by omega)) gt
       ·rw [if_neg i4]
        by_cases i5:lo+l < i/\i<=lo+k
        ·rw [if_pos i5];exact as (i - 1) (j - 1) (by omega) (by omega) (by omega)
        ·rw [if_neg i5];exact as i (j - 1) (by omega) (by omega) (by omega)
      ·rw [if_neg j2,if_neg (by omega),if_neg (by omega)]
       exact as i j (by omega) (by omega) (by omega)
  ·rintro ⟨o,_⟩ st1 ⟨eo,B1,as⟩
   exact ⟨eo,B1,fun i j i1 i2 i3=>as i j i1 i2 (by omega)⟩
  ·by_cases hj:j < lo+ok
   ·exact hs i j q1 q2 hj
   ·have:i=j:=by omega
    subst this
    exact C.irr (B.sat hS (by omega))
 ·rintro ⟨o,_⟩ st1 ⟨eo,B1,as⟩
  dsimp only at eo ⊢
  subst eo
  exact wpS_pure (h st1 B1 as)
end
def Eqb (R:Keyed->Keyed->Bool) (xs:Array Keyed) (l h:Nat):Prop:=∀ i j,l<=i->i < h->l<=j->j < h->R (e xs i) (e xs j)=false
section
variable {M:Model} {A:Around} {E:Value->Shared->Prop} {s:Shared} {κ:SortKind} {S:Keyed->Prop} {R:Keyed->Keyed->Bool} {p0:Array (Nat × Nat × Nat)} {a0:Array Keyed} {lo:Nat}
theorem ana {α:Type} {prog:StateT SortSt Sem α} {P:SortSt->Prop} {Q : α->SortSt->Prop} {G:Prop} (use:(∀ st,P st->wpS M A E s prog Q st)->G) (pf:∀ st,P st->wpS M A E s prog Q st):G:=use pf
theorem ak4 (C:Cmp M A E s κ S R) (hS:∀ x∈a0.toList,S x) {st:SortSt} (B:Bs κ p0 a0 lo st) {a nrem:Nat} (h1:1<=a) (h2:a<=nrem) (hn:lo+nrem<=a0.size) (as:Asc R (arrOf st) lo (lo+a)) {Q:Option (Option Nat) × Nat->SortSt->Prop}
  (h:∀ n,a<=n->n<=nrem->Asc R (arrOf st) lo (lo+n)->(n < nrem->R (e (arrOf st) (lo+n)) (e (arrOf st) (lo+n - 1))=true)->Q (none,n) st) :
  wpS M A E s (forIn [a:nrem] ((none,a):Option (Option Nat) × Nat) (fun (_:Nat) z=>ltAt' (lo+z.2) (lo+z.2 - 1) >>= fun x=>match x with
   | some smaller=>if smaller=true then pure (ForInStep.done (none,z.2)) else pure (ForInStep.yield (none,z.2+1))
   | _=>pure (ForInStep.done (some none,z.2)))) Q st:=by
 refine wpS_forRange (fun t (z:Option (Option Nat) × Nat) st'=>st'=st/\z=(none,t)/\Asc R (arrOf st) lo (lo+t)) ?_ ?_ ⟨rfl,rfl,as⟩
 ·rintro t ⟨o,n⟩ st1 t1 t2 ⟨rfl,ez,as1⟩
  cases ez
  dsimp only
  refine wpS_bind (afx C hS B (by omega) (by omega) ?_)
  dsimp only
  cases er:R (e (arrOf st1) (lo+t)) (e (arrOf st1) (lo+t - 1)) with
  | true =>
   rw [if_pos rfl]
   exact wpS_pure (h t t1 (by omega) as1 fun _=>er)
  | false =>
   rw [if_neg (by decide)]
   exact wpS_pure ⟨rfl,rfl,ars C (h:=lo+t) (fun k hk=>B.sat hS (by omega)) (by omega) as1 er⟩
 ·rintro ⟨o,n⟩ st1 ⟨rfl,ez,as1⟩
  cases ez
  rw [show max a nrem=nrem by omega] at as1 ⊢
  exact h nrem h2 (Nat.le_refl _) as1 fun z=>absurd z (Nat.lt_irrefl _)
theorem art (C:Cmp M A E s κ S R) {st:SortSt} (B:Bs κ p0 a0 lo st) {n:Nat} (hn:lo+n<=a0.size) (de:Des R (arrOf st) lo (lo+n)) :
  Bs κ p0 a0 lo (setArr st (mirror (arrOf st) lo (lo+n) ((lo+n - lo) / 2)))/\Asc R (mirror (arrOf st) lo (lo+n) ((lo+n - lo) / 2)) lo (lo+n):=by
 have hz:lo+n<=(arrOf st).size:=by rw [B.size];exact hn
 refine ⟨B.set (mirror_perm _ _ _ _) (fun k hk=>by rw [getElem?_mirror_all hz,if_neg (by omega)]),fun i j h1 h2 h3=>?_⟩
 rw [acz hz,acz hz,if_pos (by omega),if_pos (by omega)]
 exact de _ _ (by omega) (by omega) (by omega)
theorem aia (C:Cmp M A E s κ S R) (hS:∀ x∈a0.toList,S x) {st:SortSt} (B:Bs κ p0 a0 lo st) {l h m:Nat} (hl:lo<=l) (hh:h<=a0.size) (hm:h<=m) (hm2:m<=a0.size) (de:Des R (arrOf st) lo m) (eq:Eqb R (arrOf st) l h) :
  Bs κ p0 a0 lo (setArr st (mirror (arrOf st) l h ((h - l) / 2)))/\Des R (mirror (arrOf st) l h ((h - l) / 2)) lo m:=by
 have hz:h<=(arrOf st).size:=by rw [B.size];exact hh
 refine ⟨B.set (mirror_perm _ _ _ _) (fun k hk=>by rw [getElem?_mirror_all hz,if_neg (by omega)]),fun i j h1 h2 h3=>?_⟩
 rw [acz hz,acz hz]
 have SE:∀ k,k < m->S (e (arrOf st) k):=fun k hk=>B.sat hS (by omega)
 by_cases c1:l<=i/\i < h
 ·rw [if_pos c1]
  by_cases c2:l<=j/\j < h
  ·rw [if_pos c2]
   exact eq _ _ (by omega) (by omega) (by omega) (by omega)
  ·rw [if_neg c2]
   exact de _ _ (by omega) (by omega) (by omega)
 ·rw [if_neg c1]
  by_cases c2:l<=j/\j < h
  ·rw [if_pos c2]
   exact de _ _ (by omega) (by omega) (by omega)
  ·rw [if_neg c2]
   exact de _ _ (by omega) (by omega) (by omega)
theorem apv (C:Cmp M A E s κ S R) (hS:∀ x∈a0.toList,S x) {st:SortSt} (B:Bs κ p0 a0 lo st) {nrem:Nat} (h1:1<=nrem) (hn:lo+nrem<=a0.size) {Q:Option Nat->SortSt->Prop}
  (h:∀ st' n,Bs κ p0 a0 lo st'->1<=n->n<=nrem->Asc R (arrOf st') lo (lo+n)->Q (some n) st'):wpS M A E s (aub lo nrem) Q st:=by
 refine wpS_bind (ak4 C hS B (Nat.le_refl 1) h1 hn (fun i j i1 i2 i3=>?_) fun n n1 n2 as br=>?_)
 ·have:i=j:=by omega
  subst this
  exact C.irr (B.sat hS (by omega))
 dsimp only
 refine aam (fun en=>wpS_pure (h st n B n1 n2 as)) (fun en=>?_)
 have en':n ≠ nrem:=by simpa using en
 have hlt:n < nrem:=by omega
 have br':=br hlt
 refine ana (M:=M) (A:=A) (E:=E) (s:=s) (α:=Option Nat) (Q:=Q) (P:=fun st2=>Bs κ p0 a0 lo st2/\Des R (arrOf st2) lo (lo+n)/\R (e (arrOf st2) (lo+n)) (e (arrOf st2) (lo+n - 1))=true) (prog:=?prog) (fun JP=>?use) (fun st2 ⟨B2,de,br2⟩=>?pf)
 case use =>
  refine aam (fun g1=>?_) (fun g1=>?_)
  ·refine wpS_bind (afx C hS B (by omega) (by omega) ?_)
   dsimp only
   cases er:R (e (arrOf st) lo) (e (arrOf st) (lo+n - 1)) with
   | true=>rw [if_pos rfl];exact wpS_pure (h st n B n1 n2 as)
   | false =>
    rw [if_neg (by decide)]
    -- all of them are equal
    have SE:∀ k,k < lo+n->S (e (arrOf st) k):=fun k hk=>B.sat hS (by omega)
    have all:Eqb R (arrOf st) lo (lo+n):=fun i j i1 i2 j1 j2=>by
     -- j<=last<=first<=i
     have a1:=as j (lo+n - 1) j1 (by omega) (by omega)
     have a2:=as lo i (Nat.le_refl _) i1 i2
     exact C.tr _ _ _ (SE j j2) (SE lo (by omega)) (SE i i2) (C.tr _ _ _ (SE j j2) (SE (lo+n - 1) (by omega)) (SE lo (by omega)) a1 er) a2
    have de:Des R (arrOf st) lo (lo+n):=fun i j i1 i2 i3=>all i j i1 (by omega) (by omega) i3
    have hz:lo+n<=(arrOf st).size:=by rw [B.size];omega
    obtain ⟨B3,de3⟩:=aia C hS B (Nat.le_refl lo) (show lo+n<=a0.size by omega) (Nat.le_refl _) (by omega) de all
    refine wpS_bind (wpS_modify ?_)
    refine JP _ ⟨B3,de3,?_⟩
    show R (e (mirror (arrOf st) lo (lo+n) ((lo+n - lo) / 2)) (lo+n)) (e (mirror (arrOf st) lo (lo+n) ((lo+n - lo) / 2)) (lo+n - 1))=true
    rw [acz hz,acz hz,if_neg (by omega),if_pos (by omega)]
    rw [show lo+(lo+n) - 1 - (lo+n - 1)=lo by omega]
    cases e2:R (e (arrOf st) (lo+n)) (e (arrOf st) lo) with
    | true=>rfl
    | false =>
     have:=C.tr _ _ _ (SE (lo+n - 1) (by omega)) (SE lo (by omega)) (B.sat hS (show lo+n < a0.size by omega)) er e2
     rw [this] at br';cases br'
  ·have:n=1:=by omega
   subst this
   refine JP st ⟨B,fun i j i1 i2 i3=>?_,br'⟩
   have:i=j:=by omega
   subst this
   exact C.irr (B.sat hS (by omega))
 case pf =>
  -- the falling part
  refine wpS_bind (adk ?_)
  refine wpS_bind (wpS_mono (Q:=fun (z:Option (Option Nat) × Nat × Nat) st'=>z.1=none/\Bs κ p0 a0 lo st'/\z.2.1<=nrem/\z.2.2+1<=z.2.1/\Des R (arrOf st') lo (lo+z.2.1)/\Eqb R (arrOf st') (lo+z.2.1 - (z.2.2+1)) (lo+z.2.1)) ?_ ?_)
  ·refine wpS_forRange (fun t (z:Option (Option Nat) × Nat × Nat) st'=>z.1=none/\z.2.1=t/\Bs κ p0 a0 lo st'/\z.2.2+1<=z.2.1/\Des R (arrOf st') lo (lo+z.2.1)/\Eqb R (arrOf st') (lo+z.2.1 - (z.2.2+1)) (lo+z.2.1)) ?_ ?_ ⟨rfl,rfl,B2,by dsimp only;omega,?_,fun i j i1 i2 j1 j2=>?_⟩
   ·rintro t ⟨o,m,neq⟩ st3 t1 t2 ⟨eo,em,B3,hq,de3,eq3⟩
    dsimp only at eo em hq de3 eq3 ⊢
    subst eo em
    have SE:∀ k,k < a0.size->S (e (arrOf st3) k):=fun k hk=>B3.sat hS hk
    refine wpS_bind (afx C hS B3 (by omega) (by omega) ?_)
    dsimp only
    cases er:R (e (arrOf st3) (lo+m)) (e (arrOf st3) (lo+m - 1)) with
    | true =>
     rw [if_pos rfl]
     refine aam (fun g=>?_) (fun g=>?_)
     ·have hz:lo+m<=(arrOf st3).size:=by rw [B3.size];omega
      obtain ⟨B4,de4⟩:=aia C hS B3 (l:=lo+m - (neq+1)) (h:=lo+m) (by omega) (by omega) (Nat.le_refl _) (by omega) de3 eq3
      have em1:∀ k,e (mirror (arrOf st3) (lo+m - (neq+1)) (lo+m) ((lo+m - (lo+m - (neq+1))) / 2)) k=if lo+m - (neq+1)<=k/\k < lo+m then e (arrOf st3) (lo+m - (neq+1)+(lo+m) - 1 - k) else e (arrOf st3) k:=fun k=>acz hz k
      refine wpS_bind (wpS_modify ?_)
      refine wpS_pure ⟨rfl,rfl,B4,by dsimp only;omega,?_,fun i j i1 i2 j1 j2=>?_⟩
      ·show Des R (mirror (arrOf st3) (lo+m - (neq+1)) (lo+m) ((lo+m - (lo+m - (neq+1))) / 2)) lo (lo+(m+1))
       refine ae5 C (h:=lo+m) (fun k hk=>B4.sat hS (by omega)) (by omega) de4 ?_
       rw [em1,em1,if_pos (by omega),if_neg (by omega)]
       rw [show lo+m - (neq+1)+(lo+m) - 1 - (lo+m - 1)=lo+m - (neq+1) by omega]
       exact C.tr _ _ _ (SE _ (by omega)) (SE (lo+m - 1) (by omega)) (SE _ (by omega)) (C.asy _ _ (SE _ (by omega)) (SE _ (by omega)) er) (de3 _ _ (by omega) (by omega) (by omega))
      ·dsimp only at i1 i2 j1 j2
       have:i=j:=by omega
       subst this
       exact C.irr (B4.sat hS (by omega))
     ·have:neq=0:=by omega
      subst this
      refine wpS_pure ⟨rfl,rfl,B3,by dsimp only;omega,ae5 C (h:=lo+m) (fun k hk=>SE k (by omega)) (by omega) de3 (C.asy _ _ (SE _ (by omega)) (SE _ (by omega)) er),fun i j i1 i2 j1 j2=>?_⟩
      dsimp only at i1 i2 j1 j2
      have:i=j:=by omega
      subst this
      exact C.irr (SE _ (by omega))
    | false =>
     rw [if_neg (by decide)]
     refine wpS_bind (afx C hS B3 (by omega) (by omega) ?_)
     dsimp only
     cases er2:R (e (arrOf st3) (lo+m - 1)) (e (arrOf st3) (lo+m)) with
     | true =>
      rw [if_pos rfl]
      exact wpS_pure ⟨rfl,B3,by dsimp only;omega,hq,de3,eq3⟩
     | false =>
      rw [if_neg (by decide)]
      refine wpS_pure ⟨rfl,rfl,B3,by dsimp only;omega,ae5 C (h:=lo+m) (fun k hk=>SE k (by omega)) (by omega) de3 er2,fun i j i1 i2 j1 j2=>?_⟩
      dsimp only at i1 i2 j1 j2
      by_cases ci:i=lo+m
      ·by_cases cj:j=lo+m
       ·rw [ci,cj];exact C.irr (SE _ (by omega))
       ·rw [ci]
        exact C.tr _ _ _ (SE j (by omega)) (SE (lo+m - 1) (by omega)) (SE _ (by omega)) (eq3 (lo+m - 1) j (by omega) (by omega) (by omega) (by omega)) er
      ·by_cases cj:j=lo+m
       ·rw [cj]
        exact C.tr _ _ _ (SE _ (by omega)) (SE (lo+m - 1) (by omega)) (SE i (by omega)) er2 (eq3 i (lo+m - 1) (by omega) (by omega) (by omega) (by omega))
       ·exact eq3 i j (by omega) (by omega) (by omega) (by omega)
   ·rintro ⟨o,m,neq⟩ st3 ⟨eo,em,B3,hq,de3,eq3⟩
    dsimp only at eo em hq de3 eq3 ⊢
    exact ⟨eo,B3,by omega,hq,de3,eq3⟩
   ·exact ae5 C (h:=lo+n) (fun k hk=>B2.sat hS (by omega)) (by omega) de (C.asy _ _ (B2.sat hS (by omega)) (B2.sat hS (by omega)) br2)
   ·dsimp only at i1 i2 j1 j2
    have:i=j:=by omega
    subst this
    exact C.irr (B2.sat hS (by omega))
  ·rintro ⟨o,m,neq⟩ st3 ⟨eo,B3,hm,hq,de3,eq3⟩
   dsimp only at eo hm hq de3 eq3 ⊢
   subst eo
   dsimp only
   refine ana (M:=M) (A:=A) (E:=E) (s:=s) (α:=Option Nat) (Q:=Q) (P:=fun st4=>Bs κ p0 a0 lo st4/\Des R (arrOf st4) lo (lo+m)) (prog:=?prog2) (fun JP=>?use2) (fun st4 ⟨B4,de4⟩=>?pf2)
   case use2 =>
    refine aam (fun g=>?_) (fun g=>?_)
    ·obtain ⟨B4,de4⟩:=aia C hS B3 (l:=lo+m - (neq+1)) (h:=lo+m) (by omega) (by omega) (Nat.le_refl _) (by omega) de3 eq3
     refine wpS_bind (wpS_modify ?_)
     exact JP _ ⟨B4,de4⟩
    ·exact JP _ ⟨B3,de3⟩
   case pf2 =>
    obtain ⟨B5,as5⟩:=art C B4 (n:=m) (by omega) de4
    refine wpS_bind (wpS_modify ?_)
    refine wpS_bind (ak4 C hS B5 (by omega) hm hn as5 fun n' n1' n2' as' _=>?_)
    exact wpS_pure (h _ n' B5 (by omega) n2' as')
end
noncomputable def flat (rs:List (List Keyed × Nat)):List Keyed:=(rs.map (·.1)).flatten
noncomputable def pend:Nat->List (List Keyed × Nat)->List (Nat × Nat × Nat)
 | _,[]=>[]
 | k,(r,pw) :: t=>(k,r.length,pw) :: pend (k+r.length) t
theorem agu:flat []=[]:=rfl
theorem abu (r:List Keyed × Nat) (t:List (List Keyed × Nat)):flat (r :: t)=r.1 ++ flat t:=rfl
theorem abn (p q:List (List Keyed × Nat)):flat (p ++ q)=flat p ++ flat q:=by simp [flat]
theorem ab9:∀ (k:Nat) (p q:List (List Keyed × Nat)),pend k (p ++ q)=pend k p ++ pend (k+(flat p).length) q
 | k,[],q=>by simp [pend,agu]
 | k,(r,pw) :: t,q=>by
  simp only [List.cons_append,pend,abu,List.length_append,List.cons.injEq,true_and]
  rw [ab9 (k+r.length) t q,Nat.add_assoc]
theorem adp:∀ (k:Nat) (p:List (List Keyed × Nat)),(pend k p).length=p.length
 | _,[]=>rfl
 | k,(r,pw) :: t=>by simp [pend,adp _ t]
section
variable {M:Model} {A:Around} {E:Value->Shared->Prop} {s:Shared} {κ:SortKind} {S:Keyed->Prop} {R:Keyed->Keyed->Bool} {a0:Array Keyed}
structure Rn (κ:SortKind) (R:Keyed->Keyed->Bool) (a0:Array Keyed) (rs:List (List Keyed × Nat)) (rest:List Keyed) (st:SortSt):Prop where
 k:kindOf st = κ
 f:failedOf st=none
 arr:(arrOf st).toList=flat rs ++ rest
 pn:(pendingOf st).toList=pend 0 rs
 ok:∀ r∈rs,r.1 ≠ []/\Srt R r.1
 perm:(arrOf st).toList.Perm a0.toList
theorem aud {α:Type} (l1 l2:List α) (x x' y : α):((l1 ++ x :: y :: l2).set l1.length x').eraseIdx (l1.length+1)=l1 ++ x' :: l2:=by
 rw [List.set_append_right _ _ (Nat.le_refl _),Nat.sub_self,List.set_cons_zero,List.eraseIdx_append_of_length_le (by omega)]
 rw [show l1.length+1 - l1.length=1 by omega]
 rfl
theorem ahe (C:Cmp M A E s κ S R) (hS:∀ x∈a0.toList,S x) {st:SortSt} {rs:List (List Keyed × Nat)} {rest:List Keyed} (N:Rn κ R a0 rs rest st) {i:Nat} (hi:i+1 < rs.length) {Q:Bool->SortSt->Prop}
  (h:∀ st' rs',Rn κ R a0 rs' rest st'->rs'.length+1=rs.length->(flat rs').length=(flat rs).length->Q true st'):wpS M A E s (ak2 i) Q st:=by
 obtain ⟨p,a,pw,b,pw2,q,e,hp⟩:∃ p a pw b pw2 q,rs=p ++ (a,pw) :: (b,pw2) :: q/\p.length=i:=by
  have e1:rs=rs.take i ++ rs.drop i:=(List.take_append_drop i rs).symm
  have hd:rs.drop i=rs[i] :: rs[i+1] :: rs.drop (i+2):=by
   rw [List.drop_eq_getElem_cons (by omega),List.drop_eq_getElem_cons hi]
  exact ⟨rs.take i,rs[i].1,rs[i].2,rs[i+1].1,rs[i+1].2,rs.drop (i+2),by rw [← hd];exact e1,by simp;omega⟩
 subst hp
 have ok_a:=N.ok (a,pw) (by rw [e];simp)
 have ok_b:=N.ok (b,pw2) (by rw [e];simp)
 have hpn:(pendingOf st).toList=pend 0 p ++ ((flat p).length,a.length,pw) :: ((flat p).length+a.length,b.length,pw2) :: pend ((flat p).length+a.length+b.length) q:=by
  rw [N.pn,e,ab9];simp [pend]
 have hlen:(pend 0 p).length=p.length:=adp 0 p
 have harr:(arrOf st).toList=flat p ++ a ++ b ++ (flat q ++ rest):=by
  rw [N.arr,e,abn,abu,abu];simp [List.append_assoc]
 refine aog C (i:=p.length) (pw:=pw) (pw2:=pw2) harr (fun x hx=>hS x (N.perm.mem_iff.mp hx)) ?_ ?_ ok_a.1 ok_b.1 ok_a.2 ok_b.2 N.k N.f fun st' m k' f' p' a' pm sm=>?_
 ·rw [← Array.getElem?_toList,hpn,List.getElem?_append_right (by omega),hlen,Nat.sub_self];rfl
 ·rw [← Array.getElem?_toList,hpn,List.getElem?_append_right (by omega),hlen,show p.length+1 - p.length=1 by omega];rfl
 ·refine h st' (p ++ (m,pw) :: q) ⟨k',f',?_,?_,fun r hr=>?_,?_⟩ (by rw [e];simp;omega) ?_
  ·rw [a',abn,abu];simp [List.append_assoc]
  ·rw [p',Array.toList_eraseIdxIfInBounds,Array.toList_setIfInBounds,hpn,← hlen,aud,ab9]
   simp [pend,pm.length_eq,Nat.add_assoc]
  ·rcases List.mem_append.mp hr with hr | hr
   ·exact N.ok r (by rw [e];simp [hr])
   ·rcases List.mem_cons.mp hr with rfl | hr
    ·refine ⟨?_,sm⟩
     intro z
     have:=pm.length_eq
     have z':m=[]:=z
     rw [z'] at this
     have:=List.length_pos_iff.mpr ok_a.1
     simp at *
     omega
    ·exact N.ok r (by rw [e];simp [hr])
  ·rw [a']
   refine List.Perm.trans ?_ N.perm
   rw [harr]
   have:(flat p ++ a ++ b ++ (flat q ++ rest))=flat p ++ (a ++ b) ++ (flat q ++ rest):=by simp [List.append_assoc]
   rw [this]
   exact (pm.append_left (flat p)).append_right _
  ·rw [e,abn,abn,abu,abu,abu]
   simp [pm.length_eq]
   omega
theorem Rn.run {rs:List (List Keyed × Nat)} {rest:List Keyed} {st st':SortSt} {n:Nat} (N:Rn κ R a0 rs rest st) (B:Bs κ (pendingOf st) (arrOf st) (flat rs).length st') (h1:1<=n) (hn:(flat rs).length+n<=(arrOf st).size) (as:Asc R (arrOf st') (flat rs).length ((flat rs).length+n)) :
  ∃ r rest',r.length=n/\r ≠ []/\Srt R r/\Rn κ R a0 rs (r ++ rest') st':=by
 have hsz:=B.size
 have hfl:(arrOf st').toList.take (flat rs).length=flat rs:=by
  have e1:(arrOf st').toList.take (flat rs).length=(arrOf st).toList.take (flat rs).length:=by
   apply List.ext_getElem?
   intro k
   rw [List.getElem?_take,List.getElem?_take]
   split
   ·rename_i hk
    have:=B.pre k hk
    simpa using this
   ·rfl
  rw [e1,N.arr,List.take_left]
 refine ⟨((arrOf st').toList.drop (flat rs).length).take n,((arrOf st').toList.drop (flat rs).length).drop n,?_,?_,?_,B.k,B.f,?_,?_,N.ok,B.perm.trans N.perm⟩
 ·simp;omega
 ·intro z
  have:=congrArg List.length z
  simp at this
  omega
 ·unfold Srt
  rw [List.pairwise_iff_getElem]
  intro i j hi hj hij
  have hj':j < n:=by simp at hj;omega
  have get:∀ k,k < n->∀ (hk:k < (((arrOf st').toList.drop (flat rs).length).take n).length),(((arrOf st').toList.drop (flat rs).length).take n)[k]=e (arrOf st') ((flat rs).length+k):=by
   intro k hk hk2
   rw [List.getElem_take,List.getElem_drop]
   have h3:=ahd (xs:=arrOf st') (k:=(flat rs).length+k) (by omega)
   have h4:(flat rs).length+k < (arrOf st').toList.length:=by simp;omega
   have h5:(arrOf st').toList[(flat rs).length+k]?=some (e (arrOf st') ((flat rs).length+k)):=by simpa using h3
   rw [List.getElem?_eq_getElem h4] at h5
   exact Option.some.inj h5
  rw [get i (by omega) hi,get j hj' hj]
  exact as _ _ (by omega) (by omega) (by omega)
 ·rw [List.take_append_drop]
  conv=>lhs;rw [← List.take_append_drop (flat rs).length (arrOf st').toList,hfl]
 ·rw [B.p];exact N.pn
theorem Rn.bs {rs:List (List Keyed × Nat)} {rest:List Keyed} {st:SortSt} (N:Rn κ R a0 rs rest st):Bs κ (pendingOf st) (arrOf st) (flat rs).length st:=⟨N.k,N.f,rfl,List.Perm.refl _,fun _ _=>rfl⟩
theorem Rn.size {rs:List (List Keyed × Nat)} {rest:List Keyed} {st:SortSt} (N:Rn κ R a0 rs rest st):(arrOf st).size=a0.size:=by
 have:=N.perm.length_eq;simpa using this
theorem Rn.len {rs:List (List Keyed × Nat)} {rest:List Keyed} {st:SortSt} (N:Rn κ R a0 rs rest st):(flat rs).length+rest.length=a0.size:=by
 have:=congrArg List.length N.arr
 have h2:=N.size
 simp at this
 omega
theorem aru {rs:List (List Keyed × Nat)} (h:∀ r∈rs,r.1 ≠ []):rs.length<=(flat rs).length:=by
 induction rs with
 | nil=>simp [flat]
 | cons r t ih =>
  rw [abu,List.length_append,List.length_cons]
  have:=ih fun q hq=>h q (List.mem_cons_of_mem _ hq)
  have:=List.length_pos_iff.mpr (h r List.mem_cons_self)
  omega
theorem ak5 {α:Type} (f : α->α):∀ (l:List α) (x : α),(l ++ [x]).modify l.length f=l ++ [f x]
 | [],x=>rfl
 | y :: l,x=>by
  show (y :: (l ++ [x])).modify (l.length+1) f=_
  rw [List.modify_succ_cons,ak5 f l x];rfl
theorem amd {α:Type} (arr:Array α) (f : α->α) {l:List α} {x : α} (h:arr.toList=l ++ [x]):(arr.modify (arr.size - 1) f).toList=l ++ [f x]:=by
 have hs:arr.size=l.length+1:=by have:=congrArg List.length h;simpa using this
 rw [Array.toList_modify,h,hs,show l.length+1 - 1=l.length by omega]
 exact ak5 f l x
theorem aue {α:Type} (arr:Array α) {l:List α} {x : α} (h:arr.toList=l ++ [x]):arr.back?=some x:=by
 have hs:arr.size=l.length+1:=by have:=congrArg List.length h;simpa using this
 rw [Array.back?_eq_getElem?,← Array.getElem?_toList,h,hs]
 simp
theorem anb:∀ (rs:List (List Keyed × Nat)),rs ≠ []->∃ p x,rs=p ++ [x]
 | rs,h=>⟨rs.dropLast,rs.getLast h,(List.dropLast_concat_getLast h).symm⟩
theorem Rn.push {rs:List (List Keyed × Nat)} {r rest:List Keyed} {st st':SortSt} (N:Rn κ R a0 rs (r ++ rest) st) (h0:r ≠ []) (hs:Srt R r) (k:kindOf st'=kindOf st) (f:failedOf st'=failedOf st) (a:arrOf st'=arrOf st)
  (p:pendingOf st'=(pendingOf st).push ((flat rs).length,r.length,0)):Rn κ R a0 (rs ++ [(r,0)]) rest st':=by
 refine ⟨k.trans N.k,f.trans N.f,?_,?_,fun q hq=>?_,by rw [a];exact N.perm⟩
 ·rw [a,N.arr,abn];simp [flat,List.append_assoc]
 ·rw [p,Array.toList_push,N.pn,ab9];simp [pend]
 ·rcases List.mem_append.mp hq with hq | hq
  ·exact N.ok q hq
  ·have:q=(r,0):=by simpa using hq
   subst this;exact ⟨h0,hs⟩
theorem Rn.pow {rs:List (List Keyed × Nat)} {rest:List Keyed} {st st':SortSt} {pw:Nat} (N:Rn κ R a0 rs rest st) (hz:rs ≠ []) (k:kindOf st'=kindOf st) (f:failedOf st'=failedOf st) (a:arrOf st'=arrOf st)
  (p:pendingOf st'=(pendingOf st).modify ((pendingOf st).size - 1) fun x=>(x.1,x.2.1,pw)):∃ rs',Rn κ R a0 rs' rest st'/\(flat rs').length=(flat rs).length:=by
 obtain ⟨q,⟨b,pw0⟩,e⟩:=anb rs hz
 subst e
 have hpn:(pendingOf st).toList=pend 0 q ++ [((flat q).length,b.length,pw0)]:=by rw [N.pn,ab9];simp [pend]
 refine ⟨q ++ [(b,pw)],⟨k.trans N.k,f.trans N.f,?_,?_,fun x hx=>?_,by rw [a];exact N.perm⟩,by simp [abn,abu,agu]⟩
 ·rw [a,N.arr];simp [abn,abu,agu]
 ·rw [p,amd _ _ hpn,ab9];simp [pend]
 ·rcases List.mem_append.mp hx with hx | hx
  ·exact N.ok x (by simp [hx])
  ·have:x=(b,pw):=by simpa using hx
   subst this
   exact N.ok (b,pw0) (by simp)
theorem awu {c:Prop} [Decidable c] {x y z:Nat} (h1:x+1 < z) (h2:y+1 < z):(if c then x else y)+1 < z:=by
 split
 ·exact h1
 ·exact h2
theorem Rn.powK {rs:List (List Keyed × Nat)} {rest:List Keyed} {st st':SortSt} {pw:Nat} {G:SortSt->Prop} (N:Rn κ R a0 rs rest st) (hz:rs ≠ []) (h:∀ rs',Rn κ R a0 rs' rest st'->(flat rs').length=(flat rs).length->G st') (k:kindOf st'=kindOf st) (f:failedOf st'=failedOf st) (a:arrOf st'=arrOf st)
  (p:pendingOf st'=(pendingOf st).modify ((pendingOf st).size - 1) fun x=>(x.1,x.2.1,pw)):G st':=by
 obtain ⟨rs',N',l'⟩:=N.pow hz k f a p
 exact h rs' N' l'
theorem auf (C:Cmp M A E s κ S R) (hS:∀ x∈a0.toList,S x) {st:SortSt} (h0:arrOf st=a0) (hk:kindOf st = κ) (hf:failedOf st=none) (hp:pendingOf st = #[]) {Q:Unit->SortSt->Prop}
  (h:∀ st',failedOf st'=none->(arrOf st').toList.Perm a0.toList->Srt R (arrOf st').toList->Q () st'):wpS M A E s ayi Q st:=by
 have size0:(arrOf st).size=a0.size:=by rw [h0]
 refine wpS_bind (wpS_get ?_)
 dsimp only
 refine wpS_bind (wpS_mono (Q:=fun (c:Option Unit × Nat) st1=>c.1=none/\∃ rs,Rn κ R a0 rs [] st1) ?_ ?_)
 ·refine wpS_forRange (fun i (c:Option Unit × Nat) st1=>c.1=none/\∃ rs rest,Rn κ R a0 rs rest st1/\c.2=(flat rs).length/\i<=c.2) ?_ ?_ ⟨rfl,[],a0.toList,⟨hk,hf,by rw [h0];rfl,by rw [hp];rfl,fun r hr=>(by cases hr),by rw [h0]⟩,rfl,Nat.le_refl _⟩
  ·rintro i ⟨c1,lo⟩ st1 _ hi ⟨e1,rs,rest,N,e2,hlo⟩
   dsimp only at e1 e2 hlo ⊢
   subst e1 e2
   have hlen:=N.len
   have hi':i < a0.size:=by rw [← size0];exact hi
   refine aam (fun hge=>?_) (fun hlt=>?_)
   ·have hge':a0.size<=(flat rs).length:=by rw [← size0];exact hge
    refine wpS_pure ⟨rfl,rs,?_⟩
    have:rest=[]:=List.eq_nil_of_length_eq_zero (by omega)
    subst this
    exact N
   ·have hlt':(flat rs).length < a0.size:=by
     have:¬ (flat rs).length ≥ (arrOf st).size:=hlt
     omega
    refine wpS_bind (apv C (fun x hx=>hS x (N.perm.mem_iff.mp hx)) N.bs (nrem:=(arrOf st).size - (flat rs).length) (by omega) (by rw [N.size];omega) fun st2 n B2 n1 n2 as2=>?_)
    dsimp only
    have hsz1:=N.size
    refine aam (fun hmin=>?g1) (fun hmin=>?g2)
    case' g1 =>
     refine wpS_bind (adk ?_)
     generalize hmr:min (_:Nat) _=nn
     refine wpS_bind (aoh C (fun x hx=>hS x (N.perm.mem_iff.mp hx)) B2 (n:=nn) (ok:=n) ?_ ?_ ?_ as2 fun st3 B3 as3=>?_)
     ·have:nn<=(arrOf st).size - (flat rs).length:=by rw [← hmr];exact Nat.min_le_left _ _
      rw [hsz1];omega
     ·rw [← hmr];exact Nat.le_min.mpr ⟨n2,Nat.le_of_lt hmin⟩
     ·have:n<=nn:=by rw [← hmr];exact Nat.le_min.mpr ⟨n2,Nat.le_of_lt hmin⟩
      omega
     rw [if_neg (by decide)]
     have hnn1:1<=nn:=by
      have:n<=nn:=by rw [← hmr];exact Nat.le_min.mpr ⟨n2,Nat.le_of_lt hmin⟩
      omega
     have hnn2:nn<=(arrOf st).size - (flat rs).length:=by rw [← hmr];exact Nat.min_le_left _ _
     obtain ⟨r,rest',hr,hr0,hrs,N3⟩:=N.run B3 hnn1 (by rw [hsz1];omega) as3
     clear hmr
     subst hr
    case' g2 =>
     obtain ⟨r,rest',hr,hr0,hrs,N3⟩:=N.run B2 n1 (by rw [hsz1];omega) as2
     clear hmin
     subst hr
    all_goals
     refine wpS_bind (wpS_get ?_)
     rcases Classical.em (rs=[]) with hz | hz
     ·have hpn:=N3.pn
      rw [hz] at hpn
      have hb:=Array.back?_eq_none_iff.mpr (Array.toList_eq_nil_iff.mp hpn)
      rw [hb]
      dsimp only
      refine wpS_bind (wpS_modify (wpS_pure ⟨rfl,rs ++ [(r,0)],rest',N3.push hr0 hrs rfl rfl rfl rfl,?_,?_⟩))
      ·rw [abn,List.length_append];simp [flat]
      ·have:=List.length_pos_iff.mpr hr0
       show i+1<=(flat rs).length+r.length
       omega
     ·obtain ⟨q,⟨b,pw0⟩,eq⟩:=anb rs hz
      have hpn:=N3.pn
      rw [eq,ab9,show pend (0+(flat q).length) [(b,pw0)]=[((flat q).length,b.length,pw0)] by simp [pend]] at hpn
      have hb:=aue _ hpn
      rw [hb]
      dsimp only
      refine wpS_bind (wpS_mono (Q:=fun (c:Option Unit × Unit) st4=>c.1=none/\∃ rs4,Rn κ R a0 rs4 (r ++ rest') st4/\rs4 ≠ []/\(flat rs4).length=(flat rs).length) ?_ ?_)
      ·refine wpS_forRange (fun _ (c:Option Unit × Unit) st4=>c.1=none/\∃ rs4,Rn κ R a0 rs4 (r ++ rest') st4/\rs4 ≠ []/\(flat rs4).length=(flat rs).length) ?_ (fun c st4 h4=>h4) ⟨rfl,rs,N3,hz,rfl⟩
       rintro i4 ⟨c4,u4⟩ st4 _ _ ⟨e4,rs4,N4,z4,l4⟩
       dsimp only at e4
       subst e4
       refine wpS_bind (wpS_get ?_)
       have hps:(pendingOf st4).size=rs4.length:=by
        have:=congrArg List.length N4.pn
        rw [adp] at this
        simpa using this
       by_cases h1:(pendingOf st4).size > 1
       ·rw [if_pos h1]
        obtain ⟨x4,hx4⟩:∃ x4,(pendingOf st4)[(pendingOf st4).size - 2]?=some x4:=⟨_,Array.getElem?_eq_getElem (by omega)⟩
        obtain ⟨y1,y2,y3⟩:=x4
        rw [hx4]
        dsimp only
        refine aam (fun _=>wpS_pure ⟨rfl,rs4,N4,z4,l4⟩) (fun _=>?_)
        rw [hps]
        refine wpS_bind (ahe C hS N4 (i:=rs4.length - 2) (by omega) fun st5 rs5 N5 l5 f5=>?_)
        rw [if_neg (by decide)]
        refine wpS_pure ⟨rfl,rs5,N5,?_,by omega⟩
        rintro rfl
        simp at l5
        omega
       ·rw [if_neg h1]
        exact wpS_pure ⟨rfl,rs4,N4,z4,l4⟩
      ·rintro ⟨c4,u4⟩ st4 ⟨e4,rs4,N4,z4,l4⟩
       dsimp only at e4 ⊢
       subst e4
       dsimp only
       refine wpS_bind (wpS_modify ?_)
       refine N4.powK (G:=fun z=>wpS M A E s _ _ z) z4 (fun rs6 N6 l6=>?_) rfl rfl rfl rfl
       refine wpS_bind (wpS_modify (wpS_pure ⟨rfl,rs6 ++ [(r,0)],rest',N6.push hr0 hrs rfl rfl rfl ?_,?_,?_⟩))
       ·rw [l6,l4]
       ·rw [abn,List.length_append,l6,l4];simp [flat]
       ·have:=List.length_pos_iff.mpr hr0
        show i+1<=(flat rs).length+r.length
        omega
  ·rintro ⟨c1,lo⟩ st1 ⟨e1,rs,rest,N,e2,hlo⟩
   dsimp only at e1 e2 hlo ⊢
   refine ⟨e1,rs,?_⟩
   have hlen:=N.len
   have hmx:(arrOf st).size<=lo:=Nat.le_trans (Nat.le_max_right 0 _) hlo
   have:rest=[]:=List.eq_nil_of_length_eq_zero (by rw [size0] at hmx;omega)
   subst this
   exact N
 ·rintro ⟨c1,lo⟩ st1 ⟨e1,rs,N⟩
  dsimp only at e1 ⊢
  subst e1
  dsimp only
  refine wpS_bind (wpS_mono (Q:=fun (c:Option Unit × Unit) st4=>c.1=none/\∃ rs4,Rn κ R a0 rs4 [] st4/\rs4.length<=1) ?_ ?_)
  ·refine wpS_forRange (fun j (c:Option Unit × Unit) st4=>c.1=none/\∃ rs4,Rn κ R a0 rs4 [] st4/\(rs4.length<=1\/rs4.length+j<=a0.size)) ?_ ?_ ⟨rfl,rs,N,.inr ?_⟩
   ·rintro j ⟨c4,u4⟩ st4 _ _ ⟨e4,rs4,N4,l4⟩
    dsimp only at e4
    subst e4
    refine wpS_bind (wpS_get ?_)
    have hps:(pendingOf st4).size=rs4.length:=by
     have:=congrArg List.length N4.pn
     rw [adp] at this
     simpa using this
    refine aam (fun h1=>wpS_pure ⟨rfl,rs4,N4,?_⟩) (fun h1=>?_)
    ·have:(pendingOf st4).size<=1:=h1
     omega
    ·have h1':¬ (pendingOf st4).size<=1:=h1
     refine wpS_bind (ahe C hS N4 (i:=_) ?_ fun st5 rs5 N5 l5 f5=>?_)
     ·refine awu ?_ ?_
      ·show (pendingOf st4).size - 2 - 1+1 < rs4.length
       omega
      ·show (pendingOf st4).size - 2+1 < rs4.length
       omega
     rw [if_neg (by decide)]
     exact wpS_pure ⟨rfl,rs5,N5,by omega⟩
   ·rintro ⟨c4,u4⟩ st4 ⟨e4,rs4,N4,l4⟩
    refine ⟨e4,rs4,N4,?_⟩
    rcases l4 with l4 | l4
    ·exact l4
    ·have:(arrOf st).size<=max 0 (arrOf st).size:=Nat.le_max_right _ _
     have h3:rs4.length+max 0 (arrOf st).size<=a0.size:=l4
     omega
   ·have:=aru fun r hr=>(N.ok r hr).1
    have:=N.len
    omega
  ·rintro ⟨c4,u4⟩ st4 ⟨e4,rs4,N4,l4⟩
   dsimp only at e4 ⊢
   subst e4
   dsimp only
   refine wpS_pure (h st4 N4.f N4.perm ?_)
   rw [N4.arr]
   match rs4,l4 with
   | [],_=>exact List.Pairwise.nil
   | [x],_=>simpa [flat] using (N4.ok x (by simp)).2
end
end TS
namespace L2
open PySem PySem.Spec PyProof.Rows
mutual
inductive Rep (H:Hp):V->PyData->Prop
 | non:Rep H .non .none
 | bl (b:Bool):Rep H (.bl b) (.bool b)
 | int (i:Int):Rep H (.int i) (.int i)
 | str (x:Str):Rep H (.str x) (.str x)
 | lst {a:Addr} {xs:List V} {ds:List PyData}:H a=some (.lst xs)->Reps H xs ds->Rep H (.ref a) (.list ds)
 | tup {a:Addr} {xs:List V} {ds:List PyData}:H a=some (.tup xs)->Reps H xs ds->Rep H (.ref a) (.tuple ds)
inductive Reps (H:Hp):List V->List PyData->Prop
 | nil:Reps H [] []
 | cons {v:V} {vs:List V} {d:PyData} {ds:List PyData}:Rep H v d->Reps H vs ds->Reps H (v :: vs) (d :: ds)
end
mutual
theorem Rep.same {H H':Hp} (s:Same H H'):∀ {v:V} {d:PyData},Rep H v d->Rep H' v d
 | _,_,.non => .non
 | _,_,.bl b => .bl b
 | _,_,.int i => .int i
 | _,_,.str x => .str x
 | _,_,.lst h r => .lst (s _ _ h) (Reps.same s r)
 | _,_,.tup h r => .tup (s _ _ h) (Reps.same s r)
theorem Reps.same {H H':Hp} (s:Same H H'):∀ {vs:List V} {ds:List PyData},Reps H vs ds->Reps H' vs ds
 | _,_,.nil => .nil
 | _,_,.cons r t => .cons (Rep.same s r) (Reps.same s t)
end
theorem Reps.length {H:Hp}:∀ {vs:List V} {ds:List PyData},Reps H vs ds->vs.length=ds.length
 | _,_,.nil=>rfl
 | _,_,.cons _ t=>by simp [Reps.length t]
theorem Reps.get {H:Hp}:∀ {vs:List V} {ds:List PyData} {i:Nat} {d:PyData},Reps H vs ds->ds[i]?=some d->∃ v,vs[i]?=some v/\Rep H v d
 | _,_,_,_,.nil,e=>by simp at e
 | _,_,0,_,.cons r _,e=>by simp at e;subst e;exact ⟨_,rfl,r⟩
 | _,_,i+1,d,.cons _ t,e=>by
  obtain ⟨u,h1,h2⟩:=Reps.get (i:=i) (d:=d) t (by simpa using e)
  exact ⟨u,by simpa using h1,h2⟩
theorem Reps.append {H:Hp}:∀ {vs ws:List V} {ds es:List PyData},Reps H vs ds->Reps H ws es->Reps H (vs ++ ws) (ds ++ es)
 | _,_,_,_,.nil,s=>s
 | _,_,_,_,.cons r t,s => .cons r (Reps.append t s)
section
variable {X:Cx} {pins:List (Addr × Obj)} {σ:St} {H:Hp} {s:Shared}
mutual
theorem Rep.reads (I:Inv X pins σ H s):∀ {v:V} {d:PyData} {u:Value},Rep H v d->RelV v u->∃ as,Reads s.heap u d as
 | _,_,_,.non,r=>by cases r;exact ⟨_,.none⟩
 | _,_,_,.bl b,r=>by cases r;exact ⟨_,.bool b⟩
 | _,_,_,.int i,r=>by obtain ⟨t,rfl⟩:=r;exact ⟨_,.int i t⟩
 | _,_,_,.str x,r=>by obtain ⟨t,rfl⟩:=r;exact ⟨_,.str x t⟩
 | _,_,_,.lst (a:=a) (xs:=xs) h q,r=>by
  cases r
  obtain ⟨_,its,n,rv,e⟩:=(show ObjOk X.prog X.w H s.heap a (.lst xs) from I.hok a _ h)
  obtain ⟨as,ra⟩:=Reps.reads I q rv
  exact ⟨_,.list e rfl rfl (by simpa using ra)⟩
 | _,_,_,.tup (a:=a) (xs:=xs) h q,r=>by
  cases r
  obtain ⟨_,its,rv,o,e,c,n,dd⟩:=(show ObjOk X.prog X.w H s.heap a (.tup xs) from I.hok a _ h)
  obtain ⟨as,ra⟩:=Reps.reads I q rv
  exact ⟨_,.tuple e c dd (by simpa using ra)⟩
theorem Reps.reads (I:Inv X pins σ H s):∀ {vs:List V} {ds:List PyData} {us:List Value},Reps H vs ds->Vals vs us->∃ as,ReadsAll s.heap us ds as
 | _,_,_,.nil,.nil=>⟨_,.nil⟩
 | _,_,_,.cons r t,.cons q qs=>by
  obtain ⟨as,ra⟩:=Rep.reads I r q
  obtain ⟨bs,rb⟩:=Reps.reads I t qs
  exact ⟨_,.cons ra rb⟩
end
end
mutual
noncomputable def aav:PyData->Bool
 | .none | .int _=>true
 | .list xs | .tuple xs=>plainDs xs
 | _=>false
noncomputable def plainDs:List PyData->Bool
 | []=>true
 | x :: xs=>aav x && plainDs xs
end
mutual
theorem adu:∀ (d:PyData),aav d=true->d.canLay0=true
 | .none,_=>by simp [PyData.canLay0]
 | .int _,_=>by simp [PyData.canLay0]
 | .list xs,h=>by simp only [PyData.canLay0];exact plain_lays xs (by simpa [aav] using h)
 | .tuple xs,h=>by simp only [PyData.canLay0];exact plain_lays xs (by simpa [aav] using h)
 | .bool _,h=>by simp [aav] at h
 | .str _,h=>by simp [aav] at h
 | .dict _,h=>by simp [aav] at h
theorem plain_lays:∀ (ds:List PyData),plainDs ds=true->PyData.canLayAll0 ds=true
 | [],_=>by simp [PyData.canLayAll0]
 | x :: xs,h=>by
  have h':aav x=true/\plainDs xs=true:=by simpa [plainDs] using h
  simp only [PyData.canLayAll0,adu x h'.1,plain_lays xs h'.2,Bool.and_self]
end
mutual
theorem ai3:∀ (d e:PyData),aav d=true->aav e=true->(PyData.eqv d e=true ↔ d=e)
 | .none,e,_,h=>by cases e <;> simp_all [aav,PyData.eqv]
 | .int i,e,_,h=>by cases e <;> simp_all [aav,PyData.eqv]
 | .list xs,e,g,h=>by
  cases e with
  | list ys=>simp only [PyData.eqv,PyData.list.injEq];exact eqvAll_plain xs ys (by simpa [aav] using g) (by simpa [aav] using h)
  | _=>simp_all [aav,PyData.eqv]
 | .tuple xs,e,g,h=>by
  cases e with
  | tuple ys=>simp only [PyData.eqv,PyData.tuple.injEq];exact eqvAll_plain xs ys (by simpa [aav] using g) (by simpa [aav] using h)
  | _=>simp_all [aav,PyData.eqv]
 | .bool _,_,h,_=>by simp [aav] at h
 | .str _,_,h,_=>by simp [aav] at h
 | .dict _,_,h,_=>by simp [aav] at h
theorem eqvAll_plain:∀ (ds es:List PyData),plainDs ds=true->plainDs es=true->(PyData.eqvAll ds es=true ↔ ds=es)
 | [],[],_,_=>by simp [PyData.eqvAll]
 | [],_ :: _,_,_=>by simp [PyData.eqvAll]
 | _ :: _,[],_,_=>by simp [PyData.eqvAll]
 | x :: xs,y :: ys,g,h=>by
  have g':aav x=true/\plainDs xs=true:=by simpa [plainDs] using g
  have h':aav y=true/\plainDs ys=true:=by simpa [plainDs] using h
  simp only [PyData.eqvAll,Bool.and_eq_true,List.cons.injEq,ai3 x y g'.1 h'.1,eqvAll_plain xs ys g'.2 h'.2]
end
theorem aeu (ds:List PyData):plainDs ds=true ↔ ∀ d∈ds,aav d=true:=by
 induction ds with
 | nil=>simp [plainDs]
 | cons d ds ih=>simp [plainDs,ih]
def rEqD:R2:=fun x y H Q=>∃ d e,Rep H x d/\Rep H y e/\aav d=true/\aav e=true/\d.depth<=60/\Q (.bl (PyData.eqv d e)) H
section
variable {X:Cx}
theorem awv (hu:X.A.units+64 < cLine):OpR X (compareOp .Eq) rEqD:=by
 intro pins s σ H x y v u Q I rx ry h
 obtain ⟨d,e,rd,re,hd,he,hz,q⟩:=h
 obtain ⟨as,ra⟩:=rd.reads I rx
 obtain ⟨bs,rb⟩:=re.reads I ry
 refine SeqAt.compareEq_reads ra rb (adu _ hd) (adu _ he) ?_ ⟨.bl _,H,I,rfl,q⟩
 have:=Nat.min_le_left d.depth e.depth
 omega
def rInD (neg:Bool):R2:=fun x y H Q=>∃ d es,Rep H x d/\(Rep H y (.list es)\/Rep H y (.tuple es))/\aav d=true/\plainDs es=true/\d.depth<=60/\Q (.bl (if neg then !es.any (fun z=>PyData.eqv z d) else es.any (fun z=>PyData.eqv z d))) H
theorem ai4 (hu:X.A.units+64 < cLine):OpR X (compareOp .NotIn) (rInD true):=by
 intro pins s σ H x y v u Q I rx ry h
 obtain ⟨d,es,rd,re,hd,he,hz,q⟩:=h
 obtain ⟨as,ra⟩:=rd.reads I rx
 have hm:=Nat.min_le_right (PyData.depthAll es) d.depth
 rcases re with re | re
 ·obtain ⟨bs,rb⟩:=re.reads I ry
  exact SeqAt.notIn_list_reads rb ra (plain_lays _ he) (adu _ hd) (by omega) ⟨.bl _,H,I,rfl,q⟩
 ·obtain ⟨bs,rb⟩:=re.reads I ry
  exact SeqAt.notIn_tuple_reads rb ra (plain_lays _ he) (adu _ hd) (by omega) ⟨.bl _,H,I,rfl,q⟩
def rIsi (K:Frag):List V->Hp->VK->Prop:=fun xs H Q=>∃ (x:V) (T:String) (t:Value) (b:Bool),xs=[x,.ty T]/\TyOf K H x t/\kitOne K t (.type T)=some b/\Q (.bl b) H
theorem adl:abg X (.builtin "isinstance") (rIsi X.K):=by
 intro pins s σ H xs us Q I r h
 obtain ⟨x,T,t,b,rfl,ty,e,q⟩:=h
 obtain ⟨u,c,rfl,ru,rc⟩:=an7 r
 cases rc
 exact apd I ru ty e fun tk=>⟨.bl b,H,I.tok _,rfl,q⟩
end
end L2
namespace HT
open PySem PyProof.Rows
section
open PySem.SeqAt
open PySem.AutoSeq1 (wpAny_loadPart')
open PySem.MeetsSeq PySem.MeetsSeq2 PySem.MeetsSeq3
end
section
variable {prog:Program} {w:World} {A:Around} {E:Value->Shared->Prop} {s:Shared}
theorem ai5 {it t:Addr} {items:Array Value} (hne:t ≠ it):∀ (n i:Nat) (s:Shared) (Q:List Value->Shared->Prop),s.heap.IsListIter it t i->s.heap.IsList t items->i+n<=items.size ->
  (∀ h',h'.IsListIter it t (i+n)->Heap.SameBut it s.heap h'->Q ((items.toList.drop i).take n) { s with heap:=h' })->wpAny (model prog w) A (draw (.ref it) n) Q E s
 | 0,i,s,Q,hit,_,_,hQ=>by
  show wpAny _ _ (pure []) Q E s
  exact wpAny_pure (by simpa using hQ s.heap hit (Heap.SameBut.refl ..))
 | n+1,i,s,Q,hit,ht,hle,hQ=>by
  have hlt:i < items.size:=by omega
  show wpAny _ _ (pyNext (.ref it) >>= _) Q E s
  refine wpAny_bind (wpAny_pyNext_list_item hit ht (x:=items[i]) (by simp [hlt]) fun h₁ hit₁ hs₁=>?_)
  refine wpAny_bind (wpAny_holding (ai5 hne n (i+1) _ _ hit₁ (ht.extBut hs₁.extBut hne) (by omega) fun h₂ hit₂ hs₂=>wpAny_pure ?_))
  have hd:items.toList.drop i=items[i] :: items.toList.drop (i+1):=by simp [List.drop_eq_getElem_cons,hlt]
  have:=hQ h₂ (by rw [show i+(n+1)=i+1+n by omega];exact hit₂) (hs₁.trans hs₂)
  rw [hd,List.take_succ_cons] at this
  exact this
theorem agv {t:Addr} {items:Array Value} {Q:List Value->Shared->Prop} (hh:A.handled=none) (ht:s.heap.IsList t items)
  (hQ:∀ h',Heap.ExtBut s.heap.objs.size s.heap h'->Q items.toList { s with heap:=h' }):wpAny (model prog w) A (unpackItems (.ref t) items.size none) Q E s:=by
 have hlt:t ≠ s.heap.objs.size:=by obtain ⟨o,ho,_⟩:=ht;exact Nat.ne_of_lt (Heap.lt_size ho)
 unfold unpackItems
 refine wpAny_bind ?_
 ·unfold notIterableAtAll
  refine wpAny_bind (wpAny_specialOf ht.typeIs slot_list_iter.lookup ?_)
  refine wpAny_pure ?_
  simp only [Bool.false_eq_true,if_false]
  refine wpAny_bind (wpAny_holding (wpAny_pyIter_list ht ?_))
  refine wpAny_bind (wpAny_holding (ai5 hlt items.size 0 _ _ ⟨_,Heap.get?_push_size _ rfl,rfl,rfl⟩ (ht.push _) (by omega) fun h₁ hit₁ hs₁=>?_))
  have hall:List.take items.size (List.drop 0 items.toList)=items.toList:=by
   rw [List.drop_zero];exact List.take_of_length_le (by simp)
  rw [hall]
  rw [if_neg (by simp)]
  have ht₁:h₁.IsList t items:=(ht.push _).extBut hs₁.extBut hlt
  refine wpAny_bind (wpAny_holding (wpAny_pyNext_list_end hh hit₁ ht₁ (by simp) fun h₂ he₂=>?_))
  simp only [Option.isSome_none,Bool.false_eq_true,if_false]
  refine wpAny_pure (hQ h₂ fun b o hb e=>he₂ b o hb (hs₁.extBut b o hb (Heap.get?_push_of_some _ e)))
theorem assign_Tuple_list {env:Env} {elts:List Expr} {x1} {pos:Pos} {t:Addr} {items:Array Value} {Q:Unit->Shared->Prop} (hh:A.handled=none) (ht:s.heap.IsList t items)
  (hn:(assignEach elts env).length=items.size) (hstar:(assignEach elts env).findIdx? (·.1)=none)
  (h:∀ h',Heap.ExtBut s.heap.objs.size s.heap h'->wpAny (model prog w) A (assignInOrder ((assignEach elts env).map (·.2)) items.toList) Q E { s with heap:=h' }) :
  wpAny (model prog w) A (assign (.Tuple elts x1 pos) env (.ref t)) Q E s:=by
 rw [assign_Tuple]
 refine wpAny_bind (wpAny_standAt ?_)
 unfold unpack
 rw [hn,hstar]
 exact wpAny_bind (wpAny_holding (agv hh ht h))
end
end HT
namespace L2
open PySem PySem.Spec PyProof.Rows
section
variable {X:Cx}
def gLst (K:Frag) (n:Nat) (t:TGs):TG:=fun v σ H Q=>∃ a xs,v=.ref a/\SqL K H a xs/\xs.length=n/\t xs σ H Q
theorem aww {es:List Expr} {k:Nat} {t:TGs} {n:Nat} {pos:Pos} (hc:X.calm=true) (h:PGs X es t)
  (hn:(assignEach es X.env).length=n:=by rfl) (hst:(assignEach es X.env).findIdx? (·.1)=none:=by rfl):PG X (.Tuple es k pos) (gLst X.K n t):=by
 intro pins s σ H v u Q I r hw
 obtain ⟨a,xs,e1,hq,hl,hw⟩:=hw
 subst e1
 cases r
 obtain ⟨its,rv,ht,hz⟩:=I.list hq
 refine HT.assign_Tuple_list (I.ok.hd hc) ht.isList (by simp [hn,← hl,rv.length]) hst fun h' hx=>?_
 have I1:Inv X pins σ H { s with heap:=h' }:=I.kept (t':=s.toks) fun b o e=>hx b o (Nat.ne_of_lt (Heap.lt_size e)) e
 exact h pins _ σ H xs _ Q I1 (by simpa using rv) hw
def ahf (K:Frag):List V->Hp->VK->Prop:=fun xs H Q=>∃ (a:Addr) (ns:List Int),xs=[.ref a]/\SqL K H a (ns.map V.int)/\ns.length < 64/\∀ (ns':List Int) (p:Addr),ns'.Perm ns->ns'.Pairwise (·<=·)->H p=none->Q (.ref p) (upd H p (.lst (ns'.map V.int)))
theorem ahg:abg X (.builtin "sorted") (ahf X.K):=by
 intro pins s σ H xs us Q I r h
 obtain ⟨a,ns,rfl,ha,h64,q⟩:=h
 obtain ⟨u,rfl,ru⟩:=adc r
 cases ru
 obtain ⟨its,r1,p1,hz⟩:=I.list ha
 have i1:IntsAre its.toArray.toList ns:=ab3 r1
 have i2:IntsAre its ns:=by simpa using i1
 refine sorted_ints (vs:=its) p1.isList i2 (by rw [i2.length];exact h64) fun out ns' b1 b2 b3=>?_
 obtain ⟨e,he⟩:=sortedAll_at s.heap its out
 have hfree:H (s.heap.objs.size+1)=none:=I.hok.fresh (Nat.le_succ _)
 refine ⟨.ref (s.heap.objs.size+1),_,I.laid (t':=s.toks) (o:=.lst (ns'.map V.int)) (fun b ob q=>sortedAll_old q) (Nat.le_succ _) ?_,rfl,q ns' _ b2 b3 hfree⟩
 refine ⟨?_,out.toList,e,afs b1,by rw [he]⟩
 rw [List.length_map,b2.length_eq]
 exact Nat.le_of_lt (ael (by omega))
end
end L2
namespace HT
open PySem PyProof.Rows
theorem aib (val:Nat->Int):∀ k,argBest (fun i j=>decide (val i > val j)) k<=k/\∀ i,i<=k->val i<=val (argBest (fun i j=>decide (val i > val j)) k)
 | 0 => ⟨Nat.le_refl _, fun i hi => by have:i=0 := by omega
                                       subst this;exact Int.le_refl _⟩
 | k+1=>by
  obtain ⟨h1,h2⟩:=aib val k
  unfold argBest
  by_cases hc:val (k+1) > val (argBest (fun i j=>decide (val i > val j)) k)
  ·rw [if_pos (decide_eq_true hc)]
   refine ⟨Nat.le_refl _,fun i hi=>?_⟩
   by_cases e:i=k+1
   ·subst e;exact Int.le_refl _
   ·have:=h2 i (by omega)
    exact Int.le_trans this (Int.le_of_lt hc)
  ·rw [if_neg (by simpa using hc)]
   refine ⟨by omega,fun i hi=>?_⟩
   by_cases e:i=k+1
   ·subst e;omega
   ·exact h2 i (by omega)
theorem aic (val:Nat->Int):∀ k,argBest (fun i j=>decide (val i < val j)) k<=k/\∀ i,i<=k->val (argBest (fun i j=>decide (val i < val j)) k)<=val i
 | 0 => ⟨Nat.le_refl _, fun i hi => by have:i=0 := by omega
                                       subst this;exact Int.le_refl _⟩
 | k+1=>by
  obtain ⟨h1,h2⟩:=aic val k
  unfold argBest
  by_cases hc:val (k+1) < val (argBest (fun i j=>decide (val i < val j)) k)
  ·rw [if_pos (decide_eq_true hc)]
   refine ⟨Nat.le_refl _,fun i hi=>?_⟩
   by_cases e:i=k+1
   ·subst e;exact Int.le_refl _
   ·have:=h2 i (by omega)
    exact Int.le_trans (Int.le_of_lt hc) this
  ·rw [if_neg (by simpa using hc)]
   refine ⟨by omega,fun i hi=>?_⟩
   by_cases e:i=k+1
   ·subst e;omega
   ·exact h2 i (by omega)
noncomputable def val (ns:List Int) (i:Nat):Int:=(ns[i]?).getD 0
theorem adv {us:List Value} {ns:List Int} (hi:IntsAre us ns) (i:Nat) (v:Value) (h:us.toArray[i]?=some v):∃ t,v=.int (val ns i) t:=by
 induction hi generalizing i with
 | nil=>simp at h
 | cons n t r ih =>
  cases i with
  | zero=>simp at h;subst h;exact ⟨t,by simp [val]⟩
  | succ i =>
   obtain ⟨t',e⟩:=ih i (by simpa using h)
   exact ⟨t',by simpa [val] using e⟩
theorem agd {ns:List Int} {i:Nat} (h:i < ns.length):val ns i∈ns:=by
 unfold val
 rw [List.getElem?_eq_getElem h]
 exact List.getElem_mem h
theorem ahh {ns:List Int} {x:Int} (h:x∈ns):∃ i,i < ns.length/\val ns i=x:=by
 obtain ⟨i,hi,e⟩:=List.mem_iff_getElem.mp h
 exact ⟨i,hi,by unfold val;rw [List.getElem?_eq_getElem hi];exact e⟩
section
variable {prog:Program} {w:World} {A:Around} {E:Value->Shared->Prop} {s:Shared}
theorem max_list {l:Addr} {us:List Value} {ns:List Int} {Q:Value->Shared->Prop} (hh:A.handled=none) (hl:s.heap.IsList l us.toArray) (hi:IntsAre us ns) (hne:ns ≠ [])
  (h:∀ m t h' tk,m∈ns->(∀ x∈ns,x<=m)->(∀ b o,s.heap.get? b=some o->h'.get? b=some o)->Q (.int m t) { s with heap:=h',toks:=tk }) :
  wpAny (model prog w) A (call (.builtin "max") [.ref l]) Q E s:=by
 have hlt:l < s.heap.objs.size:=by obtain ⟨_,e,_⟩:=hl;exact Heap.lt_size e
 have hz:us.length=ns.length:=hi.length
 have hp:0 < ns.length:=List.length_pos_iff.mpr hne
 refine call_max_walk (wpAny_pyIter_list hl ?_)
 refine ⟨_,[s.heap.objs.size,l],_,_,_,_,_,rfl,Walks.list (A:=A.in1) hh _ l (Nat.ne_of_lt hlt) us.toArray,⟨⟨_,Heap.get?_push_size _ rfl,rfl,rfl⟩,hl.push _⟩,fun b hb=>?_,by simp;omega,CmpOf.ints_gt (val ns) (fun i v=>adv hi i v),fun v h' tk hP hk=>?_⟩
 ·show b < (s.heap.push _).objs.size
  rw [Heap.size_push]
  rcases List.mem_cons.mp hb with rfl | hb
  ·exact Nat.lt_succ_self _
  ·rcases List.mem_cons.mp hb with rfl | hb
   ·exact Nat.lt_succ_of_lt hlt
   ·cases hb
 ·obtain ⟨t,e⟩:=adv hi _ _ hP
  obtain ⟨b1,b2⟩:=aib (val ns) (us.toArray.size - 1)
  have hs:us.toArray.size=ns.length:=by simp [hz]
  rw [hs] at b1 b2
  subst e
  refine h _ t h' tk (agd (by rw [hs];omega)) (fun x hx=>?_) fun b o e=>?_
  ·obtain ⟨i,hi',e⟩:=ahh hx
   have:=b2 i (by omega)
   rw [e] at this
   rw [hs]
   exact this
  ·refine hk b o (fun hm=>?_) (Heap.get?_push_of_some _ e)
   rcases List.mem_cons.mp hm with e1 | hm
   ·exact absurd (e1 ▸ Heap.lt_size e) (Nat.lt_irrefl _)
   ·cases hm
theorem min_list {l:Addr} {us:List Value} {ns:List Int} {Q:Value->Shared->Prop} (hh:A.handled=none) (hl:s.heap.IsList l us.toArray) (hi:IntsAre us ns) (hne:ns ≠ [])
  (h:∀ m t h' tk,m∈ns->(∀ x∈ns,m<=x)->(∀ b o,s.heap.get? b=some o->h'.get? b=some o)->Q (.int m t) { s with heap:=h',toks:=tk }) :
  wpAny (model prog w) A (call (.builtin "min") [.ref l]) Q E s:=by
 have hlt:l < s.heap.objs.size:=by obtain ⟨_,e,_⟩:=hl;exact Heap.lt_size e
 have hz:us.length=ns.length:=hi.length
 have hp:0 < ns.length:=List.length_pos_iff.mpr hne
 refine call_min_walk (wpAny_pyIter_list hl ?_)
 refine ⟨_,[s.heap.objs.size,l],_,_,_,_,_,rfl,Walks.list (A:=A.in1) hh _ l (Nat.ne_of_lt hlt) us.toArray,⟨⟨_,Heap.get?_push_size _ rfl,rfl,rfl⟩,hl.push _⟩,fun b hb=>?_,by simp;omega,CmpOf.ints_lt (val ns) (fun i v=>adv hi i v),fun v h' tk hP hk=>?_⟩
 ·show b < (s.heap.push _).objs.size
  rw [Heap.size_push]
  rcases List.mem_cons.mp hb with rfl | hb
  ·exact Nat.lt_succ_self _
  ·rcases List.mem_cons.mp hb with rfl | hb
   ·exact Nat.lt_succ_of_lt hlt
   ·cases hb
 ·obtain ⟨t,e⟩:=adv hi _ _ hP
  obtain ⟨b1,b2⟩:=aic (val ns) (us.toArray.size - 1)
  have hs:us.toArray.size=ns.length:=by simp [hz]
  rw [hs] at b1 b2
  subst e
  refine h _ t h' tk (agd (by rw [hs];omega)) (fun x hx=>?_) fun b o e=>?_
  ·obtain ⟨i,hi',e⟩:=ahh hx
   have:=b2 i (by omega)
   rw [e] at this
   rw [hs]
   exact this
  ·refine hk b o (fun hm=>?_) (Heap.get?_push_of_some _ e)
   rcases List.mem_cons.mp hm with e1 | hm
   ·exact absurd (e1 ▸ Heap.lt_size e) (Nat.lt_irrefl _)
   ·cases hm
theorem max_tup {l:Addr} {us:List Value} {ns:List Int} {Q:Value->Shared->Prop} (hh:A.handled=none) (hl:s.heap.IsTuple l us.toArray) (hi:IntsAre us ns) (hne:ns ≠ [])
  (h:∀ m t h' tk,m∈ns->(∀ x∈ns,x<=m)->(∀ b o,s.heap.get? b=some o->h'.get? b=some o)->Q (.int m t) { s with heap:=h',toks:=tk }) :
  wpAny (model prog w) A.in1 (pyIter (.ref l)) (fun it s₂=>∃ I fp wr n P St bt,it=.ref I/\Walks prog w A.in1 I fp wr n P St/\St 0 s₂.heap/\(∀ b∈fp,b < s₂.heap.objs.size)/\0 < n/\CmpOf prog w A.in1 .Gt P bt /\
   ∀ v h' tk,P (argBest bt (n - 1)) v->(∀ b o,b ∉ wr->s₂.heap.get? b=some o->h'.get? b=some o)->Q v { s₂ with heap:=h',toks:=tk }) E s:=by
 have hlt:l < s.heap.objs.size:=by obtain ⟨_,e,_⟩:=hl;exact Heap.lt_size e
 have hz:us.length=ns.length:=hi.length
 have hp:0 < ns.length:=List.length_pos_iff.mpr hne
 refine wpAny_pyIter_tuple hl ?_
 refine ⟨_,[s.heap.objs.size,l],[_],_,_,_,_,rfl,Walks.tuple (A:=A.in1) hh _ l (Nat.ne_of_lt hlt) us.toArray,⟨⟨_,Heap.get?_push_size _ rfl,rfl,rfl⟩,hl.push _⟩,fun b hb=>?_,by simp;omega,CmpOf.ints_gt (val ns) (fun i v=>adv hi i v),fun v h' tk hP hk=>?_⟩
 ·show b < (s.heap.push _).objs.size
  rw [Heap.size_push]
  rcases List.mem_cons.mp hb with rfl | hb
  ·exact Nat.lt_succ_self _
  ·rcases List.mem_cons.mp hb with rfl | hb
   ·exact Nat.lt_succ_of_lt hlt
   ·cases hb
 ·obtain ⟨t,e⟩:=adv hi _ _ hP
  obtain ⟨b1,b2⟩:=aib (val ns) (us.toArray.size - 1)
  have hs:us.toArray.size=ns.length:=by simp [hz]
  rw [hs] at b1 b2
  subst e
  refine h _ t h' tk (agd (by rw [hs];omega)) (fun x hx=>?_) fun b o e=>?_
  ·obtain ⟨i,hi',e⟩:=ahh hx
   have:=b2 i (by omega)
   rw [e] at this
   rw [hs]
   exact this
  ·refine hk b o (fun hm=>?_) (Heap.get?_push_of_some _ e)
   rcases List.mem_cons.mp hm with e1 | hm
   ·exact absurd (e1 ▸ Heap.lt_size e) (Nat.lt_irrefl _)
   ·cases hm
theorem min_tup {l:Addr} {us:List Value} {ns:List Int} {Q:Value->Shared->Prop} (hh:A.handled=none) (hl:s.heap.IsTuple l us.toArray) (hi:IntsAre us ns) (hne:ns ≠ [])
  (h:∀ m t h' tk,m∈ns->(∀ x∈ns,m<=x)->(∀ b o,s.heap.get? b=some o->h'.get? b=some o)->Q (.int m t) { s with heap:=h',toks:=tk }) :
  wpAny (model prog w) A.in1 (pyIter (.ref l)) (fun it s₂=>∃ I fp wr n P St bt,it=.ref I/\Walks prog w A.in1 I fp wr n P St/\St 0 s₂.heap/\(∀ b∈fp,b < s₂.heap.objs.size)/\0 < n/\CmpOf prog w A.in1 .Lt P bt /\
   ∀ v h' tk,P (argBest bt (n - 1)) v->(∀ b o,b ∉ wr->s₂.heap.get? b=some o->h'.get? b=some o)->Q v { s₂ with heap:=h',toks:=tk }) E s:=by
 have hlt:l < s.heap.objs.size:=by obtain ⟨_,e,_⟩:=hl;exact Heap.lt_size e
 have hz:us.length=ns.length:=hi.length
 have hp:0 < ns.length:=List.length_pos_iff.mpr hne
 refine wpAny_pyIter_tuple hl ?_
 refine ⟨_,[s.heap.objs.size,l],[_],_,_,_,_,rfl,Walks.tuple (A:=A.in1) hh _ l (Nat.ne_of_lt hlt) us.toArray,⟨⟨_,Heap.get?_push_size _ rfl,rfl,rfl⟩,hl.push _⟩,fun b hb=>?_,by simp;omega,CmpOf.ints_lt (val ns) (fun i v=>adv hi i v),fun v h' tk hP hk=>?_⟩
 ·show b < (s.heap.push _).objs.size
  rw [Heap.size_push]
  rcases List.mem_cons.mp hb with rfl | hb
  ·exact Nat.lt_succ_self _
  ·rcases List.mem_cons.mp hb with rfl | hb
   ·exact Nat.lt_succ_of_lt hlt
   ·cases hb
 ·obtain ⟨t,e⟩:=adv hi _ _ hP
  obtain ⟨b1,b2⟩:=aic (val ns) (us.toArray.size - 1)
  have hs:us.toArray.size=ns.length:=by simp [hz]
  rw [hs] at b1 b2
  subst e
  refine h _ t h' tk (agd (by rw [hs];omega)) (fun x hx=>?_) fun b o e=>?_
  ·obtain ⟨i,hi',e⟩:=ahh hx
   have:=b2 i (by omega)
   rw [e] at this
   rw [hs]
   exact this
  ·refine hk b o (fun hm=>?_) (Heap.get?_push_of_some _ e)
   rcases List.mem_cons.mp hm with e1 | hm
   ·exact absurd (e1 ▸ Heap.lt_size e) (Nat.lt_irrefl _)
   ·cases hm
end
end HT
namespace L2
open PySem PySem.Spec PyProof.Rows
section
variable {X:Cx}
def ae6 (ns:List Int) (m:Int):Prop:=m∈ns/\∀ x∈ns,x<=m
def ats (ns:List Int) (m:Int):Prop:=m∈ns/\∀ x∈ns,m<=x
def ahi (K:Frag):List V->Hp->VK->Prop:=fun xs H Q=>∃ (a:Addr) (ns:List Int),xs=[.ref a]/\(SqL K H a (ns.map V.int)\/SqT K H a (ns.map V.int))/\ns ≠ []/\∀ m,ae6 ns m->Q (.int m) H
def aoi (K:Frag):List V->Hp->VK->Prop:=fun xs H Q=>∃ (a:Addr) (ns:List Int),xs=[.ref a]/\(SqL K H a (ns.map V.int)\/SqT K H a (ns.map V.int))/\ns ≠ []/\∀ m,ats ns m->Q (.int m) H
theorem afy (hc:X.calm=true):abg X (.builtin "max") (ahi X.K):=by
 intro pins s σ H xs us Q I r h
 obtain ⟨a,ns,rfl,ha,hne,q⟩:=h
 obtain ⟨u,rfl,ru⟩:=adc r
 cases ru
 rcases ha with ha | ha
 ·obtain ⟨its,r1,p1,_⟩:=I.list ha
  have i1:IntsAre its.toArray.toList ns:=ab3 r1
  exact HT.max_list (I.ok.hd hc) p1.isList (by simpa using i1) hne fun m t h' tk m1 m2 kp=>⟨.int m,H,I.kept kp,⟨_,rfl⟩,q m ⟨m1,m2⟩⟩
 ·obtain ⟨its,r1,p1,_⟩:=I.tuple ha
  have i1:IntsAre its.toArray.toList ns:=ab3 r1
  refine call_max_walk (HT.max_tup (I.ok.hd hc) p1 (by simpa using i1) hne fun m t h' tk m1 m2 kp=>⟨.int m,H,I.kept kp,⟨_,rfl⟩,q m ⟨m1,m2⟩⟩)
theorem apw (hc:X.calm=true):abg X (.builtin "min") (aoi X.K):=by
 intro pins s σ H xs us Q I r h
 obtain ⟨a,ns,rfl,ha,hne,q⟩:=h
 obtain ⟨u,rfl,ru⟩:=adc r
 cases ru
 rcases ha with ha | ha
 ·obtain ⟨its,r1,p1,_⟩:=I.list ha
  have i1:IntsAre its.toArray.toList ns:=ab3 r1
  exact HT.min_list (I.ok.hd hc) p1.isList (by simpa using i1) hne fun m t h' tk m1 m2 kp=>⟨.int m,H,I.kept kp,⟨_,rfl⟩,q m ⟨m1,m2⟩⟩
 ·obtain ⟨its,r1,p1,_⟩:=I.tuple ha
  have i1:IntsAre its.toArray.toList ns:=ab3 r1
  refine call_min_walk (HT.min_tup (I.ok.hd hc) p1 (by simpa using i1) hne fun m t h' tk m1 m2 kp=>⟨.int m,H,I.kept kp,⟨_,rfl⟩,q m ⟨m1,m2⟩⟩)
end
def tTru (K:Frag) (ta:TE):TT:=fun σ H Q=>ta σ H fun x H'=>∃ k,TruV K x H' k/\Q k H'
def rIsN:R2:=fun x y H Q=>y=.non/\Q (.bl (decide (x=.non))) H
section
variable {X:Cx} {a:Expr} {ta:TE}
theorem ahj (ha:PE X a ta) (he:∀ whole,isTrue a X.env whole=(do let v ← whole;standAt a.pos;holding [v] (truthy v)):=by intro _;rfl):PT X a (tTru X.K ta):=arb ha he
def abw (K:Frag):R2:=fun x y H Q=>rIxL K x y H Q\/rIxT K x y H Q
theorem aaq:IxR X (abw X.K):=ix_list.or awi
theorem aug {i j n:Int} {x1 x2:Nat} {p1 p2 pos:Pos} (h:i ^ j.toNat=n) (hc:CPow i j):PE X (.BinOp (.Constant (.int i) x1 p1) .Pow (.Constant (.int j) x2 p2) pos) (tC (.int n)):=by
 intro pins s σ H Q I q
 subst h
 exact aae awc aac aac pins s σ H Q I ⟨i,j,rfl,rfl,hc,q⟩
theorem anc:OpR X (compareOp .Is) rIsN:=awe
end
section
variable {σ:St} {H:Hp} {D:Ends} {K:Frag}
theorem ae7 {a:Addr} {xs:List V} {i:Int} {v:V} {Q:VK} (ha:H a=some (.lst xs)) (hv:atI xs i=some v) (h:Q v H):abw K (.ref a) (.int i) H Q:=.inl (awr ha hv h)
theorem arv {a:Addr} {xs:List V} {i:Int} {v:V} {Q:VK} (ha:H a=some (.tup xs)) (hv:atI xs i=some v) (h:Q v H):abw K (.ref a) (.int i) H Q:=.inr (aws ha hv h)
theorem acr {A B:Prop} (h:A):if true=true then A else B:=by rw [if_pos rfl];exact h
theorem adg {A B:Prop} (h:B):if false=true then A else B:=by rw [if_neg Bool.false_ne_true];exact h
theorem age {A B:Prop} (h:B):if (!true)=true then A else B:=by rw [if_neg (by decide)];exact h
theorem aid {A B:Prop} (h:A):if (!false)=true then A else B:=by rw [if_pos (by decide)];exact h
theorem arw {c:Prop} [Decidable c] {A B:Prop} (hc:c) (h:B):if (!decide c)=true then A else B:=by rw [decide_eq_true hc];exact age h
theorem arx {c:Prop} [Decidable c] {A B:Prop} (hc:¬ c) (h:A):if (!decide c)=true then A else B:=by rw [decide_eq_false hc];exact aid h
theorem agw {K:Frag}:kitOne K (.type "NoneType") (.type "int")=some false:=by first | rfl | decide
theorem agj {K:Frag}:kitOne K (.type "NoneType") (.type "bool")=some false:=by first | rfl | decide
theorem afz {K:Frag}:kitOne K (.type "NoneType") (.type "tuple")=some false:=by first | rfl | decide
theorem agk {K:Frag}:kitOne K (.type "NoneType") (.type "list")=some false:=by first | rfl | decide
theorem agx {K:Frag}:kitOne K (.type "NoneType") (.type "str")=some false:=by first | rfl | decide
theorem agl {K:Frag}:kitOne K (.type "NoneType") (.type "dict")=some false:=by first | rfl | decide
theorem ak6 {K:Frag}:kitOne K (.type "bool") (.type "int")=some true:=by first | rfl | decide
theorem ajo {K:Frag}:kitOne K (.type "bool") (.type "bool")=some true:=by first | rfl | decide
theorem aie {K:Frag}:kitOne K (.type "bool") (.type "tuple")=some false:=by first | rfl | decide
theorem ajp {K:Frag}:kitOne K (.type "bool") (.type "list")=some false:=by first | rfl | decide
theorem ak7 {K:Frag}:kitOne K (.type "bool") (.type "str")=some false:=by first | rfl | decide
theorem ajq {K:Frag}:kitOne K (.type "bool") (.type "dict")=some false:=by first | rfl | decide
theorem ame {K:Frag}:kitOne K (.type "int") (.type "int")=some true:=by first | rfl | decide
theorem ak8 {K:Frag}:kitOne K (.type "int") (.type "bool")=some false:=by first | rfl | decide
theorem ajr {K:Frag}:kitOne K (.type "int") (.type "tuple")=some false:=by first | rfl | decide
theorem ak9 {K:Frag}:kitOne K (.type "int") (.type "list")=some false:=by first | rfl | decide
theorem amf {K:Frag}:kitOne K (.type "int") (.type "str")=some false:=by first | rfl | decide
theorem ala {K:Frag}:kitOne K (.type "int") (.type "dict")=some false:=by first | rfl | decide
theorem amg {K:Frag}:kitOne K (.type "str") (.type "int")=some false:=by first | rfl | decide
theorem alb {K:Frag}:kitOne K (.type "str") (.type "bool")=some false:=by first | rfl | decide
theorem ajs {K:Frag}:kitOne K (.type "str") (.type "tuple")=some false:=by first | rfl | decide
theorem alc {K:Frag}:kitOne K (.type "str") (.type "list")=some false:=by first | rfl | decide
theorem amh {K:Frag}:kitOne K (.type "str") (.type "str")=some true:=by first | rfl | decide
theorem ald {K:Frag}:kitOne K (.type "str") (.type "dict")=some false:=by first | rfl | decide
theorem ale {K:Frag}:kitOne K (.type "list") (.type "int")=some false:=by first | rfl | decide
theorem ajt {K:Frag}:kitOne K (.type "list") (.type "bool")=some false:=by first | rfl | decide
theorem aif {K:Frag}:kitOne K (.type "list") (.type "tuple")=some false:=by first | rfl | decide
theorem aju {K:Frag}:kitOne K (.type "list") (.type "list")=some true:=by first | rfl | decide
theorem alf {K:Frag}:kitOne K (.type "list") (.type "str")=some false:=by first | rfl | decide
theorem ajv {K:Frag}:kitOne K (.type "list") (.type "dict")=some false:=by first | rfl | decide
theorem ajw {K:Frag}:kitOne K (.type "tuple") (.type "int")=some false:=by first | rfl | decide
theorem aig {K:Frag}:kitOne K (.type "tuple") (.type "bool")=some false:=by first | rfl | decide
theorem ahk {K:Frag}:kitOne K (.type "tuple") (.type "tuple")=some true:=by first | rfl | decide
theorem aih {K:Frag}:kitOne K (.type "tuple") (.type "list")=some false:=by first | rfl | decide
theorem ajx {K:Frag}:kitOne K (.type "tuple") (.type "str")=some false:=by first | rfl | decide
theorem aii {K:Frag}:kitOne K (.type "tuple") (.type "dict")=some false:=by first | rfl | decide
theorem alg {K:Frag}:kitOne K (.type "dict") (.type "int")=some false:=by first | rfl | decide
theorem ajy {K:Frag}:kitOne K (.type "dict") (.type "bool")=some false:=by first | rfl | decide
theorem aij {K:Frag}:kitOne K (.type "dict") (.type "tuple")=some false:=by first | rfl | decide
theorem ajz {K:Frag}:kitOne K (.type "dict") (.type "list")=some false:=by first | rfl | decide
theorem alh {K:Frag}:kitOne K (.type "dict") (.type "str")=some false:=by first | rfl | decide
theorem aj0 {K:Frag}:kitOne K (.type "dict") (.type "dict")=some true:=by first | rfl | decide
end
end L2
namespace L2
open PySem
section
variable {σ:St} {H:Hp} {K:Frag}
theorem ack {p:Addr} {o:HO} (hp:H p=none):Same H (upd H p o):=fun b u e=>by rw [aag (aau e hp)];exact e
theorem Same.new {H H':Hp} {q:Addr} {o:HO} (s:Same H H') (h:H' q=none):Same H (upd H' q o):=fun b u e=>by
 have:=s b u e
 rw [aag (aau this h)];exact this
theorem Same.set {H H':Hp} {q:Addr} {o:HO} (s:Same H H') (h:H q=none):Same H (upd H' q o):=fun b u e=>by
 have:=s b u e
 rw [aag (aau e h)];exact this
theorem Same.at {H H':Hp} {b:Addr} {o:HO} (s:Same H H') (h:H b=some o):H' b=some o:=s b o h
end
section
variable {σ:St} {H:Hp} {K:Frag}
end
end L2
namespace Gr
inductive Walk (T:Int->Int->Prop) (u:Int):Nat->Int->Prop
 | refl:Walk T u 0 u
 | step {k:Nat} {v w:Int}:Walk T u k v->T v w->Walk T u (k+1) w
def Dist (T:Int->Int->Prop) (u v:Int) (d:Nat):Prop:=Walk T u d v/\∀ k,Walk T u k v->d<=k
theorem Dist.uniq {T:Int->Int->Prop} {u v:Int} {d e:Nat} (h:Dist T u v d) (g:Dist T u v e):d=e:=Nat.le_antisymm (h.2 _ g.1) (g.2 _ h.1)
theorem Dist.self (T:Int->Int->Prop) (u:Int):Dist T u u 0:=⟨.refl,fun _ _=>Nat.zero_le _⟩
theorem Dist.of_walk {T:Int->Int->Prop} {u v:Int} {k:Nat} (h:Walk T u k v):∃ d,d<=k/\Dist T u v d:=by
 induction k using Nat.strongRecOn with
 | ind k ih =>
  by_cases hx:∃ j,j < k/\Walk T u j v
  ·obtain ⟨j,hj,w⟩:=hx
   obtain ⟨d,hd,e⟩:=ih j hj w
   exact ⟨d,by omega,e⟩
  ·refine ⟨k,Nat.le_refl _,h,fun j w=>?_⟩
   by_cases hj:j < k
   ·exact absurd ⟨j,hj,w⟩ hx
   ·omega
theorem Dist.pred {T:Int->Int->Prop} {u w:Int} {d:Nat} (h:Dist T u w (d+1)):∃ v,T v w/\Dist T u v d:=by
 obtain ⟨hw,hm⟩:=h
 cases hw with
 | step hv ht =>
  rename_i v
  refine ⟨v,ht,hv,fun k hk=>?_⟩
  have:=hm (k+1) (.step hk ht)
  omega
theorem Dist.next {T:Int->Int->Prop} {u v w:Int} {d:Nat} (h:Dist T u v d) (t:T v w):∃ e,e<=d+1/\Dist T u w e:=Dist.of_walk (.step h.1 t)
structure Bfs (T:Int->Int->Prop) (a:Int) (line:List Int) (ds:List Nat) (at_:Nat):Prop where
 len:ds.length=line.length
 fst:line[0]?=some a
 nd:line.Nodup
 le:at_<=line.length
 dist:∀ (i:Nat) v d,line[i]?=some v->ds[i]?=some d->Dist T a v d
 mono:∀ (i j:Nat) d e,i<=j->ds[i]?=some d->ds[j]?=some e->d<=e
 near:∀ (i j:Nat) d e,at_<=i->ds[i]?=some d->ds[j]?=some e->e<=d+1
 done:∀ (i:Nat) v w,i < at_->line[i]?=some v->T v w->w∈line
theorem Bfs.start (T:Int->Int->Prop) (a:Int):Bfs T a [a] [0] 0:=by
 refine ⟨rfl,rfl,by simp,Nat.zero_le _,fun i v d h1 h2=>?_,fun i j d e h h1 h2=>?_,fun i j d e h h1 h2=>?_,fun i v w h=>absurd h (by omega)⟩
 ·match i,h1,h2 with
  | 0,h1,h2=>simp at h1 h2;subst h1 h2;exact Dist.self T a
  | i+1,h1,_=>simp at h1
 ·match j,h2 with
  | 0,h2 =>
   have:i=0:=by omega
   subst this
   rw [h1] at h2;cases h2;exact Nat.le_refl _
  | j+1,h2=>simp at h2
 ·match i,j,h1,h2 with
  | 0,0,h1,h2=>rw [h1] at h2;cases h2;omega
  | i+1,_,h1,_=>simp at h1
  | 0,j+1,_,h2=>simp at h2
theorem Bfs.all {T:Int->Int->Prop} {a:Int} {line:List Int} {ds:List Nat} {at_:Nat} {d:Nat} (b:Bfs T a line ds at_) (hd:ds[at_]?=some d) :
  ∀ k w,k<=d->Dist T a w k->w∈line:=by
 intro k
 induction k with
 | zero =>
  intro w _ h
  have:w=a:=by
   cases h.1;rfl
  subst this
  exact List.mem_of_getElem? b.fst
 | succ k ih =>
  intro w hk h
  obtain ⟨v,tv,dv⟩:=h.pred
  have hv:=ih v (by omega) dv
  obtain ⟨i,hi,e⟩:=List.mem_iff_getElem.mp hv
  have e1:line[i]?=some v:=by rw [List.getElem?_eq_getElem hi,e]
  have hi2:i < ds.length:=by rw [b.len];exact hi
  have e2:ds[i]?=some ds[i]:=List.getElem?_eq_getElem hi2
  have e3:=(b.dist i v _ e1 e2).uniq dv
  by_cases hlt:i < at_
  ·exact b.done i v w hlt e1 tv
  ·have:=b.mono at_ i d _ (by omega) hd e2
   omega
theorem Bfs.add {T:Int->Int->Prop} {a:Int} {line:List Int} {ds:List Nat} {at_:Nat} {p w:Int} {d:Nat} (b:Bfs T a line ds at_) (hp:line[at_]?=some p) (hd:ds[at_]?=some d) (t:T p w) (hw:w ∉ line) :
  Bfs T a (line ++ [w]) (ds ++ [d+1]) at_:=by
 have hlt:at_ < line.length:=(List.getElem?_eq_some_iff.mp hp).1
 have dw:Dist T a w (d+1):=by
  obtain ⟨e,he,h⟩:=(b.dist _ _ _ hp hd).next t
  by_cases h2:e<=d
  ·exact absurd (b.all hd e w h2 h) hw
  ·have:e=d+1:=by omega
   rw [← this];exact h
 have hds:∀ (j:Nat) e,(ds ++ [d+1])[j]?=some e->(ds[j]?=some e)\/(j=ds.length/\e=d+1):=by
  intro j e h
  rw [List.getElem?_append] at h
  split at h
  ·exact .inl h
  ·rename_i hj
   right
   have:j - ds.length=0:=by
    match hz:j - ds.length,h with
    | 0,_=>rfl
    | k+1,h=>simp at h
   rw [this] at h
   simp at h
   exact ⟨by omega,h.symm⟩
 refine ⟨by simp [b.len],?_,?_,by simp;omega,fun i v e h1 h2=>?_,fun i j x y h h1 h2=>?_,fun i j x y h h1 h2=>?_,fun i v u h h1 tu=>?_⟩
 ·rw [List.getElem?_append_left (by omega)];exact b.fst
 ·rw [List.nodup_append]
  exact ⟨b.nd,by simp,fun x hx y hy=>by simp at hy;subst hy;intro e;subst e;exact hw hx⟩
 ·rcases hds _ _ h2 with h2 | ⟨ei,ed⟩
  ·have hi:i < ds.length:=(List.getElem?_eq_some_iff.mp h2).1
   rw [List.getElem?_append_left (by rw [← b.len];exact hi)] at h1
   exact b.dist i v e h1 h2
  ·subst ed
   rw [List.getElem?_append_right (by rw [← b.len];omega)] at h1
   have:i - line.length=0:=by rw [← b.len];omega
   rw [this] at h1
   simp at h1;subst h1
   exact dw
 ·rcases hds _ _ h1 with h1 | ⟨ei,ed⟩
  ·rcases hds _ _ h2 with h2 | ⟨ej,ed⟩
   ·exact b.mono i j x y h h1 h2
   ·subst ed
    by_cases hia:at_<=i
    ·exact b.near at_ i d x (Nat.le_refl _) hd h1
    ·have:=b.mono i at_ x d (by omega) h1 hd;omega
  ·rcases hds _ _ h2 with h2 | ⟨ej,ed2⟩
   ·have:=(List.getElem?_eq_some_iff.mp h2).1;omega
   ·omega
 ·rcases hds _ _ h1 with h1 | ⟨ei,ed⟩
  ·rcases hds _ _ h2 with h2 | ⟨ej,ed⟩
   ·exact b.near i j x y h h1 h2
   ·subst ed
    have:=b.mono at_ i d x h hd h1;omega
  ·subst ed
   rcases hds _ _ h2 with h2 | ⟨ej,ed⟩
   ·have:=b.near at_ j d y (Nat.le_refl _) hd h2;omega
   ·omega
 ·rw [List.getElem?_append_left (by omega)] at h1
  exact List.mem_append_left _ (b.done i v u h h1 tu)
theorem Bfs.next {T:Int->Int->Prop} {a:Int} {line:List Int} {ds:List Nat} {at_:Nat} {p:Int} (b:Bfs T a line ds at_) (hp:line[at_]?=some p) (h:∀ w,T p w->w∈line):Bfs T a line ds (at_+1):=by
 have hlt:at_ < line.length:=(List.getElem?_eq_some_iff.mp hp).1
 refine ⟨b.len,b.fst,b.nd,hlt,b.dist,b.mono,fun i j d e hi=>b.near i j d e (by omega),fun i v w hi h1 t=>?_⟩
 by_cases e:i=at_
 ·subst e
  rw [hp] at h1;cases h1
  exact h w t
 ·exact b.done i v w (by omega) h1 t
theorem Bfs.fin {T:Int->Int->Prop} {a:Int} {line:List Int} {ds:List Nat} (b:Bfs T a line ds line.length):∀ k w,Walk T a k w->w∈line:=by
 intro k w h
 induction h with
 | refl=>exact List.mem_of_getElem? b.fst
 | step _ t ih =>
  obtain ⟨i,hi,e⟩:=List.mem_iff_getElem.mp ih
  exact b.done i _ _ hi (by rw [List.getElem?_eq_getElem hi,e]) t
end Gr
namespace L2
open PySem PySem.Spec PyProof.Rows
section
variable {σ:St} {H:Hp} {D:Ends} {K:Frag}
end
theorem few_places:∀ (n:Nat) (l:List Int),l.Nodup->(∀ v∈l,0<=v/\v < (n:Int))->l.length<=n
 | 0,l,_,h=>by
  cases l with
  | nil=>simp
  | cons v r=>have:=h v (by simp);omega
 | n+1,l,hn,h=>by
  have h1:=few_places n (l.erase (n:Int)) (hn.erase _) fun v hv=>by
   have hm:=List.mem_of_mem_erase hv
   have hb:=h v hm
   have hne:v ≠ (n:Int):=by
    rintro rfl
    exact absurd hv (List.Nodup.not_mem_erase hn)
   omega
  have h2:l.length<=(l.erase (n:Int)).length+1:=by
   rw [List.length_erase]
   split <;> omega
  omega
end L2
namespace L2
open PySem
end L2
namespace HT
open PySem PyProof.Rows
section
variable {prog:Program} {w:World} {A:Around} {E:Value->Shared->Prop} {s:Shared}
end
end HT
namespace L2
open PySem PySem.Spec PyProof.Rows
section
variable {X:Cx}
end
section
variable {X:Cx} {pins:List (Addr × Obj)} {σ:St} {H:Hp} {s:Shared} {A:Around} {E:Value->Shared->Prop} {Q:Value->Shared->Prop} {b:Bool}
end
section
variable {X:Cx}
end
end L2
namespace HT
open PySem PyProof.Rows L2
def LtAt (A:Around) (s:Shared) (y x:Value) (b:Bool):Prop :=
 ∀ (prog:Program) (w:World) (E:Value->Shared->Prop) (Q:Value->Shared->Prop),Q (.bool b) s->wpAny (model prog w) A (richCompare .Lt y x) Q E s
section
open PySem.SeqAt
open PySem.AutoSeq1 (wpAny_loadPart')
open PySem.MeetsSeq PySem.MeetsSeq2 PySem.MeetsSeq3
inductive Its (A:Around) (s:Shared):List Value->List Value->Bool->Prop
 | nn:Its A s [] [] false
 | nc {x:Value} {ys:List Value}:Its A s [] (x :: ys) true
 | cn {x:Value} {xs:List Value}:Its A s (x :: xs) [] false
 | eq {x y:Value} {xs ys:List Value} {b:Bool}:EqAt A s x y true->Its A s xs ys b->Its A s (x :: xs) (y :: ys) b
 | ne {x y:Value} {xs ys:List Value} {b:Bool}:EqAt A s x y false->LtAt A s x y b->Its A s (x :: xs) (y :: ys) b
theorem ali (l b:Addr) (items items2:Array Value) (n n2:Nat) (dd dd2:Option Addr) (sl sl2:Array (Option Value)) (r:Bool) :
  Meets (Builtin.«tuple.__lt__» ⟨[.ref l,.ref b],[]⟩)
   (fun A R s=>s.heap.get? l=some { cls:=.type "tuple",dict:=dd,data:=.seq items n,slots:=sl }/\s.heap.get? b=some { cls:=.type "tuple",dict:=dd2,data:=.seq items2 n2,slots:=sl2 } /\
    Its A.in1 s items.toList items2.toList r/\R (.ok (.ret (.bool r))) s) :=
 .of_wp fun prog w A R s h=>by
  obtain ⟨hp,g,d,tk,os⟩:=s;obtain ⟨hl,hb,hi,h⟩:=h
  have f2:=AutoSeq1.sub_tuple_tuple
  wp_walk using wpAny_loadPart' hl,wpAny_loadPart' hb,wpAny_forIn_list _ (fun rest b s'=>b.1=none/\s'=⟨hp,g,d,tk,os⟩/\∃ (vs ws:List Value),rest=vs.zip ws /\
   vs.length+items2.size=ws.length+items.size/\Its A.in1 ⟨hp,g,d,tk,os⟩ vs ws r) _
  case turn =>
   rintro ⟨y,x⟩ rest b s' ⟨hb',rfl,vs,ws,hz,hlen,hI⟩
   cases hI with
   | nn=>cases hz
   | nc=>cases hz
   | cn=>cases hz
   | eq he hI' =>
    rw [List.zip_cons_cons] at hz
    injection hz with hyx hrest
    injection hyx with hy hx
    subst hy hx
    simp only [List.length_cons] at hlen
    refine wpAny_bind (he prog w _ _ ?_)
    wp_walk
    exact ⟨rfl,rfl,_,_,hrest,by omega,hI'⟩
   | ne he hlt =>
    rw [List.zip_cons_cons] at hz
    injection hz with hyx hrest
    injection hyx with hy hx
    subst hy hx
    refine wpAny_bind (he prog w _ _ ?_)
    have hri:=hlt prog w
    wp_walk using hri
    exact ⟨_,rfl,by simpa using h⟩
  case fin =>
   rintro ⟨b1,b2⟩ s' ⟨hb',rfl,vs,ws,hz,hlen,hI⟩
   simp only at hb'
   subst hb'
   have hv:r=decide (items.size < items2.size):=by
    cases hI with
    | nn =>
     simp only [List.length_nil] at hlen
     exact (decide_eq_false (by omega)).symm
    | nc =>
     simp only [List.length_nil,List.length_cons] at hlen
     exact (decide_eq_true (by omega)).symm
    | cn =>
     simp only [List.length_nil,List.length_cons] at hlen
     exact (decide_eq_false (by omega)).symm
    | eq=>cases hz
    | ne=>cases hz
   rw [hv] at h
   wp_walk
   exact ⟨_,rfl,by simpa [Builtin.Tuple.tupleCompareSizes] using h⟩
  case h =>
   exact ⟨rfl,rfl,items.toList,items2.toList,rfl,by simp;omega,hi⟩
end
section
variable {A:Around} {s:Shared}
theorem LtAt.tup {l b:Addr} {o o2:Obj} {items items2:Array Value} {n n2:Nat} {r:Bool} (hl:s.heap.get? l=some o) (hc:o.cls=.type "tuple") (hd:o.data=.seq items n) (hb:s.heap.get? b=some o2) (hc2:o2.cls=.type "tuple") (hd2:o2.data=.seq items2 n2)
  (hu:A.units < cLine) (hi:Its A.in1 s items.toList items2.toList r):LtAt A s (.ref l) (.ref b) r:=by
 intro prog w E Q q
 obtain ⟨cls,dd,data,sl⟩:=o
 obtain ⟨cls2,dd2,data2,sl2⟩:=o2
 simp only at hc hd hc2 hd2
 subst hc hd hc2 hd2
 exact richCompare_meets_room (op:=.Lt) ⟨_,hl,rfl⟩ ⟨_,hb,rfl⟩ PySem.F.slot_tuple_lt PySem.F.entry_tuple_lt (PySem.F.args_tuple_lt_2 _ _) (ali l b items items2 n n2 dd dd2 sl sl2 r)
  ⟨hl,hb,hi,show Value.bool r ≠ Value.notImplemented/\Q (.bool r) s from ⟨(fun x=>nomatch x),q⟩⟩ hu
end
end HT
namespace L2
open PySem PySem.Spec PyProof.Rows
section
variable {X:Cx}
end
end L2
namespace L2
open PySem
end L2
namespace TS
open PySem PyProof.Rows HT
theorem ane:∀ x y:List Int,HT.lexLt x y=true->HT.lexLt y x=false
 | [],[],h=>by simp [HT.lexLt] at h
 | [],_ :: _,_=>rfl
 | _ :: _,[],h=>by simp [HT.lexLt] at h
 | a :: x,b :: y,h=>by
  rw [ad0] at h ⊢
  by_cases e:a=b
  ·subst e
   rw [if_pos rfl] at h ⊢
   exact ane x y h
  ·rw [if_neg e] at h
   rw [if_neg (fun z=>e z.symm)]
   have:=of_decide_eq_true h
   exact decide_eq_false (by omega)
theorem apx:∀ x y z:List Int,HT.lexLt y x=false->HT.lexLt z y=false->HT.lexLt z x=false
 | _,[],[],h,_=>h
 | [],[],_ :: _,_,_=>rfl
 | _ :: _,[],_ :: _,h,_=>by simp [HT.lexLt] at h
 | _,_ :: _,[],_,h=>by simp [HT.lexLt] at h
 | [],_ :: _,_ :: _,_,_=>rfl
 | a :: x,b :: y,c :: z,h,g=>by
  rw [ad0] at h g ⊢
  by_cases e:b=a
  ·subst e
   rw [if_pos rfl] at h
   by_cases e2:c=b
   ·subst e2
    rw [if_pos rfl] at g ⊢
    exact apx x y z h g
   ·rw [if_neg e2] at g ⊢
    exact g
  ·rw [if_neg e] at h
   have h':=of_decide_eq_false h
   by_cases e2:c=b
   ·subst e2
    rw [if_neg e]
    exact h
   ·rw [if_neg e2] at g
    have g':=of_decide_eq_false g
    rw [if_neg (by omega)]
    exact decide_eq_false (by omega)
def TI (h:Heap) (a:Addr) (ns:List Int):Prop:=∃ o xs n,h.get? a=some o/\o.cls=.type "tuple"/\o.data=.seq xs n/\IntsAre xs.toList ns
noncomputable def kfV (kf:Addr->List Int):Value->List Int
 | .ref a=>kf a
 | _=>[]
section
variable {prog:Program} {w:World} {A:Around} {E:Value->Shared->Prop} {s:Shared}
theorem agn {fin:Bool} {Q:Bool->Shared->Prop}:∀ {xs ys:List Value} {ns ms:List Int} (i:Nat),IntsAre xs ns->IntsAre ys ms->(ns.length < ms.length->fin=true)->(ms.length<=ns.length->fin=false)->Q (HT.lexLt ns ms) s ->
  PySem.W.KatLex prog w A true fin Q (xs.zip ys) i s
 | _,_,_,_,i,.nil,.nil,_,h2,q=>by
  rw [h2 (Nat.le_refl _)];exact q
 | _,_,_,_,i,.nil,.cons b u r,h1,_,q=>by
  rw [h1 (by simp)];exact q
 | _,_,_,_,i,.cons a t r,.nil,_,h2,q=>by
  rw [List.zip_nil_right,h2 (by simp)];exact q
 | _,_,_,_,i,.cons a t r,.cons b u r2,h1,h2,q=>by
  rw [List.zip_cons_cons]
  refine PySem.W.kat_cons (SeqAt.EqAt.int_int a t b u prog w _ _ ?_)
  rw [ad0] at q
  by_cases e:a=b
  ·subst e
   rw [if_pos rfl] at q
   rw [show (a == a)=true by simp]
   exact PySem.W.kat_yes (agn (i+1) r r2 (fun z=>h1 (by simpa using z)) (fun z=>h2 (by simpa using z)) q)
  ·rw [if_neg e] at q
   rw [show (a == b)=false by simpa using e]
   refine PySem.W.kat_no ?_
   by_cases hi:i=0
   ·subst hi
    exact oneLt_int q
   ·rw [show (true && i == 0)=false by simpa using hi]
    exact PySem.W.kat_one _ _ (PyProof.Rows.lt_int q)
def tS (h:Heap) (kf:Addr->List Int) (x:Keyed):Prop:=x.1=x.2/\∃ a,x.1=.ref a/\TI h a (kf a)
noncomputable def tR (kf:Addr->List Int) (x y:Keyed):Bool:=HT.lexLt (kfV kf x.1) (kfV kf y.1)
theorem cmp_tups (kf:Addr->List Int):Cmp (model prog w) A E s (tuples' true) (tS s.heap kf) (tR kf):=by
 refine ⟨fun x y hx hy Q st hk q=>?_,fun x y _ _=>ane _ _,fun x y z _ _ _=>apx _ _ _⟩
 obtain ⟨x1,x2⟩:=x
 obtain ⟨y1,y2⟩:=y
 obtain ⟨_,a,ea,o,xs,n,e1,e2,e3,e4⟩:=hx
 obtain ⟨_,b,eb,o',ys,n',g1,g2,g3,g4⟩:=hy
 dsimp only at ea eb
 subst ea eb
 rw [lt'_eq]
 refine wpS_bind (wpS_get ?_)
 rw [hk]
 refine wpS_bind (wpS_lift (wpAny_attempt (PySem.W.kat_lt e1 e3 g1 g3 (agn 0 e4 g4 (fun z=>?_) (fun z=>?_) ⟨rfl,?_⟩))))
 ·have h1:=e4.length;have h2:=g4.length
  simp at h1 h2
  exact decide_eq_true (by omega)
 ·have h1:=e4.length;have h2:=g4.length
  simp at h1 h2
  exact decide_eq_false (by omega)
 ·exact wpS_pure q
theorem aoj {vs:List Value} {ps:List Keyed} (h:ps.Perm (vs.zip vs)):(∀ p∈ps,p.1=p.2/\p.1∈vs)/\(ps.map (·.2)).Perm vs:=by
 refine ⟨fun p hp=>mem_zip_self (h.mem_iff.mp hp),?_⟩
 have h1:=h.map (fun p=>p.2)
 have e:(vs.zip vs).map (fun p=>p.2)=vs:=List.map_snd_zip (Nat.le_refl _)
 rwa [e] at h1
theorem aj1 {a:Addr} {vs:List Value} {n:Nat} {P:PySem.Fin->Shared->Prop} (ho:s.heap.get? a=some (seqObj "list" vs.toArray n)) (hlen:vs.length<=sizeLine)
  (hκ:2<=vs.length->∀ h',(∀ b o,b ≠ a->s.heap.get? b=some o->h'.get? b=some o)->∃ κ S R,(∀ (Q:SortKind->Shared->Prop),Q κ { s with heap:=h' }->wpAny (model prog w) A (keyKind' vs.toArray) Q E { s with heap:=h' })/\Cmp (model prog w) A E { s with heap:=h' } κ S R/\(∀ v∈vs,S (v,v)) /\
   ∀ out:List Value,out.Perm vs->out.Pairwise (fun x y=>R (y,y) (x,x)=false)->P (.done (.ret .none)) { s with heap:=sortedHeap s.heap a vs out.toArray })
  (h1:vs.length < 2->P (.done (.ret .none)) { s with heap:=sortedHeap s.heap a vs vs.toArray }) :
  wpAny (model prog w) A (Builtin.«list.sort» ⟨[.ref a],[]⟩) P E s:=by
 rw [list_sort_plain]
 have ha:a < s.heap.objs.size:=Heap.lt_size ho
 refine wpAny_bind (listItems_at ho rfl ?_)
 refine wpAny_bind (listUpdate_at ho rfl ?_ (by rw [List.size_toArray];exact hlen) (Nat.zero_le _))
 obtain ⟨e1,ho1⟩:∃ e1,(s.heap.update a (Obj.mapSeq fun _ => #[])).get? a=some (seqObj "list" #[] e1):=⟨_,get?_update_seq ho (fun _ => #[])⟩
 refine wpAny_bind (seqEpoch_at ho1 rfl ?_)
 refine wpAny_bind (wpAny_newTuple ?_ (by show vs.length<=_;exact hlen))
 refine wpAny_bind (wpAny_newList ?_ (Nat.zero_le _))
 refine wpAny_holding ?_
 have ho6:(((s.heap.update a (Obj.mapSeq fun _ => #[])).push (seqObj "tuple" vs.toArray 0)).push (seqObj "list" #[] 0)).get? a=some (seqObj "list" #[] e1):=by
  rw [Heap.get?_push_ne _ _ _ (by rw [size_push',Heap.size_update];exact Nat.ne_of_lt (Nat.lt_succ_of_lt ha)),Heap.get?_push_ne _ _ _ (by rw [Heap.size_update];exact Nat.ne_of_lt ha)]
  exact ho1
 show wpAny (model prog w) A _ P E { s with heap:=((s.heap.update a (Obj.mapSeq fun _ => #[])).push (seqObj "tuple" vs.toArray 0)).push (seqObj "list" #[] 0) }
 dsimp only
 have hsz:vs.toArray.size=vs.length:=by simp
 have kp:∀ b o,b ≠ a->s.heap.get? b=some o->(((s.heap.update a (Obj.mapSeq fun _ => #[])).push (seqObj "tuple" vs.toArray 0)).push (seqObj "list" #[] 0)).get? b=some o:=fun b o hb e=>by
  refine Heap.get?_push_of_some _ (Heap.get?_push_of_some _ ?_)
  rw [Heap.get?_update_ne _ _ _ _ hb];exact e
 by_cases h2:vs.toArray.size < 2
 ·rw [if_pos h2,if_pos h2]
  refine wpAny_bind (wpAny_pure ?_)
  rw [StateT.run_pure]
  refine wpAny_bind (wpAny_pure ?_)
  dsimp only
  have eo:(arrOf (SortSt.mk' general' (vs.toArray.zip vs.toArray) #[] 7 none)).map (·.2)=vs.toArray:=by
   show (vs.toArray.zip vs.toArray).map (·.2)=vs.toArray
   apply Array.toList_inj.mp
   rw [Array.toList_map,Array.toList_zip]
   exact List.map_snd_zip (Nat.le_refl _)
  rw [eo]
  refine wpAny_bind (seqEpoch_at ho6 rfl ?_)
  refine wpAny_bind (listUpdate_at ho6 rfl ?_ (Nat.zero_le _) (by rw [List.size_toArray];exact Nat.le_succ_of_le hlen))
  simp only [bne_self_eq_false,Bool.false_eq_true,if_false]
  exact wpAny_pure (h1 (by omega))
 ·rw [if_neg h2,if_neg h2]
  obtain ⟨κ,S,R,hk,C,hS,hfin⟩:=hκ (by omega) _ kp
  refine wpAny_bind (hk _ ?_)
  refine wpAny_bind (wpAny_mono (auf C (a0:=vs.toArray.zip vs.toArray) (st:=SortSt.mk' κ (vs.toArray.zip vs.toArray) #[] 7 none) (Q:=fun _ st'=>failedOf st'=none/\(arrOf st').toList.Perm (vs.zip vs)/\Srt R (arrOf st').toList) (fun x hx=>?_) rfl rfl rfl rfl fun st' f' p' s'=>⟨f',by simpa using p',s'⟩) ?_ fun _ _ e=>e)
  ·have:x∈vs.zip vs:=by simpa using hx
   obtain ⟨q1,q2⟩:=mem_zip_self this
   obtain ⟨x1,x2⟩:=x
   dsimp only at q1 q2
   subst q1
   exact hS _ q2
  rintro ⟨⟨⟩,st'⟩ s' ⟨rfl,hf,hp,hs⟩
  dsimp only
  obtain ⟨q1,q2⟩:=aoj hp
  have eo:(arrOf st').map (·.2)=(((arrOf st').toList.map (·.2)).toArray):=by
   apply Array.toList_inj.mp
   simp
  rw [eo]
  have hl2:((arrOf st').toList.map (·.2)).length=vs.length:=q2.length_eq
  refine wpAny_bind (seqEpoch_at ho6 rfl ?_)
  refine wpAny_bind (listUpdate_at ho6 rfl ?_ (Nat.zero_le _) (by rw [List.size_toArray,hl2];exact Nat.le_succ_of_le hlen))
  rw [hf]
  simp only [bne_self_eq_false,Bool.false_eq_true,if_false]
  refine wpAny_pure (hfin _ q2 ?_)
  rw [List.pairwise_map]
  refine List.Pairwise.imp_of_mem ?_ hs
  intro x y hx hy hr
  have ex:=(q1 x hx).1
  have ey:=(q1 y hy).1
  obtain ⟨x1,x2⟩:=x
  obtain ⟨y1,y2⟩:=y
  dsimp only at ex ey
  subst ex ey
  exact hr
theorem sorted_any {l:Addr} {vs:List Value} {Q:Value->Shared->Prop} (hl:s.heap.IsList l vs.toArray) (hlen:vs.length<=sizeLine)
  (hκ:2<=vs.length->∀ h',(∀ b o,s.heap.get? b=some o->h'.get? b=some o)->∃ κ S R,(∀ (Q:SortKind->Shared->Prop),Q κ { s with heap:=h' }->wpAny (model prog w) A.in1.in1 (keyKind' vs.toArray) Q E { s with heap:=h' })/\Cmp (model prog w) A.in1.in1 E { s with heap:=h' } κ S R/\(∀ v∈vs,S (v,v)) /\
   ∀ out:List Value,out.Perm vs->out.Pairwise (fun x y=>R (y,y) (x,x)=false)->Q (.ref (s.heap.objs.size+1)) { s with heap:=sortedAll s.heap vs out.toArray })
  (h1:vs.length < 2->Q (.ref (s.heap.objs.size+1)) { s with heap:=sortedAll s.heap vs vs.toArray }) :
  wpAny (model prog w) A (call (.builtin "sorted") [.ref l]) Q E s:=by
 refine Calls.call_function_entry kind_sorted plain_sorted entry_sorted (args_sorted1 _) ?_
 unfold Builtin.«sorted»
 refine wpAny_bind (m:=checkCount "sorted" 1 1 _) (wpAny_pure ?_)
 refine wpAny_bind (collect_list hl ?_ hlen)
 refine wpAny_bind (wpAny_newList ?_ hlen)
 have hsz:((s.heap.push (seqObj "list" #[] 0)).update s.heap.objs.size (Obj.mapSeq (· ++ vs.toArray))).objs.size=s.heap.objs.size+1:=by
  rw [Heap.size_update,size_push']
 have hoL:(((s.heap.push (seqObj "list" #[] 0)).update s.heap.objs.size (Obj.mapSeq (· ++ vs.toArray))).push (seqObj "list" vs.toArray 0)).get? (s.heap.objs.size+1)=some (seqObj "list" vs.toArray 0):=by
  rw [← hsz];exact Heap.get?_push_size _ rfl
 have keep:∀ b o,s.heap.get? b=some o->(((s.heap.push (seqObj "list" #[] 0)).update s.heap.objs.size (Obj.mapSeq (· ++ vs.toArray))).push (seqObj "list" vs.toArray 0)).get? b=some o:=fun b o q=>by
  have hlt:b < s.heap.objs.size:=Heap.lt_size q
  rw [Heap.get?_push_ne _ _ _ (by rw [hsz];exact Nat.ne_of_lt (Nat.lt_succ_of_lt hlt)),Heap.get?_update_ne _ _ _ _ (Nat.ne_of_lt hlt),Heap.get?_push_ne _ _ _ (Nat.ne_of_lt hlt)]
  exact q
 show wpAny _ _ _ _ _ { s with heap:=((s.heap.push (seqObj "list" #[] 0)).update s.heap.objs.size (Obj.mapSeq (· ++ vs.toArray))).push (seqObj "list" vs.toArray 0) }
 rw [hsz]
 refine wpAny_bind (wpAny_holding (wpAny_call_entry slot_list_sort ⟨_,hoL,rfl⟩ entry_list_sort ?body (args_list_sort _)))
 case body =>
  refine aj1 (s:={ s with heap:=((s.heap.push (seqObj "list" #[] 0)).update s.heap.objs.size (Obj.mapSeq (· ++ vs.toArray))).push (seqObj "list" vs.toArray 0) }) hoL hlen (fun hge h' kp=>?_) fun hlt=>?_
  ·obtain ⟨κ,S,R,hk,C,hS,hfin⟩:=hκ hge h' fun b o e=>kp b o (Nat.ne_of_lt (Nat.lt_succ_of_lt (Heap.lt_size e))) (keep b o e)
   exact ⟨κ,S,R,hk,C,hS,fun out q1 q2=>⟨_,rfl,wpAny_pure ⟨_,rfl,hfin out q1 q2⟩⟩⟩
  ·exact ⟨_,rfl,wpAny_pure ⟨_,rfl,h1 hlt⟩⟩
end
end TS
namespace L2
open PySem PySem.Spec PyProof.Rows
noncomputable def toI:V->Int
 | .int i=>i
 | _=>0
noncomputable def kH (H:Hp):V->List Int
 | .ref t=>match H t with
  | some (.tup xs)=>xs.map toI
  | _=>[]
 | _=>[]
theorem auh (ns:List Int):(ns.map V.int).map toI=ns:=by
 rw [List.map_map]
 have:(toI ∘ V.int)=id:=by funext i;rfl
 rw [this,List.map_id]
theorem aok {H:Hp} {t:Addr} {ns:List Int} (h:H t=some (.tup (ns.map V.int))):kH H (.ref t)=ns:=by
 simp only [kH,h];exact auh ns
def TupI (H:Hp) (v:V):Prop:=∃ t ns,v=.ref t/\H t=some (.tup (ns.map V.int))/\ns ≠ []
noncomputable def agf:Value->V
 | .ref a => .ref a
 | _ => .non
theorem ai6:∀ {us:List Value},(∀ u∈us,∃ a,u=.ref a)->Vals (us.map agf) us
 | [],_ => .nil
 | u :: us,h=>by
  obtain ⟨a,e⟩:=h u List.mem_cons_self
  subst e
  exact .cons rfl (ai6 fun v hv=>h v (List.mem_cons_of_mem _ hv))
theorem ai7 {H:Hp}:∀ {vs:List V} {us:List Value},Vals vs us->(∀ v∈vs,TupI H v)->(∀ u∈us,∃ a,u=.ref a)/\us.map agf=vs
 | _,_,.nil,_=>⟨fun u hu=>(by cases hu),rfl⟩
 | v :: vs,u :: us,.cons r t,h=>by
  obtain ⟨a,ns,rfl,_,_⟩:=h v List.mem_cons_self
  cases r
  obtain ⟨h1,h2⟩:=ai7 t fun v hv=>h v (List.mem_cons_of_mem _ hv)
  refine ⟨fun x hx=>?_,by rw [List.map_cons,h2];rfl⟩
  rcases List.mem_cons.mp hx with rfl | hx
  ·exact ⟨_,rfl⟩
  ·exact h1 x hx
section
variable {X:Cx}
def ahl (K:Frag):List V->Hp->VK->Prop:=fun xs H Q=>∃ (a:Addr) (vs:List V),xs=[.ref a]/\SqL K H a vs/\(∀ v∈vs,TupI H v) /\
 ∀ (vs':List V) (p:Addr),vs'.Perm vs->vs'.Pairwise (fun x y=>HT.lexLt (kH H y) (kH H x)=false)->H p=none->Q (.ref p) (upd H p (.lst vs'))
theorem alj {H:Hp} {pins:List (Addr × Obj)} {σ:St} {s:Shared} (I:Inv X pins σ H s) {h':Heap} (kp:∀ b o,s.heap.get? b=some o->h'.get? b=some o):∀ {vs:List V} {us:List Value},Vals vs us->(∀ v∈vs,TupI H v) ->
  (∃ fs,PySem.W.KatTups h' us fs/\fs.length=us.length/\∀ f∈fs,∃ i t,f=.int i t)/\∀ u∈us,∃ a,u=.ref a/\TS.TI h' a (kH H (.ref a))
 | _,_,.nil,_=>⟨⟨[],trivial,rfl,fun f hf=>by cases hf⟩,fun u hu=>by cases hu⟩
 | v :: vs,u :: us,.cons r t,h=>by
  obtain ⟨a,ns,rfl,e,hne⟩:=h v List.mem_cons_self
  cases r
  obtain ⟨⟨fs,k1,k2,k3⟩,k4⟩:=alj I kp t fun v hv=>h v (List.mem_cons_of_mem _ hv)
  obtain ⟨_,its,rv,o,e1,e2,n,e3⟩:=(show ObjOk X.prog X.w H s.heap a (.tup (ns.map V.int)) from I.hok a _ e)
  have hi:IntsAre its ns:=by simpa using (ab3 rv:IntsAre its.toArray.toList ns)
  have hT:TS.TI h' a (kH H (.ref a)):=⟨o,its.toArray,n,kp _ _ e1,e2,e3,by rw [aok e];simpa using hi⟩
  obtain ⟨f,hf,i,tk,ef⟩:∃ f,its.toArray[0]?=some f/\∃ i t,f=.int i t:=by
   cases hi with
   | nil=>exact absurd rfl hne
   | cons i tk _=>exact ⟨_,by simp,i,tk,rfl⟩
  refine ⟨⟨f :: fs,PySem.W.KatTups.cons (kp _ _ e1) e2 e3 hf k1,by simp [k2],fun g hg=>?_⟩,fun x hx=>?_⟩
  ·rcases List.mem_cons.mp hg with rfl | hg
   ·exact ⟨i,tk,ef⟩
   ·exact k3 g hg
  ·rcases List.mem_cons.mp hx with rfl | hx
   ·exact ⟨a,rfl,hT⟩
   ·exact k4 x hx
theorem ary {α:Type} {R : α->α->Prop}:∀ {l:List α},l.length < 2->l.Pairwise R
 | [],_=>List.Pairwise.nil
 | [_],_=>List.pairwise_singleton _ _
 | _ :: _ :: _,h=>absurd h (by simp)
theorem ahm:abg X (.builtin "sorted") (ahl X.K):=by
 intro pins s σ H xs us Q I r h
 obtain ⟨a,vs,rfl,ha,hT,q⟩:=h
 obtain ⟨u,rfl,ru⟩:=adc r
 cases ru
 obtain ⟨its,r1,p1,hz⟩:=I.list ha
 obtain ⟨b1,b2⟩:=ai7 r1 hT
 have hlen:its.length<=sizeLine:=by rw [← r1.length];exact hz
 have hfree:H (s.heap.objs.size+1)=none:=I.hok.fresh (Nat.le_succ _)
 have fin:∀ out:List Value,out.Perm its->(out.map agf).Pairwise (fun x y=>HT.lexLt (kH H y) (kH H x)=false)->EP X pins σ Q (.ref (s.heap.objs.size+1)) { s with heap:=sortedAll s.heap its out.toArray }:=by
  intro out hp hs
  obtain ⟨e,he⟩:=sortedAll_at s.heap its out.toArray
  have hv:Vals (out.map agf) out:=ai6 fun u hu=>b1 u (hp.mem_iff.mp hu)
  refine ⟨.ref (s.heap.objs.size+1),_,I.laid (t':=s.toks) (o:=.lst (out.map agf)) (fun b ob q=>sortedAll_old q) (Nat.le_succ _) ?_,rfl,q _ _ ?_ hs hfree⟩
  ·refine ⟨by rw [List.length_map,hp.length_eq];exact hlen,out,e,hv,by rw [he]⟩
  ·rw [← b2];exact hp.map agf
 refine TS.sorted_any p1.isList hlen (fun hge h' kp=>?_) fun hlt=>?_
 ·obtain ⟨⟨fs,k1,k2,k3⟩,k4⟩:=alj I kp r1 hT
  have hne:(Value.type "int" != Value.type "tuple")=true:=by rfl
  refine ⟨tuples' true,TS.tS h' (fun a=>kH H (.ref a)),TS.tR (fun a=>kH H (.ref a)),fun Q' hq=>?_,TS.cmp_tups (s:={ s with heap:=h' }) (fun a=>kH H (.ref a)),fun v hv=>?_,fun out hp hs=>fin out hp ?_⟩
  ·refine PySem.W.kat_kind (T:=.type "int") (s:={ s with heap:=h' }) k1 (by omega) (fun v hv=>?_) (by rfl) ?_
   ·obtain ⟨i,t,rfl⟩:=k3 v hv
    exact .now
   ·rw [hne];exact hq
  ·obtain ⟨a,e,ht⟩:=k4 v hv
   exact ⟨rfl,a,e,ht⟩
  ·rw [List.pairwise_map]
   refine List.Pairwise.imp_of_mem ?_ hs
   intro x y hx hy hr
   obtain ⟨ax,rfl⟩:=b1 x (hp.mem_iff.mp hx)
   obtain ⟨ay,rfl⟩:=b1 y (hp.mem_iff.mp hy)
   exact hr
 ·refine fin its (List.Perm.refl _) ?_
  exact ary (by rw [List.length_map];exact hlt)
end
end L2
namespace HT
open PySem PySem.Spec PyProof.Rows L2
section
variable {prog:Program} {w:World} {A:Around} {kw:List (Str × Value)} {R:Result->Shared->Prop} {I S:Addr} {fp wr:List Addr} {n:Nat} {P:Nat->Value->Prop} {St:Nat->Heap->Prop} {Hd:Heap->Prop}
end
section
variable {prog:Program} {w:World} {A:Around} {E:Value->Shared->Prop} {s:Shared}
end
end HT
namespace L2
open PySem PySem.Spec PyProof.Rows
section
variable {X:Cx} {x:Str} {p pos kpos:Pos} {e en:Expr} {t:TA}
end
end L2
namespace HT
open PySem PySem.Spec PyProof.Rows
section
variable {prog:Program} {w:World} {A:Around} {E:Value->Shared->Prop} {s:Shared}
end
end HT
namespace L2
open PySem PySem.Spec PyProof.Rows
section
variable {X:Cx}
end
end L2
namespace VL
open PySem PySem.Spec L2
noncomputable def kD:Key->PyData
 | .inl i => .int i
 | .inr x => .str x
mutual
inductive Rp (G:Hp):V->PyData->Prop
 | non:Rp G .non .none
 | bl (b:Bool):Rp G (.bl b) (.bool b)
 | int (i:Int):Rp G (.int i) (.int i)
 | str (x:Str):Rp G (.str x) (.str x)
 | lst {a:Addr} {xs:List V} {ds:List PyData}:G a=some (.lst xs)->Rps G xs ds->Rp G (.ref a) (.list ds)
 | tup {a:Addr} {xs:List V} {ds:List PyData}:G a=some (.tup xs)->Rps G xs ds->Rp G (.ref a) (.tuple ds)
 | dk {a:Addr} {kvs:List (Key × V)} {es:List (Key × PyData)} {ds:List (PyData × PyData)}:G a=some (.dK kvs)->RpK G kvs es->ds=es.map (fun p=>(kD p.1,p.2))->Rp G (.ref a) (.dict ds)
 | dt {a:Addr} {kvs:List (List Key × V)} {es:List (List Key × PyData)} {ds:List (PyData × PyData)}:G a=some (.dT kvs)->RpT G kvs es->ds=es.map (fun p=>(.tuple (p.1.map kD),p.2))->Rp G (.ref a) (.dict ds)
inductive Rps (G:Hp):List V->List PyData->Prop
 | nil:Rps G [] []
 | cons {v:V} {vs:List V} {d:PyData} {ds:List PyData}:Rp G v d->Rps G vs ds->Rps G (v :: vs) (d :: ds)
inductive RpK (G:Hp):List (Key × V)->List (Key × PyData)->Prop
 | nil:RpK G [] []
 | cons {k:Key} {v:V} {d:PyData} {r:List (Key × V)} {s:List (Key × PyData)}:Rp G v d->RpK G r s->RpK G ((k,v) :: r) ((k,d) :: s)
inductive RpT (G:Hp):List (List Key × V)->List (List Key × PyData)->Prop
 | nil:RpT G [] []
 | cons {k:List Key} {v:V} {d:PyData} {r:List (List Key × V)} {s:List (List Key × PyData)}:Rp G v d->RpT G r s->RpT G ((k,v) :: r) ((k,d) :: s)
end
mutual
theorem Rp.same {G G':Hp} (s:Same G G'):∀ {v:V} {d:PyData},Rp G v d->Rp G' v d
 | _,_,.non => .non
 | _,_,.bl b => .bl b
 | _,_,.int i => .int i
 | _,_,.str x => .str x
 | _,_,.lst h r => .lst (s _ _ h) (Rps.same s r)
 | _,_,.tup h r => .tup (s _ _ h) (Rps.same s r)
 | _,_,.dk h r e => .dk (s _ _ h) (RpK.same s r) e
 | _,_,.dt h r e => .dt (s _ _ h) (RpT.same s r) e
theorem Rps.same {G G':Hp} (s:Same G G'):∀ {vs:List V} {ds:List PyData},Rps G vs ds->Rps G' vs ds
 | _,_,.nil => .nil
 | _,_,.cons r t => .cons (Rp.same s r) (Rps.same s t)
theorem RpK.same {G G':Hp} (s:Same G G'):∀ {vs:List (Key × V)} {ds:List (Key × PyData)},RpK G vs ds->RpK G' vs ds
 | _,_,.nil => .nil
 | _,_,.cons r t => .cons (Rp.same s r) (RpK.same s t)
theorem RpT.same {G G':Hp} (s:Same G G'):∀ {vs:List (List Key × V)} {ds:List (List Key × PyData)},RpT G vs ds->RpT G' vs ds
 | _,_,.nil => .nil
 | _,_,.cons r t => .cons (Rp.same s r) (RpT.same s t)
end
theorem Rps.length {G:Hp}:∀ {vs:List V} {ds:List PyData},Rps G vs ds->vs.length=ds.length
 | _,_,.nil=>rfl
 | _,_,.cons _ t=>by simp [Rps.length t]
theorem Rps.get {G:Hp}:∀ {vs:List V} {ds:List PyData} {i:Nat} {d:PyData},Rps G vs ds->ds[i]?=some d->∃ v,vs[i]?=some v/\Rp G v d
 | _,_,_,_,.nil,e=>by simp at e
 | _,_,0,_,.cons r _,e=>by simp at e;subst e;exact ⟨_,rfl,r⟩
 | _,_,i+1,d,.cons _ t,e=>by
  obtain ⟨u,h1,h2⟩:=Rps.get (i:=i) (d:=d) t (by simpa using e)
  exact ⟨u,by simpa using h1,h2⟩
theorem Rps.append {G:Hp}:∀ {vs ws:List V} {ds es:List PyData},Rps G vs ds->Rps G ws es->Rps G (vs ++ ws) (ds ++ es)
 | _,_,_,_,.nil,s=>s
 | _,_,_,_,.cons r t,s => .cons r (Rps.append t s)
theorem Rps.set {G:Hp} {v:V} {d:PyData} (h:Rp G v d):∀ {vs:List V} {ds:List PyData} (i:Nat),Rps G vs ds->Rps G (vs.set i v) (ds.set i d)
 | _,_,_,.nil => .nil
 | _,_,0,.cons _ t => .cons h t
 | _,_,i+1,.cons r t => .cons r (Rps.set h i t)
theorem Rps.erase {G:Hp}:∀ {vs:List V} {ds:List PyData} (i:Nat),Rps G vs ds->Rps G (vs.eraseIdx i) (ds.eraseIdx i)
 | _,_,_,.nil => .nil
 | _,_,0,.cons _ t=>t
 | _,_,i+1,.cons r t => .cons r (Rps.erase i t)
theorem Rps.take {G:Hp}:∀ {vs:List V} {ds:List PyData} (i:Nat),Rps G vs ds->Rps G (vs.take i) (ds.take i)
 | _,_,0,_ => .nil
 | _,_,_+1,.nil => .nil
 | _,_,i+1,.cons r t => .cons r (Rps.take i t)
theorem Rps.drop {G:Hp}:∀ {vs:List V} {ds:List PyData} (i:Nat),Rps G vs ds->Rps G (vs.drop i) (ds.drop i)
 | _,_,0,r=>r
 | _,_,_+1,.nil => .nil
 | _,_,i+1,.cons _ t=>Rps.drop i t
theorem Rps.rep {G:Hp} {vs:List V} {ds:List PyData} (h:Rps G vs ds):∀ (k:Nat),Rps G (List.replicate k vs).flatten (List.replicate k ds).flatten
 | 0 => .nil
 | k+1=>by
  rw [List.replicate_succ,List.replicate_succ,List.flatten_cons,List.flatten_cons]
  exact h.append (Rps.rep h k)
theorem Rps.ints {G:Hp}:∀ (ns:List Int),Rps G (ns.map V.int) (ns.map PyData.int)
 | [] => .nil
 | n :: ns => .cons (.int n) (Rps.ints ns)
theorem Rps.ints_inv {G:Hp}:∀ {ns:List Int} {vs:List V},Rps G vs (ns.map PyData.int)->vs=ns.map V.int
 | [],_,.nil=>rfl
 | n :: ns,_,.cons r t=>by
  cases r
  rw [Rps.ints_inv t];rfl
mutual
theorem Rp.rep {G:Hp}:∀ {v:V} {d:PyData},Rp G v d->aav d=true->Rep G v d
 | _,_,.non,_ => .non
 | _,_,.bl b,_ => .bl b
 | _,_,.int i,_ => .int i
 | _,_,.str x,_ => .str x
 | _,_,.lst h r,p => .lst h (Rps.reps r (by simpa [aav] using p))
 | _,_,.tup h r,p => .tup h (Rps.reps r (by simpa [aav] using p))
 | _,_,.dk h r e,p=>by simp [aav] at p
 | _,_,.dt h r e,p=>by simp [aav] at p
theorem Rps.reps {G:Hp}:∀ {vs:List V} {ds:List PyData},Rps G vs ds->plainDs ds=true->Reps G vs ds
 | _,_,.nil,_ => .nil
 | _,_,.cons r t,p=>by
  simp only [plainDs,Bool.and_eq_true] at p
  exact .cons (Rp.rep r p.1) (Rps.reps t p.2)
end
structure Own where
 P:Hp->Hp->V->(Addr->Prop)->Prop
 mono:∀ {G H G' H':Hp} {v:V} {F:Addr->Prop},P G H v F->Same G G'->(∀ a o,F a->H a=some o->H' a=some o)->P G' H' v F
 dom:∀ {G H:Hp} {v:V} {F:Addr->Prop},P G H v F->∀ a,F a->∃ o,H a=some o
inductive Sl where
 | st (d:PyData) | own (A:Own) | io (A:Own) | scr (ns:List Int)
noncomputable abbrev En:=List (Option Sl)
structure Bs where
 K:Frag
 G:Hp
 H:Hp
 R:Hp
 S:St
 F:Nat->Addr->Prop
noncomputable def SlOk (B:Bs) (G H:Hp) (i:Nat) (v:V) (F:Addr->Prop):Sl->Prop
 | .st d=>Rp G v d/\∀ a,¬ F a
 | .own A=>A.P G H v F/\∀ a,F a->B.H a=none
 | .io A=>A.P G H v F/\(∀ a,F a->B.F i a\/B.H a=none)/\B.S[i]?=some (some v)
 | .scr ns=>(∃ a,v=.ref a/\SqL B.K G a (ns.map V.int))/\∀ a,¬ F a
def FT (G H:Hp):Prop:=∀ (a:Addr) (ks:List Key),H a=some (.tup (ks.map kV))->G a=some (.tup (ks.map kV))
structure VI (B:Bs) (G H:Hp) (σ:St) (env:En) (F:Nat->Addr->Prop):Prop where
 gh:Same G H
 g0:Same B.G G
 gn:∀ a o,G a=some o->B.G a=some o\/B.H a=none
 rs:Same B.R H
 rb:Same B.R B.H
 bh:∀ a o,B.H a=some o->∃ o',H a=some o'
 fg:∀ i a,F i a->G a=none
 fr:∀ i a,F i a->B.R a=none
 fd:∀ i j a,F i a->F j a->i=j
 fo:∀ i a,F i a->∃ o,H a=some o
 sl:∀ i s,env[i]?=some (some s)->∃ v,σ[i]?=some (some v)/\SlOk B G H i v (F i) s
 ln : σ.length=env.length
 ft:FT G H
noncomputable def RsOk (G H:Hp) (v:V) (F:Addr->Prop):Sl->Prop
 | .st d=>Rp G v d/\∀ a,¬ F a
 | .own A=>A.P G H v F
 | _=>False
structure RsX (B:Bs) (G H:Hp) (v:V) (Fv:Addr->Prop) (s:Sl) (F:Nat->Addr->Prop):Prop where
 ok:RsOk G H v Fv s
 fb:∀ a,Fv a->B.H a=none
 fg:∀ a,Fv a->G a=none
 fo:∀ a,Fv a->∃ o,H a=some o
 fd:∀ j a,Fv a->¬ F j a
structure Out (G H:Hp) (v:V) (G' H':Hp) (s:Sl) (Fv:Addr->Prop):Prop where
 gg:Same G G'
 gh:Same G' H'
 hh:Same H H'
 gn:∀ a o,G' a=some o->G a=some o\/H a=none
 fn:∀ a,Fv a->H a=none
 fg:∀ a,Fv a->G' a=none
 fo:∀ a,Fv a->∃ o,H' a=some o
 ok:RsOk G' H' v Fv s
 ft:FT G H->FT G' H'
theorem aol {α:Type} {o:Option α} (h:o ≠ none):∃ x,o=some x:=by
 cases o with
 | none=>exact absurd rfl h
 | some x=>exact ⟨x,rfl⟩
theorem SlOk.mono {B:Bs} {G H G' H':Hp} {i:Nat} {v:V} {F:Addr->Prop} {s:Sl} (h:SlOk B G H i v F s) (g:Same G G') (hh:∀ a o,F a->H a=some o->H' a=some o):SlOk B G' H' i v F s:=by
 cases s with
 | st d=>exact ⟨h.1.same g,h.2⟩
 | own A=>exact ⟨A.mono h.1 g hh,h.2⟩
 | io A=>exact ⟨A.mono h.1 g hh,h.2⟩
 | scr ns =>
  obtain ⟨⟨a,e,q⟩,n⟩:=h
  exact ⟨⟨a,e,g.seq q⟩,n⟩
section
variable {B:Bs} {G H G' H':Hp} {σ:St} {env:En} {F:Nat->Addr->Prop} {v:V} {s:Sl} {Fv:Addr->Prop}
theorem VI.no_r (I:VI B G H σ env F) {a:Addr} (h:H a=none):B.R a=none:=by
 cases e:B.R a with
 | none=>rfl
 | some o=>rw [I.rs a o e] at h;cases h
theorem VI.no_b (I:VI B G H σ env F) {a:Addr} (h:H a=none):B.H a=none:=by
 cases e:B.H a with
 | none=>rfl
 | some o=>obtain ⟨o',e'⟩:=I.bh a o e;rw [e'] at h;cases h
theorem VI.no_g (I:VI B G H σ env F) {a:Addr} (h:H a=none):G a=none:=by
 cases e:G a with
 | none=>rfl
 | some o=>rw [I.gh a o e] at h;cases h
theorem VI.no_f (I:VI B G H σ env F) {a:Addr} (h:H a=none) (i:Nat):¬ F i a:=fun z=>by
 obtain ⟨o,e⟩:=I.fo i a z;rw [e] at h;cases h
theorem VI.grow (I:VI B G H σ env F) (gg:Same G G') (gh:Same G' H') (hh:Same H H') (gn:∀ a o,G' a=some o->G a=some o\/H a=none) (ft:FT G' H'):VI B G' H' σ env F where
 gh:=gh
 g0:=I.g0.trans gg
 gn:=fun a o e=>by
  rcases gn a o e with e | e
  ·exact I.gn a o e
  ·exact .inr (I.no_b e)
 rs:=I.rs.trans hh
 rb:=I.rb
 bh:=fun a o e=>by obtain ⟨o',e'⟩:=I.bh a o e;exact ⟨o',hh _ _ e'⟩
 fg:=fun i a z=>by
  cases e:G' a with
  | none=>rfl
  | some o =>
   rcases gn a o e with e | e
   ·rw [I.fg i a z] at e;cases e
   ·exact absurd z (I.no_f e i)
 fr:=I.fr
 fd:=I.fd
 fo:=fun i a z=>by obtain ⟨o,e⟩:=I.fo i a z;exact ⟨o,hh _ _ e⟩
 sl:=fun i s e=>by
  obtain ⟨v,e1,e2⟩:=I.sl i s e
  exact ⟨v,e1,e2.mono gg fun a o _ q=>hh _ _ q⟩
 ln:=I.ln
 ft:=ft
theorem VI.out (I:VI B G H σ env F) (o:Out G H v G' H' s Fv):VI B G' H' σ env F/\RsX B G' H' v Fv s F :=
 ⟨I.grow o.gg o.gh o.hh o.gn (o.ft I.ft),o.ok,fun a z=>I.no_b (o.fn a z),o.fg,o.fo,fun j a z y=>I.no_f (o.fn a z) j y⟩
theorem VI.b_r (I:VI B G H σ env F) {a:Addr} (h:B.H a=none):B.R a=none:=by
 cases e:B.R a with
 | none=>rfl
 | some o=>rw [I.rb a o e] at h;cases h
def putF (F:Nat->Addr->Prop) (i:Nat) (Fv:Addr->Prop):Nat->Addr->Prop:=fun j a=>if j=i then Fv a else F j a
theorem putF_same {i:Nat} {a:Addr}:putF F i Fv i a ↔ Fv a:=by unfold putF;rw [if_pos rfl]
theorem aez {i:Nat}:putF F i Fv i=Fv:=by funext a;unfold putF;rw [if_pos rfl]
theorem aa6 {i j:Nat} (h:j ≠ i):putF F i Fv j=F j:=by funext a;unfold putF;rw [if_neg h]
theorem VI.slot (I:VI B G H σ env F) (i:Nat) (o:Option V) (os:Option Sl) (fg:∀ a,Fv a->G a=none) (fr:∀ a,Fv a->B.R a=none) (fo:∀ a,Fv a->∃ o,H a=some o) (fd:∀ j a,j ≠ i->Fv a->¬ F j a)
  (ok:∀ s,os=some s->∃ v,o=some v/\SlOk B G H i v Fv s):VI B G H (σ.set i o) (env.set i os) (putF F i Fv) where
 gh:=I.gh
 g0:=I.g0
 gn:=I.gn
 rs:=I.rs
 rb:=I.rb
 bh:=I.bh
 fg:=fun j a z=>by
  by_cases h:j=i
  ·subst h;exact fg a (putF_same.mp z)
  ·rw [aa6 h] at z;exact I.fg j a z
 fr:=fun j a z=>by
  by_cases h:j=i
  ·subst h;exact fr a (putF_same.mp z)
  ·rw [aa6 h] at z;exact I.fr j a z
 fd:=fun j k a y z=>by
  by_cases h:j=i
  ·by_cases g:k=i
   ·rw [h,g]
   ·subst h;rw [aa6 g] at z;exact absurd z (fd k a g (putF_same.mp y))
  ·by_cases g:k=i
   ·subst g;rw [aa6 h] at y;exact absurd y (fd j a h (putF_same.mp z))
   ·rw [aa6 h] at y;rw [aa6 g] at z;exact I.fd j k a y z
 fo:=fun j a z=>by
  by_cases h:j=i
  ·subst h;exact fo a (putF_same.mp z)
  ·rw [aa6 h] at z;exact I.fo j a z
 sl:=fun j t e=>by
  by_cases h:j=i
  ·subst h
   rw [List.getElem?_set,if_pos rfl] at e
   by_cases hl:j < env.length
   ·rw [if_pos hl] at e
    obtain ⟨v,hv,q⟩:=ok t (Option.some.inj e)
    refine ⟨v,by rw [List.getElem?_set,if_pos rfl,if_pos (by rw [I.ln];exact hl),hv],?_⟩
    rw [aez];exact q
   ·rw [if_neg hl] at e;cases e
  ·rw [List.getElem?_set,if_neg (fun z=>h z.symm)] at e
   obtain ⟨v,hv,q⟩:=I.sl j t e
   refine ⟨v,by rw [List.getElem?_set,if_neg (fun z=>h z.symm)];exact hv,?_⟩
   rw [aa6 h];exact q
 ln:=by simp [I.ln]
 ft:=I.ft
theorem VI.store (I:VI B G H σ env F) (r:RsX B G H v Fv s F) (i:Nat):VI B G H (σ.set i (some v)) (env.set i (some s)) (putF F i Fv):=by
 refine I.slot i (some v) (some s) r.fg (fun a z=>I.b_r (r.fb a z)) r.fo (fun j a _ z=>r.fd j a z) fun t e=>?_
 cases e
 refine ⟨v,rfl,?_⟩
 have:=r.ok
 cases s with
 | st d=>exact this
 | own A=>exact ⟨this,r.fb⟩
 | io A=>exact this.elim
 | scr ns=>exact this.elim
theorem VI.drop (I:VI B G H σ env F) (i:Nat):VI B G H σ (env.set i none) (putF F i fun _=>False):=by
 have:=I.slot (Fv:=fun _=>False) i ((σ[i]?).getD none) none (fun a z=>z.elim) (fun a z=>z.elim) (fun a z=>z.elim) (fun j a _ z=>z.elim) (fun s e=>by cases e)
 rwa [show σ.set i ((σ[i]?).getD none) = σ from ?_] at this
 apply List.ext_getElem?
 intro j
 rw [List.getElem?_set]
 by_cases h:i=j
 ·subst h
  rw [if_pos rfl]
  by_cases hl:i < σ.length
  ·rw [if_pos hl,List.getElem?_eq_getElem hl];rfl
  ·rw [if_neg hl,List.getElem?_eq_none_iff.mpr (by omega)]
 ·rw [if_neg h]
theorem VI.change {A:Own} (I:VI B G H σ env F) (i:Nat) {H2:Hp} {F2:Addr->Prop} {os os':Sl} (e:env[i]?=some (some os)) (hv : σ[i]?=some (some v))
  (keep:∀ a o,¬ F i a->H a=some o->H2 a=some o) (dm:∀ a o,H a=some o->∃ o',H2 a=some o') (f2:∀ a,F2 a->(F i a\/H a=none)/\∃ o,H2 a=some o) (hp:A.P G H2 v F2) (ht:FT G H2)
  (hs:(os'=.own A/\∃ A0,os=.own A0)\/(os'=.io A/\∃ A0,os=.io A0)):VI B G H2 σ (env.set i (some os')) (putF F i F2):=by
 obtain ⟨v',hv',q⟩:=I.sl i os e
 rw [hv] at hv';cases hv'
 have nf:∀ j a,j ≠ i->F j a->¬ F i a:=fun j a hj y z=>hj (I.fd j i a y z)
 have g2:∀ a,F2 a->G a=none:=fun a z=>by
  rcases (f2 a z).1 with y | y
  ·exact I.fg i a y
  ·exact I.no_g y
 have J:VI B G H2 σ (env.set i none) (putF F i fun _=>False):=by
  have D:=I.drop i
  refine ⟨fun a o x=>keep a o (fun z=>by rw [I.fg i a z] at x;cases x) (I.gh a o x),D.g0,D.gn,fun a o x=>keep a o (fun z=>by rw [I.fr i a z] at x;cases x) (I.rs a o x),D.rb,fun a o x=>?_,D.fg,D.fr,D.fd,fun j a z=>?_,fun j s x=>?_,D.ln,ht⟩
  ·obtain ⟨o',x'⟩:=I.bh a o x
   exact dm a o' x'
  ·obtain ⟨o,x⟩:=D.fo j a z
   exact dm a o x
  ·obtain ⟨u,h1,h2⟩:=D.sl j s x
   refine ⟨u,h1,h2.mono (Same.refl G) fun a o z y=>?_⟩
   by_cases hj:j=i
   ·subst hj;exact (putF_same.mp z).elim
   ·rw [aa6 hj] at z
    exact keep a o (nf j a hj z) y
 have J2:=J.slot (Fv:=F2) i (some v) (some os') g2 (fun a z=>by
   rcases (f2 a z).1 with y | y
   ·exact I.fr i a y
   ·exact I.no_r y) (fun a z=>(f2 a z).2) (fun j a hj z y=>by
   rw [aa6 hj] at y
   rcases (f2 a z).1 with x | x
   ·exact nf j a hj y x
   ·exact I.no_f x j y) fun t et=>by
   cases et
   refine ⟨v,rfl,?_⟩
   rcases hs with ⟨rfl,A0,rfl⟩ | ⟨rfl,A0,rfl⟩
   ·refine ⟨hp,fun a z=>?_⟩
    rcases (f2 a z).1 with y | y
    ·exact q.2 a y
    ·exact I.no_b y
   ·refine ⟨hp,fun a z=>?_,q.2.2⟩
    rcases (f2 a z).1 with y | y
    ·exact q.2.1 a y
    ·exact .inr (I.no_b y)
 have e1 : σ.set i (some v) = σ:=by
  apply List.ext_getElem?
  intro j
  rw [List.getElem?_set]
  by_cases h:i=j
  ·subst h
   rw [if_pos rfl,hv,if_pos (List.getElem?_eq_some_iff.mp hv).1]
  ·rw [if_neg h]
 have e2:(env.set i none).set i (some os')=env.set i (some os'):=by simp
 have e3:putF (putF F i fun _=>False) i F2=putF F i F2:=by
  funext j a
  by_cases h:j=i
  ·subst h;rw [aez,aez]
  ·rw [aa6 h,aa6 h,aa6 h]
 rw [e1,e2,e3] at J2
 exact J2
end
open Classical in
noncomputable def jn (G H:Hp) (F:Addr->Prop):Hp:=fun a=>if F a then H a else G a
theorem ae8 {G H:Hp} {F:Addr->Prop} {a:Addr} (h:F a):jn G H F a=H a:=if_pos h
theorem akf {G H:Hp} {F:Addr->Prop} {a:Addr} (h:¬ F a):jn G H F a=G a:=if_neg h
theorem abl {G H:Hp} {F:Addr->Prop} (h:∀ a,F a->G a=none):Same G (jn G H F):=fun a o e=>by
 rw [akf (fun z=>by rw [h a z] at e;cases e)];exact e
theorem akg {G H:Hp} {F:Addr->Prop} (h:Same G H):Same (jn G H F) H:=fun a o e=>by
 by_cases z:F a
 ·rw [ae8 z] at e;exact e
 ·rw [akf z] at e;exact h a o e
def Frz (A:Own) (d:PyData):Prop:=∀ (G H:Hp) (v:V) (F:Addr->Prop),A.P G H v F->(∀ a,F a->G a=none)->Same G H->Rp (jn G H F) v d
noncomputable def FQ:Sl->(PyData->Prop)->Prop
 | .st d,R=>R d
 | .own A,R=>∃ d,Frz A d/\R d
 | _,_=>False
noncomputable def OL (ds:List PyData):Own where
 P:=fun G H v F=>∃ a vs,v=.ref a/\H a=some (.lst vs)/\Rps G vs ds/\∀ b,F b ↔ b=a
 mono:=fun ⟨a,vs,e,h,r,f⟩ g hh=>⟨a,vs,e,hh a _ ((f a).mpr rfl) h,r.same g,f⟩
 dom:=fun ⟨a,vs,e,h,r,f⟩ b z=>by rw [(f b).mp z];exact ⟨_,h⟩
noncomputable def OT (es:List (List Key × PyData)):Own where
 P:=fun G H v F=>∃ a kvs,v=.ref a/\H a=some (.dT kvs)/\RpT G kvs es/\∀ b,F b ↔ b=a
 mono:=fun ⟨a,vs,e,h,r,f⟩ g hh=>⟨a,vs,e,hh a _ ((f a).mpr rfl) h,r.same g,f⟩
 dom:=fun ⟨a,vs,e,h,r,f⟩ b z=>by rw [(f b).mp z];exact ⟨_,h⟩
theorem acf {ds:List PyData}:Frz (OL ds) (.list ds):=fun G H v F ⟨a,vs,e,h,r,f⟩ n g=>by
 subst e
 exact .lst (by rw [ae8 ((f a).mpr rfl)];exact h) (r.same (abl n))
theorem ayj {d:PyData} {R:PyData->Prop} (h:R d):FQ (.st d) R:=h
theorem adh {ds:List PyData} {R:PyData->Prop} (h:R (.list ds)):FQ (.own (OL ds)) R:=⟨_,acf,h⟩
section
variable {B:Bs} {G H G' H':Hp} {σ:St} {env:En} {F:Nat->Addr->Prop} {v:V} {s:Sl} {Fv:Addr->Prop}
theorem VI.freeze (I:VI B G H σ env F) (fb:∀ a,Fv a->B.H a=none) (fd:∀ j a,Fv a->¬ F j a) (fg:∀ a,Fv a->G a=none):VI B (jn G H Fv) H σ env F where
 gh:=akg I.gh
 g0:=I.g0.trans (abl fg)
 gn:=fun a o e=>by
  by_cases z:Fv a
  ·exact .inr (fb a z)
  ·rw [akf z] at e;exact I.gn a o e
 rs:=I.rs
 rb:=I.rb
 bh:=I.bh
 fg:=fun i a z=>by
  rw [akf (fun y=>fd i a y z)];exact I.fg i a z
 fr:=I.fr
 fd:=I.fd
 fo:=I.fo
 sl:=fun i s e=>by
  obtain ⟨v,e1,e2⟩:=I.sl i s e
  exact ⟨v,e1,e2.mono (abl fg) fun a o _ q=>q⟩
 ln:=I.ln
 ft:=fun a ks e=>abl fg _ _ (I.ft a ks e)
theorem VI.frz {A:Own} {d:PyData} {i:Nat} (I:VI B G H σ env F) (e:env[i]?=some (some (.own A))) (f:Frz A d) :
  ∃ v,σ[i]?=some (some v)/\Rp (jn G H (F i)) v d/\Same G (jn G H (F i))/\VI B (jn G H (F i)) H σ (env.set i (some (.st d))) (putF F i fun _=>False):=by
 obtain ⟨v,hv,q⟩:=I.sl i _ e
 have hr:=f G H v (F i) q.1 (I.fg i) I.gh
 refine ⟨v,hv,hr,abl (I.fg i),?_⟩
 have D:=(I.drop i).freeze (Fv:=F i) q.2 (fun j a z y=>by
  by_cases h:j=i
  ·subst h;exact (putF_same.mp y).elim
  ·rw [aa6 h] at y;exact h (I.fd j i a y z)) (I.fg i)
 have J:=D.slot (Fv:=fun _=>False) i (some v) (some (.st d)) (fun a z=>z.elim) (fun a z=>z.elim) (fun a z=>z.elim) (fun j a _ z=>z.elim) (fun t et=>by cases et;exact ⟨v,rfl,hr,fun a z=>z⟩)
 have e1 : σ.set i (some v) = σ:=by
  apply List.ext_getElem?
  intro j
  rw [List.getElem?_set]
  by_cases h:i=j
  ·subst h
   rw [if_pos rfl,hv,if_pos (List.getElem?_eq_some_iff.mp hv).1]
  ·rw [if_neg h]
 have e3:putF (putF F i fun _=>False) i (fun _=>False)=putF F i fun _=>False:=by
  funext j a
  by_cases h:j=i
  ·subst h;rw [aez,aez]
  ·rw [aa6 h,aa6 h]
 rw [e1,e3,List.set_set] at J
 exact J
theorem Out.refl {d:PyData} (g:Same G H) (r:Rp G v d):Out G H v G H (.st d) (fun _=>False):=⟨Same.refl _,g,Same.refl _,fun a o e => .inl e,fun a z=>z.elim,fun a z=>z.elim,fun a z=>z.elim,⟨r,fun a z=>z⟩,fun t=>t⟩
theorem aui {p:Addr} {o:HO} (g:Same G H) (h:H p=none):Same (upd G p o) (upd H p o):=fun a u e=>by
 by_cases z:a=p
 ·subst z;rw [aan] at e ⊢;exact e
 ·rw [aag z] at e ⊢;exact g a u e
theorem acl {p:Addr} (g:Same G H) (h:H p=none):G p=none:=by
 cases e:G p with
 | none=>rfl
 | some o=>rw [g p o e] at h;cases h
theorem Out.newT {p:Addr} {xs:List V} {ds:List PyData} (g:Same G H) (h:H p=none) (r:Rps G xs ds):Out G H (.ref p) (upd G p (.tup xs)) (upd H p (.tup xs)) (.st (.tuple ds)) (fun _=>False) where
 gg:=ack (acl g h)
 gh:=aui g h
 hh:=ack h
 gn:=fun a o e=>by
  by_cases z:a=p
  ·subst z;exact .inr h
  ·rw [aag z] at e;exact .inl e
 fn:=fun a z=>z.elim
 fg:=fun a z=>z.elim
 fo:=fun a z=>z.elim
 ok:=⟨.tup aan (r.same (ack (acl g h))),fun a z=>z⟩
 ft:=fun t a ks e=>by
  by_cases z:a=p
  ·subst z;rw [aan] at e ⊢;exact e
  ·rw [aag z] at e ⊢;exact t a ks e
theorem Out.newO {p:Addr} {o:HO} {A:Own} (g:Same G H) (h:H p=none) (nt:∀ xs,o ≠ .tup xs) (r:A.P G (upd H p o) (.ref p) (· = p)):Out G H (.ref p) G (upd H p o) (.own A) (· = p) where
 gg:=Same.refl _
 gh:=g.trans (ack h)
 hh:=ack h
 gn:=fun a o e => .inl e
 fn:=fun a z=>by rw [z];exact h
 fg:=fun a z=>by rw [z];exact acl g h
 fo:=fun a z=>by rw [z];exact ⟨_,aan⟩
 ok:=r
 ft:=fun t a ks e=>by
  by_cases z:a=p
  ·subst z;rw [aan] at e;exact absurd (Option.some.inj e) (nt _)
  ·rw [aag z] at e;exact t a ks e
theorem Out.newL {p:Addr} {xs:List V} {ds:List PyData} (g:Same G H) (h:H p=none) (r:Rps G xs ds):Out G H (.ref p) G (upd H p (.lst xs)) (.own (OL ds)) (· = p) :=
 .newO g h (fun _ z=>nomatch z) ⟨p,xs,rfl,aan,r,fun b=>Iff.rfl⟩
theorem Out.newDT {p:Addr} {xs:List (List Key × V)} {ds:List (List Key × PyData)} (g:Same G H) (h:H p=none) (r:RpT G xs ds):Out G H (.ref p) G (upd H p (.dT xs)) (.own (OT ds)) (· = p) :=
 .newO g h (fun _ z=>nomatch z) ⟨p,xs,rfl,aan,r,fun b=>Iff.rfl⟩
end
def EvO (B:Bs) (te:TE) (env:En) (Q':Sl->En->Prop):Prop:=∀ (σ:St) (G H:Hp) (F:Nat->Addr->Prop) (Q:VK),VI B G H σ env F ->
 (∀ v G' H' F' Fv s env',VI B G' H' σ env' F'->Same G G'->RsX B G' H' v Fv s F'->Q' s env'->Q v H')->te σ H Q
def Ev (B:Bs) (te:TE) (env:En) (Q':PyData->En->Prop):Prop:=∀ (σ:St) (G H:Hp) (F:Nat->Addr->Prop) (Q:VK),VI B G H σ env F ->
 (∀ v G' H' F' d env',VI B G' H' σ env' F'->Same G G'->Rp G' v d->Q' d env'->Q v H')->te σ H Q
def EvT (B:Bs) (tt:TT) (env:En) (Q':Bool->En->Prop):Prop:=∀ (σ:St) (G H:Hp) (F:Nat->Addr->Prop) (Q:Bool->Hp->Prop),VI B G H σ env F ->
 (∀ b G' H' F' env',VI B G' H' σ env' F'->Same G G'->Q' b env'->Q b H')->tt σ H Q
def EvA (B:Bs) (ta:TA) (env:En) (Q':List PyData->En->Prop):Prop:=∀ (σ:St) (G H:Hp) (F:Nat->Addr->Prop) (Q:List V->Hp->Prop),VI B G H σ env F ->
 (∀ vs G' H' F' ds env',VI B G' H' σ env' F'->Same G G'->Rps G' vs ds->Q' ds env'->Q vs H')->ta σ H Q
structure ItOk (G:Hp) (J:It) (ds:List PyData):Prop where
 go:∀ i G' H',Same G G'->Same G' H'->i < ds.length->J.go i H'
 stop:∀ i G' H',Same G G'->Same G' H'->i=ds.length->J.stop i H'
 yld:∀ i G' H' x H'' d,Same G G'->Same G' H'->FT G' H'->ds[i]?=some d->J.yld i H' x H''->∃ G'',Out G' H' x G'' H'' (.st d) (fun _=>False)
def EvI (B:Bs) (ti:TI) (env:En) (Q':List PyData->En->Prop):Prop:=∀ (σ:St) (G H:Hp) (F:Nat->Addr->Prop) (R:It->Hp->Prop),VI B G H σ env F ->
 (∀ J G' H' F' ds env',VI B G' H' σ env' F'->Same G G'->ItOk G' J ds->Q' ds env'->R J H')->ti σ H R
def EvG (B:Bs) (g:TG) (s:Sl) (env:En) (Q':En->Prop):Prop:=∀ (σ:St) (G H:Hp) (F:Nat->Addr->Prop) (v:V) (Fv:Addr->Prop) (Q:St->Hp->Prop),VI B G H σ env F->RsX B G H v Fv s F ->
 (∀ σ' G' H' F' env',VI B G' H' σ' env' F'->Same G G'->Q' env'->Q σ' H')->g v σ H Q
def EvGs (B:Bs) (g:TGs) (ds:List PyData) (env:En) (Q':En->Prop):Prop:=∀ (σ:St) (G H:Hp) (F:Nat->Addr->Prop) (vs:List V) (Q:St->Hp->Prop),VI B G H σ env F->Rps G vs ds ->
 (∀ σ' G' H' F' env',VI B G' H' σ' env' F'->Same G G'->Q' env'->Q σ' H')->g vs σ H Q
structure VEnds where
 nx:En->Prop
 rt:Sl->En->Prop
 bk:En->Prop:=fun _=>False
 ct:En->Prop:=fun _=>False
structure RelE (B:Bs) (G:Hp) (D:Ends) (D':VEnds):Prop where
 nx:∀ σ G' H F env,VI B G' H σ env F->Same G G'->D'.nx env->D.nx σ H
 rt:∀ σ G' H F env v Fv s,VI B G' H σ env F->Same G G'->RsX B G' H v Fv s F->D'.rt s env->D.rt v H
 bk:∀ σ G' H F env,VI B G' H σ env F->Same G G'->D'.bk env->D.bk σ H
 ct:∀ σ G' H F env,VI B G' H σ env F->Same G G'->D'.ct env->D.ct σ H
def EvS (B:Bs) (ts:TS) (D':VEnds) (env:En):Prop:=∀ (σ:St) (G H:Hp) (F:Nat->Addr->Prop) (D:Ends),VI B G H σ env F->RelE B G D D'->ts D σ H
theorem RelE.later {B:Bs} {G G':Hp} {D:Ends} {D':VEnds} (r:RelE B G D D') (g:Same G G'):RelE B G' D D' :=
 ⟨fun σ G2 H F env I q=>r.nx σ G2 H F env I (g.trans q),fun σ G2 H F env v Fv s I q=>r.rt σ G2 H F env v Fv s I (g.trans q),fun σ G2 H F env I q=>r.bk σ G2 H F env I (g.trans q),fun σ G2 H F env I q=>r.ct σ G2 H F env I (g.trans q)⟩
section
variable {B:Bs} {env:En} {Q':PyData->En->Prop} {QO:Sl->En->Prop} {QT:Bool->En->Prop} {QA:List PyData->En->Prop} {te ta tb:TE}
theorem aeh {G H:Hp} {v:V} {d:PyData} {F:Nat->Addr->Prop} (r:Rp G v d):RsX B G H v (fun _=>False) (.st d) F:=⟨⟨r,fun a z=>z⟩,fun a z=>z.elim,fun a z=>z.elim,fun a z=>z.elim,fun j a z=>z.elim⟩
theorem abh (h:Ev B te env fun d e=>QO (.st d) e):EvO B te env QO:=fun σ G H F Q I k =>
 h σ G H F Q I fun v G' H' F' d env' I' g r q=>k v G' H' F' _ (.st d) env' I' g (aeh r) q
theorem acg (h:EvO B te env fun s e=>FQ s fun d=>Q' d e):Ev B te env Q':=fun σ G H F Q I k =>
 h σ G H F Q I fun v G' H' F' Fv s env' I' g r q=>by
  cases s with
  | st d=>exact k v G' H' F' d env' I' g r.ok.1 q
  | own A =>
   obtain ⟨d,f,q⟩:=q
   exact k v _ H' F' d env' (I'.freeze r.fb r.fd r.fg) (g.trans (abl r.fg)) (f G' H' v Fv r.ok r.fg I'.gh) q
  | io A=>exact q.elim
  | scr ns=>exact q.elim
theorem awx {i:Nat} {d:PyData} (e:env[i]?=some (some (.st d))) (q:Q' d env):Ev B (tVar i) env Q':=fun σ G H F Q I k=>by
 obtain ⟨v,hv,r⟩:=I.sl i _ e
 exact ⟨v,hv,k v G H F d env I (Same.refl _) r.1 q⟩
theorem auj {i:Nat} {A:Own} {d:PyData} (e:env[i]?=some (some (.own A))) (f:Frz A d) (q:Q' d (env.set i (some (.st d)))):Ev B (tVar i) env Q':=fun σ G H F Q I k=>by
 obtain ⟨v,hv,r,g,J⟩:=I.frz e f
 exact ⟨v,hv,k v _ H _ d _ J g r q⟩
theorem arz {i:Nat} {A:Own} (e:env[i]?=some (some (.own A))) (q:QO (.own A) (env.set i none)):EvO B (tVar i) env QO:=fun σ G H F Q I k=>by
 obtain ⟨v,hv,r⟩:=I.sl i _ e
 refine ⟨v,hv,k v G H _ (F i) (.own A) _ (I.drop i) (Same.refl _) ⟨r.1,r.2,I.fg i,I.fo i,fun j a z y=>?_⟩ q⟩
 by_cases h:j=i
 ·subst h;exact putF_same.mp y
 ·rw [aa6 h] at y;exact h (I.fd j i a y z)
theorem awy {i:Int} (q:Q' (.int i) env):Ev B (tC (.int i)) env Q':=fun σ G H F Q I k=>k _ G H F _ env I (Same.refl _) (.int i) q
theorem ayk {b:Bool} (q:Q' (.bool b) env):Ev B (tC (.bl b)) env Q':=fun σ G H F Q I k=>k _ G H F _ env I (Same.refl _) (.bl b) q
theorem awz (q:Q' .none env):Ev B (tC .non) env Q':=fun σ G H F Q I k=>k _ G H F _ env I (Same.refl _) .non q
def Op2 (r:R2) (x y:PyData) (R:Sl->Prop):Prop:=∀ (G H:Hp) (vx vy:V) (Q:VK),Same G H->Rp G vx x->Rp G vy y->(∀ v G' H' s Fv,Out G H v G' H' s Fv->R s->Q v H')->r vx vy H Q
def Op1 (r:V->Hp->VK->Prop) (x:PyData) (R:Sl->Prop):Prop:=∀ (G H:Hp) (vx:V) (Q:VK),Same G H->Rp G vx x->(∀ v G' H' s Fv,Out G H v G' H' s Fv->R s->Q v H')->r vx H Q
def OpA (r:List V->Hp->VK->Prop) (ds:List PyData) (R:Sl->Prop):Prop:=∀ (G H:Hp) (vs:List V) (Q:VK),Same G H->Rps G vs ds->(∀ v G' H' s Fv,Out G H v G' H' s Fv->R s->Q v H')->r vs H Q
theorem alk {r:R2} (h:Ev B ta env fun x e1=>Ev B tb e1 fun y e2=>Op2 r x y fun s=>QO s e2):EvO B (tOp r ta tb) env QO:=fun σ G H F Q I k =>
 h σ G H F _ I fun v1 G1 H1 F1 x e1 I1 g1 r1 q1=>q1 σ G1 H1 F1 _ I1 fun v2 G2 H2 F2 y e2 I2 g2 r2 q2 =>
  q2 G2 H2 v1 v2 Q I2.gh (r1.same g2) r2 fun v G3 H3 s Fv o q3=>k v G3 H3 F2 Fv s e2 (I2.out o).1 (g1.trans (g2.trans o.gg)) (I2.out o).2 q3
theorem ayl {r:R2} (h:Ev B ta env fun x e1=>Ev B tb e1 fun y e2=>Op2 r x y fun s=>FQ s fun d=>Q' d e2):Ev B (tOp r ta tb) env Q':=acg (alk h)
theorem aw0 {r:V->Hp->VK->Prop} (h:Ev B ta env fun x e1=>Op1 r x fun s=>QO s e1):EvO B (tUn r ta) env QO:=fun σ G H F Q I k =>
 h σ G H F _ I fun v1 G1 H1 F1 x e1 I1 g1 r1 q1=>q1 G1 H1 v1 Q I1.gh r1 fun v G3 H3 s Fv o q3=>k v G3 H3 F1 Fv s e1 (I1.out o).1 (g1.trans o.gg) (I1.out o).2 q3
theorem aym {r:V->Hp->VK->Prop} (h:Ev B ta env fun x e1=>Op1 r x fun s=>FQ s fun d=>Q' d e1):Ev B (tUn r ta) env Q':=acg (aw0 h)
theorem anf (q:QA [] env):EvA B tNil env QA:=fun σ G H F Q I k=>k [] G H F [] env I (Same.refl _) .nil q
theorem ar0 {tr:TA} (h:Ev B ta env fun x e1=>EvA B tr e1 fun xs e2=>QA (x :: xs) e2):EvA B (aco ta tr) env QA:=fun σ G H F Q I k =>
 h σ G H F _ I fun v1 G1 H1 F1 x e1 I1 g1 r1 q1=>q1 σ G1 H1 F1 _ I1 fun vs G2 H2 F2 ds e2 I2 g2 r2 q2=>k _ G2 H2 F2 _ e2 I2 (g1.trans g2) (.cons (r1.same g2) r2) q2
theorem aw1 {r:List V->Hp->VK->Prop} {t:TA} (h:EvA B t env fun ds e1=>OpA r ds fun s=>QO s e1):EvO B (tCB r t) env QO:=fun σ G H F Q I k =>
 h σ G H F _ I fun vs G1 H1 F1 ds e1 I1 g1 r1 q1=>q1 G1 H1 vs Q I1.gh r1 fun v G3 H3 s Fv o q3=>k v G3 H3 F1 Fv s e1 (I1.out o).1 (g1.trans o.gg) (I1.out o).2 q3
theorem ayn {r:List V->Hp->VK->Prop} {t:TA} (h:EvA B t env fun ds e1=>OpA r ds fun s=>FQ s fun d=>Q' d e1):Ev B (tCB r t) env Q':=acg (aw1 h)
theorem ang {t:TA} (h:EvA B t env fun ds e1=>ds.length<=1000/\QO (.st (.tuple ds)) e1):EvO B (tTup t) env QO:=fun σ G H F Q I k =>
 h σ G H F _ I fun vs G1 H1 F1 ds e1 I1 g1 r1 q1=>⟨by rw [r1.length];exact Nat.le_of_lt (ael q1.1),fun p hp=>by
  have o:=Out.newT I1.gh hp r1
  exact k _ _ _ F1 _ _ e1 (I1.out o).1 (g1.trans o.gg) (I1.out o).2 q1.2⟩
theorem aw2 {t:TA} (h:EvA B t env fun ds e1=>ds.length<=1000/\Q' (.tuple ds) e1):Ev B (tTup t) env Q':=acg (ang h)
theorem anh {t:TA} (h:EvA B t env fun ds e1=>ds.length<=1000/\QO (.own (OL ds)) e1):EvO B (tLst t) env QO:=fun σ G H F Q I k =>
 h σ G H F _ I fun vs G1 H1 F1 ds e1 I1 g1 r1 q1=>⟨by rw [r1.length];exact Nat.le_of_lt (ael q1.1),fun p hp=>by
  have o:=Out.newL I1.gh hp r1
  exact k _ _ _ F1 _ _ e1 (I1.out o).1 (g1.trans o.gg) (I1.out o).2 q1.2⟩
theorem aw3 {t:TA} (h:EvA B t env fun ds e1=>ds.length<=1000/\Q' (.list ds) e1):Ev B (tLst t) env Q':=acg (anh fun σ G H F Q I k=>h σ G H F Q I fun vs G' H' F' ds e1 I' g r q=>k vs G' H' F' ds e1 I' g r ⟨q.1,adh q.2⟩)
theorem ae9 (h:Ev B te env fun x e1=>∃ b,x=.bool b/\QT b e1):EvT B (atn te) env QT:=fun σ G H F Q I k =>
 h σ G H F _ I fun v G1 H1 F1 x e1 I1 g1 r1 z_=>by
  obtain ⟨b,e,q⟩:=z_
  subst e
  cases r1
  exact ⟨b,rfl,k b G1 H1 F1 e1 I1 g1 q⟩
theorem ayo (h:Ev B te env fun x e1=>∃ b,x=.bool b/\QT b e1):EvT B (tB te) env QT:=ae9 h
theorem x_bl {b:Bool} {R:Bool->Prop} (h:R b):∃ c,PyData.bool b=.bool c/\R c:=⟨b,rfl,h⟩
theorem auk {t u:TT} (h:EvT B t env fun c e1=>if c=true then EvT B u e1 QT else QT false e1):EvT B (tAnd t u) env QT:=fun σ G H F Q I k =>
 h σ G H F _ I fun b G1 H1 F1 e1 I1 g1 q=>by
  cases b with
  | true=>rw [if_pos rfl] at q ⊢;exact q σ G1 H1 F1 Q I1 fun c G2 H2 F2 e2 I2 g2 q2=>k c G2 H2 F2 e2 I2 (g1.trans g2) q2
  | false=>rw [if_neg Bool.false_ne_true] at q ⊢;exact k false G1 H1 F1 e1 I1 g1 q
theorem aw4 {t u:TT} (h:EvT B t env fun c e1=>if c=true then QT true e1 else EvT B u e1 QT):EvT B (tOr t u) env QT:=fun σ G H F Q I k =>
 h σ G H F _ I fun b G1 H1 F1 e1 I1 g1 q=>by
  cases b with
  | false=>rw [if_neg Bool.false_ne_true] at q ⊢;exact q σ G1 H1 F1 Q I1 fun c G2 H2 F2 e2 I2 g2 q2=>k c G2 H2 F2 e2 I2 (g1.trans g2) q2
  | true=>rw [if_pos rfl] at q ⊢;exact k true G1 H1 F1 e1 I1 g1 q
theorem ani {t:TT} (h:EvT B t env fun c e1=>QT (!c) e1):EvT B (tNot t) env QT:=fun σ G H F Q I k =>
 h σ G H F _ I fun b G1 H1 F1 e1 I1 g1 q=>k (!b) G1 H1 F1 e1 I1 g1 q
theorem acs (q:QT true env):EvT B tYes env QT:=fun σ G H F Q I k=>k true G H F env I (Same.refl _) q
noncomputable def TruD:PyData->Bool->Prop
 | .bool b,k=>k=b
 | .list ds,k=>k = !ds.isEmpty
 | _,_=>False
theorem aul {K:Frag} (h:Ev B te env fun x e1=>∃ b,TruD x b/\QT b e1):EvT B (tTru K te) env QT:=fun σ G H F Q I k =>
 h σ G H F _ I fun v G1 H1 F1 x e1 I1 g1 r1 z_=>by
  obtain ⟨b,e,q⟩:=z_
  cases r1 with
  | bl c=>cases e;exact ⟨_,rfl,k _ G1 H1 F1 e1 I1 g1 q⟩
  | lst ha rs =>
   refine ⟨b,.inl ⟨_,SqL.of (I1.gh _ _ ha),?_⟩,k _ G1 H1 F1 e1 I1 g1 q⟩
   have e':b = !_:=e
   rw [e']
   cases rs <;> rfl
  | _=>exact e.elim
theorem aum (h:Ev B ta env fun x e1=>∃ b,x=.bool b/\if b=true then Ev B tb e1 Q' else Q' (.bool false) e1):Ev B (an3 ta tb) env Q':=fun σ G H F Q I k =>
 h σ G H F _ I fun v G1 H1 F1 x e1 I1 g1 r1 z_=>by
  obtain ⟨b,e,q⟩:=z_
  subst e
  cases r1
  refine ⟨b,rfl,?_⟩
  cases b with
  | true=>rw [if_pos rfl] at q ⊢;exact q σ G1 H1 F1 Q I1 fun v G2 H2 F2 d e2 I2 g2 r2 q2=>k v G2 H2 F2 d e2 I2 (g1.trans g2) r2 q2
  | false=>rw [if_neg Bool.false_ne_true] at q ⊢;exact k _ G1 H1 F1 _ e1 I1 g1 (.bl false) q
theorem aun (h:Ev B ta env fun x e1=>∃ b,x=.bool b/\Q' (.bool (!b)) e1):Ev B (an4 ta) env Q':=fun σ G H F Q I k =>
 h σ G H F _ I fun v G1 H1 F1 x e1 I1 g1 r1 z_=>by
  obtain ⟨b,e,q⟩:=z_
  subst e
  cases r1
  exact ⟨b,rfl,k _ G1 H1 F1 _ e1 I1 g1 (.bl _) q⟩
theorem ar1 {r r':R2} {tc:TE} (h:Ev B ta env fun x e1=>Ev B tb e1 fun y e2=>Op2 r x y fun s=>∃ b,s=.st (.bool b)/\if b=true then Ev B tc e2 fun z e3=>Op2 r' y z fun s'=>FQ s' fun d=>Q' d e3 else Q' (.bool false) e2):Ev B (akn r r' ta tb tc) env Q':=fun σ G H F Q I k =>
 h σ G H F _ I fun v1 G1 H1 F1 x e1 I1 g1 r1 q1=>q1 σ G1 H1 F1 _ I1 fun v2 G2 H2 F2 y e2 I2 g2 r2 q2 =>
  q2 G2 H2 v1 v2 _ I2.gh (r1.same g2) r2 fun v G3 H3 s Fv o z_=>by
   obtain ⟨b,es,q3⟩:=z_
   have I3:=(I2.out o).1
   have rv:=o.ok
   subst es
   obtain ⟨rv,_⟩:=rv
   cases rv
   refine ⟨b,rfl,?_⟩
   cases b with
   | false=>rw [if_neg Bool.false_ne_true] at q3 ⊢;exact k _ G3 H3 F2 _ e2 I3 (g1.trans (g2.trans o.gg)) (.bl _) q3
   | true =>
    rw [if_pos rfl] at q3 ⊢
    refine q3 σ G3 H3 F2 _ I3 fun v3 G4 H4 F4 z e4 I4 g4 r4 q4=>q4 G4 H4 v2 v3 Q I4.gh (r2.same (o.gg.trans g4)) r4 fun v5 G5 H5 s5 Fv5 o5 q5=>?_
    have J:=I4.out o5
    have gg:=g1.trans (g2.trans (o.gg.trans (g4.trans o5.gg)))
    cases s5 with
    | st d=>exact k v5 G5 H5 F4 d e4 J.1 gg o5.ok.1 q5
    | own A =>
     obtain ⟨d,f,q⟩:=q5
     exact k v5 _ H5 F4 d e4 (J.1.freeze J.2.fb J.2.fd J.2.fg) (gg.trans (abl J.2.fg)) (f G5 H5 v5 Fv5 J.2.ok J.2.fg J.1.gh) q
    | io A=>exact q5.elim
    | scr ns=>exact q5.elim
end
section
variable {B:Bs} {env:En} {D':VEnds} {t u tb:TS} {te:TE} {g:TG} {c:TT} {QE:En->Prop}
theorem anj (h:EvS B t { D' with nx:=fun e=>EvS B u D' e } env):EvS B (tSeq t u) D' env:=fun σ G H F D I r =>
 h σ G H F { D with nx:=u D } I ⟨fun σ G' H F env I' g q=>q σ G' H F D I' (r.later g),r.rt,r.bk,r.ct⟩
theorem ac0 (h:D'.nx env):EvS B atg D' env:=fun σ G H F D I r=>r.nx σ G H F env I (Same.refl _) h
theorem auo (h:EvO B te env fun s e=>EvG B g s e D'.nx):EvS B (tAsg te g) D' env:=fun σ G H F D I r =>
 h σ G H F _ I fun v G1 H1 F1 Fv s e1 I1 g1 x1 q1=>q1 σ G1 H1 F1 v Fv D.nx I1 x1 fun σ2 G2 H2 F2 e2 I2 g2 q2=>r.nx σ2 G2 H2 F2 e2 I2 (g1.trans g2) q2
theorem aat {i:Nat} {s:Sl} (h:QE (env.set i (some s))):EvG B (aay i) s env QE:=fun σ G H F v Fv Q I x k=>k _ G H _ _ (I.store x i) (Same.refl _) h
theorem agy (h:QE env):EvGs B gNil [] env QE:=fun σ G H F vs Q I x k=>by cases x;exact ⟨rfl,k σ G H F env I (Same.refl _) h⟩
theorem adw {gs:TGs} {d:PyData} {ds:List PyData} (h:EvG B g (.st d) env fun e=>EvGs B gs ds e QE):EvGs B (ado g gs) (d :: ds) env QE:=fun σ G H F vs Q I x k=>by
 cases x with
 | cons r rs =>
  refine ⟨_,_,rfl,h σ G H F _ _ _ I (aeh r) fun σ1 G1 H1 F1 e1 I1 g1 q1=>q1 σ1 G1 H1 F1 _ Q I1 (rs.same g1) fun σ2 G2 H2 F2 e2 I2 g2 q2=>k σ2 G2 H2 F2 e2 I2 (g1.trans g2) q2⟩
theorem ank {K:Frag} {n:Nat} {gs:TGs} {ds:List PyData} (hl:ds.length=n) (h:EvGs B gs ds env QE):EvG B (gTup K n gs) (.st (.tuple ds)) env QE:=fun σ G H F v Fv Q I x k=>by
 obtain ⟨r,_⟩:=x.ok
 cases r with
 | tup ha rs=>exact ⟨_,_,rfl,SqT.of (I.gh _ _ ha),by rw [rs.length,hl],h σ G H F _ Q I rs k⟩
theorem anl (h:EvO B te env fun s e=>D'.rt s e):EvS B (tRet te) D' env:=fun σ G H F D I r =>
 h σ G H F _ I fun v G1 H1 F1 Fv s e1 I1 g1 x1 q1=>r.rt σ G1 H1 F1 e1 v Fv s I1 g1 x1 q1
theorem ar2 (h:EvO B te env fun _ e=>D'.nx e):EvS B (ath te) D' env:=fun σ G H F D I r =>
 h σ G H F _ I fun v G1 H1 F1 Fv s e1 I1 g1 x1 q1=>r.nx σ G1 H1 F1 e1 I1 g1 q1
theorem apy (h:EvT B c env fun b e=>if b=true then EvS B t D' e else EvS B u D' e):EvS B (tIfS c t u) D' env:=fun σ G H F D I r =>
 h σ G H F _ I fun b G1 H1 F1 e1 I1 g1 q=>by
  cases b with
  | true=>rw [if_pos rfl] at q ⊢;exact q σ G1 H1 F1 D I1 (r.later g1)
  | false=>rw [if_neg Bool.false_ne_true] at q ⊢;exact q σ G1 H1 F1 D I1 (r.later g1)
def ForV (B:Bs) (g:TG) (tb:TS) (D':VEnds) (ds:List PyData) (e1:En):Prop:=∃ J:Nat->En->Prop,J 0 e1/\(∀ i d e,ds[i]?=some d->J i e->EvG B g (.st d) e fun e2=>EvS B tb { D' with nx:=J (i+1),ct:=J (i+1),bk:=D'.nx } e2)/\∀ e,J ds.length e->D'.nx e
theorem aup {wi:TI} (h:EvI B wi env fun ds e1=>ForV B g tb D' ds e1):EvS B (tFor wi g tb) D' env:=fun σ G H F D I r =>
 h σ G H F _ I fun J G1 H1 F1 ds e1 I1 g1 it z_=>by
  obtain ⟨Jv,j0,js,jd⟩:=z_
  refine ⟨fun i m σ H=>m=ds.length - i/\i<=ds.length/\∃ G2 F2 e2,VI B G2 H σ e2 F2/\Same G1 G2/\Jv i e2,⟨ds.length,by simp,Nat.zero_le _,G1,F1,e1,I1,Same.refl _,j0⟩,?_⟩
  rintro i m σ H ⟨rfl,hi,G2,F2,e2,I2,g2,j2⟩
  by_cases hlt:i < ds.length
  ·refine .inr ⟨it.go i G2 H g2 I2.gh hlt,fun σ H=>∃ G3 F3 e3,VI B G3 H σ e3 F3/\Same G1 G3/\Jv (i+1) e3,fun σ' H' h'=>⟨ds.length - (i+1),by omega,rfl,hlt,h'⟩,fun x H' y=>?_⟩
   obtain ⟨G3,o⟩:=it.yld i G2 H x H' _ g2 I2.gh I2.ft (List.getElem?_eq_getElem hlt) y
   have I3:=I2.out o
   refine js i _ e2 (List.getElem?_eq_getElem hlt) j2 σ G3 H' F2 x _ _ I3.1 I3.2 fun σ4 G4 H4 F4 e4 I4 g4 q4=>?_
   have gg:=g2.trans (o.gg.trans g4)
   refine q4 σ4 G4 H4 F4 _ I4 ⟨fun σ5 G5 H5 F5 e5 I5 g5 q5=>⟨G5,F5,e5,I5,gg.trans g5,q5⟩,fun σ5 G5 H5 F5 e5 v5 Fv5 s5 I5 g5=>r.rt σ5 G5 H5 F5 e5 v5 Fv5 s5 I5 (g1.trans (gg.trans g5)),fun σ5 G5 H5 F5 e5 I5 g5=>r.nx σ5 G5 H5 F5 e5 I5 (g1.trans (gg.trans g5)),fun σ5 G5 H5 F5 e5 I5 g5 q5=>⟨G5,F5,e5,I5,gg.trans g5,q5⟩⟩
  ·have e:i=ds.length:=by omega
   subst e
   exact .inl ⟨it.stop _ G2 H g2 I2.gh rfl,r.nx σ G2 H F2 e2 I2 (g1.trans g2) (jd e2 j2)⟩
theorem ai8 (J:Nat->En->Prop) (h0:∃ m,J m env) (h:∀ m e,J m e->EvT B c e fun b e1=>if b=true then EvS B tb { D' with nx:=fun e2=>∃ m',m' < m/\J m' e2,ct:=fun e2=>∃ m',m' < m/\J m' e2,bk:=D'.nx } e1 else D'.nx e1):EvS B (ao5 c tb) D' env:=fun σ G H F D I r=>by
 obtain ⟨m0,h0⟩:=h0
 refine ⟨fun m σ H=>∃ G2 F2 e2,VI B G2 H σ e2 F2/\Same G G2/\J m e2,⟨m0,G,F,env,I,Same.refl _,h0⟩,?_⟩
 rintro m σ H ⟨G2,F2,e2,I2,g2,j2⟩
 refine h m e2 j2 σ G2 H F2 _ I2 fun b G3 H3 F3 e3 I3 g3 q3=>?_
 have gg:=g2.trans g3
 cases b with
 | false=>rw [if_neg Bool.false_ne_true] at q3 ⊢;exact r.nx σ G3 H3 F3 e3 I3 gg q3
 | true =>
  rw [if_pos rfl] at q3 ⊢
  refine ⟨fun σ H=>∃ G4 F4 e4,VI B G4 H σ e4 F4/\Same G G4/\∃ m',m' < m/\J m' e4,fun σ' H' ⟨G4,F4,e4,I4,g4,m',hm,j4⟩=>⟨m',hm,G4,F4,e4,I4,g4,j4⟩,?_⟩
  exact q3 σ G3 H3 F3 _ I3 ⟨fun σ5 G5 H5 F5 e5 I5 g5 q5=>⟨G5,F5,e5,I5,gg.trans g5,q5⟩,fun σ5 G5 H5 F5 e5 v5 Fv5 s5 I5 g5=>r.rt σ5 G5 H5 F5 e5 v5 Fv5 s5 I5 (gg.trans g5),fun σ5 G5 H5 F5 e5 I5 g5=>r.nx σ5 G5 H5 F5 e5 I5 (gg.trans g5),fun σ5 G5 H5 F5 e5 I5 g5 q5=>⟨G5,F5,e5,I5,gg.trans g5,q5⟩⟩
variable {QI:List PyData->En->Prop}
theorem ar3 {K:Frag} (h:Ev B te env fun d e=>∃ ds,d=.list ds/\QI ds e):EvI B (ag7 K te) env QI:=fun σ G H F R I k =>
 h σ G H F _ I fun v G1 H1 F1 d e1 I1 g1 r1 z_=>by
  obtain ⟨ds,ed,q1⟩:=z_
  subst ed
  cases r1 with
  | @lst a vs ds ha rs =>
   refine ⟨a,rfl,⟨vs,SqL.of (I1.gh _ _ ha)⟩,k _ G1 H1 F1 ds e1 I1 g1 ⟨fun i G' H' g h hi=>?_,fun i G' H' g h hi=>?_,fun i G' H' x H'' d g h ft hd y=>?_⟩ q1⟩
   ·have:i < vs.length:=by rw [rs.length];exact hi
    exact ⟨vs,vs[i],SqL.of (h _ _ (g _ _ ha)),List.getElem?_eq_getElem this⟩
   ·exact ⟨vs,SqL.of (h _ _ (g _ _ ha)),by rw [rs.length];exact Nat.le_of_eq hi.symm⟩
   ·obtain ⟨e,y⟩:=y
    subst e
    obtain ⟨v,hv,rv⟩:=rs.get hd
    have:=y vs (SqL.of (h _ _ (g _ _ ha)))
    rw [hv] at this
    cases this
    exact ⟨G',Out.refl h (rv.same g)⟩
theorem aw5 {ds:List PyData} {R:List PyData->Prop} (h:R ds):∃ xs,PyData.list ds=.list xs/\R xs:=⟨ds,rfl,h⟩
noncomputable def rngD (lo:Int) (n:Nat):List PyData:=(List.range n).map fun (i:Nat) => .int (lo+(i:Int))
theorem abv {lo:Int} {n:Nat}:(rngD lo n).length=n:=by simp [rngD]
theorem adm {lo:Int} {n i:Nat} {d:PyData} (h:(rngD lo n)[i]?=some d):i < n/\d=.int (lo+(i:Int)):=by
 unfold rngD at h
 rw [List.getElem?_map] at h
 have hi:i < n:=by
  have:=(List.getElem?_eq_some_iff (l:=(List.range n).map fun (i:Nat)=>PyData.int (lo+(i:Int)))).mp (by rw [List.getElem?_map];exact h)
  obtain ⟨q,_⟩:=this
  simpa using q
 rw [List.getElem?_eq_getElem (by simpa using hi)] at h
 simp at h
 exact ⟨hi,h.symm⟩
theorem apz {G:Hp} {lo:Int} {n:Nat}:ItOk G (Itr lo n) (rngD lo n):=by
 refine ⟨fun i G' H' g h hi=>?_,fun i G' H' g h hi=>?_,fun i G' H' x H'' d g h ft hd y=>?_⟩
 ·rw [abv] at hi;exact hi
 ·rw [abv] at hi;exact Nat.le_of_eq hi.symm
 ·obtain ⟨e,y⟩:=y
  subst e y
  rw [(adm hd).2]
  exact ⟨G',Out.refl h (.int _)⟩
def akh (ds:List PyData) (R:List PyData->Prop):Prop:=∃ j:Int,ds=[.int j]/\-(2 ^ 62)<=j/\j < 2 ^ 62/\R (rngD 0 j.toNat)
def aki (ds:List PyData) (R:List PyData->Prop):Prop:=∃ i j:Int,ds=[.int i,.int j]/\(-(2 ^ 62)<=i/\i < 2 ^ 62/\-(2 ^ 62)<=j/\j < 2 ^ 62)/\R (rngD i (j - i).toNat)
theorem ar4 {ta:TA} (h:EvA B ta env fun ds e=>akh ds fun xs=>QI xs e):EvI B (ati ta) env QI:=fun σ G H F R I k =>
 h σ G H F _ I fun vs G1 H1 F1 ds e1 I1 g1 r1 z_=>by
  obtain ⟨j,ed,b1,b2,q1⟩:=z_
  subst ed
  obtain rfl:vs=[V.int j]:=Rps.ints_inv (ns:=[j]) r1
  exact ⟨j,rfl,b1,b2,k _ G1 H1 F1 _ e1 I1 g1 apz q1⟩
theorem ar5 {ta:TA} (h:EvA B ta env fun ds e=>aki ds fun xs=>QI xs e):EvI B (atj ta) env QI:=fun σ G H F R I k =>
 h σ G H F _ I fun vs G1 H1 F1 ds e1 I1 g1 r1 z_=>by
  obtain ⟨i,j,ed,b1,q1⟩:=z_
  subst ed
  obtain rfl:vs=[V.int i,V.int j]:=Rps.ints_inv (ns:=[i,j]) r1
  exact ⟨i,j,rfl,b1,k _ G1 H1 F1 _ e1 I1 g1 apz q1⟩
theorem aw6 {j:Int} {R:List PyData->Prop} (h1 : -4611686018427387904<=j) (h2:j < 4611686018427387904) (h:R (rngD 0 j.toNat)):akh [.int j] R:=⟨j,rfl,by omega,by omega,h⟩
theorem aw7 {a b:Int} {R:List PyData->Prop} (h1 : -4611686018427387904<=a/\a < 4611686018427387904/\-4611686018427387904<=b/\b < 4611686018427387904) (h:R (rngD a (b - a).toNat)):aki [.int a,.int b] R:=⟨a,b,rfl,by omega,h⟩
theorem abr {lo:Int} {n:Nat} (J:Nat->En->Prop) (h0:J 0 env) (hs:∀ i e,i < n->J i e->EvG B g (.st (.int (lo+(i:Int)))) e fun e2=>EvS B tb { D' with nx:=J (i+1),ct:=J (i+1),bk:=D'.nx } e2) (hd:∀ e,J n e->D'.nx e):ForV B g tb D' (rngD lo n) env :=
 ⟨J,h0,fun i d e h j=>by obtain ⟨hi,rfl⟩:=adm h;exact hs i e hi j,fun e j=>hd e (by rw [abv] at j;exact j)⟩
theorem agz {α:Type} {f : α->PyData} {xs:List α} (J:Nat->En->Prop) (h0:J 0 env) (hs:∀ i x e,xs[i]?=some x->J i e->EvG B g (.st (f x)) e fun e2=>EvS B tb { D' with nx:=J (i+1),ct:=J (i+1),bk:=D'.nx } e2) (hd:∀ e,J xs.length e->D'.nx e):ForV B g tb D' (xs.map f) env :=
 ⟨J,h0,fun i d e h j=>by
  rw [List.getElem?_map] at h
  cases hx:xs[i]? with
  | none=>rw [hx] at h;cases h
  | some x=>rw [hx] at h;cases h;exact hs i x e hx j,fun e j=>hd e (by rw [List.length_map] at j;exact j)⟩
end
theorem ar6 {B:Bs} {a b:TS} {D':VEnds} {env:En} (h:∀ c:TS,c=b->EvS B a { D' with nx:=fun e=>EvS B c D' e } env):EvS B (tSeq a b) D' env:=anj (h b rfl)
theorem anm {B:Bs} {c b:TS} {D':VEnds} {env:En} (e:c=b) (h:EvS B b D' env):EvS B c D' env:=by rw [e];exact h
@[elab_as_elim] theorem exS1 {α0:Type} {σ:Type} {f : α0->σ} {p : α0->Prop} {motive : σ->Prop} (s : σ) (h:∃ x0,s=f x0/\p x0) (k:∀ x0,p x0->motive (f x0)):motive s:=by
 obtain ⟨x0,e,h⟩:=h
 rw [e];exact k _ h
@[elab_as_elim] theorem exS2 {α0:Type} {α1:Type} {σ:Type} {f : α0->α1->σ} {p : α0->α1->Prop} {motive : σ->Prop} (s : σ) (h:∃ x0 x1,s=f x0 x1/\p x0 x1) (k:∀ x0 x1,p x0 x1->motive (f x0 x1)):motive s:=by
 obtain ⟨x0,x1,e,h⟩:=h
 rw [e];exact k _ _ h
@[elab_as_elim] theorem exE2 {α0:Type} {α1:Type} {σ:Type} {f : α0->α1->σ} {motive : σ->Prop} (s : σ) (h:∃ x0 x1,s=f x0 x1) (k:∀ x0 x1,motive (f x0 x1)):motive s:=by
 obtain ⟨x0,x1,e⟩:=h
 rw [e];exact k _ _
@[elab_as_elim] theorem exS3 {α0:Type} {α1:Type} {α2:Type} {σ:Type} {f : α0->α1->α2->σ} {p : α0->α1->α2->Prop} {motive : σ->Prop} (s : σ) (h:∃ x0 x1 x2,s=f x0 x1 x2/\p x0 x1 x2) (k:∀ x0 x1 x2,p x0 x1 x2->motive (f x0 x1 x2)):motive s:=by
 obtain ⟨x0,x1,x2,e,h⟩:=h
 rw [e];exact k _ _ _ h
@[elab_as_elim] theorem exS4 {α0:Type} {α1:Type} {α2:Type} {α3:Type} {σ:Type} {f : α0->α1->α2->α3->σ} {p : α0->α1->α2->α3->Prop} {motive : σ->Prop} (s : σ) (h:∃ x0 x1 x2 x3,s=f x0 x1 x2 x3/\p x0 x1 x2 x3) (k:∀ x0 x1 x2 x3,p x0 x1 x2 x3->motive (f x0 x1 x2 x3)):motive s:=by
 obtain ⟨x0,x1,x2,x3,e,h⟩:=h
 rw [e];exact k _ _ _ _ h
@[elab_as_elim] theorem exS5 {α0:Type} {α1:Type} {α2:Type} {α3:Type} {α4:Type} {σ:Type} {f : α0->α1->α2->α3->α4->σ} {p : α0->α1->α2->α3->α4->Prop} {motive : σ->Prop} (s : σ) (h:∃ x0 x1 x2 x3 x4,s=f x0 x1 x2 x3 x4/\p x0 x1 x2 x3 x4) (k:∀ x0 x1 x2 x3 x4,p x0 x1 x2 x3 x4->motive (f x0 x1 x2 x3 x4)):motive s:=by
 obtain ⟨x0,x1,x2,x3,x4,e,h⟩:=h
 rw [e];exact k _ _ _ _ _ h
@[elab_as_elim] theorem exS6 {α0:Type} {α1:Type} {α2:Type} {α3:Type} {α4:Type} {α5:Type} {σ:Type} {f : α0->α1->α2->α3->α4->α5->σ} {p : α0->α1->α2->α3->α4->α5->Prop} {motive : σ->Prop} (s : σ) (h:∃ x0 x1 x2 x3 x4 x5,s=f x0 x1 x2 x3 x4 x5/\p x0 x1 x2 x3 x4 x5) (k:∀ x0 x1 x2 x3 x4 x5,p x0 x1 x2 x3 x4 x5->motive (f x0 x1 x2 x3 x4 x5)):motive s:=by
 obtain ⟨x0,x1,x2,x3,x4,x5,e,h⟩:=h
 rw [e];exact k _ _ _ _ _ _ h
@[elab_as_elim] theorem exS7 {α0:Type} {α1:Type} {α2:Type} {α3:Type} {α4:Type} {α5:Type} {α6:Type} {σ:Type} {f : α0->α1->α2->α3->α4->α5->α6->σ} {p : α0->α1->α2->α3->α4->α5->α6->Prop} {motive : σ->Prop} (s : σ) (h:∃ x0 x1 x2 x3 x4 x5 x6,s=f x0 x1 x2 x3 x4 x5 x6/\p x0 x1 x2 x3 x4 x5 x6) (k:∀ x0 x1 x2 x3 x4 x5 x6,p x0 x1 x2 x3 x4 x5 x6->motive (f x0 x1 x2 x3 x4 x5 x6)):motive s:=by
 obtain ⟨x0,x1,x2,x3,x4,x5,x6,e,h⟩:=h
 rw [e];exact k _ _ _ _ _ _ _ h
theorem big {n:Nat} (h:n<=1000000):n < sizeLine:=Nat.lt_of_le_of_lt h (by decide)
section
variable {B B1:Bs} {G H G' H':Hp} {σ σI:St} {env envI:En} {F F':Nat->Addr->Prop} {v:V} {s:Sl} {Fv:Addr->Prop} {inv:Nat->Option Nat}
open Classical in
noncomputable def ad1 (H:Hp) (F:Nat->Addr->Prop) (inv:Nat->Option Nat):Hp:=fun a=>if ∃ i j,inv i=some j/\F i a then none else H a
theorem aom {i j:Nat} {a:Addr} (h:inv i=some j) (f:F i a):ad1 H F inv a=none:=if_pos ⟨i,j,h,f⟩
theorem alm {a:Addr} (h:∀ i j,inv i=some j->¬ F i a):ad1 H F inv a=H a:=if_neg fun ⟨i,j,x,y⟩=>h i j x y
theorem ahn:Same (ad1 H F inv) H:=fun a o e=>by
 unfold ad1 at e
 split at e
 ·cases e
 ·exact e
theorem VI.enter (I:VI B G H σ env F) (inj:∀ i i' j,inv i=some j->inv i'=some j->i=i') (ln : σI.length=envI.length)
  (sl:∀ j s,envI[j]?=some (some s)->∃ v,σI[j]?=some (some v)/\((∃ d,s=.st d/\Rp G v d/\∀ i,inv i ≠ some j)\/(∃ ns a,s=.scr ns/\v=.ref a/\SqL B.K G a (ns.map V.int)/\∀ i,inv i ≠ some j) ∨
   ∃ i A,inv i=some j/\s=.io A/\σ[i]?=some (some v)/\(env[i]?=some (some (.own A))\/env[i]?=some (some (.io A))))) :
  VI ⟨B.K,G,H,ad1 H F inv,σI,fun j a=>∃ i,inv i=some j/\F i a⟩ G H σI envI (fun j a=>∃ i,inv i=some j/\F i a) where
 gh:=I.gh
 g0:=Same.refl _
 gn:=fun a o e => .inl e
 rs:=ahn
 rb:=ahn
 bh:=fun a o e=>⟨o,e⟩
 fg:=fun j a ⟨i,_,z⟩=>I.fg i a z
 fr:=fun j a ⟨i,h,z⟩=>aom h z
 fd:=fun j k a ⟨i,h,z⟩ ⟨i',h',z'⟩=>by
  have:=I.fd i i' a z z'
  subst this
  rw [h] at h';cases h';rfl
 fo:=fun j a ⟨i,h,z⟩=>I.fo i a z
 sl:=fun j s e=>by
  obtain ⟨v,hv,q⟩:=sl j s e
  refine ⟨v,hv,?_⟩
  rcases q with ⟨d,rfl,r,n⟩ | ⟨ns,a,rfl,rfl,q,n⟩ | ⟨i,A,hi,rfl,hs,he⟩
  ·exact ⟨r,fun a ⟨i,h,_⟩=>n i h⟩
  ·exact ⟨⟨a,rfl,q⟩,fun a ⟨i,h,_⟩=>n i h⟩
  ·refine ⟨?_,fun a z => .inl z,hv⟩
   have eF:(fun a=>∃ i',inv i'=some j/\F i' a)=F i:=by
    funext a
    exact propext ⟨fun ⟨i',h,z⟩=>by rw [inj i i' j hi h];exact z,fun z=>⟨i,hi,z⟩⟩
   show A.P G H v (fun a=>∃ i',inv i'=some j/\F i' a)
   rw [eF]
   rcases he with he | he
   ·obtain ⟨v',e1,e2⟩:=I.sl i _ he
    rw [hs] at e1;cases e1;exact e2.1
   ·obtain ⟨v',e1,e2⟩:=I.sl i _ he
    rw [hs] at e1;cases e1;exact e2.1
 ln:=ln
 ft:=I.ft
theorem VI.leave (I:VI B G H σ env F) (inj:∀ i i' j,inv i=some j->inv i'=some j->i=i') (bG:B1.G=G) (bH:B1.H=H) (bR:∀ a o,H a=some o->(∀ i j,inv i=some j->¬ F i a)->B1.R a=some o)
  (bF:∀ i j,inv i=some j->∀ a,B1.F j a->F i a) (bS:∀ i j,inv i=some j->B1.S[j]? = σ[i]?) (J:VI B1 G' H' σI envI F') (io:∀ i j,inv i=some j->∃ A',envI[j]?=some (some (.io A'))) {env2:En} (he:env2.length=env.length)
  (h2:∀ i s,env2[i]?=some (some s)->(inv i=none/\env[i]?=some (some s))\/∃ j A A',inv i=some j/\envI[j]?=some (some (.io A'))/\((env[i]?=some (some (.own A))/\s=.own A')\/(env[i]?=some (some (.io A))/\s=.io A'))) :
  VI B G' H' σ env2 (fun i a=>match inv i with | some j=>F' j a | none=>F i a):=by
 have gn1:∀ a o,G' a=some o->G a=some o\/H a=none:=fun a o e=>by
  have:=J.gn a o e
  rw [bG,bH] at this;exact this
 have fi:∀ i j a,inv i=some j->F' j a->F i a\/H a=none:=fun i j a hi z=>by
  obtain ⟨A',e⟩:=io i j hi
  obtain ⟨v,_,q⟩:=J.sl j _ e
  rcases q.2.1 a z with y | y
  ·exact .inl (bF i j hi a y)
  ·rw [bH] at y;exact .inr y
 have kp:∀ a o,H a=some o->(∀ i j,inv i=some j->¬ F i a)->H' a=some o:=fun a o e n=>J.rs a o (bR a o e n)
 refine ⟨J.gh,I.g0.trans (bG ▸ J.g0),fun a o e=>?_,fun a o e=>?_,I.rb,fun a o e=>?_,fun i a z=>?_,fun i a z=>?_,fun i k a y z=>?_,fun i a z=>?_,fun i t e=>?_,by rw [he];exact I.ln,J.ft⟩
 ·rcases gn1 a o e with e | e
  ·exact I.gn a o e
  ·exact .inr (I.no_b e)
 ·refine kp a o (I.rs a o e) fun i j _ z=>?_
  rw [I.fr i a z] at e;cases e
 ·obtain ⟨o1,e1⟩:=I.bh a o e
  exact J.bh a o1 (by rw [bH];exact e1)
 ·cases hi:inv i with
  | some j=>rw [hi] at z;exact J.fg j a z
  | none =>
   rw [hi] at z
   cases e:G' a with
   | none=>rfl
   | some o =>
    rcases gn1 a o e with e | e
    ·rw [I.fg i a z] at e;cases e
    ·exact absurd z (I.no_f e i)
 ·cases hi:inv i with
  | some j =>
   rw [hi] at z
   rcases fi i j a hi z with y | y
   ·exact I.fr i a y
   ·exact I.no_r y
  | none=>rw [hi] at z;exact I.fr i a z
 ·cases hi:inv i with
  | some j =>
   rw [hi] at y
   cases hk:inv k with
   | some l =>
    rw [hk] at z
    have:=J.fd j l a y z
    subst this
    exact inj i k j hi hk
   | none =>
    rw [hk] at z
    rcases fi i j a hi y with x | x
    ·exact I.fd i k a x z
    ·exact absurd z (I.no_f x k)
  | none =>
   rw [hi] at y
   cases hk:inv k with
   | some l =>
    rw [hk] at z
    rcases fi k l a hk z with x | x
    ·exact I.fd i k a y x
    ·exact absurd y (I.no_f x i)
   | none=>rw [hk] at z;exact I.fd i k a y z
 ·cases hi:inv i with
  | some j=>rw [hi] at z;exact J.fo j a z
  | none =>
   rw [hi] at z
   obtain ⟨o,e⟩:=I.fo i a z
   exact J.bh a o (by rw [bH];exact e)
 ·rcases h2 i t e with ⟨hi,e1⟩ | ⟨j,A,A',hi,e1,e2⟩
  ·obtain ⟨v,hv,q⟩:=I.sl i t e1
   refine ⟨v,hv,?_⟩
   simp only [hi]
   refine q.mono (bG ▸ J.g0) fun a o z y=>kp a o y fun i' j' hi' z'=>?_
   have:=I.fd i i' a z z'
   subst this
   rw [hi] at hi';cases hi'
  ·obtain ⟨v,hv,q⟩:=J.sl j _ e1
   have hS : σ[i]?=some (some v):=by rw [← bS i j hi];exact q.2.2
   refine ⟨v,hS,?_⟩
   simp only [hi]
   rcases e2 with ⟨e2,rfl⟩ | ⟨e2,rfl⟩
   ·obtain ⟨v',_,q'⟩:=I.sl i _ e2
    refine ⟨q.1,fun a z=>?_⟩
    rcases fi i j a hi z with y | y
    ·exact q'.2 a y
    ·exact I.no_b y
   ·obtain ⟨v',hv',q'⟩:=I.sl i _ e2
    rw [hS] at hv';cases hv'
    refine ⟨q.1,fun a z=>?_,q'.2.2⟩
    rcases fi i j a hi z with y | y
    ·exact q'.2.1 a y
    ·exact .inr (I.no_b y)
end
noncomputable abbrev VP:=List Sl->(Sl->Prop)->Prop
def noF:Nat->Addr->Prop:=fun _ _=>False
noncomputable def bsP (K:Frag) (G H:Hp) (vs:List V):Bs:=⟨K,G,H,H,vs.map some,noF⟩
noncomputable def att (K:Frag) (G:Hp):V->Sl->Prop
 | v,.st d=>Rp G v d
 | v,.scr ns=>∃ a,v=.ref a/\SqL K G a (ns.map V.int)
 | _,_=>False
inductive ArgsOk (K:Frag) (G:Hp):List V->List Sl->Prop
 | nil:ArgsOk K G [] []
 | cons {v:V} {s:Sl} {vs:List V} {ss:List Sl}:att K G v s->ArgsOk K G vs ss->ArgsOk K G (v :: vs) (s :: ss)
theorem ArgsOk.length {K:Frag} {G:Hp}:∀ {vs:List V} {ss:List Sl},ArgsOk K G vs ss->vs.length=ss.length
 | _,_,.nil=>rfl
 | _,_,.cons _ t=>by simp [ArgsOk.length t]
theorem ArgsOk.get {K:Frag} {G:Hp}:∀ {vs:List V} {ss:List Sl} {i:Nat} {s:Sl},ArgsOk K G vs ss->ss[i]?=some s->∃ v,vs[i]?=some v/\att K G v s
 | _,_,_,_,.nil,e=>by simp at e
 | _,_,0,_,.cons r _,e=>by simp at e;subst e;exact ⟨_,rfl,r⟩
 | _,_,i+1,s,.cons _ t,e=>by
  obtain ⟨u,h1,h2⟩:=ArgsOk.get (i:=i) (s:=s) t (by simpa using e)
  exact ⟨u,by simpa using h1,h2⟩
theorem ArgsOk.of {K:Frag} {G:Hp}:∀ {vs:List V} {ds:List PyData},Rps G vs ds->ArgsOk K G vs (ds.map Sl.st)
 | _,_,.nil => .nil
 | _,_,.cons r t => .cons r (ArgsOk.of t)
theorem auq {α:Type} {xs:List α} {n i:Nat} {s : α} (e:(xs.map some ++ List.replicate n none)[i]?=some (some s)):xs[i]?=some s:=by
 by_cases h:i < xs.length
 ·rw [List.getElem?_append_left (by simpa using h),List.getElem?_map] at e
  rw [List.getElem?_eq_getElem h] at e ⊢
  simpa using e
 ·rw [List.getElem?_append_right (by simpa using h),List.getElem?_replicate] at e
  split at e <;> cases e
theorem aur {α:Type} {xs:List α} {n i:Nat} {s : α} (e:xs[i]?=some s):(xs.map some ++ List.replicate n none)[i]?=some (some s):=by
 have h:i < xs.length:=(List.getElem?_eq_some_iff.mp e).1
 rw [List.getElem?_append_left (by simpa using h),List.getElem?_map,e];rfl
def spP (K:Frag) (f:VP):Sp:=fun vs H Q _=>∃ G ss Q',Same G H/\FT G H/\ArgsOk K G vs ss/\f ss Q'/\∀ s,Q' s->∀ v G' H' Fv,Out G H v G' H' s Fv->Q v H'
theorem aa4 {K:Frag} {f:VP} {ts:TS} {N:List Str} {vs:List V} {H:Hp} {Q:VK} {E:XK} (h:spP K f vs H Q E)
  (hb:∀ ss Q',f ss Q'->∀ B,B.K=K->EvS B ts { nx:=fun _=>Q' (.st .none),rt:=fun s _=>Q' s } (ss.map some ++ List.replicate (N.length - ss.length) none)):ts { nx:=fun _ H'=>Q .non H',rt:=Q } (L2.start N vs) H:=by
 obtain ⟨G,ss,Q',gh,ft,ao,hf,hQ⟩:=h
 have fin:∀ {σ G' H' F env v Fv s},VI (bsP K G H vs) G' H' σ env F->RsX (bsP K G H vs) G' H' v Fv s F->Out G H v G' H' s Fv:=fun I r =>
  ⟨I.g0,I.gh,I.rs,I.gn,r.fb,r.fg,r.fo,r.ok,fun _=>I.ft⟩
 refine hb ss _ hf (bsP K G H vs) rfl (L2.start N vs) G H noF _ ?_ ⟨fun σ G' H' F env I g q=>hQ _ q _ _ _ _ (fin I (aeh .non)),fun σ G' H' F env v Fv s I g r q=>hQ _ q v G' H' Fv (fin I r),fun _ _ _ _ _ _ _ q=>q,fun _ _ _ _ _ _ _ q=>q⟩
 refine ⟨gh,Same.refl _,fun a o e => .inl e,Same.refl _,Same.refl _,fun a o e=>⟨o,e⟩,fun i a z=>z.elim,fun i a z=>z.elim,fun i j a z=>z.elim,fun i a z=>z.elim,fun i s e=>?_,?_,ft⟩
 ·obtain ⟨v,hv,q⟩:=ao.get (auq e)
  refine ⟨v,by unfold L2.start;exact aur hv,?_⟩
  cases s with
  | st d=>exact ⟨q,fun a z=>z⟩
  | scr ns=>exact ⟨q,fun a z=>z⟩
  | own A=>exact q.elim
  | io A=>exact q.elim
 ·unfold L2.start;simp [ao.length]
section
variable {B:Bs} {env:En} {Q':PyData->En->Prop} {QO:Sl->En->Prop} {K:Frag} {E:XK}
theorem ai9 {f:VP} {t:TA} (h:EvA B t env fun ds e1=>f (ds.map Sl.st) fun s=>QO s e1):EvO B (adz (spP K f) [] E t) env QO:=fun σ G H F Q I k=>by
 unfold adz
 simp only [List.append_nil]
 exact h σ G H F _ I fun vs G1 H1 F1 ds e1 I1 g1 r1 q1=>⟨G1,_,_,I1.gh,I1.ft,ArgsOk.of r1,q1,fun s q v G' H' Fv o=>k v G' H' F1 Fv s e1 (I1.out o).1 (g1.trans o.gg) (I1.out o).2 q⟩
theorem ar7 {f:VP} {t:TA} (h:EvA B t env fun ds e1=>f (ds.map Sl.st) fun s=>FQ s fun d=>Q' d e1):Ev B (adz (spP K f) [] E t) env Q':=acg (ai9 h)
theorem ap0 {f:VP} {t:TA} {i:Nat} {ns:List Int} (e:env[i]?=some (some (.scr ns))) (hK:B.K=K) (h:EvA B t env fun ds e1=>f (.scr ns :: ds.map Sl.st) fun s=>QO s e1):EvO B (adz (spP K f) [] E (aco (tVar i) t)) env QO:=fun σ G H F Q I k=>by
 subst hK
 unfold adz
 simp only [List.append_nil]
 obtain ⟨v0,hv,⟨a,ea,sq⟩,_⟩:=I.sl i _ e
 refine ⟨v0,hv,h σ G H F _ I fun vs G1 H1 F1 ds e1 I1 g1 r1 q1=>⟨G1,_,_,I1.gh,I1.ft,.cons (s:=.scr ns) ⟨a,ea,g1.seq sq⟩ (ArgsOk.of r1),q1,fun s q v G' H' Fv o=>k v G' H' F1 Fv s e1 (I1.out o).1 (g1.trans o.gg) (I1.out o).2 q⟩⟩
noncomputable def reS:Sl->Own->Sl
 | .io _,A => .io A
 | _,A => .own A
end
noncomputable def aho:Option Sl->Option Sl
 | some (.own A)=>some (.io A)
 | s=>s
noncomputable def aaj (src:List (Option Nat)) (env:En):En:=src.map fun o=>match o with | some j=>aho ((env[j]?).getD none) | none=>none
noncomputable def isIo:Option Sl->Bool
 | some (.io _)=>true
 | _=>false
noncomputable def idxE (i:Nat):List (Option Nat)->Nat->Option Nat
 | [],_=>none
 | o :: r,k=>if o=some i then some k else idxE i r (k+1)
noncomputable def agg (src:List (Option Nat)) (e:En) (i:Nat) (s:Option Sl):Option Sl :=
 match s with
 | some (.own A)=>(match idxE i src 0 with | some j=>(match e[j]? with | some (some (.io A'))=>some (.own A') | _=>none) | none=>some (.own A))
 | some (.io A)=>(match idxE i src 0 with | some j=>(match e[j]? with | some (some (.io A'))=>some (.io A') | _=>none) | none=>some (.io A))
 | s=>s
noncomputable def ae0 (src:List (Option Nat)) (e:En):Nat->En->En
 | _,[]=>[]
 | k,s :: r=>agg src e k s :: ae0 src e (k+1) r
noncomputable def ahp (src:List (Option Nat)) (e1 e:En):En:=ae0 src e 0 e1
theorem afa (src:List (Option Nat)) (e:En):∀ (k:Nat) (l:En) (i:Nat),(ae0 src e k l)[i]?=(l[i]?).map (agg src e (k+i))
 | _,[],i=>by simp [ae0]
 | k,s :: r,0=>by simp [ae0]
 | k,s :: r,i+1=>by
  have:=afa src e (k+1) r i
  simp only [ae0,List.getElem?_cons_succ,this]
  rw [show k+1+i=k+(i+1) by omega]
theorem aep {i:Nat}:∀ {src:List (Option Nat)} {k j:Nat},idxE i src k=some j->k<=j/\src[j - k]?=some (some i)
 | [],_,_,h=>by cases h
 | o :: r,k,j,h=>by
  unfold idxE at h
  by_cases e:o=some i
  ·rw [if_pos e] at h;cases h
   exact ⟨Nat.le_refl _,by simp [e]⟩
  ·rw [if_neg e] at h
   obtain ⟨h1,h2⟩:=aep h
   refine ⟨by omega,?_⟩
   rw [show j - k=(j - (k+1))+1 by omega]
   simpa using h2
theorem aja {i:Nat}:∀ {src:List (Option Nat)} {k:Nat},idxE i src k=none->∀ j:Nat,src[j]? ≠ some (some i)
 | [],_,_,j=>by simp
 | o :: r,k,h,j=>by
  unfold idxE at h
  by_cases e:o=some i
  ·rw [if_pos e] at h;cases h
  ·rw [if_neg e] at h
   cases j with
   | zero=>simpa using e
   | succ j=>simpa using aja h j
theorem aln:∀ (src:List (Option Nat)),(src.filterMap id).Nodup->∀ j j' i:Nat,src[j]?=some (some i)->src[j']?=some (some i)->j=j'
 | [],_,j,_,_,h,_=>by simp at h
 | none :: r,h,j,j',i,h1,h2=>by
  cases j with
  | zero=>simp at h1
  | succ j =>
   cases j' with
   | zero=>simp at h2
   | succ j'=>rw [aln r (by simpa using h) j j' i (by simpa using h1) (by simpa using h2)]
 | some x :: r,h,j,j',i,h1,h2=>by
  have h':=List.nodup_cons.mp (show (x :: r.filterMap id).Nodup by simpa using h)
  have nm:∀ k,r[k]?=some (some x)->False:=fun k hk=>h'.1 (List.mem_filterMap.mpr ⟨some x,List.mem_of_getElem? hk,rfl⟩)
  cases j with
  | zero =>
   have hx:x=i:=by simpa using h1
   subst hx
   cases j' with
   | zero=>rfl
   | succ j'=>exact (nm j' (by simpa using h2)).elim
  | succ j =>
   cases j' with
   | zero =>
    have hx:x=i:=by simpa using h2
    subst hx
    exact (nm j (by simpa using h1)).elim
   | succ j'=>rw [aln r h'.2 j j' i (by simpa using h1) (by simpa using h2)]
noncomputable def agh:Option Sl->Bool
 | some (.own _)=>true
 | _=>false
noncomputable def ioLe:En->En->Prop
 | a :: r,b :: s=>(isIo a=isIo b/\agh b=false)/\ioLe r s
 | [],[]=>True
 | _,_=>False
theorem alo {x:Option Sl} (h:isIo x=true):∃ A,x=some (.io A):=by
 cases x with
 | none=>simp [isIo] at h
 | some y =>
  cases y with
  | io A=>exact ⟨A,rfl⟩
  | _=>simp [isIo] at h
theorem ioLe.get:∀ {a b:En} {j:Nat} {x:Option Sl},ioLe a b->a[j]?=some x->isIo x=true->∃ A,b[j]?=some (some (.io A))
 | [],_,_,_,_,e,_=>by simp at e
 | x :: r,[],_,_,h,_,_=>h.elim
 | x :: r,y :: s,0,z,h,e,p=>by
  simp at e;subst e
  have:=h.1.1
  rw [p] at this
  obtain ⟨A,q⟩:=alo this.symm
  exact ⟨A,by simp [q]⟩
 | x :: r,y :: s,j+1,z,h,e,p=>by
  obtain ⟨A,q⟩:=ioLe.get (j:=j) h.2 (by simpa using e) p
  exact ⟨A,by simpa using q⟩
theorem ioLe.got:∀ {a b:En} {j:Nat} {x:Option Sl},ioLe a b->b[j]?=some x->(isIo x=true->∃ A,a[j]?=some (some (.io A)))/\agh x=false
 | [],[],_,_,_,e=>by simp at e
 | [],_ :: _,_,_,h,e=>h.elim
 | x :: r,[],_,_,h,_=>h.elim
 | x :: r,y :: s,0,z,h,e=>by
  simp at e;subst e
  refine ⟨fun p=>?_,h.1.2⟩
  have:=h.1.1
  rw [p] at this
  obtain ⟨A,q⟩:=alo this
  exact ⟨A,by simp [q]⟩
 | x :: r,y :: s,j+1,z,h,e=>by
  obtain ⟨p,q⟩:=ioLe.got (j:=j) (x:=z) h.2 (by simpa using e)
  exact ⟨fun t=>by obtain ⟨A,u⟩:=p t;exact ⟨A,by simpa using u⟩,q⟩
section
variable {B:Bs} {G H:Hp} {σ:St} {env:En} {F:Nat->Addr->Prop}
theorem VI.aside (I:VI B G H σ env F) {p:Addr} {o:HO} (nt:∀ xs,o ≠ .tup xs) (hg:G p=none) (hf:∀ j,¬ F j p) (hb:B.H p=none):VI B G (upd H p o) σ env F where
 gh:=fun a u e=>by rw [aag (aau e hg)];exact I.gh a u e
 g0:=I.g0
 gn:=I.gn
 rs:=fun a u e=>by rw [aag (aau e (I.b_r hb))];exact I.rs a u e
 rb:=I.rb
 bh:=fun a u e=>by rw [aag (aau e hb)];exact I.bh a u e
 fg:=I.fg
 fr:=I.fr
 fd:=I.fd
 fo:=fun j a z=>by rw [aag (fun e:a=p=>hf j (e ▸ z))];exact I.fo j a z
 sl:=fun i s e=>by
  obtain ⟨v,hv,q⟩:=I.sl i s e
  exact ⟨v,hv,q.mono (Same.refl _) fun a u z y=>by rw [aag (fun e:a=p=>hf i (e ▸ z))];exact y⟩
 ln:=I.ln
 ft:=fun a ks e=>by
  by_cases z:a=p
  ·subst z;rw [aan] at e;exact absurd (Option.some.inj e) (nt _)
  ·rw [aag z] at e;exact I.ft a ks e
def LcV (K:Frag) (src:List (Option Nat)) (g:TG) (tif:TT) (te:TE) (ds:List PyData) (e1:En) (R:List PyData->En->Prop):Prop:=∃ J:Nat->List PyData->En->Prop,J 0 [] (aaj src e1)/\(∀ i ys e,J i ys e->ioLe (aaj src e1) e) /\
 (∀ i d ys e,ds[i]?=some d->J i ys e->∀ B':Bs,B'.K=K->EvG B' g (.st d) e fun e2=>EvT B' tif e2 fun b e3=>if b=true then Ev B' te e3 fun y e4=>ys.length<=999999/\J (i+1) (ys ++ [y]) e4 else J (i+1) ys e3)/\∀ ys e,J ds.length ys e->R ys (ahp src e1 e)
theorem af0 {src:List (Option Nat)} {j:Nat} {s:Sl} (h:(aaj src env)[j]?=some (some s)):∃ i t,src[j]?=some (some i)/\env[i]?=some (some t)/\aho (some t)=some s:=by
 unfold aaj at h
 rw [List.getElem?_map] at h
 cases e:src[j]? with
 | none=>rw [e] at h;cases h
 | some o =>
  rw [e] at h
  cases o with
  | none=>cases h
  | some i =>
   simp only [Option.map_some,Option.some.injEq] at h
   cases e2:env[i]? with
   | none=>rw [e2] at h;cases h
   | some o2 =>
    rw [e2] at h
    cases o2 with
    | none=>cases h
    | some t=>exact ⟨i,t,rfl,e2,h⟩
theorem alp {src:List (Option Nat)} {i j:Nat} {v:V} (h:src[j]?=some (some i)) (hv : σ[i]?=some (some v)):(pick src σ)[j]?=some (some v):=by
 unfold pick
 rw [List.getElem?_map,h]
 simp [hv]
theorem ap1 {src:List (Option Nat)} {wi:TI} {g:TG} {tif:TT} {te:TE} {QO:Sl->En->Prop} (nd:(src.filterMap id).Nodup) (h:EvI B wi env fun ds e1=>LcV B.K src g tif te ds e1 fun ys e2=>QO (.own (OL ys)) e2):EvO B (tLC src wi g tif te) env QO:=fun σ G H F Q I k=>by
 refine h σ G H F _ I fun J G1 H1 F1 ds e1 I1 g1 it ⟨Jv,j0,jio,js,jd⟩ acc hacc=>?_
 let mt:Nat->Bool:=fun i=>match e1[i]? with | some (some (.own _))=>true | some (some (.io _))=>true | _=>false
 let inv:Nat->Option Nat:=fun i=>if mt i=true then idxE i src 0 else none
 have inv1:∀ i j,inv i=some j->src[j]?=some (some i)/\mt i=true:=fun i j hi=>by
  by_cases hm:mt i=true
  ·have hi':idxE i src 0=some j:=by simpa [inv,hm] using hi
   have:=(aep hi').2
   exact ⟨by simpa using this,hm⟩
  ·simp [inv,hm] at hi
 have inv2:∀ i j,src[j]?=some (some i)->mt i=true->inv i=some j:=fun i j hs hm=>by
  have e0:inv i=idxE i src 0:=by simp [inv,hm]
  cases e:idxE i src 0 with
  | none=>exact absurd hs (aja e j)
  | some j' =>
   have:=(aep e).2
   rw [e0,e,aln src nd j j' i hs (by simpa using this)]
 have inj:∀ i i' j,inv i=some j->inv i'=some j->i=i':=fun i i' j h1 h2=>by
  have a:=(inv1 i j h1).1
  rw [(inv1 i' j h2).1] at a
  simpa using a.symm
 have mtS:∀ i,mt i=true->∃ A,e1[i]?=some (some (.own A))\/e1[i]?=some (some (.io A)):=fun i hm=>by
  cases e:e1[i]? with
  | none=>simp [mt,e] at hm
  | some o =>
   cases o with
   | none=>simp [mt,e] at hm
   | some s =>
    cases s with
    | own A=>exact ⟨A,.inl rfl⟩
    | io A=>exact ⟨A,.inr rfl⟩
    | st d=>simp [mt,e] at hm
    | scr ns=>simp [mt,e] at hm
 have ioAt:∀ i ys e,Jv i ys e->∀ i' j,inv i'=some j->∃ A,e[j]?=some (some (.io A)):=fun i ys e hj i' j hi=>by
  obtain ⟨hs,hm⟩:=inv1 i' j hi
  obtain ⟨A,hA⟩:=mtS i' hm
  refine (jio i ys e hj).get (x:=some (.io A)) ?_ rfl
  unfold aaj
  rw [List.getElem?_map,hs]
  rcases hA with hA | hA <;> simp [hA,aho]
 -- between two turns
 let Wv:Nat->List V->St->Hp->Prop:=fun i ys σI H=>∃ G2 F2 e env2 yd,VI B G2 H σ env2 F2/\Same G1 G2/\H acc=some (.lst ys)/\Rps G2 ys yd/\G2 acc=none/\(∀ j,¬ F2 j acc)/\Jv i yd e/\σI.length=e.length/\env2.length=e1.length /\
  (∀ j s,e[j]?=some (some s)->∃ v,σI[j]?=some (some v)/\((∃ d,s=.st d/\Rp G2 v d/\∀ i,inv i ≠ some j)\/(∃ ns a,s=.scr ns/\v=.ref a/\SqL B.K G2 a (ns.map V.int)/\∀ i,inv i ≠ some j) ∨
   ∃ i A,inv i=some j/\s=.io A/\σ[i]?=some (some v)/\(env2[i]?=some (some (.own A))\/env2[i]?=some (some (.io A))))) /\
  (∀ i,inv i=none->env2[i]?=e1[i]?)/\(∀ i j,inv i=some j->∃ A0 A,e[j]?=some (some (.io A))/\((e1[i]?=some (some (.own A0))/\env2[i]?=some (some (.own A)))\/(e1[i]?=some (some (.io A0))/\env2[i]?=some (some (.io A)))))
 have hb:B.H acc=none:=I1.no_b hacc
 refine ⟨fun i m ys σI H=>m=ds.length - i/\i<=ds.length/\Wv i ys σI H,⟨ds.length,by simp,Nat.zero_le _,?_⟩,?_⟩
 ·refine ⟨G1,F1,aaj src e1,e1,[],I1.aside (fun _ z=>nomatch z) (I1.no_g hacc) (I1.no_f hacc) hb,Same.refl _,aan,.nil,I1.no_g hacc,I1.no_f hacc,j0,by simp [pick,aaj],rfl,fun j s e=>?_,fun _ _=>rfl,fun i j hi=>?_⟩
  ·obtain ⟨i,t,hs,ht,hp⟩:=af0 e
   obtain ⟨v,hv,q⟩:=I1.sl i t ht
   refine ⟨v,alp hs hv,?_⟩
   cases t with
   | st d =>
    cases hp
    refine .inl ⟨d,rfl,q.1,fun i' hi'=>?_⟩
    have a:=(inv1 i' j hi').1
    rw [hs] at a
    have:i=i':=by simpa using a
    subst this
    have:=(inv1 i j hi').2
    simp [mt,ht] at this
   | scr ns =>
    cases hp
    obtain ⟨⟨a,ea,sq⟩,_⟩:=q
    refine .inr (.inl ⟨ns,a,rfl,ea,sq,fun i' hi'=>?_⟩)
    have a:=(inv1 i' j hi').1
    rw [hs] at a
    have:i=i':=by simpa using a
    subst this
    have:=(inv1 i j hi').2
    simp [mt,ht] at this
   | own A=>cases hp;exact .inr (.inr ⟨i,A,inv2 i j hs (by simp [mt,ht]),rfl,hv,.inl ht⟩)
   | io A=>cases hp;exact .inr (.inr ⟨i,A,inv2 i j hs (by simp [mt,ht]),rfl,hv,.inr ht⟩)
  ·obtain ⟨hs,hm⟩:=inv1 i j hi
   obtain ⟨A,hA⟩:=mtS i hm
   refine ⟨A,A,?_,?_⟩
   ·unfold aaj
    rw [List.getElem?_map,hs]
    rcases hA with hA | hA <;> simp [hA,aho]
   ·rcases hA with hA | hA
    ·exact .inl ⟨hA,hA⟩
    ·exact .inr ⟨hA,hA⟩
 ·rintro i m ys σI H2 ⟨rfl,hi,G2,F2,e,env2,yd,I2,g2,hac,ry,ga,fa,jv,ln,ln2,sl,un,mv⟩
  refine ⟨hac,?_⟩
  by_cases hlt:i < ds.length
  ·refine .inr ⟨it.go i G2 H2 g2 I2.gh hlt,Wv (i+1),fun ys' σ' H' hw=>⟨ds.length - (i+1),by omega,rfl,hlt,hw⟩,fun x H3 y=>?_⟩
   obtain ⟨G3,o⟩:=it.yld i G2 H2 x H3 _ g2 I2.gh I2.ft (List.getElem?_eq_getElem hlt) y
   obtain ⟨I3,X3⟩:=I2.out o
   have ac3:=o.hh _ _ hac
   have fa3:=fa
   have ga3:G3 acc=none:=by
    cases e':G3 acc with
    | none=>rfl
    | some u =>
     rcases o.gn acc u e' with q | q
     ·rw [ga] at q;cases q
     ·rw [hac] at q;cases q
   have sl3:∀ j s,e[j]?=some (some s)->∃ v,σI[j]?=some (some v)/\((∃ d,s=.st d/\Rp G3 v d/\∀ i,inv i ≠ some j)\/(∃ ns a,s=.scr ns/\v=.ref a/\SqL B.K G3 a (ns.map V.int)/\∀ i,inv i ≠ some j) ∨
     ∃ i A,inv i=some j/\s=.io A/\σ[i]?=some (some v)/\(env2[i]?=some (some (.own A))\/env2[i]?=some (some (.io A)))):=fun j s es=>by
    obtain ⟨v,hv,q⟩:=sl j s es
    refine ⟨v,hv,?_⟩
    rcases q with ⟨d,e1',r,n⟩ | ⟨ns,a,e1',e2',r,n⟩ | q
    ·exact .inl ⟨d,e1',r.same o.gg,n⟩
    ·exact .inr (.inl ⟨ns,a,e1',e2',o.gg.seq r,n⟩)
    ·exact .inr (.inr q)
   have E3:=I3.enter (inv:=inv) (σI:=σI) (envI:=e) inj ln sl3
   -- back from the turn
   have fin:∀ (σ4:St) (G4 H4:Hp) (F4:Nat->Addr->Prop) (e4:En) (yd':List PyData) (ys':List V) (o4:HO),VI ⟨B.K,G3,H3,ad1 H3 F2 inv,σI,fun j a=>∃ i,inv i=some j/\F2 i a⟩ G4 H4 σ4 e4 F4->Jv (i+1) yd' e4->Rps G4 ys' yd' ->
     Wv (i+1) ys' σ4 (upd H4 acc (.lst ys'))/\H4 acc=some (.lst ys):=by
    intro σ4 G4 H4 F4 e4 yd' ys' o4 I4 j4 r4
    have ioA:=ioAt (i+1) yd' e4 j4
    have ac4:H4 acc=some (.lst ys):=I4.rs acc _ (by show ad1 H3 F2 inv acc=_;rw [alm (fun i' _ _=>fa3 i')];exact ac3)
    have ga4:G4 acc=none:=by
     cases e':G4 acc with
     | none=>rfl
     | some u =>
      rcases I4.gn acc u e' with q | q
      ·change G3 acc=_ at q;rw [ga3] at q;cases q
      ·change H3 acc=_ at q;rw [ac3] at q;cases q
    -- the slots of the outer frame
    let env3:En:=(List.range env2.length).map fun i'=>match inv i' with
     | some j=>(match env2[i']?,e4[j]? with | some (some (.own _)),some (some (.io A))=>some (.own A) | some (some (.io _)),some (some (.io A))=>some (.io A) | _,_=>none)
     | none=>(env2[i']?).getD none
    have e3get:∀ i',i' < env2.length->env3[i']?=some (match inv i' with
     | some j=>(match env2[i']?,e4[j]? with | some (some (.own _)),some (some (.io A))=>some (.own A) | some (some (.io _)),some (some (.io A))=>some (.io A) | _,_=>none)
     | none=>(env2[i']?).getD none):=fun i' hl=>by
     simp only [env3,List.getElem?_map]
     rw [List.getElem?_eq_getElem (by simpa using hl)]
     simp
    have L:=I3.leave (inv:=inv) (env2:=env3) inj rfl rfl (fun a u q n=>by show ad1 H3 F2 inv a=_;rw [alm n];exact q) (fun i' j hi' a z=>by obtain ⟨i'',h1,h2⟩:=z;rw [inj i' i'' j hi' h1];exact h2)
     (fun i' j hi'=>by
      obtain ⟨A0,A,h1,h2⟩:=mv i' j hi'
      obtain ⟨v,hv,q⟩:=sl j _ h1
      rcases q with ⟨d,q,_⟩ | ⟨ns,a,q,_⟩ | ⟨i'',A'',q1,q2,q3,_⟩
      ·cases q
      ·cases q
      ·rw [inj i' i'' j hi' q1]
       show σI[j]?=_
       rw [hv,q3]) I4 ioA (by simp [env3]) (fun i' s es=>by
      have hl:i' < env2.length:=by
       have:=(List.getElem?_eq_some_iff.mp es).1
       simpa [env3] using this
      rw [e3get i' hl] at es
      cases hi':inv i' with
      | none =>
       refine .inl ⟨rfl,?_⟩
       rw [hi'] at es
       simp only [Option.some.injEq] at es
       cases q:env2[i']? with
       | none=>rw [q] at es;cases es
       | some u=>rw [q] at es;simp at es;rw [es]
      | some j =>
       rw [hi'] at es
       obtain ⟨A',hA'⟩:=ioA i' j hi'
       obtain ⟨A0,A,h1,h2⟩:=mv i' j hi'
       simp only [hA'] at es
       rcases h2 with ⟨_,h2⟩ | ⟨_,h2⟩
       ·rw [h2] at es
        simp only [Option.some.injEq] at es
        exact .inr ⟨j,A,A',rfl,hA',.inl ⟨h2,es.symm⟩⟩
       ·rw [h2] at es
        simp only [Option.some.injEq] at es
        exact .inr ⟨j,A,A',rfl,hA',.inr ⟨h2,es.symm⟩⟩)
    have fa4:∀ j,¬ (match inv j with | some j=>F4 j acc | none=>F2 j acc):=fun j z=>by
     cases hj:inv j with
     | none=>rw [hj] at z;exact fa3 j z
     | some l =>
      rw [hj] at z
      obtain ⟨A',hA'⟩:=ioA j l hj
      obtain ⟨v,_,q⟩:=I4.sl l _ hA'
      rcases q.2.1 acc z with ⟨i'',_,q⟩ | q
      ·exact fa3 i'' q
      ·change H3 acc=_ at q;rw [ac3] at q;cases q
    refine ⟨⟨G4,_,e4,env3,yd',L.aside (fun _ z=>nomatch z) ga4 fa4 hb,g2.trans (o.gg.trans I4.g0),aan,r4,ga4,fa4,j4,I4.ln,by simp [env3,ln2],fun j s es=>?_,fun i' hi'=>?_,fun i' j hi'=>?_⟩,ac4⟩
    ·obtain ⟨v,hv,q⟩:=I4.sl j s es
     refine ⟨v,hv,?_⟩
     have noinv:(∀ A,s ≠ .io A)->∀ i',inv i' ≠ some j:=fun hn i' hi'=>by
      obtain ⟨A,hA⟩:=ioA i' j hi'
      rw [es] at hA
      exact hn A (by simpa using hA)
     cases s with
     | st d=>exact .inl ⟨d,rfl,q.1,noinv (by intro A z;cases z)⟩
     | scr ns =>
      obtain ⟨⟨a,ea,sq⟩,_⟩:=q
      exact .inr (.inl ⟨ns,a,rfl,ea,sq,noinv (by intro A z;cases z)⟩)
     | own A =>
      have:=((jio _ _ _ j4).got es).2
      simp [agh] at this
     | io A =>
      obtain ⟨A0,h0⟩:=((jio _ _ _ j4).got es).1 rfl
      obtain ⟨i',t,hs,ht,hp⟩:=af0 h0
      have hm:mt i'=true:=by
       cases t with
       | own A=>simp [mt,ht]
       | io A=>simp [mt,ht]
       | st d=>cases hp
       | scr ns=>cases hp
      have hi':=inv2 i' j hs hm
      obtain ⟨B0,A1,h1,h2⟩:=mv i' j hi'
      have hl:i' < env2.length:=by
       rcases h2 with ⟨_,h2⟩ | ⟨_,h2⟩ <;> exact (List.getElem?_eq_some_iff.mp h2).1
      refine .inr (.inr ⟨i',A,hi',rfl,?_,?_⟩)
      ·have hS : σI[j]?=some (some v):=q.2.2
       obtain ⟨v',hv',q'⟩:=sl j _ h1
       rcases q' with ⟨d,q',_⟩ | ⟨ns,a,q',_⟩ | ⟨i'',A'',q1,q2,q3,_⟩
       ·cases q'
       ·cases q'
       ·rw [inj i' i'' j hi' q1,q3,← hv',hS]
      ·rw [e3get i' hl,hi']
       simp only [es]
       rcases h2 with ⟨_,h2⟩ | ⟨_,h2⟩
       ·rw [h2];exact .inl rfl
       ·rw [h2];exact .inr rfl
    ·by_cases hl:i' < env2.length
     ·rw [e3get i' hl,hi']
      simp only
      rw [← un i' hi']
      rw [List.getElem?_eq_getElem hl];rfl
     ·rw [List.getElem?_eq_none_iff.mpr (by simp [env3];omega),← un i' hi',List.getElem?_eq_none_iff.mpr (by omega)]
    ·obtain ⟨A',hA'⟩:=ioA i' j hi'
     obtain ⟨A0,A,h1,h2⟩:=mv i' j hi'
     have hl:i' < env2.length:=by
      rcases h2 with ⟨_,h2⟩ | ⟨_,h2⟩ <;> exact (List.getElem?_eq_some_iff.mp h2).1
     refine ⟨A0,A',hA',?_⟩
     rw [e3get i' hl,hi']
     simp only [hA']
     rcases h2 with ⟨h3,h2⟩ | ⟨h3,h2⟩
     ·rw [h2];exact .inl ⟨h3,rfl⟩
     ·rw [h2];exact .inr ⟨h3,rfl⟩
   have hd:ds[i]?=some ds[i]:=List.getElem?_eq_getElem hlt
   refine js i _ yd e hd jv ⟨B.K,G3,H3,ad1 H3 F2 inv,σI,fun j a=>∃ i,inv i=some j/\F2 i a⟩ rfl σI G3 H3 _ x _ _ E3 (aeh o.ok.1) fun σ4 G4 H4 F4 e4 I4 g4 q4=>?_
   refine q4 σ4 G4 H4 F4 _ I4 fun b G5 H5 F5 e5 I5 g5 q5=>?_
   cases b with
   | false =>
    rw [if_neg Bool.false_ne_true] at q5 ⊢
    obtain ⟨w,ac⟩:=fin σ4 G5 H5 F5 e5 yd ys (.lst ys) I5 q5 (ry.same (o.gg.trans (g4.trans g5)))
    have:upd H5 acc (.lst ys)=H5:=by
     funext b
     unfold upd
     split
     ·rename_i hb';rw [hb'];exact ac.symm
     ·rfl
    rw [this] at w
    exact w
   | true =>
    rw [if_pos rfl] at q5 ⊢
    refine q5 σ4 G5 H5 F5 _ I5 fun y G6 H6 F6 d6 e6 I6 g6 r6 q6=>?_
    obtain ⟨w,ac⟩:=fin σ4 G6 H6 F6 e6 (yd ++ [d6]) (ys ++ [y]) (.lst ys) I6 q6.2 ((ry.same (o.gg.trans (g4.trans (g5.trans g6)))).append (.cons r6 .nil))
    exact ⟨ac,by rw [ry.length];exact big (by have:=q6.1;omega),w⟩
  ·have ei:i=ds.length:=by omega
   subst ei
   refine .inl ⟨it.stop _ G2 H2 g2 I2.gh rfl,?_⟩
   have q:=jd yd e jv
   have eb:ahp src e1 e=env2:=by
    apply List.ext_getElem?
    intro i'
    unfold ahp
    rw [afa,Nat.zero_add]
    have nomut:mt i'=false->env2[i']?=e1[i']?:=fun hm=>un i' (by simp [inv,hm])
    cases e2:e1[i']? with
    | none =>
     rw [nomut (by simp [mt,e2]),e2];rfl
    | some o =>
     cases o with
     | none=>rw [nomut (by simp [mt,e2]),e2];rfl
     | some t =>
      have main:∀ A,(t=.own A\/t=.io A)->mt i'=true:=fun A h=>by rcases h with rfl | rfl <;> simp [mt,e2]
      cases t with
      | st d=>rw [nomut (by simp [mt,e2]),e2];rfl
      | scr ns=>rw [nomut (by simp [mt,e2]),e2];rfl
      | own A =>
       have hm:=main A (.inl rfl)
       simp only [Option.map_some,agg]
       cases e3:idxE i' src 0 with
       | none =>
        have:inv i'=none:=by simp [inv,e3]
        rw [un i' this,e2]
       | some j =>
        have hi':inv i'=some j:=by simp [inv,hm,e3]
        obtain ⟨A0,A1,h1,h2⟩:=mv i' j hi'
        simp only [h1]
        rcases h2 with ⟨h3,h2⟩ | ⟨h3,h2⟩
        ·rw [h2]
        ·rw [e2] at h3;cases h3
      | io A =>
       have hm:=main A (.inr rfl)
       simp only [Option.map_some,agg]
       cases e3:idxE i' src 0 with
       | none =>
        have:inv i'=none:=by simp [inv,e3]
        rw [un i' this,e2]
       | some j =>
        have hi':inv i'=some j:=by simp [inv,hm,e3]
        obtain ⟨A0,A1,h1,h2⟩:=mv i' j hi'
        simp only [h1]
        rcases h2 with ⟨h3,h2⟩ | ⟨h3,h2⟩
        ·rw [e2] at h3;cases h3
        ·rw [h2]
   rw [eb] at q
   refine k (.ref acc) G2 H2 F2 (· = acc) (.own (OL yd)) env2 I2 (g1.trans g2) ⟨⟨acc,ys,rfl,hac,ry,fun b=>Iff.rfl⟩,fun a z=>by rw [z];exact hb,fun a z=>by rw [z];exact ga,fun a z=>by rw [z];exact ⟨_,hac⟩,fun j a z=>by rw [z];exact fa j⟩ q
end
noncomputable def noIo (e:En):Bool:=e.all fun s => !isIo s
theorem ar8 {e:En} {j:Nat} {x:Option Sl} (h:noIo e=true) (hx:e[j]?=some x):isIo x=false:=by
 have:=List.all_eq_true.mp h x (List.mem_of_getElem? hx)
 simpa using this
theorem ae1 {src:List (Option Nat)} {e1 e:En} (h:noIo (aaj src e1)=true):ahp src e1 e=e1:=by
 apply List.ext_getElem?
 intro i
 unfold ahp
 rw [afa,Nat.zero_add]
 cases e2:e1[i]? with
 | none=>rfl
 | some o =>
  have main:∀ A,(o=some (.own A)\/o=some (.io A))->idxE i src 0=none:=fun A ho=>by
   cases e3:idxE i src 0 with
   | none=>rfl
   | some j =>
    have hs:=(aep e3).2
    have:(aaj src e1)[j]?=some (some (.io A)):=by
     unfold aaj
     rw [List.getElem?_map,show src[j]?=some (some i) by simpa using hs]
     rcases ho with rfl | rfl <;> simp [e2,aho]
    have:=ar8 h this
    simp [isIo] at this
  cases o with
  | none=>rfl
  | some t =>
   cases t with
   | st d=>rfl
   | scr ns=>rfl
   | own A=>simp only [Option.map_some,agg,main A (.inl rfl)]
   | io A=>simp only [Option.map_some,agg,main A (.inr rfl)]
noncomputable def stO:Option PyData->Option Sl:=Option.map Sl.st
theorem isIo_stO {o:Option PyData}:isIo (stO o)=false:=by cases o <;> rfl
theorem ab6 {o:Option PyData}:agh (stO o)=false:=by cases o <;> rfl
theorem acw {src:List (Option Nat)} {e1:En}:∀ x∈aaj src e1,agh x=false:=by
 intro x hx
 unfold aaj at hx
 obtain ⟨o,_,rfl⟩:=List.mem_map.mp hx
 cases o with
 | none=>rfl
 | some j =>
  dsimp only
  cases (e1[j]?).getD none with
  | none=>rfl
  | some t=>cases t <;> rfl
theorem ac9:∀ {e:En},(∀ x∈e,agh x=false)->ioLe e e
 | [],_=>True.intro
 | x :: r,h=>⟨⟨rfl,h x List.mem_cons_self⟩,ac9 fun y hy=>h y (List.mem_cons_of_mem _ hy)⟩
section
variable {B:Bs} {env:En} {g:TG} {tif:TT} {te:TE} {K:Frag} {src:List (Option Nat)} {ds:List PyData} {e1:En} {R:List PyData->En->Prop}
theorem alq (f:PyData->PyData) (p:PyData->Bool) (hno:noIo (aaj src e1)=true) (hl:ds.length<=999999)
  (h:∀ d∈ds,∀ B':Bs,B'.K=K->EvT B' tif (some (.st d) :: aaj src e1) fun b e3=>b=p d/\e3=some (.st d) :: aaj src e1/\(b=true->Ev B' te (some (.st d) :: aaj src e1) fun y e4=>y=f d/\e4=some (.st d) :: aaj src e1))
  (hR:R ((ds.filter p).map f) e1):LcV K (none :: src) (aay 0) tif te ds e1 R:=by
 have hno':noIo (aaj (none :: src) e1)=true:=by
  show ((none :: aaj src e1).all fun s => !isIo s)=true
  rw [List.all_cons]
  exact (Bool.and_eq_true _ _).mpr ⟨rfl,hno⟩
 refine ⟨fun i ys e=>ys=((ds.take i).filter p).map f/\∃ o,e=stO o :: aaj src e1,⟨by simp,none,rfl⟩,?_,?_,?_⟩
 ·rintro i ys e ⟨_,o,rfl⟩
  exact ⟨⟨isIo_stO.symm,ab6⟩,ac9 acw⟩
 ·rintro i d ys e hd ⟨rfl,o,rfl⟩ B' hB
  have hi:i < ds.length:=(List.getElem?_eq_some_iff.mp hd).1
  have et:ds.take (i+1)=ds.take i ++ [d]:=by rw [List.take_add_one,hd];rfl
  refine aat ?_
  show EvT B' tif (some (.st d) :: aaj src e1) _
  intro σ G H F Q I k
  refine h d (List.mem_of_getElem? hd) B' hB σ G H F Q I fun b G' H' F' e3 I' g' ⟨hb,he,hq⟩=>k b G' H' F' e3 I' g' ?_
  subst he
  by_cases hp:b=true
  ·rw [if_pos hp]
   intro σ G H F Q I k
   refine hq hp σ G H F Q I fun v G' H' F' d' e4 I' g' r' ⟨hy,he4⟩=>k v G' H' F' d' e4 I' g' r' ?_
   subst hy he4
   refine ⟨?_,?_,some d,rfl⟩
   ·have:=List.length_filter_le p (ds.take i)
    simp only [List.length_map]
    have h2:(ds.take i).length<=i:=by simp;omega
    omega
   ·rw [et,List.filter_append,List.map_append]
    have:p d=true:=by rw [← hb];exact hp
    simp [this]
  ·rw [if_neg hp]
   refine ⟨?_,some d,rfl⟩
   rw [et,List.filter_append,List.map_append]
   have:p d=false:=by rw [← hb];simpa using hp
   simp [this]
 ·rintro ys e ⟨rfl,o,rfl⟩
  rw [ae1 hno',List.take_length]
  exact hR
theorem ad2 {α:Type} (xs:List α):xs.filter (fun _=>true)=xs:=by simp
theorem aik (f:PyData->PyData) (hno:noIo (aaj src e1)=true) (hl:ds.length<=999999)
  (h:∀ d∈ds,∀ B':Bs,B'.K=K->Ev B' te (some (.st d) :: aaj src e1) fun y e4=>y=f d/\e4=some (.st d) :: aaj src e1)
  (hR:R (ds.map f) e1):LcV K (none :: src) (aay 0) tYes te ds e1 R :=
 alq f (fun _=>true) hno hl (fun d hd B' hB=>acs ⟨rfl,rfl,fun _=>h d hd B' hB⟩) (by rw [ad2];exact hR)
theorem ar9 {K':Frag} {α:Type} {xs:List α} {fa fb : α->PyData} (f : α->PyData) (p : α->Bool) (hno:noIo (aaj src e1)=true) (hl:xs.length<=999999)
  (h:∀ x∈xs,∀ B':Bs,B'.K=K->EvT B' tif (some (.st (fa x)) :: some (.st (fb x)) :: aaj src e1) fun b e3=>b=p x/\e3=some (.st (fa x)) :: some (.st (fb x)) :: aaj src e1/\(b=true->Ev B' te (some (.st (fa x)) :: some (.st (fb x)) :: aaj src e1) fun y e4=>y=f x/\e4=some (.st (fa x)) :: some (.st (fb x)) :: aaj src e1))
  (hR:R ((xs.filter p).map f) e1):LcV K (none :: none :: src) (gTup K' 2 (ado (aay 0) (ado (aay 1) gNil))) tif te (xs.map fun x => .tuple [fa x,fb x]) e1 R:=by
 have hno':noIo (aaj (none :: none :: src) e1)=true:=by
  show ((none :: none :: aaj src e1).all fun s => !isIo s)=true
  rw [List.all_cons,List.all_cons]
  exact (Bool.and_eq_true _ _).mpr ⟨rfl,(Bool.and_eq_true _ _).mpr ⟨rfl,hno⟩⟩
 refine ⟨fun i ys e=>ys=((xs.take i).filter p).map f/\∃ o o',e=stO o :: stO o' :: aaj src e1,⟨by simp,none,none,rfl⟩,?_,?_,?_⟩
 ·rintro i ys e ⟨_,o,o',rfl⟩
  exact ⟨⟨isIo_stO.symm,ab6⟩,⟨isIo_stO.symm,ab6⟩,ac9 acw⟩
 ·rintro i d ys e hd ⟨rfl,o,o',rfl⟩ B' hB
  rw [List.getElem?_map] at hd
  cases hx:xs[i]? with
  | none=>rw [hx] at hd;cases hd
  | some x =>
   rw [hx] at hd
   cases hd
   have hi:i < xs.length:=(List.getElem?_eq_some_iff.mp hx).1
   have et:xs.take (i+1)=xs.take i ++ [x]:=by rw [List.take_add_one,hx];rfl
   refine ank rfl (adw (aat (adw (aat (agy ?_)))))
   show EvT B' tif (some (.st (fa x)) :: some (.st (fb x)) :: aaj src e1) _
   intro σ G H F Q I k
   refine h x (List.mem_of_getElem? hx) B' hB σ G H F Q I fun b G' H' F' e3 I' g' ⟨hb,he,hq⟩=>k b G' H' F' e3 I' g' ?_
   subst he
   by_cases hp:b=true
   ·rw [if_pos hp]
    intro σ G H F Q I k
    refine hq hp σ G H F Q I fun v G' H' F' d' e4 I' g' r' ⟨hy,he4⟩=>k v G' H' F' d' e4 I' g' r' ?_
    subst hy he4
    refine ⟨?_,?_,some _,some _,rfl⟩
    ·have:=List.length_filter_le p (xs.take i)
     simp only [List.length_map]
     have h2:(xs.take i).length<=i:=by simp;omega
     omega
    ·rw [et,List.filter_append,List.map_append]
     have:p x=true:=by rw [← hb];exact hp
     simp [this]
   ·rw [if_neg hp]
    refine ⟨?_,some _,some _,rfl⟩
    rw [et,List.filter_append,List.map_append]
    have:p x=false:=by rw [← hb];simpa using hp
    simp [this]
 ·rintro ys e ⟨rfl,o,o',rfl⟩
  rw [ae1 hno']
  simpa using hR
end
section
variable {R:Sl->Prop}
theorem aus {g:Int->Int->Int} {i j:Int} (h:R (.st (.int (g i j)))):Op2 (rI0 fun i j => .int (g i j)) (.int i) (.int j) R:=fun G H vx vy Q gh rx ry k=>by
 cases rx;cases ry
 exact ⟨i,j,rfl,rfl,k _ _ _ _ _ (Out.refl gh (.int _)) h⟩
theorem aut {g:Int->Int->Bool} {i j:Int} (h:R (.st (.bool (g i j)))):Op2 (rI0 fun i j => .bl (g i j)) (.int i) (.int j) R:=fun G H vx vy Q gh rx ry k=>by
 cases rx;cases ry
 exact ⟨i,j,rfl,rfl,k _ _ _ _ _ (Out.refl gh (.bl _)) h⟩
theorem aw8 {C:Int->Int->Prop} {g:Int->Int->Int} {i j:Int} (hc:C i j) (h:R (.st (.int (g i j)))):Op2 (rI C fun i j => .int (g i j)) (.int i) (.int j) R:=fun G H vx vy Q gh rx ry k=>by
 cases rx;cases ry
 exact ⟨i,j,rfl,rfl,hc,k _ _ _ _ _ (Out.refl gh (.int _)) h⟩
theorem aw9 {g:Int->Int} {i:Int} (h:R (.st (.int (g i)))):Op1 (rU fun i => .int (g i)) (.int i) R:=fun G H vx Q gh rx k=>by
 cases rx
 exact ⟨i,rfl,k _ _ _ _ _ (Out.refl gh (.int _)) h⟩
theorem auu {i j:Int} (h:R (.st (.bool (decide (i=j))))):Op2 rEq (.int i) (.int j) R:=fun G H vx vy Q gh rx ry k=>by
 cases rx;cases ry
 exact apr (k _ _ _ _ _ (Out.refl gh (.bl _)) h)
theorem auv {i j:Int} (h:R (.st (.bool (!decide (i=j))))):Op2 rNe (.int i) (.int j) R:=fun G H vx vy Q gh rx ry k=>by
 cases rx;cases ry
 exact awq (k _ _ _ _ _ (Out.refl gh (.bl _)) h)
theorem auw {x y:PyData} (px:aav x=true) (py:aav y=true) (hd:x.depth<=60) (h:R (.st (.bool (PyData.eqv x y)))):Op2 rEqD x y R:=fun G H vx vy Q gh rx ry k =>
 ⟨x,y,(rx.rep px).same gh,(ry.rep py).same gh,px,py,hd,k _ _ _ _ _ (Out.refl gh (.bl _)) h⟩
theorem ann {neg:Bool} {x:PyData} {es:List PyData} (px:aav x=true) (py:plainDs es=true) (hd:x.depth<=60) (h:R (.st (.bool (if neg then !es.any (fun z=>PyData.eqv z x) else es.any (fun z=>PyData.eqv z x))))):Op2 (rInD neg) x (.list es) R:=fun G H vx vy Q gh rx ry k =>
 ⟨x,es,(rx.rep px).same gh,.inl ((ry.rep (by simpa [aav] using py)).same gh),px,py,hd,k _ _ _ _ _ (Out.refl gh (.bl _)) h⟩
theorem Rps.at {G:Hp} {vs:List V} {ds:List PyData} {i:Int} {d:PyData} (r:Rps G vs ds) (h:atI ds i=some d):∃ v,atI vs i=some v/\Rp G v d:=by
 unfold atI at h ⊢
 rw [r.length]
 cases e:ixN ds.length i with
 | none=>rw [e] at h;cases h
 | some j =>
  rw [e] at h
  exact r.get h
theorem aux {K:Frag} {ds:List PyData} {i:Int} {d:PyData} (hd:atI ds i=some d) (h:R (.st d)):Op2 (abw K) (.list ds) (.int i) R:=fun G H vx vy Q gh rx ry k=>by
 cases ry
 cases rx with
 | lst ha rs =>
  obtain ⟨v,hv,rv⟩:=rs.at hd
  exact ae7 (gh _ _ ha) hv (k _ _ _ _ _ (Out.refl gh rv) h)
theorem auy {K:Frag} {ds:List PyData} {i:Int} {d:PyData} (hd:atI ds i=some d) (h:R (.st d)):Op2 (abw K) (.tuple ds) (.int i) R:=fun G H vx vy Q gh rx ry k=>by
 cases ry
 cases rx with
 | tup ha rs =>
  obtain ⟨v,hv,rv⟩:=rs.at hd
  exact arv (gh _ _ ha) hv (k _ _ _ _ _ (Out.refl gh rv) h)
noncomputable def isNone:PyData->Bool
 | .none=>true
 | _=>false
theorem auz {G:Hp} {v:V} {x:PyData} (r:Rp G v x):decide (v=.non)=isNone x:=by cases r <;> rfl
theorem au0 {x:PyData} (h:R (.st (.bool (isNone x)))):Op2 rIsN x .none R:=fun G H vx vy Q gh rx ry k=>by
 cases ry
 refine ⟨rfl,?_⟩
 rw [auz rx]
 exact k _ _ _ _ _ (Out.refl gh (.bl _)) h
theorem au1 {xs ys:List PyData} (hl:xs.length+ys.length<=1000000) (h:R (.own (OL (xs ++ ys)))):Op2 rCat (.list xs) (.list ys) R:=fun G H vx vy Q gh rx ry k=>by
 cases rx with
 | lst ha ra =>
  cases ry with
  | lst hb rb =>
   refine awt (gh _ _ ha) (gh _ _ hb) ?_ fun p hp=>k _ _ _ _ _ (Out.newL gh hp (ra.append rb)) h
   rw [ra.length,rb.length];exact Nat.le_of_lt (big hl)
theorem au2 {xs:List PyData} {n:Int} (h1 : -(2 ^ 63)<=n) (h2:n < 2 ^ 63) (hl:xs.length * n.toNat<=1000000) (h:R (.own (OL (List.replicate n.toNat xs).flatten))):Op2 rRep (.list xs) (.int n) R:=fun G H vx vy Q gh rx ry k=>by
 cases ry
 cases rx with
 | lst ha ra =>
  refine ⟨_,n,_,rfl,rfl,gh _ _ ha,h1,h2,?_,fun p hp=>k _ _ _ _ _ (Out.newL gh hp (ra.rep _)) h⟩
  rw [ra.length];exact Nat.le_of_lt (big hl)
theorem asa {K:Frag} {xs:List PyData} (h:R (.st (.int xs.length))):OpA (rLen K) [.list xs] R:=fun G H vs Q gh rs k=>by
 cases rs with
 | cons r t =>
  cases t
  cases r with
  | lst ha ra =>
   refine am6 (gh _ _ ha) ?_
   rw [ra.length]
   exact k _ _ _ _ _ (Out.refl gh (.int _)) h
theorem asb {K:Frag} {xs:List PyData} (h:R (.st (.int xs.length))):OpA (rLen K) [.tuple xs] R:=fun G H vs Q gh rs k=>by
 cases rs with
 | cons r t =>
  cases t
  cases r with
  | tup ha ra =>
   refine at9 (gh _ _ ha) ?_
   rw [ra.length]
   exact k _ _ _ _ _ (Out.refl gh (.int _)) h
theorem asc {i j:Int} (h:R (.st (.int (if j > i then j else i)))):OpA akb [.int i,.int j] R:=fun G H vs Q gh rs k=>by
 obtain rfl:vs=[V.int i,V.int j]:=Rps.ints_inv (ns:=[i,j]) rs
 exact am7 (k _ _ _ _ _ (Out.refl gh (.int _)) h)
theorem asd {i j:Int} (h:R (.st (.int (if j < i then j else i)))):OpA akc [.int i,.int j] R:=fun G H vs Q gh rs k=>by
 obtain rfl:vs=[V.int i,V.int j]:=Rps.ints_inv (ns:=[i,j]) rs
 exact am8 (k _ _ _ _ _ (Out.refl gh (.int _)) h)
theorem ase {b:Bool} (h:R (.st (.int (if b then 1 else 0)))):OpA akd [.bool b] R:=fun G H vs Q gh rs k=>by
 cases rs with
 | cons r t =>
  cases t;cases r
  exact am9 (k _ _ _ _ _ (Out.refl gh (.int _)) h)
theorem ag0 {K:Frag} {ns:List Int} (hne:ns ≠ []) (h:∀ m,ae6 ns m->R (.st (.int m))):OpA (ahi K) [.list (ns.map .int)] R:=fun G H vs Q gh rs k=>by
 cases rs with
 | cons r t =>
  cases t
  cases r with
  | lst ha ra =>
   have:=Rps.ints_inv ra
   subst this
   exact ⟨_,ns,rfl,.inl (SqL.of (gh _ _ ha)),hne,fun m hm=>k _ _ _ _ _ (Out.refl gh (.int _)) (h m hm)⟩
theorem asf {K:Frag} {ns:List Int} (hne:ns ≠ []) (h:∀ m,ats ns m->R (.st (.int m))):OpA (aoi K) [.list (ns.map .int)] R:=fun G H vs Q gh rs k=>by
 cases rs with
 | cons r t =>
  cases t
  cases r with
  | lst ha ra =>
   have:=Rps.ints_inv ra
   subst this
   exact ⟨_,ns,rfl,.inl (SqL.of (gh _ _ ha)),hne,fun m hm=>k _ _ _ _ _ (Out.refl gh (.int _)) (h m hm)⟩
end
section
variable {B:Bs} {env:En} {QO:Sl->En->Prop} {Q':PyData->En->Prop} {te tl th:TE} {K:Frag}
noncomputable def cutD (xs:List PyData) (lo hi:Option Int):List PyData:=(xs.drop (HT.sIx xs.length 0 lo)).take (HT.sIx xs.length xs.length hi - HT.sIx xs.length 0 lo)
def EvOp (B:Bs) (t:TO) (env:En) (Q':Option Int->En->Prop):Prop:=∀ (σ:St) (G H:Hp) (F:Nat->Addr->Prop) (Q:Option Int->Hp->Prop),VI B G H σ env F->(∀ o G' H' F' env',VI B G' H' σ env' F'->Same G G'->Q' o env'->Q o H')->t σ H Q
theorem asg {QP:Option Int->En->Prop} (q:QP none env):EvOp B amv env QP:=fun σ G H F Q I k=>k none G H F env I (Same.refl _) q
theorem ash {QP:Option Int->En->Prop} (h:Ev B te env fun d e=>∃ i,d=.int i/\QP (some i) e):EvOp B (ato te) env QP:=fun σ G H F Q I k =>
 h σ G H F _ I fun v G1 H1 F1 d e1 I1 g1 r1 z_=>by
  obtain ⟨i,ed,q⟩:=z_
  subst ed;cases r1
  exact ⟨i,rfl,k _ G1 H1 F1 e1 I1 g1 q⟩
theorem ayp {i:Int} {R:Int->Prop} (h:R i):∃ j,PyData.int i=.int j/\R j:=⟨i,rfl,h⟩
theorem ajb {tl th:TO} (h:Ev B te env fun d e1=>∃ ds,d=.list ds/\EvOp B tl e1 fun lo e2=>EvOp B th e2 fun hi e3=>QO (.own (OL (cutD ds lo hi))) e3):EvO B (tSl (rSlL K) te tl th) env QO:=fun σ G H F Q I k =>
 h σ G H F _ I fun v G1 H1 F1 d e1 I1 g1 r1 z_=>by
  obtain ⟨ds,ed,q1⟩:=z_
  subst ed
  cases r1 with
  | @lst a vs _ ha rs =>
   refine q1 σ G1 H1 F1 _ I1 fun lo G2 H2 F2 e2 I2 g2 q2=>q2 σ G2 H2 F2 _ I2 fun hi G3 H3 F3 e3 I3 g3 q3=>?_
   have rs3:=rs.same (g2.trans g3)
   refine ⟨a,vs,rfl,SqL.of (I3.gh _ _ (g3 _ _ (g2 _ _ ha))),fun p hp=>?_⟩
   have e:cutV vs lo hi=(vs.drop (HT.sIx ds.length 0 lo)).take (HT.sIx ds.length ds.length hi - HT.sIx ds.length 0 lo):=by unfold cutV;rw [rs.length]
   have o:=Out.newL (xs:=cutV vs lo hi) (ds:=cutD ds lo hi) I3.gh hp (by rw [e];exact (rs3.drop _).take _)
   exact k _ _ _ F3 _ _ e3 (I3.out o).1 (g1.trans (g2.trans (g3.trans o.gg))) (I3.out o).2 q3
theorem asi {tl th:TO} (h:Ev B te env fun d e1=>∃ ds,d=.list ds/\EvOp B tl e1 fun lo e2=>EvOp B th e2 fun hi e3=>Q' (.list (cutD ds lo hi)) e3):Ev B (tSl (rSlL K) te tl th) env Q':=acg (ajb (by
 intro σ G H F Q I k
 refine h σ G H F Q I fun v G' H' F' d e1 I1 g1 r1 ⟨ds,ed,q⟩=>k v G' H' F' d e1 I1 g1 r1 ⟨ds,ed,?_⟩
 intro σ G H F Q I k
 refine q σ G H F Q I fun lo G' H' F' e I' g' q=>k lo G' H' F' e I' g' ?_
 intro σ G H F Q I k
 exact q σ G H F Q I fun hi G' H' F' e I' g' q=>k hi G' H' F' e I' g' (adh q)))
end
noncomputable def afb:PyData->Bool
 | .none | .bool _ | .int _ | .str _=>true
 | _=>false
theorem ail {G G':Hp} {v:V} {d:PyData} (r:Rp G v d) (h:afb d=true):Rp G' v d:=by
 cases r with
 | non=>exact .non
 | bl b=>exact .bl b
 | int i=>exact .int i
 | str x=>exact .str x
 | _=>simp [afb] at h
def Has (env:En) (i:Nat) (A:Own):Prop:=env[i]?=some (some (.own A))\/env[i]?=some (some (.io A))
section
variable {B:Bs} {env:En} {QO:Sl->En->Prop} {Q':PyData->En->Prop} {QT:Bool->En->Prop} {QE:En->Prop} {te ta tb tk:TE} {K:Frag} {i:Nat}
theorem VI.has {G H:Hp} {σ:St} {F:Nat->Addr->Prop} {A:Own} (I:VI B G H σ env F) (h:Has env i A):∃ v,σ[i]?=some (some v)/\A.P G H v (F i):=by
 rcases h with h | h
 ·obtain ⟨v,hv,q⟩:=I.sl i _ h;exact ⟨v,hv,q.1⟩
 ·obtain ⟨v,hv,q⟩:=I.sl i _ h;exact ⟨v,hv,q.1⟩
theorem VI.moment {G G1 G3 H H3:Hp} {σ:St} {F:Nat->Addr->Prop} {v:V} {s:Sl} {Fv:Addr->Prop} (I:VI B G H σ env F) (g1:Same G G1) (o:Out G1 H v G3 H3 s Fv):∃ G2,Same G G2/\VI B G2 H3 σ env F:=by
 refine ⟨fun a=>if H a=none then G3 a else G a,fun a u e=>?_,I.grow (fun a u e=>?_) (fun a u e=>?_) o.hh (fun a u e=>?_) fun a ks e=>?_⟩
 ·show (if H a=none then G3 a else G a)=some u;rw [if_neg (by rw [I.gh a u e];simp)];exact e
 ·rw [if_neg (by rw [I.gh a u e];simp)];exact e
 ·by_cases h:H a=none
  ·rw [if_pos h] at e;exact o.gh a u e
  ·rw [if_neg h] at e;exact o.hh _ _ (I.gh a u e)
 ·by_cases h:H a=none
  ·exact .inr h
  ·rw [if_neg h] at e;exact .inl e
 ·have f1:FT G1 H:=fun a ks e=>g1 _ _ (I.ft a ks e)
  by_cases h:H a=none
  ·rw [if_pos h];exact o.ft f1 a ks e
  ·rw [if_neg h]
   obtain ⟨u,hu⟩:=aol h
   have:=o.hh _ _ hu
   rw [e] at this
   exact I.ft a ks (by rw [hu,← this])
theorem axa {r:List V->Hp->VK->Prop} {A:Own} {dx:PyData} (hA:Has env i A) (fz:Frz A dx) (h:OpA r [dx] fun s=>∃ d,s=.st d/\afb d=true/\Q' d env):Ev B (tCB r (aco (tVar i) tNil)) env Q':=fun σ G H F Q I k=>by
 obtain ⟨v,hv,ap⟩:=I.has hA
 refine ⟨v,hv,h (jn G H (F i)) H [v] Q (akg I.gh) (.cons (fz _ _ _ _ ap (I.fg i) I.gh) .nil) fun w G3 H3 s Fv o ⟨d,es,hs,q3⟩=>?_⟩
 subst es
 obtain ⟨G4,g4,I4⟩:=I.moment (abl (I.fg i)) o
 exact k w G4 H3 F d env I4 g4 (ail o.ok.1 hs) q3
theorem x_sc {d:PyData} {R:PyData->Prop} (h1:afb d=true) (h:R d):∃ d',Sl.st d=.st d'/\afb d'=true/\R d':=⟨d,rfl,h1,h⟩
theorem axb {ds0:List PyData} (h0:Has env i (OL ds0)) (h:Ev B tb env fun y e2=>∃ ds k d,Has e2 i (OL ds)/\y=.int k/\atI ds k=some d/\Q' d e2):Ev B (tOp (abw K) (tVar i) tb) env Q':=fun σ G H F Q I k=>by
 obtain ⟨v,hv,_⟩:=I.has h0
 refine ⟨v,hv,h σ G H F _ I fun u G2 H2 F2 y e2 I2 g2 r2 ⟨ds,j,d,hA,ey,hat,q⟩=>?_⟩
 subst ey
 cases r2
 obtain ⟨v',hv',a,vs,ea,ha,rs,_⟩:=I2.has hA
 rw [hv] at hv';cases hv'
 subst ea
 obtain ⟨w,hw,rw'⟩:=rs.at hat
 exact ae7 ha hw (k w G2 H2 F2 d e2 I2 g2 rw' q)
theorem VI.upd1 {G H:Hp} {σ:St} {F:Nat->Addr->Prop} {s:Sl} {A A':Own} {a:Addr} {o:HO} (I:VI B G H σ env F) (e:env[i]?=some (some s)) (hs:s=.own A\/s=.io A) (hv : σ[i]?=some (some (.ref a))) (hf:∀ b,F i b ↔ b=a) (hp:A'.P G (upd H a o) (.ref a) (· = a)) (nt:∀ xs,o ≠ .tup xs:=by intro _ z;cases z) :
  VI B G (upd H a o) σ (env.set i (some (reS s A'))) (putF F i (· = a)):=by
 refine I.change (A:=A') i e hv (fun b u hb eb=>by rw [aag (fun z=>hb ((hf b).mpr z))];exact eb) (fun b u eb=>?_) (fun b z=>⟨.inl ((hf b).mpr z),by rw [z];exact ⟨_,aan⟩⟩) hp (fun b ks e=>?_) ?_
 ·by_cases z:b=a
  ·rw [z];exact ⟨_,aan⟩
  ·rw [aag z];exact ⟨u,eb⟩
 ·by_cases z:b=a
  ·subst z;rw [aan] at e;exact absurd (Option.some.inj e) (nt _)
  ·rw [aag z] at e;exact I.ft b ks e
 ·rcases hs with rfl | rfl
  ·exact .inl ⟨rfl,A,rfl⟩
  ·exact .inr ⟨rfl,A,rfl⟩
theorem ap2 {ds0:List PyData} (h0:Has env i (OL ds0)) (h:Ev B te env fun y e2=>∃ s ds,e2[i]?=some (some s)/\(s=.own (OL ds)\/s=.io (OL ds))/\ds.length<=999999/\Q' .none (e2.set i (some (reS s (OL (ds ++ [y])))))):Ev B (tBM K "list" aex (tVar i) (aco te tNil)) env Q':=fun σ G H F Q I k=>by
 obtain ⟨v,hv,a,vs,ea,ha,rs,_⟩:=I.has h0
 subst ea
 refine ⟨_,hv,.inl ⟨rfl,_,SqL.of ha⟩,h σ G H F _ I fun u G2 H2 F2 y e2 I2 g2 r2 ⟨s,ds,es,hs,hl,q⟩=>?_⟩
 have hA:Has e2 i (OL ds):=by rcases hs with rfl | rfl;exact .inl es;exact .inr es
 obtain ⟨v',hv',a',vs',ea',ha',rs',hf⟩:=I2.has hA
 rw [hv] at hv';cases hv';cases ea'
 refine afu ha' (by rw [rs'.length];exact big (by omega)) ?_
 exact k _ G2 _ _ _ _ (I2.upd1 (A':=OL (ds ++ [y])) es hs hv hf ⟨a,_,rfl,aan,rs'.append (.cons r2 .nil),fun b=>Iff.rfl⟩) g2 .non q
theorem aon {ds0:List PyData} (h0:Has env i (OL ds0)) (h:Ev B te env fun y e2=>∃ ds,e2[i]?=some (some (.own (OL ds)))/\ds.length<=999999/\Q' .none (e2.set i (some (.own (OL (ds ++ [y])))))):Ev B (tBM K "list" aex (tVar i) (aco te tNil)) env Q' :=
 ap2 h0 fun σ G H F Q I k=>h σ G H F Q I fun v G' H' F' d e I' g r ⟨ds,h1,h2,q⟩=>k v G' H' F' d e I' g r ⟨_,ds,h1,.inl rfl,h2,q⟩
theorem asj {ds0:List PyData} (h0:Has env i (OL ds0)) (h:Ev B te env fun y e2=>∃ s ds j n d,y=.int j/\e2[i]?=some (some s)/\(s=.own (OL ds)\/s=.io (OL ds))/\-(2 ^ 63)<=j/\j < 2 ^ 63/\seqIndex? j ds.length=some n/\ds[n]?=some d/\Q' d (e2.set i (some (reS s (OL (ds.eraseIdx n)))))):Ev B (tBM K "list" aku (tVar i) (aco te tNil)) env Q':=fun σ G H F Q I k=>by
 obtain ⟨v,hv,a,vs,ea,ha,rs,_⟩:=I.has h0
 subst ea
 refine ⟨_,hv,.inl ⟨rfl,_,SqL.of ha⟩,h σ G H F _ I fun u G2 H2 F2 y e2 I2 g2 r2 ⟨s,ds,j,n,d,ey,es,hs,b1,b2,hn,hd,q⟩=>?_⟩
 subst ey
 cases r2
 have hA:Has e2 i (OL ds):=by rcases hs with rfl | rfl;exact .inl es;exact .inr es
 obtain ⟨v',hv',a',vs',ea',ha',rs',hf⟩:=I2.has hA
 rw [hv] at hv';cases hv';cases ea'
 obtain ⟨w,hw,rw'⟩:=rs'.get hd
 refine arm ha' b1 b2 (by rw [rs'.length];exact hn) hw ?_
 exact k _ G2 _ _ _ _ (I2.upd1 (A':=OL (ds.eraseIdx n)) es hs hv hf ⟨a,_,rfl,aan,rs'.erase n,fun b=>Iff.rfl⟩) g2 rw' q
theorem asl {d:PyData} {ds0:List PyData} (h0:Has env i (OL ds0)) (h:Ev B tk env fun y e2=>∃ s ds k j,y=.int k/\e2[i]?=some (some s)/\(s=.own (OL ds)\/s=.io (OL ds))/\ixN ds.length k=some j/\QE (e2.set i (some (reS s (OL (ds.set j d)))))):EvG B (gSub (tVar i) tk an9) (.st d) env QE:=fun σ G H F v Fv Q I x k=>by
 obtain ⟨rv,_⟩:=x.ok
 obtain ⟨v1,hv,a,vs,ea,ha,rs,_⟩:=I.has h0
 subst ea
 refine ⟨_,hv,h σ G H F _ I fun u G2 H2 F2 y e2 I2 g2 r2 ⟨s,ds,n,j,ey,es,hs,hj,q⟩=>?_⟩
 subst ey
 cases r2
 have hA:Has e2 i (OL ds):=by rcases hs with rfl | rfl;exact .inl es;exact .inr es
 obtain ⟨v',hv',a',vs',ea',ha',rs',hf⟩:=I2.has hA
 rw [hv] at hv';cases hv';cases ea'
 refine am5 ha' (by rw [rs'.length];exact hj) ?_
 exact k _ G2 _ _ _ (I2.upd1 (A':=OL (ds.set j d)) es hs hv hf ⟨a,_,rfl,aan,rs'.set (rv.same g2) j,fun b=>Iff.rfl⟩) g2 q
theorem aim {t:TS} {D':VEnds} {A:Own} {d:PyData} (i:Nat) (e:env[i]?=some (some (.own A))) (f:Frz A d) (h:EvS B t D' (env.set i (some (.st d)))):EvS B t D' env:=fun σ G H F D I r=>by
 obtain ⟨v,hv,rv,g,J⟩:=I.frz e f
 exact h σ _ H _ D J (r.later g)
end
noncomputable def tyD:PyData->String
 | .none => "NoneType" | .bool _ => "bool" | .int _ => "int" | .str _ => "str" | .list _ => "list" | .tuple _ => "tuple" | .dict _ => "dict"
def ad7 (T:String):Prop:=T = "int"\/T = "bool"\/T = "tuple"\/T = "list"\/T = "str"\/T = "dict"
noncomputable def isiD (T:String) (d:PyData):Bool:=tyD d == T || (T == "int" && tyD d == "bool")
theorem ayq {K:Frag} {H:Hp} {v:V} {d:PyData} (r:Rp H v d):TyOf K H v (.type (tyD d)):=by
 cases r with
 | non=>exact .non
 | bl b=>exact .bl b
 | int i=>exact .int i
 | str x=>exact .str x
 | lst h _=>exact .lst h
 | tup h _=>exact .tup h
 | dk h _ _=>exact .dK h
 | dt h _ _=>exact .dT h
theorem ayr {K:Frag} {T:String} (h:ad7 T) (d:PyData):kitOne K (.type (tyD d)) (.type T)=some (isiD T d):=by
 rcases h with rfl | rfl | rfl | rfl | rfl | rfl
 ·cases d with
  | none=>exact agw
  | bool _=>exact ak6
  | int _=>exact ame
  | str _=>exact amg
  | list _=>exact ale
  | tuple _=>exact ajw
  | dict _=>exact alg
 ·cases d with
  | none=>exact agj
  | bool _=>exact ajo
  | int _=>exact ak8
  | str _=>exact alb
  | list _=>exact ajt
  | tuple _=>exact aig
  | dict _=>exact ajy
 ·cases d with
  | none=>exact afz
  | bool _=>exact aie
  | int _=>exact ajr
  | str _=>exact ajs
  | list _=>exact aif
  | tuple _=>exact ahk
  | dict _=>exact aij
 ·cases d with
  | none=>exact agk
  | bool _=>exact ajp
  | int _=>exact ak9
  | str _=>exact alc
  | list _=>exact aju
  | tuple _=>exact aih
  | dict _=>exact ajz
 ·cases d with
  | none=>exact agx
  | bool _=>exact ak7
  | int _=>exact amf
  | str _=>exact amh
  | list _=>exact alf
  | tuple _=>exact ajx
  | dict _=>exact alh
 ·cases d with
  | none=>exact agl
  | bool _=>exact ajq
  | int _=>exact ala
  | str _=>exact ald
  | list _=>exact ajv
  | tuple _=>exact aii
  | dict _=>exact aj0
section
variable {B:Bs} {env:En} {QO:Sl->En->Prop} {Q':PyData->En->Prop} {QT:Bool->En->Prop} {QE:En->Prop} {te ta tb tk:TE} {K:Frag} {i:Nat}
theorem axc {T:String} (hT:ad7 T) (h:Ev B te env fun d e=>Q' (.bool (isiD T d)) e):Ev B (tCB (rIsi K) (aco te (aco (tC (.ty T)) tNil))) env Q':=fun σ G H F Q I k =>
 h σ G H F _ I fun v G1 H1 F1 d e1 I1 g1 r1 q1=>⟨v,T,_,_,rfl,ayq (r1.same I1.gh),ayr hT d,k _ G1 H1 F1 _ e1 I1 g1 (.bl _) q1⟩
theorem axd:ad7 "int":=.inl rfl
theorem au3:ad7 "bool":=.inr (.inl rfl)
theorem asm:ad7 "tuple":=.inr (.inr (.inl rfl))
theorem au4:ad7 "list":=.inr (.inr (.inr (.inl rfl)))
theorem asn {A:Own} {D':VEnds} (e:env[i]?=some (some (.own A))) (q:D'.rt (.own A) (env.set i none)):EvS B (tRet (tVar i)) D' env:=anl (arz e q)
theorem ays {n m:Nat} {P:Prop} (h:n<=m) (q:P):n<=m/\P:=⟨h,q⟩
theorem axe {ds:List PyData} {e2:En} {R:List PyData->Prop} (e:e2[i]?=some (some (.own (OL ds)))) (hl:ds.length<=999999) (q:R ds):∃ ds,e2[i]?=some (some (.own (OL ds)))/\ds.length<=999999/\R ds:=⟨ds,e,hl,q⟩
theorem ayt {ds:List PyData} {d:PyData} {k:Int} {e2:En} {R:PyData->Prop} (hA:Has e2 i (OL ds)) (h:atI ds k=some d) (q:R d):∃ ds k' d,Has e2 i (OL ds)/\PyData.int k=.int k'/\atI ds k'=some d/\R d:=⟨ds,k,d,hA,rfl,h,q⟩
theorem aoo {ds:List PyData} {k:Int} {j:Nat} {e2:En} {R:Sl->List PyData->Nat->Prop} (e:e2[i]?=some (some (.own (OL ds)))) (hj:ixN ds.length k=some j) (q:R (.own (OL ds)) ds j):∃ s ds k' j,PyData.int k=.int k'/\e2[i]?=some (some s)/\(s=.own (OL ds)\/s=.io (OL ds))/\ixN ds.length k'=some j/\R s ds j:=⟨_,ds,k,j,rfl,e,.inl rfl,hj,q⟩
theorem x_st {b:Bool} {R:Bool->Prop} (h:R b):∃ c,Sl.st (.bool b)=.st (.bool c)/\R c:=⟨b,rfl,h⟩
theorem axf {b:Bool} {R:Bool->Prop} (h:R b):∃ k,TruD (.bool b) k/\R k:=⟨b,rfl,h⟩
theorem aso {ds:List PyData} {R:Bool->Prop} (h:R (!ds.isEmpty)):∃ k,TruD (.list ds) k/\R k:=⟨_,rfl,h⟩
theorem lenP {f:VP} {n:Nat} {vs:List V} {H:Hp} {Q:VK} {E:XK} (h:spP K f vs H Q E) (hf:∀ ss Q',f ss Q'->ss.length=n):vs.length=n:=by
 obtain ⟨G,ss,Q',_,_,ao,q,_⟩:=h
 rw [ao.length];exact hf ss Q' q
theorem ayu {P Q:Prop} (h:P) (q:Q):P/\Q:=⟨h,q⟩
theorem ayv {src:List (Option Nat)} {wi:TI} {g:TG} {tif:TT} (nd:(src.filterMap id).Nodup) (h:EvI B wi env fun ds e1=>LcV B.K src g tif te ds e1 fun ys e2=>Q' (.list ys) e2):Ev B (tLC src wi g tif te) env Q':=acg (ap1 nd fun σ G H F R I k=>h σ G H F R I fun J G' H' F' ds e1 I' g' it ⟨Jv,a,b,c,d⟩=>k J G' H' F' ds e1 I' g' it ⟨Jv,a,b,c,fun ys e q=>adh (d ys e q)⟩)
end
end VL
namespace VL
open PySem L2
section
variable {B:Bs} {QE:En->Prop} {Q':PyData->En->Prop} {s:Sl} {r:En} {A:Own} {d:PyData} {x0 x1 x2 x3 x4 x5 x6 x7 x8 x9 x10 x11 x12 x13 x14 x15 x16 x17 x18 x19 x20 x21 x22 x23 x24 x25:Option Sl}
theorem axg (h:QE (x0 :: some s :: r)):EvG B (aay 1) s (x0 :: x1 :: r) QE:=aat h
theorem axh (h:QE (x0 :: x1 :: some s :: r)):EvG B (aay 2) s (x0 :: x1 :: x2 :: r) QE:=aat h
theorem axi (h:QE (x0 :: x1 :: x2 :: some s :: r)):EvG B (aay 3) s (x0 :: x1 :: x2 :: x3 :: r) QE:=aat h
theorem axj (h:QE (x0 :: x1 :: x2 :: x3 :: some s :: r)):EvG B (aay 4) s (x0 :: x1 :: x2 :: x3 :: x4 :: r) QE:=aat h
theorem axk (h:QE (x0 :: x1 :: x2 :: x3 :: x4 :: some s :: r)):EvG B (aay 5) s (x0 :: x1 :: x2 :: x3 :: x4 :: x5 :: r) QE:=aat h
theorem axl (h:QE (x0 :: x1 :: x2 :: x3 :: x4 :: x5 :: some s :: r)):EvG B (aay 6) s (x0 :: x1 :: x2 :: x3 :: x4 :: x5 :: x6 :: r) QE:=aat h
theorem axm (h:QE (x0 :: x1 :: x2 :: x3 :: x4 :: x5 :: x6 :: some s :: r)):EvG B (aay 7) s (x0 :: x1 :: x2 :: x3 :: x4 :: x5 :: x6 :: x7 :: r) QE:=aat h
theorem axn (h:QE (x0 :: x1 :: x2 :: x3 :: x4 :: x5 :: x6 :: x7 :: some s :: r)):EvG B (aay 8) s (x0 :: x1 :: x2 :: x3 :: x4 :: x5 :: x6 :: x7 :: x8 :: r) QE:=aat h
theorem axo (h:QE (x0 :: x1 :: x2 :: x3 :: x4 :: x5 :: x6 :: x7 :: x8 :: some s :: r)):EvG B (aay 9) s (x0 :: x1 :: x2 :: x3 :: x4 :: x5 :: x6 :: x7 :: x8 :: x9 :: r) QE:=aat h
theorem au5 (h:QE (x0 :: x1 :: x2 :: x3 :: x4 :: x5 :: x6 :: x7 :: x8 :: x9 :: some s :: r)):EvG B (aay 10) s (x0 :: x1 :: x2 :: x3 :: x4 :: x5 :: x6 :: x7 :: x8 :: x9 :: x10 :: r) QE:=aat h
theorem au6 (h:QE (x0 :: x1 :: x2 :: x3 :: x4 :: x5 :: x6 :: x7 :: x8 :: x9 :: x10 :: some s :: r)):EvG B (aay 11) s (x0 :: x1 :: x2 :: x3 :: x4 :: x5 :: x6 :: x7 :: x8 :: x9 :: x10 :: x11 :: r) QE:=aat h
theorem au7 (h:QE (x0 :: x1 :: x2 :: x3 :: x4 :: x5 :: x6 :: x7 :: x8 :: x9 :: x10 :: x11 :: some s :: r)):EvG B (aay 12) s (x0 :: x1 :: x2 :: x3 :: x4 :: x5 :: x6 :: x7 :: x8 :: x9 :: x10 :: x11 :: x12 :: r) QE:=aat h
theorem au8 (h:QE (x0 :: x1 :: x2 :: x3 :: x4 :: x5 :: x6 :: x7 :: x8 :: x9 :: x10 :: x11 :: x12 :: some s :: r)):EvG B (aay 13) s (x0 :: x1 :: x2 :: x3 :: x4 :: x5 :: x6 :: x7 :: x8 :: x9 :: x10 :: x11 :: x12 :: x13 :: r) QE:=aat h
theorem au9 (h:QE (x0 :: x1 :: x2 :: x3 :: x4 :: x5 :: x6 :: x7 :: x8 :: x9 :: x10 :: x11 :: x12 :: x13 :: some s :: r)):EvG B (aay 14) s (x0 :: x1 :: x2 :: x3 :: x4 :: x5 :: x6 :: x7 :: x8 :: x9 :: x10 :: x11 :: x12 :: x13 :: x14 :: r) QE:=aat h
theorem ava (h:QE (x0 :: x1 :: x2 :: x3 :: x4 :: x5 :: x6 :: x7 :: x8 :: x9 :: x10 :: x11 :: x12 :: x13 :: x14 :: some s :: r)):EvG B (aay 15) s (x0 :: x1 :: x2 :: x3 :: x4 :: x5 :: x6 :: x7 :: x8 :: x9 :: x10 :: x11 :: x12 :: x13 :: x14 :: x15 :: r) QE:=aat h
theorem avb (h:QE (x0 :: x1 :: x2 :: x3 :: x4 :: x5 :: x6 :: x7 :: x8 :: x9 :: x10 :: x11 :: x12 :: x13 :: x14 :: x15 :: some s :: r)):EvG B (aay 16) s (x0 :: x1 :: x2 :: x3 :: x4 :: x5 :: x6 :: x7 :: x8 :: x9 :: x10 :: x11 :: x12 :: x13 :: x14 :: x15 :: x16 :: r) QE:=aat h
theorem avc (h:QE (x0 :: x1 :: x2 :: x3 :: x4 :: x5 :: x6 :: x7 :: x8 :: x9 :: x10 :: x11 :: x12 :: x13 :: x14 :: x15 :: x16 :: some s :: r)):EvG B (aay 17) s (x0 :: x1 :: x2 :: x3 :: x4 :: x5 :: x6 :: x7 :: x8 :: x9 :: x10 :: x11 :: x12 :: x13 :: x14 :: x15 :: x16 :: x17 :: r) QE:=aat h
end
end VL
namespace Gr
structure Ring (T:Int->Int->Prop) (a:Int) (k:Nat) (far:Int->Option Nat) (edge:List Int):Prop where
 lab:∀ v d,far v=some d ↔ (Dist T a v d/\d<=k)
 edg:∀ v,v∈edge ↔ Dist T a v k
structure Mid (T:Int->Int->Prop) (k:Nat) (far0:Int->Option Nat) (edge:List Int) (done:Int->Prop) (far:Int->Option Nat) (beyond:List Int):Prop where
 old:∀ v d,far0 v=some d->far v=some d
 new:∀ v,v∈beyond ↔ (far0 v=none/\far v ≠ none)
 val:∀ v d,far0 v=none->far v=some d->d=k+1/\∃ u,u∈edge/\T u v
 dn:∀ u w,done u->T u w->far w ≠ none
noncomputable def label (far:Int->Option Nat) (w:Int) (d:Nat):Int->Option Nat:=fun v=>if v=w then some d else far v
theorem label_same {far:Int->Option Nat} {w:Int} {d:Nat}:label far w d w=some d:=if_pos rfl
theorem label_ne {far:Int->Option Nat} {w v:Int} {d:Nat} (h:v ≠ w):label far w d v=far v:=if_neg h
variable {T:Int->Int->Prop} {a:Int} {k:Nat} {far0 far:Int->Option Nat} {edge beyond:List Int} {done:Int->Prop}
theorem Ring.start:Ring T a 0 (label (fun _=>none) a 0) [a]:=by
 refine ⟨fun v d=>?_,fun v=>?_⟩
 ·by_cases h:v=a
  ·subst h
   rw [label_same]
   constructor
   ·intro e;cases e;exact ⟨Dist.self T v,Nat.le_refl _⟩
   ·rintro ⟨h,_⟩;rw [h.uniq (Dist.self T v)]
  ·rw [label_ne h]
   constructor
   ·intro e;cases e
   ·rintro ⟨h1,h2⟩
    have:d=0:=by omega
    subst this
    cases h1.1
    exact absurd rfl h
 ·simp only [List.mem_singleton]
  constructor
  ·rintro rfl;exact Dist.self T v
  ·intro h;cases h.1;rfl
theorem Mid.start:Mid T k far0 edge (fun _=>False) far0 [] :=
 ⟨fun v d h=>h,fun v=>⟨fun h=>by simp at h,fun h=>absurd h.1 h.2⟩,fun v d h g=>(by rw [h] at g;cases g),fun u w h=>h.elim⟩
theorem Mid.add (m:Mid T k far0 edge done far beyond) {u w:Int} (hu:u∈edge) (t:T u w) (hw:far w=none):Mid T k far0 edge done (label far w (k+1)) (beyond ++ [w]):=by
 have h0:far0 w=none:=by
  cases e:far0 w with
  | none=>rfl
  | some d=>rw [m.old w d e] at hw;cases hw
 refine ⟨fun v d h=>?_,fun v=>?_,fun v d h g=>?_,fun x y hx hy=>?_⟩
 ·rw [label_ne (by rintro rfl;rw [h0] at h;cases h)];exact m.old v d h
 ·by_cases hv:v=w
  ·subst hv
   simp [label_same,h0]
  ·rw [label_ne hv]
   simp only [List.mem_append,List.mem_singleton,hv,or_false]
   exact m.new v
 ·by_cases hv:v=w
  ·subst hv
   rw [label_same] at g
   cases g
   exact ⟨rfl,u,hu,t⟩
  ·rw [label_ne hv] at g
   exact m.val v d h g
 ·by_cases hv:y=w
  ·subst hv;rw [label_same];simp
  ·rw [label_ne hv];exact m.dn x y hx hy
theorem Mid.did (m:Mid T k far0 edge done far beyond) {u:Int} (h:∀ w,T u w->far w ≠ none):Mid T k far0 edge (fun x=>done x\/x=u) far beyond :=
 ⟨m.old,m.new,m.val,fun x w hx t=>by rcases hx with hx | rfl;exact m.dn x w hx t;exact h w t⟩
theorem Mid.imp {done':Int->Prop} (m:Mid T k far0 edge done far beyond) (h:∀ u,done' u->done u):Mid T k far0 edge done' far beyond :=
 ⟨m.old,m.new,m.val,fun x w hx t=>m.dn x w (h x hx) t⟩
theorem Ring.next (r:Ring T a k far0 edge) (m:Mid T k far0 edge done far beyond) (hd:∀ u∈edge,done u):Ring T a (k+1) far beyond:=by
 have key:∀ v,far0 v=none->far v ≠ none->Dist T a v (k+1):=fun v h0 h1=>by
  cases e:far v with
  | none=>exact absurd e h1
  | some d =>
   obtain ⟨rfl,u,hu,t⟩:=m.val v d h0 e
   obtain ⟨e',he,h⟩:=((r.edg u).mp hu).next t
   by_cases hk:e'<=k
   ·rw [(r.lab v e').mpr ⟨h,hk⟩] at h0;cases h0
   ·have:e'=k+1:=by omega
    rw [← this];exact h
 have back:∀ v,Dist T a v (k+1)->far0 v=none/\far v ≠ none:=fun v h=>by
  refine ⟨?_,?_⟩
  ·cases e:far0 v with
   | none=>rfl
   | some d =>
    obtain ⟨h1,h2⟩:=(r.lab v d).mp e
    have:=h1.uniq h
    omega
  ·obtain ⟨u,t,hu⟩:=h.pred
   exact m.dn u v (hd u ((r.edg u).mpr hu)) t
 refine ⟨fun v d=>?_,fun v=>⟨fun h=>?_,fun h=>(m.new v).mpr (back v h)⟩⟩
 ·constructor
  ·intro e
   cases e0:far0 v with
   | some d0 =>
    rw [m.old v d0 e0] at e
    cases e
    obtain ⟨h1,h2⟩:=(r.lab v d).mp e0
    exact ⟨h1,by omega⟩
   | none =>
    have hk:=(m.val v d e0 e).1
    subst hk
    exact ⟨key v e0 (by rw [e];simp),Nat.le_refl _⟩
  ·rintro ⟨h,hk⟩
   by_cases hd':d<=k
   ·exact m.old v d ((r.lab v d).mpr ⟨h,hd'⟩)
   ·have e1:d=k+1:=by omega
    subst e1
    obtain ⟨h0,h1⟩:=back v h
    cases e:far v with
    | none=>exact absurd e h1
    | some d=>rw [(m.val v d h0 e).1]
 ·obtain ⟨h0,h1⟩:=(m.new v).mp h
  exact key v h0 h1
theorem Dist.down {v:Int}:∀ {d:Nat},Dist T a v d->∀ j,j<=d->∃ u,Dist T a u j
 | 0,h,j,hj=>⟨v,by rw [show j=0 by omega];exact h⟩
 | d+1,h,j,hj=>by
  by_cases e:j=d+1
  ·rw [e];exact ⟨v,h⟩
  ·obtain ⟨u,_,hu⟩:=h.pred
   exact Dist.down hu j (by omega)
noncomputable def farO (T:Int->Int->Prop) (a v:Int):Option Nat:=open Classical in if h:∃ d,Dist T a v d then some (Classical.choose h) else none
theorem farO_some {v:Int} {d:Nat}:farO T a v=some d ↔ Dist T a v d:=by
 unfold farO
 constructor
 ·intro h
  split at h
  ·rename_i hx
   cases h
   exact Classical.choose_spec hx
  ·cases h
 ·intro h
  have hx:∃ d,Dist T a v d:=⟨d,h⟩
  rw [dif_pos hx,(Classical.choose_spec hx).uniq h]
theorem farO_none {v:Int}:farO T a v=none ↔ ∀ d,¬ Dist T a v d:=by
 constructor
 ·intro h d hd
  rw [farO_some.mpr hd] at h;cases h
 ·intro h
  cases e:farO T a v with
  | none=>rfl
  | some d=>exact absurd (farO_some.mp e) (h d)
theorem ano {v:Int} {o:Option Nat} (h:∀ d,o=some d ↔ Dist T a v d):o=farO T a v:=by
 cases o with
 | some d=>exact (farO_some.mpr ((h d).mp rfl)).symm
 | none=>exact (farO_none.mpr fun d hd=>by cases (h d).mpr hd).symm
theorem Ring.fin (r:Ring T a k far0 []) (v:Int):far0 v=farO T a v:=by
 refine ano fun d=>?_
 rw [r.lab]
 refine ⟨fun h=>h.1,fun h=>⟨h,?_⟩⟩
 apply Classical.byContradiction
 intro hk
 obtain ⟨u,hu⟩:=h.down k (by omega)
 have:=(r.edg u).mpr hu
 simp at this
theorem Walk.app {u v w:Int} {i j:Nat} (h:Walk T u i v) (g:Walk T v j w):Walk T u (i+j) w:=by
 induction g with
 | refl=>exact h
 | step _ t ih=>exact .step ih t
theorem Walk.rev (hs:∀ u v,T u v->T v u) {u v:Int} {i:Nat} (h:Walk T u i v):Walk T v i u:=by
 induction h with
 | refl=>exact .refl
 | @step j x y _ t ih =>
  have:=(Walk.step (T:=T) (u:=y) .refl (hs _ _ t)).app ih
  rw [Nat.add_comm] at this
  exact this
theorem Dist.rev (hs:∀ u v,T u v->T v u) {u v:Int} {d:Nat} (h:Dist T u v d):Dist T v u d:=⟨h.1.rev hs,fun k w=>h.2 k (w.rev hs)⟩
theorem farO_comm (hs:∀ u v,T u v->T v u) (u v:Int):farO T u v=farO T v u:=ano fun d=>by
 rw [farO_some];exact ⟨fun h=>h.rev hs,fun h=>h.rev hs⟩
theorem farO_self:farO T a a=some 0:=farO_some.mpr (Dist.self T a)
theorem Dist.lt {n:Nat} (hT:∀ u v,T u v->0<=v/\v < (n:Int)) (ha:0<=a/\a < (n:Int)) {v:Int} {d:Nat} (h:Dist T a v d):d < n:=by
 -- the places of a shortest way are unlike
 have key:∀ d v,Dist T a v d->∃ l:List Int,l.length=d+1/\l.Nodup/\∀ x∈l,(0<=x/\x < (n:Int))/\∃ j,j<=d/\Dist T a x j:=by
  intro d
  induction d with
  | zero =>
   intro v h
   have:v=a:=by cases h.1;rfl
   subst this
   exact ⟨[v],rfl,by simp,fun x hx=>by simp at hx;subst hx;exact ⟨ha,0,Nat.le_refl _,h⟩⟩
  | succ d ih =>
   intro v h
   obtain ⟨u,t,hu⟩:=h.pred
   obtain ⟨l,h1,h2,h3⟩:=ih u hu
   refine ⟨v :: l,by simp [h1],List.nodup_cons.mpr ⟨fun hm=>?_,h2⟩,fun x hx=>?_⟩
   ·obtain ⟨_,j,hj,hd⟩:=h3 v hm
    have:=hd.uniq h
    omega
   ·rcases List.mem_cons.mp hx with rfl | hx
    ·exact ⟨hT _ _ t,d+1,Nat.le_refl _,h⟩
    ·obtain ⟨q,j,hj,hd⟩:=h3 x hx
     exact ⟨q,j,by omega,hd⟩
 obtain ⟨l,h1,h2,h3⟩:=key d v h
 have few:∀ (n:Nat) (l:List Int),l.Nodup->(∀ v∈l,0<=v/\v < (n:Int))->l.length<=n:=by
  intro n
  induction n with
  | zero =>
   intro l _ h
   cases l with
   | nil=>simp
   | cons v r=>have:=h v (by simp);omega
  | succ n ih =>
   intro l hn h
   have h1:=ih (l.erase (n:Int)) (hn.erase _) fun v hv=>by
    have hm:=List.mem_of_mem_erase hv
    have hb:=h v hm
    have hne:v ≠ (n:Int):=by
     rintro rfl
     exact absurd hv (List.Nodup.not_mem_erase hn)
    omega
   have h2:l.length<=(l.erase (n:Int)).length+1:=by
    rw [List.length_erase]
    split <;> omega
   omega
 have:=few n l h2 fun x hx=>(h3 x hx).1
 omega
end Gr
namespace VL
open PySem PySem.Spec L2
theorem nodup_ix {α:Type} {xs:List α} (h:xs.Nodup) {i j:Nat} (hi:i < xs.length) (hj:j < xs.length) (e:xs[i]=xs[j]):i=j:=by
 have p:=List.pairwise_iff_getElem.mp h
 rcases Nat.lt_trichotomy i j with q | q | q
 ·exact absurd e (p i j hi hj q)
 ·exact q
 ·exact absurd e.symm (p j i hj hi q)
noncomputable def OLL (dss:List (List PyData)):Own where
 P:=fun G H v F=>∃ (a:Addr) (as:List Addr),v=.ref a/\H a=some (.lst (as.map V.ref))/\as.Nodup/\a ∉ as/\as.length=dss.length/\(∀ (i:Nat) b ds,as[i]?=some b->dss[i]?=some ds->∃ vs,H b=some (.lst vs)/\Rps G vs ds)/\∀ b,F b ↔ b=a\/b∈as
 mono:=fun ⟨a,as,e,h,n1,n2,l,r,f⟩ g hh=>⟨a,as,e,hh a _ ((f a).mpr (.inl rfl)) h,n1,n2,l,fun i b ds hb hd=>by
  obtain ⟨vs,h1,h2⟩:=r i b ds hb hd
  exact ⟨vs,hh b _ ((f b).mpr (.inr (List.mem_of_getElem? hb))) h1,h2.same g⟩,f⟩
 dom:=fun ⟨a,as,e,h,n1,n2,l,r,f⟩ b z=>by
  rcases (f b).mp z with rfl | z
  ·exact ⟨_,h⟩
  ·obtain ⟨i,hi,e⟩:=List.mem_iff_getElem.mp z
   have hb:as[i]?=some b:=by rw [List.getElem?_eq_getElem hi,e]
   obtain ⟨vs,h1,_⟩:=r i b _ hb (List.getElem?_eq_getElem (by rw [← l];exact hi))
   exact ⟨_,h1⟩
theorem alr {G:Hp}:∀ {vs:List V} {ds:List PyData},vs.length=ds.length->(∀ (i:Nat) v d,vs[i]?=some v->ds[i]?=some d->Rp G v d)->Rps G vs ds
 | [],[],_,_ => .nil
 | [],_ :: _,h,_=>by simp at h
 | _ :: _,[],h,_=>by simp at h
 | v :: vs,d :: ds,h,k => .cons (k 0 v d rfl rfl) (alr (by simpa using h) fun i v d h1 h2=>k (i+1) v d (by simpa using h1) (by simpa using h2))
theorem ain {dss:List (List PyData)}:Frz (OLL dss) (.list (dss.map .list)):=fun G H v F ⟨a,as,e,h,n1,n2,l,r,f⟩ n g=>by
 subst e
 refine .lst (by rw [ae8 ((f a).mpr (.inl rfl))];exact h) (alr (by simp [l]) fun i u d hu hd=>?_)
 rw [List.getElem?_map] at hu hd
 cases hb:as[i]? with
 | none=>rw [hb] at hu;cases hu
 | some b =>
  cases hds:dss[i]? with
  | none=>rw [hds] at hd;cases hd
  | some ds =>
   rw [hb] at hu;rw [hds] at hd
   cases hu;cases hd
   obtain ⟨vs,h1,h2⟩:=r i b ds hb hds
   exact .lst (by rw [ae8 ((f b).mpr (.inr (List.mem_of_getElem? hb)))];exact h1) (h2.same (abl n))
section
variable {B:Bs} {env:En} {QO:Sl->En->Prop} {Q':PyData->En->Prop} {D':VEnds} {K:Frag} {i:Nat}
theorem axp {dss:List (List PyData)} {R:PyData->Prop} (h:R (.list (dss.map .list))):FQ (.own (OLL dss)) R:=⟨_,ain,h⟩
theorem avd {src:List (Option Nat)} {wi:TI} {j:Nat} (h:EvI B wi env fun ds e1=>ds.length<=1000000/\QO (.own (OLL (List.replicate ds.length []))) e1):EvO B (tLC src wi (aay j) tYes (tLst tNil)) env QO:=fun σ G H F Q I k=>by
 refine h σ G H F _ I fun J G1 H1 F1 ds e1 I1 g1 it ⟨hle,q⟩ acc hacc=>?_
 let W:Nat->List V->Hp->Prop:=fun n ys H=>∃ (as:List Addr) (G2:Hp),ys=as.map V.ref/\as.length=n/\as.Nodup/\acc ∉ as/\(∀ b∈as,H1 b=none/\G2 b=none/\H b=some (.lst []))/\H acc=some (.lst ys)/\G2 acc=none/\Same G1 G2/\Same G2 H/\Same H1 H/\(∀ a o,G2 a=some o->G1 a=some o\/H1 a=none)/\FT G2 H
 refine ⟨fun n m ys σI H=>m=ds.length - n/\n<=ds.length/\W n ys H,⟨ds.length,by simp,Nat.zero_le _,[],G1,rfl,rfl,List.nodup_nil,by simp,fun b hb=>by simp at hb,aan,I1.no_g hacc,Same.refl _,I1.gh.trans (ack hacc),ack hacc,fun a o e => .inl e,fun a ks e=>?_⟩,?_⟩
 ·by_cases z:a=acc
  ·subst z;rw [aan] at e;cases e
  ·rw [aag z] at e;exact I1.ft a ks e
 rintro n m ys σI H2 ⟨rfl,hn,as,G2,rfl,hl,nd,na,all,hac,ga,g2,gh2,hh2,gn2,ft2⟩
 refine ⟨hac,?_⟩
 by_cases hlt:n < ds.length
 ·refine .inr ⟨it.go n G2 H2 g2 gh2 hlt,fun ys' σ' H'=>W (n+1) ys' H',fun ys' σ' H' hw=>⟨ds.length - (n+1),by omega,rfl,hlt,hw⟩,fun x H3 y=>?_⟩
  obtain ⟨G3,o⟩:=it.yld n G2 H2 x H3 _ g2 gh2 ft2 (List.getElem?_eq_getElem hlt) y
  refine am4 (aps (acr (awp (apq ⟨by decide,fun p hp=>?_⟩))))
  have n2:H2 p=none:=acl o.hh hp
  have n1:H1 p=none:=acl hh2 n2
  have pa:p ≠ acc:=(aau (o.hh _ _ hac) hp).symm
  have pas:p ∉ as:=fun z=>by
   have:=o.hh _ _ (all p z).2.2
   rw [this] at hp;cases hp
  refine ⟨by rw [aag pa.symm];exact o.hh _ _ hac,by rw [List.length_map,hl];exact big (by omega),as ++ [p],G3,by simp,by simp [hl],?_,?_,fun b hb=>?_,aan,?_,g2.trans o.gg,fun a u e=>?_,fun a u e=>?_,fun a u e=>?_,fun a ks e=>?_⟩
  ·rw [List.nodup_append]
   exact ⟨nd,by simp,fun x hx y hy=>by simp at hy;subst hy;intro e;subst e;exact pas hx⟩
  ·intro z
   rcases List.mem_append.mp z with z | z
   ·exact na z
   ·exact pa (List.mem_singleton.mp z).symm
  ·have gb:∀ b,G2 b=none->(∃ u,H2 b=some u)->G3 b=none:=fun b h1 z_=>by
    obtain ⟨u,h2⟩:=z_
    cases e:G3 b with
    | none=>rfl
    | some w =>
     rcases o.gn b w e with e | e
     ·rw [h1] at e;cases e
     ·rw [h2] at e;cases e
   rcases List.mem_append.mp hb with hb | hb
   ·obtain ⟨h1,h2,h3⟩:=all b hb
    refine ⟨h1,gb b h2 ⟨_,h3⟩,?_⟩
    rw [aag (fun z:b=acc=>na (by rw [← z];exact hb)),aag (fun z:b=p=>pas (by rw [← z];exact hb))]
    exact o.hh _ _ h3
   ·have e:b=p:=by simpa using hb
    subst e
    exact ⟨n1,acl o.gh hp,by rw [aag pa,aan]⟩
  ·cases e:G3 acc with
   | none=>rfl
   | some w =>
    rcases o.gn acc w e with e | e
    ·rw [ga] at e;cases e
    ·rw [hac] at e;cases e
  ·have ap:a ≠ p:=aau (o.gh a u e) hp
   have aa:a ≠ acc:=by
    rintro rfl
    rcases o.gn _ u e with e | e
    ·rw [ga] at e;cases e
    ·rw [hac] at e;cases e
   rw [aag aa,aag ap];exact o.gh a u e
  ·have ap:a ≠ p:=aau e n1
   have aa:a ≠ acc:=aau e hacc
   rw [aag aa,aag ap];exact o.hh _ _ (hh2 a u e)
  ·rcases o.gn a u e with e | e
   ·exact gn2 a u e
   ·exact .inr (acl hh2 e)
  ·by_cases z:a=acc
   ·subst z;rw [aan] at e;cases e
   ·rw [aag z] at e
    by_cases y:a=p
    ·subst y;rw [aan] at e;cases e
    ·rw [aag y] at e;exact o.ft ft2 a ks e
 ·have e:n=ds.length:=by omega
  subst e
  refine .inl ⟨it.stop _ G2 H2 g2 gh2 rfl,?_⟩
  have I2:=I1.grow g2 gh2 hh2 gn2 ft2
  refine k (.ref acc) G2 H2 F1 (fun b=>b=acc\/b∈as) (.own (OLL (List.replicate ds.length []))) e1 I2 (g1.trans g2) ⟨⟨acc,as,rfl,hac,nd,na,by simp [hl],fun i b ds' hb hd=>?_,fun b=>Iff.rfl⟩,fun b z=>?_,fun b z=>?_,fun b z=>?_,fun j b z y=>?_⟩ q
  ·rw [List.getElem?_replicate] at hd
   split at hd
   ·cases hd;exact ⟨[],(all b (List.mem_of_getElem? hb)).2.2,.nil⟩
   ·cases hd
  ·rcases z with rfl | z
   ·exact I1.no_b hacc
   ·exact I1.no_b (all b z).1
  ·rcases z with rfl | z
   ·exact ga
   ·exact (all b z).2.1
  ·rcases z with rfl | z
   ·exact ⟨_,hac⟩
   ·exact ⟨_,(all b z).2.2⟩
  ·rcases z with rfl | z
   ·exact I1.no_f hacc j y
   ·exact I1.no_f (all b z).1 j y
theorem ahq {dss:List (List PyData)} {l j n:Nat} {k:Int} {y:PyData} {ds:List PyData} (e:env[i]?=some (some (.own (OLL dss)))) (ek:env[l]?=some (some (.st (.int k)))) (ey:env[j]?=some (some (.st y)))
  (hk:ixN dss.length k=some n) (hd:dss[n]?=some ds) (hl:ds.length<=999999) (q:Q' .none (env.set i (some (.own (OLL (dss.set n (ds ++ [y]))))))):Ev B (tBM K "list" aex (tOp (abw K) (tVar i) (tVar l)) (aco (tVar j) tNil)) env Q':=fun σ G H F Q I kk=>by
 obtain ⟨v,hv,⟨a,as,rfl,h,n1,n2,ln,r,f⟩,_⟩:=I.sl i _ e
 obtain ⟨vk,hvk,rk,_⟩:=I.sl l _ ek
 obtain ⟨vy,hvy,ry,_⟩:=I.sl j _ ey
 cases rk
 have hn:n < dss.length:=(List.getElem?_eq_some_iff.mp hd).1
 have hb:as[n]?=some (as[n]'(by omega)):=List.getElem?_eq_getElem _
 generalize as[n]'(by omega)=b at hb
 have hbm:b∈as:=List.mem_of_getElem? hb
 obtain ⟨vs,h1,h2⟩:=r n b ds hb hd
 have hat:atI (as.map V.ref) k=some (.ref b):=by
  unfold atI
  rw [List.length_map,ln,hk]
  simp [hb]
 refine ⟨_,hv,_,hvk,ae7 h hat ⟨.inl ⟨rfl,_,SqL.of h1⟩,_,hvy,afu h1 (by rw [h2.length];exact big (by omega)) ?_⟩⟩
 have hne:a ≠ b:=fun z=>n2 (z ▸ hbm)
 have J:=I.change (A:=OLL (dss.set n (ds ++ [y]))) (H2:=upd H b (.lst (vs ++ [vy]))) (F2:=F i) (os':=.own (OLL (dss.set n (ds ++ [y])))) i e hv (fun c o hc ec=>by rw [aag (fun z:c=b=>hc ((f c).mpr (.inr (by rw [z];exact hbm))))];exact ec)
  (fun c o ec=>by
   by_cases z:c=b
   ·rw [z];exact ⟨_,aan⟩
   ·rw [aag z];exact ⟨o,ec⟩)
  (fun c z=>⟨.inl z,by
   by_cases y:c=b
   ·rw [y];exact ⟨_,aan⟩
   ·rw [aag y];exact I.fo i c z⟩) ?_ (fun c ks e=>by
   by_cases z:c=b
   ·subst z;rw [aan] at e;cases e
   ·rw [aag z] at e;exact I.ft c ks e) (.inl ⟨rfl,_,rfl⟩)
 ·exact kk _ G _ _ _ _ J (Same.refl _) .non q
 ·refine ⟨a,as,rfl,by rw [aag hne];exact h,n1,n2,by simp [ln],fun m c es hc hes=>?_,f⟩
  by_cases hm:m=n
  ·subst hm
   rw [hb] at hc;cases hc
   rw [List.getElem?_set,if_pos rfl,if_pos hn] at hes
   cases hes
   exact ⟨_,aan,h2.append (.cons ry .nil)⟩
  ·rw [List.getElem?_set,if_neg (fun z=>hm z.symm)] at hes
   obtain ⟨us,h3,h4⟩:=r m c es hc hes
   refine ⟨us,?_,h4⟩
   rw [aag]
   ·exact h3
   ·rintro rfl
    have i1:=(List.getElem?_eq_some_iff.mp hb)
    have i2:=(List.getElem?_eq_some_iff.mp hc)
    obtain ⟨l1,e1⟩:=i1
    obtain ⟨l2,e2⟩:=i2
    exact hm (nodup_ix n1 l2 l1 (e2.trans e1.symm))
end
@[reducible] noncomputable def prD (p:Int × Int):PyData:=.tuple [.int p.1,.int p.2]
@[reducible] noncomputable def webD (n:Int) (es:List (Int × Int)):PyData:=.tuple [.int n,.list (es.map prD)]
def Tied (es:List (Int × Int)) (u v:Int):Prop:=(u,v)∈es\/(v,u)∈es
theorem Tied.symm {es:List (Int × Int)} {u v:Int} (h:Tied es u v):Tied es v u:=h.elim .inr .inl
def InN (n:Int) (es:List (Int × Int)):Prop:=∀ p∈es,0<=p.1/\p.1 < n/\0<=p.2/\p.2 < n
theorem Tied.in {n:Int} {es:List (Int × Int)} {u v:Int} (hi:InN n es) (h:Tied es u v):(0<=u/\u < n)/\0<=v/\v < n:=by
 rcases h with h | h
 ·have:=hi _ h;exact ⟨⟨this.1,this.2.1⟩,this.2.2⟩
 ·have:=hi _ h;exact ⟨⟨this.2.2.1,this.2.2.2⟩,this.1,this.2.1⟩
theorem Tied.snoc {es:List (Int × Int)} {i:Nat} {a b:Int} (h:es[i]?=some (a,b)) (u v:Int):Tied (es.take (i+1)) u v ↔ (Tied (es.take i) u v\/(u=a/\v=b))\/(u=b/\v=a):=by
 have e:es.take (i+1)=es.take i ++ [(a,b)]:=by rw [List.take_add_one,h];rfl
 unfold Tied
 rw [e]
 simp only [List.mem_append,List.mem_singleton,Prod.mk.injEq]
 constructor
 ·rintro ((h | ⟨rfl,rfl⟩) | (h | ⟨rfl,rfl⟩))
  ·exact .inl (.inl (.inl h))
  ·exact .inl (.inr ⟨rfl,rfl⟩)
  ·exact .inl (.inl (.inr h))
  ·exact .inr ⟨rfl,rfl⟩
 ·rintro (((h | h) | ⟨rfl,rfl⟩) | ⟨rfl,rfl⟩)
  ·exact .inl (.inl h)
  ·exact .inr (.inl h)
  ·exact .inl (.inr ⟨rfl,rfl⟩)
  ·exact .inr (.inr ⟨rfl,rfl⟩)
def TiedL (n:Int) (T:Int->Int->Prop) (tl:List (List Int)):Prop:=(tl.length:Int)=n/\∀ (i:Nat) ws,tl[i]?=some ws->∀ w,w∈ws ↔ T i w
noncomputable def oD:Option Nat->PyData
 | none => .none
 | some d => .int d
noncomputable def lab (n:Nat) (far:Int->Option Nat):List PyData:=(List.range n).map fun (i:Nat)=>oD (far (i:Int))
theorem act {n:Nat} {far:Int->Option Nat}:(lab n far).length=n:=by simp [lab]
theorem ad8 {n:Nat} {far:Int->Option Nat} {i:Nat} (h:i < n):(lab n far)[i]?=some (oD (far i)):=by
 unfold lab
 rw [List.getElem?_map,List.getElem?_eq_getElem (by simpa using h)]
 simp
theorem als {n:Nat} {far:Int->Option Nat} {v:Int} (h0:0<=v) (h:v < n):atI (lab n far) v=some (oD (far v)):=by
 have:=aga (xs:=lab n far) (j:=v.toNat) (ad8 (by omega))
 rwa [show ((v.toNat:Nat):Int)=v by omega] at this
theorem ahr {n:Nat} {v:Int} (h0:0<=v) (h:v < n):ixN n v=some v.toNat:=by
 unfold ixN;rw [if_pos h0,if_pos h]
theorem anp {n:Nat} {far:Int->Option Nat} {v:Int} {d:Nat} (h0:0<=v) (h:v < n):(lab n far).set v.toNat (.int d)=lab n (Gr.label far v d):=by
 apply List.ext_getElem?
 intro i
 rw [List.getElem?_set]
 by_cases e:v.toNat=i
 ·rw [if_pos e,if_pos (by rw [act];omega),ad8 (by omega)]
  have:(i:Int)=v:=by omega
  rw [this,Gr.label_same];rfl
 ·rw [if_neg e]
  by_cases hi:i < n
  ·rw [ad8 hi,ad8 hi,Gr.label_ne (by omega)]
  ·rw [List.getElem?_eq_none_iff.mpr (by rw [act];omega),List.getElem?_eq_none_iff.mpr (by rw [act];omega)]
theorem ap3 {n:Nat} {f g:Int->Option Nat} (h:∀ v,0<=v->v < (n:Int)->f v=g v):lab n f=lab n g:=by
 unfold lab
 apply List.map_congr_left
 intro i hi
 rw [h i (by omega) (by have:=List.mem_range.mp hi;omega)]
theorem ave {o:Option Nat}:isNone (oD o)=o.isNone:=by cases o <;> rfl
theorem adx {α:Type} {f : α->PyData} {xs:List α} {i:Int} {x : α} (h:atI xs i=some x):atI (xs.map f) i=some (f x):=by
 unfold atI at h ⊢
 rw [List.length_map]
 cases e:ixN xs.length i with
 | none=>rw [e] at h;cases h
 | some j=>rw [e] at h;simp at h ⊢;exact ⟨_,h,rfl⟩
theorem ad3 {α:Type} {xs:List α} {i:Int} {x : α} (h0:0<=i) (h:xs[i.toNat]?=some x):atI xs i=some x:=by
 have:=aga (xs:=xs) (j:=i.toNat) h
 rwa [show ((i.toNat:Nat):Int)=i by omega] at this
@[reducible] noncomputable def tlD (tl:List (List Int)):List (List PyData):=tl.map fun ws=>ws.map .int
theorem TiedL.get {n:Int} {T:Int->Int->Prop} {tl:List (List Int)} (h:TiedL n T tl) {v:Int} (h0:0<=v) (h1:v < n):∃ ws,tl[v.toNat]?=some ws/\∀ w,w∈ws ↔ T v w:=by
 have hl:v.toNat < tl.length:=by have:=h.1;omega
 refine ⟨tl[v.toNat],List.getElem?_eq_getElem hl,fun w=>?_⟩
 rw [h.2 _ _ (List.getElem?_eq_getElem hl) w,show ((v.toNat:Nat):Int)=v by omega]
theorem aio {tl:List (List Int)} {i:Nat} {ws:List Int} (h:tl[i]?=some ws):(tlD tl)[i]?=some (ws.map .int):=by
 rw [List.getElem?_map,h];rfl
theorem TiedL.put {n:Int} {T:Int->Int->Prop} {tl:List (List Int)} (h:TiedL n T tl) {v q:Int} {ws:List Int} (h0:0<=v) (h1:v < n) (hw:tl[v.toNat]?=some ws):TiedL n (fun a b=>T a b\/(a=v/\b=q)) (tl.set v.toNat (ws ++ [q])):=by
 refine ⟨by rw [List.length_set];exact h.1,fun i us hi w=>?_⟩
 rw [List.getElem?_set] at hi
 by_cases e:v.toNat=i
 ·rw [if_pos e] at hi
  have hl:v.toNat < tl.length:=(List.getElem?_eq_some_iff.mp hw).1
  rw [if_pos (by omega)] at hi
  cases hi
  have hv:(i:Int)=v:=by omega
  rw [List.mem_append,List.mem_singleton,h.2 i ws (by rw [← e];exact hw) w,hv]
  simp
 ·rw [if_neg e] at hi
  rw [h.2 i us hi w]
  exact ⟨.inl,fun z=>z.elim id fun z=>by omega⟩
theorem anq {tl:List (List Int)} {i:Nat} {ws:List Int}:(tlD tl).set i (ws.map .int)=tlD (tl.set i ws):=by
 unfold tlD;rw [List.map_set]
theorem TiedL.iff {n:Int} {T T':Int->Int->Prop} {tl:List (List Int)} (h:TiedL n T tl) (e:∀ u v,T u v ↔ T' u v):TiedL n T' tl:=⟨h.1,fun i ws hi w=>(h.2 i ws hi w).trans (e _ _)⟩
end VL
namespace VL
open PySem L2
noncomputable def cnt (far:Int->Option Nat):Nat->Nat
 | 0=>0
 | n+1=>cnt far n+(if far (n:Int)=none then 1 else 0)
theorem afk {far:Int->Option Nat} {w:Int} {d:Nat}:∀ {n:Nat},(w:Int) ≥ n->cnt (Gr.label far w d) n=cnt far n
 | 0,_=>rfl
 | n+1,h=>by
  unfold cnt
  rw [afk (by omega),Gr.label_ne (by omega)]
theorem ajc {far:Int->Option Nat} {w:Int} {d:Nat} (h0:0<=w) (hw:far w=none):∀ {n:Nat},w < (n:Int)->cnt (Gr.label far w d) n+1=cnt far n
 | 0,h=>by omega
 | n+1,h=>by
  unfold cnt
  by_cases e:w=n
  ·subst e
   rw [afk (by omega),Gr.label_same,hw];simp
  ·rw [Gr.label_ne (by omega)]
   have:=ajc h0 hw (n:=n) (d:=d) (by omega)
   omega
theorem avf (n:Nat):(List.replicate n [PyData.none]).flatten=lab n (fun _=>none):=by
 apply List.ext_getElem?
 intro i
 by_cases hi:i < n
 ·rw [ad8 hi]
  have:(List.replicate n [PyData.none]).flatten=List.replicate n PyData.none:=by
   clear hi
   induction n with
   | zero=>rfl
   | succ n ih=>rw [List.replicate_succ,List.flatten_cons,ih,List.replicate_succ];rfl
  rw [this,List.getElem?_replicate,if_pos hi];rfl
 ·rw [List.getElem?_eq_none_iff.mpr (by rw [am1];simp;omega),List.getElem?_eq_none_iff.mpr (by rw [act];omega)]
theorem ami {α:Type} {f : α->PyData} {xs:List α}:(xs.map f).isEmpty=xs.isEmpty:=by cases xs <;> rfl
theorem ady {xs:List Int} {j:Nat} {u w:Int} (hu:xs[j]?=some u) (hm:w∈xs.take (j+1)):w∈xs.take j\/w=u:=by
 rw [List.take_add_one,hu] at hm
 rcases List.mem_append.mp hm with q | q
 ·exact .inl q
 ·exact .inr (by simpa using q)
theorem ap4 {n:Nat} {far:Int->Option Nat}:plainDs (lab n far)=true:=by
 rw [aeu]
 intro d hd
 obtain ⟨i,_,rfl⟩:=List.mem_map.mp hd
 cases far (i:Int) <;> rfl
theorem avg {n:Nat} {far:Int->Option Nat}:((lab n far).any fun z=>PyData.eqv z .none)=true ↔ ∃ v:Int,0<=v/\v < n/\far v=none:=by
 rw [List.any_eq_true]
 constructor
 ·rintro ⟨d,hd,e⟩
  obtain ⟨i,hi,rfl⟩:=List.mem_map.mp hd
  refine ⟨i,by omega,by have:=List.mem_range.mp hi;omega,?_⟩
  cases h:far (i:Int) with
  | none=>rfl
  | some d=>rw [h] at e;simp [oD,PyData.eqv] at e
 ·rintro ⟨v,h0,h1,h⟩
  refine ⟨oD (far v),?_,by rw [h];rfl⟩
  have:=ad8 (far:=far) (show v.toNat < n by omega)
  rw [show ((v.toNat:Nat):Int)=v by omega] at this
  exact List.mem_of_getElem? this
def Joined (n:Int) (es:List (Int × Int)):Prop:=∀ v,0<=v->v < n->∃ d,Gr.Dist (Tied es) 0 v d
end VL
namespace DI
open PySem PySem.W
def Raw (h:Heap) (d:Addr) (es:Array DictEntry) (ep:Nat):Prop:=∃ o,h.get? d=some o/\o.ExactDict/\o.data=.dict es ep
theorem Raw.keep {h h':Heap} {d:Addr} {es:Array DictEntry} {ep:Nat} (r:Raw h d es ep) (k:∀ o,h.get? d=some o->h'.get? d=some o):Raw h' d es ep:=let ⟨o,e,x⟩:=r;⟨o,k o e,x⟩
theorem Raw.ty {s:Shared} {d:Addr} {es:Array DictEntry} {ep:Nat} (r:Raw s.heap d es ep):s.TypeIs (.ref d) "dict":=let ⟨o,e,x,_⟩:=r;⟨o,e,x.1⟩
section
variable {prog:Program} {w:World} {A:Around} {E:Value->Shared->Prop} {s:Shared} {d it:Addr} {es:Array DictEntry} {ep i:Nat}
theorem raw_iter {Q:Value->Shared->Prop} (hd:(d == sysModules)=false) (r:Raw s.heap d es ep)
  (hQ:Q (.ref s.heap.objs.size) { s with heap:=s.heap.push { cls:=.type "dict_keyiterator",data:=.fields #[.ref d,.int 0 0,.int es.size 0,.int ep 0] } }):wpAny (model prog w) A (pyIter (.ref d)) Q E s:=by
 obtain ⟨o,ho,hx,hdat⟩:=id r
 refine wpAny_pyIter_slot r.ty PySem.F.slot_dict_iter (wpAny_call_entry PySem.F.slot_dict_iter r.ty PySem.F.entry_dict_iter ?body (PySem.F.args_dict_iter_1 _))
 case body =>
  unfold Builtin.«dict.__iter__»
  refine wpAny_bind ?slot
  case slot =>
   unfold Builtin.Dict.dictSlotNone
   refine wpAny_bind (wpAny_notOrdered_dict r.ty ?pl)
   case pl =>
    show wpAny _ _ (pure (Value.ref d)) _ _ s
    refine wpAny_pure ?rest
    case rest =>
     show wpAny _ _ (Builtin.Dict.showsAll d >>= _) _ _ s
     unfold Builtin.Dict.showsAll
     rw [if_neg (by rw [hd];exact Bool.false_ne_true)]
     refine wpAny_bind (wpAny_pure (wpAny_bind (wpAny_dictEntries ho hdat (wpAny_bind (wpAny_dictEpoch ho hdat (wpAny_bind (wpAny_newObj_type (wpAny_pure ⟨_,rfl,"dict_keyiterator",_,⟨_,Heap.get?_push_size _ rfl,rfl⟩,PySem.F.slot_dict_keyiterator_next.lookup,?fin⟩))))))))
     case fin=>simpa [rawInt] using hQ
theorem raw_item {Q:Option Value->Shared->Prop} (hit:s.heap.IsKeyIter it d i es.size ep) (r:Raw s.heap d es ep) (hi:i < es.size)
  (hQ:∀ h',h'.IsKeyIter it d (i+1) es.size ep->Heap.SameBut it s.heap h'->Q (some es[i].key) { s with heap:=h' }):wpAny (model prog w) A (pyNext (.ref it)) Q E s:=by
 obtain ⟨o,ho,hc,hd⟩:=id hit
 obtain ⟨od,hod,hcd,hdd⟩:=r
 unfold pyNext
 refine wpAny_bind (wpAny_attempt (wpAny_callSpecial?_slot (name:=Str.ofString "__next__") hit.typeIs PySem.F.slot_dict_keyiterator_next (wpAny_call_entry PySem.F.slot_dict_keyiterator_next hit.typeIs PySem.F.entry_dict_keyiterator_next ?b (PySem.F.args_dict_keyiterator_next_1 _))))
 case b =>
  refine wpAny_bind (wpAny_pure (wpAny_bind (wpAny_bind ?c)))
  case c =>
   first | refine wpAny_bind (wpAny_typeNameOfWhole_keyiter hit.typeIs (wpAny_pure (wpAny_bind (wpAny_fieldsOf ho hd ?e)))) | refine wpAny_bind (wpAny_typeNameOf_keyiter hit.typeIs (wpAny_pure (wpAny_bind (wpAny_fieldsOf ho hd ?e))))
   case e =>
    simp only [show Builtin.Dict_items.ownsTuple "dict_keyiterator" = false by decide,Bool.false_eq_true,if_false]
    show wpAny _ _ (if (Value.ref d == Value.none)=true then _ else _) _ _ s;rw [if_neg (show ¬ ((Value.ref d == Value.none)=true) from Bool.false_ne_true)]
    refine wpAny_bind (wpAny_pure (wpAny_bind (wpAny_dictEntries hod hdd ?f)))
    case f =>
     rw [if_neg (by simp)];refine wpAny_bind (wpAny_pure (wpAny_bind (wpAny_dictEpoch hod hdd ?g)))
     case g =>
      rw [if_neg (by simp)];refine wpAny_pure ?h
      case h =>
       simp only [show ¬ ((i:Int) < 0) by omega,if_false,Int.toNat_natCast,Array.getElem?_eq_getElem hi];refine wpAny_bind ?j
       case j =>
        first | refine wpAny_bind (wpAny_typeNameOfWhole_keyiter hit.typeIs (wpAny_pure (wpAny_bind (wpAny_isOneOf_keyiter hit.typeIs ?k)))) | refine wpAny_bind (wpAny_typeNameOf_keyiter hit.typeIs (wpAny_pure (wpAny_bind (wpAny_isOneOf_keyiter hit.typeIs ?k))))
        case k =>
         show wpAny _ _ (setField (.ref it) 1 (rawInt ((i:Int)+1)) >>= _) _ _ s;refine wpAny_bind (wpAny_setField ho hd (by simp) ?l)
         case l =>
          have nx:(s.heap.update it (Obj.mapFields (·.setIfInBounds 1 (rawInt ((i:Int)+1))))).IsKeyIter it d (i+1) es.size ep:=⟨_,Heap.get?_update_self _ ho (Obj.isFreed_of_fields (Obj.data_mapFields hd _)),(Obj.cls_mapFields ..).trans hc,by rw [Obj.data_mapFields hd];simp [rawInt]⟩
          refine wpAny_bind (wpAny_holding (wpAny_bind (wpAny_isOneOf_keyiter (s:={ s with heap:=s.heap.update it (Obj.mapFields (·.setIfInBounds 1 (rawInt ((i:Int)+1)))) }) nx.typeIs ?m)))
          case m=>show wpAny _ _ (pure es[i].key) _ _ _;exact wpAny_pure (wpAny_pure ⟨_,rfl,wpAny_pure (hQ _ nx (Heap.SameBut.update ..))⟩)
theorem raw_end {Q:Option Value->Shared->Prop} (hh:A.handled=none) (hit:s.heap.IsKeyIter it d es.size es.size ep) (r:Raw s.heap d es ep) (hQ:∀ h',Heap.ExtBut it s.heap h'->Q none { s with heap:=h' }):wpAny (model prog w) A (pyNext (.ref it)) Q E s:=by
 obtain ⟨o,ho,hc,hd⟩:=id hit
 obtain ⟨od,hod,hcd,hdd⟩:=r
 unfold pyNext
 refine wpAny_bind (wpAny_attempt (wpAny_callSpecial?_slot (name:=Str.ofString "__next__") hit.typeIs PySem.F.slot_dict_keyiterator_next (wpAny_call_entry PySem.F.slot_dict_keyiterator_next hit.typeIs PySem.F.entry_dict_keyiterator_next ?b (PySem.F.args_dict_keyiterator_next_1 _))))
 case b =>
  refine wpAny_bind (wpAny_pure (wpAny_bind (wpAny_bind ?c)))
  case c =>
   first | refine wpAny_bind (wpAny_typeNameOfWhole_keyiter hit.typeIs (wpAny_pure (wpAny_bind (wpAny_fieldsOf ho hd ?e)))) | refine wpAny_bind (wpAny_typeNameOf_keyiter hit.typeIs (wpAny_pure (wpAny_bind (wpAny_fieldsOf ho hd ?e))))
   case e =>
    simp only [show Builtin.Dict_items.ownsTuple "dict_keyiterator" = false by decide,Bool.false_eq_true,if_false]
    show wpAny _ _ (if (Value.ref d == Value.none)=true then _ else _) _ _ s;rw [if_neg (show ¬ ((Value.ref d == Value.none)=true) from Bool.false_ne_true)]
    refine wpAny_bind (wpAny_pure (wpAny_bind (wpAny_dictEntries hod hdd ?f)))
    case f =>
     rw [if_neg (by simp)];refine wpAny_bind (wpAny_pure (wpAny_bind (wpAny_dictEpoch hod hdd ?g)))
     case g =>
      rw [if_neg (by simp)];refine wpAny_pure ?h
      case h =>
       simp only [show ¬ ((es.size:Int) < 0) by omega,if_false,Int.toNat_natCast,Array.getElem?_eq_none (Nat.le_refl es.size)];refine wpAny_bind ?j
       case j =>
        first | refine wpAny_bind (wpAny_typeNameOfWhole_keyiter hit.typeIs (wpAny_pure ?k)) | refine wpAny_bind (wpAny_typeNameOf_keyiter hit.typeIs (wpAny_pure ?k))
        case k =>
         show wpAny _ _ (setField (.ref it) 0 .none >>= _) _ _ s;refine wpAny_bind (wpAny_setField ho hd (by simp) ?l)
         case l =>
          show wpAny _ _ (newExc (.type "StopIteration") [] >>= _) _ _ _;refine wpAny_bind ?m
          case m =>
           simp only [newExc,newTuple];refine wpAny_bind (wpAny_newObj_type ?zz2 (by size_fits))
           case zz2 =>
            refine wpAny_bind (m:=firstArgMember _ _) (wpAny_of_eq (a:=Value.none) (by first | rfl | (simp only [firstArgMember];rfl)) (wpAny_newObj_type ?zz1 (by size_fits)))
            case zz1 =>
             simp only [raiseNew];refine wpAny_bind (wpAny_handled ?q)
             case q =>
              rw [show A.in1.handled=none from hh];refine wpAny_bind (wpAny_pure (wpAny_throw ?u1))
              case u1=>refine wpAny_bind (wpAny_isInstance (T:="StopIteration") (b:=true) ⟨_,Heap.get?_push_size _ rfl,rfl⟩ isSubtype_stop ?u2);exact wpAny_pure (hQ _ (((Heap.SameBut.update ..).extBut.push _).push _))
end
theorem walks {prog:Program} {w:World} {A:Around} (hh:A.handled=none) (I d:Addr) (hne:d ≠ I) (es:Array DictEntry) (ep:Nat) :
  Walks prog w A I [I,d] [I] es.size (fun i v=>(es[i]?).map (·.key)=some v) (fun i h=>h.IsKeyIter I d i es.size ep/\Raw h d es ep) where
 sub:=fun b hb=>by simp at hb;simp [hb]
 frame:=fun _ _ _ st hk=>⟨st.1.at fun o e=>hk I (by simp) o e,st.2.keep fun o e=>hk d (by simp) o e⟩
 item:=fun i s Q E hi st hQ=>raw_item st.1 st.2 hi fun h' nx sb=>hQ _ h' s.toks (by rw [Array.getElem?_eq_getElem hi];rfl) ⟨nx,st.2.keep fun o e=>sb.extBut d o hne e⟩ fun b o hb e=>sb.extBut b o (fun z=>hb (by simp [z])) e
 done:=fun s Q E st hQ=>raw_end hh st.1 st.2 fun h' eb=>hQ h' s.toks fun b o hb e=>eb b o (fun z=>hb (by simp [z])) e
 self:=fun _ _ _ _ st hQ=>wpAny_pyIter_keyiter st.1 hQ
end DI
namespace DI
open PySem PySem.W PyProof.Rows
section
variable {prog:Program} {w:World} {A:Around} {E:Value->Shared->Prop} {s:Shared}
theorem src (d:Addr) (es:Array DictEntry) (ep:Nat) (hd:(d == sysModules)=false):KdlSrc prog w "dict" d d es.size (fun i v=>(es[i]?).map (·.key)=some v) (fun h=>Raw h d es ep) where
 type:=fun s r=>r.ty
 there:=fun h r=>let ⟨o,e,_⟩:=r;⟨Heap.lt_size e,Heap.lt_size e⟩
 keep:=fun h h' r k=>r.keep fun o e=>k d (.inl rfl) o e
 notList:=by decide
 notTuple:=by decide
 hint:=fun A E s Q r q=>kdl_hint_dict r.ty q
 iter:=fun A s hh r=>⟨{ cls:=.type "dict_keyiterator",data:=.fields #[.ref d,.int 0 0,.int es.size 0,.int ep 0] },fun i h=>h.IsKeyIter s.heap.objs.size d i es.size ep/\Raw h d es ep,fun E Q q=>raw_iter hd r q,
  walks hh s.heap.objs.size d (by obtain ⟨o,e,_⟩:=r;exact Nat.ne_of_lt (Heap.lt_size e)) es ep,⟨_,Heap.get?_push_size _ rfl,rfl,rfl⟩,r.keep fun o e=>Heap.get?_push_of_some _ e⟩
end
end DI
namespace TS
open PySem PySem.W PyProof.Rows
section
variable {prog:Program} {w:World} {A:Around} {E:Value->Shared->Prop} {s:Shared}
end
end TS
namespace L2
open PySem PySem.Spec PyProof.Rows
section
variable {X:Cx} {pins:List (Addr × Obj)} {σ:St} {H:Hp} {s:Shared} {h':Heap}
theorem Inv.turnNew {t':Nat} {ch:List Addr} {T:Addr} {o:HO} (I:Inv X pins σ H s) (f:∀ b∈ch,FpOk X pins H b) (k:∀ b u,b ∉ ch->s.heap.get? b=some u->h'.get? b=some u) (hT:s.heap.objs.size<=T) (new:ObjOk X.prog X.w (upd H T o) h' T o) :
  Inv X pins σ (upd H T o) { s with heap:=h',toks:=t' }:=by
 have hn:H T=none:=I.hok.fresh hT
 have nch:∀ b u,H b=some u->b ∉ ch:=fun b u e z=>by rw [(f b z).1] at e;cases e
 refine I.step (g':=s.gens) (d':=s.drawn) (ch:=ch) (fun b hb=>⟨(f b hb).2.2.2.1,(f b hb).2.1,(f b hb).2.2.2.2.1,(f b hb).2.2.2.2.2⟩) (fun b u _ _ hc e _=>k b u hc e) (fun b u _ _ hc e _=>⟨u.slots,k b u hc e⟩)
  (fun b u _ e n=>by rw [aag (Nat.ne_of_lt (Nat.lt_of_lt_of_le (Heap.lt_size e) hT))];exact n) (fun b u hc e=>⟨u,k b u hc e⟩) (fun b xs e=>by rw [aag (aau e hn)];exact e) (fun b u v e=>by rw [aag (aau e hn)];exact e)
  (fun b ps e=>⟨#[],by rw [aag (aau e hn),e];simp⟩) (fun m hm=>?_) (fun b u e=>?_) I.bare
 ·obtain ⟨u,es,ep,ho,r⟩:=hm
  exact ⟨u,es,ep,k _ u (fun z=>(f _ z).2.1 rfl) ho,r⟩
 ·by_cases hb:b=T
  ·subst hb;rw [aan] at e;cases e;exact new
  ·rw [aag hb] at e
   refine (I.hok b u e).stay (fun c v hc q=>k c v ?_ q) (fun c q=>by rw [aag (aau q hn)];exact q) fun c xs q=>by rw [aag (aau q hn)];exact q
   rcases hc with z | z
   ·rw [z];exact nch b u e
   ·exact nch c _ z
theorem Inv.turnedL {t':Nat} {ch:List Addr} (I:Inv X pins σ H s) (f:∀ b∈ch,FpOk X pins H b) (k:∀ b u,b ∉ ch->s.heap.get? b=some u->h'.get? b=some u):Inv X pins σ H { s with heap:=h',toks:=t' }:=by
 have nch:∀ b u,H b=some u->b ∉ ch:=fun b u e z=>by rw [(f b z).1] at e;cases e
 refine I.step (g':=s.gens) (d':=s.drawn) (ch:=ch) (fun b hb=>⟨(f b hb).2.2.2.1,(f b hb).2.1,(f b hb).2.2.2.2.1,(f b hb).2.2.2.2.2⟩) (fun b u _ _ hc e _=>k b u hc e) (fun b u _ _ hc e _=>⟨u.slots,k b u hc e⟩) (fun _ _ _ _ n=>n)
  (fun b u hc e=>⟨u,k b u hc e⟩) (fun _ _ e=>e) (fun _ _ _ e=>e) (fun b ps e=>⟨#[],by rw [e];simp⟩) (fun m hm=>?_) (fun b u e=>?_) I.bare
 ·obtain ⟨u,es,ep,ho,r⟩:=hm
  exact ⟨u,es,ep,k _ u (fun z=>(f _ z).2.1 rfl) ho,r⟩
 ·refine (I.hok b u e).stay (fun c v hc q=>k c v ?_ q) (fun _ q=>q) fun _ _ q=>q
  rcases hc with z | z
  ·rw [z];exact nch b u e
  ·exact nch c _ z
end
noncomputable def Ite (K:Frag) (a:Addr):It :=
 ⟨fun i H=>∃ xs x,SqL K H a xs/\xs[i]?=some x,fun i H x H'=>∃ p y,x=.ref p/\H p=none/\H'=upd H p (.tup [.int i,y])/\∀ xs,SqL K H a xs->xs[i]?=some y,fun i H=>∃ xs,SqL K H a xs/\xs.length<=i⟩
theorem ap5 {P:Program} {w:World} {K:Frag} {elts:List Expr} {k:Nat} {pos:Pos} (a e it:Addr) (hei:e ≠ it) (hae:a ≠ e) (hai:a ≠ it) :
  Turn P w K (.Tuple elts k pos) (Ite K a) [e,it] e (fun i h=>(∃ old,IsEnum h e it i old)/\h.IsListIter it a i) where
 mem:=by simp
 obj:=fun i h st b hb=>by
  obtain ⟨⟨old,he⟩,o,e1,c,d⟩:=st
  rcases List.mem_cons.mp hb with rfl | hb
  ·exact ⟨_,he,fun v z=>by simp at z⟩
  ·have:b=it:=by simpa using hb
   subst this
   exact ⟨o,e1,fun v z=>by rw [d] at z;cases z⟩
 keep:=fun i h h' st q=>⟨let ⟨old,he⟩:=st.1;⟨old,q e (by simp) _ he⟩,st.2.at fun o x=>q it (by simp) o x⟩
 item:=by
  intro X hP hw hK hc i pins s σ H E I hf st hg
  subst hP hw hK
  obtain ⟨xs,x,hq,hx⟩:=hg
  obtain ⟨its,rv,p,hz⟩:=I.list hq
  obtain ⟨u,hu,ru⟩:=rv.get hx
  have hi:i < its.toArray.size:=by simpa using (List.getElem?_eq_some_iff.mp hu).1
  have W:=WalksT.enumerate (prog:=X.prog) (w:=X.w) (I.ok.hd hc) e it a hei hae hai its.toArray
  refine W.item i s _ _ hi ⟨st.1,st.2,p.isList⟩ fun T vals h1 tk hP hT isT mid kk=>⟨_,rfl,?_⟩
  obtain ⟨t,y,hy,rfl⟩:=hP
  have ey:y=u:=by
   have:its[i]?=some y:=by simpa using hy
   rw [hu] at this;cases this;rfl
  subst ey
  have aT:=W.apart i T _ mid
  refine W.go elts k pos i T { s with heap:=h1,toks:=tk } _ _ mid fun h2 st2 k2=>?_
  have isT2:IsTup h2 T #[.int i t,y]:=by
   obtain ⟨o,e1,e2,n,e3⟩:=isT
   exact ⟨o,k2 T o aT e1,e2,n,e3⟩
  refine ⟨.ref T,upd H T (.tup [.int i,x]),I.turnNew hf (fun b o hb q=>k2 b o hb (kk b o hb q)) hT ?_,rfl,⟨T,x,rfl,I.hok.fresh hT,rfl,fun ys hy=>by rw [I.list_inj hy hq];exact hx⟩,⟨?_,st2.2.1⟩,fun b hb=>?_⟩
  ·exact ⟨by show (2:Nat)<=sizeLine;decide,[.int i t,y],.cons ⟨t,rfl⟩ (.cons ru .nil),isT2⟩
  ·obtain ⟨old,q⟩:=st2.1
   exact ⟨old,by simpa using q⟩
  ·rw [aag]
   ·exact (hf b hb).1
   ·rintro rfl;exact aT hb
 done:=by
  intro X hP hw hK hc i pins s σ H E I hf st hg
  subst hP hw hK
  obtain ⟨xs,hq,hx⟩:=hg
  obtain ⟨its,rv,p,hz⟩:=I.list hq
  obtain ⟨⟨old,he⟩,hit⟩:=st
  have hl:=rv.length
  exact wpAny_pyNext_enum_end (I.ok.hd hc) he hit p.isList (by simp;omega) fun h2 eb=>⟨rfl,I.turnedL (t':=s.toks) hf fun b o hb q=>eb b o (fun z=>hb (by simp [z])) q⟩
 self:=fun A i s Q E st h=>by
  obtain ⟨⟨old,he⟩,_⟩:=st
  exact wpAny_pyIter_enum he h
section
variable {X:Cx} {elts:List Expr} {k:Nat} {tpos:Pos}
def atu (K:Frag) (ta:TA):TI:=fun σ H R=>ta σ H fun vs H1=>∃ a xs,vs=[.ref a]/\SqL K H1 a xs/\R (Ite K a) H1
theorem avh {a:Expr} {ta:TA} {p pos:Pos} (hg:Gl X "enumerate") (hm:X.mg "enumerate" = none) (ha:PA X [a] ta) (hs:starEach [a] X.env=[(false,eval a X.env)]:=by rfl):PI X (.Tuple elts k tpos) (.Call (.Name "enumerate" p) [a] [] pos) (atu X.K ta):=by
 intro pins s σ H R I h
 refine Call_ (acu I hg hm ak1 (PyProof.Rows.callWith_type1 (thn (ha pos pins s σ H _ I h) fun us s1 ⟨vs,H1,I1,r1,a,xs,ev,hq,q⟩=>?_) hs rfl))
 subst ev
 obtain ⟨u,rfl,ru⟩:=adc r1
 cases ru
 obtain ⟨its,rv,pl,hz⟩:=I1.list hq
 refine call_enumerate_list pl.isList fun h2 he hit hsz kp=>?_
 have hlt:a < s1.heap.objs.size:=by obtain ⟨o,n,e,_⟩:=pl;exact Heap.lt_size e
 refine wpAny_pyIter_enum he ⟨s1.heap.objs.size+1,[s1.heap.objs.size+1,s1.heap.objs.size],_,_,H1,rfl,I1.kept (t':=s1.toks) kp,ap5 a _ _ (Nat.succ_ne_self _) (Nat.ne_of_lt (Nat.lt_succ_of_lt hlt)) (Nat.ne_of_lt hlt),⟨⟨_,he⟩,hit⟩,fun b hb=>?_,q⟩
 have hb':s1.heap.objs.size<=b:=by
  rcases List.mem_cons.mp hb with rfl | hb
  ·exact Nat.le_succ _
  ·have:b=s1.heap.objs.size:=by simpa using hb
   exact Nat.le_of_eq this.symm
 exact I1.fpOk hb' (I1.hok.fresh hb')
end
section
variable {X:Cx} {elts:List Expr} {k:Nat} {tpos:Pos}
end
theorem anr:∀ {xs:List V} {us:List Value},xs.length=us.length->(∀ (i:Nat) v u,xs[i]?=some v->us[i]?=some u->RelV v u)->Vals xs us
 | [],[],_,_ => .nil
 | [],_ :: _,h,_=>by simp at h
 | _ :: _,[],h,_=>by simp at h
 | x :: xs,u :: us,h,k => .cons (k 0 x u rfl rfl) (anr (by simpa using h) fun i v w h1 h2=>k (i+1) v w (by simpa using h1) (by simpa using h2))
theorem axq:bootBuiltins "abs" = some (.builtin "abs"):=by decide +kernel
theorem amj (prog:Program) (w:World) (A:Around) {bs:List Bool} {us:List Value} (r:Vals (bs.map V.bl) us):TruthOf prog w A (fun i v=>us.toArray[i]?=some v) (fun i=>bs.getD i false):=by
 intro i v s Q E hP h
 have hv:us[i]?=some v:=by simpa using hP
 have hi:i < us.length:=(List.getElem?_eq_some_iff.mp hv).1
 have hb:i < bs.length:=by have:=r.length;simp at this;omega
 obtain ⟨u,hu,ru⟩:=r.get (i:=i) (x:=.bl bs[i]) (by simp [hb])
 rw [hv] at hu;cases hu
 cases (show v=Value.bool bs[i] from ru)
 have e:bs.getD i false=bs[i]:=by simp [List.getD,hb]
 have h':Q (bs.getD i false) s:=h
 rw [e] at h'
 exact wpAny_truthy_bool h'
section
variable {X:Cx}
theorem ap6 (bs:List Bool):((List.range bs.length).all fun i=>bs.getD i false)=bs.all id:=by
 rw [Bool.eq_iff_iff,List.all_eq_true,List.all_eq_true]
 constructor
 ·intro h b hb
  obtain ⟨i,hi,e⟩:=List.mem_iff_getElem.mp hb
  have:=h i (List.mem_range.mpr hi)
  simp [List.getD,hi,e] at this
  exact this
 ·intro h i hi
  have hi':=List.mem_range.mp hi
  have:=h bs[i] (List.getElem_mem hi')
  simp [List.getD,hi'];exact this
def rAll (K:Frag):List V->Hp->VK->Prop:=fun xs H Q=>∃ (a:Addr) (bs:List Bool),xs=[.ref a]/\SqL K H a (bs.map V.bl)/\Q (.bl (bs.all id)) H
theorem ada (hc:X.calm=true):abg X (.builtin "all") (rAll X.K):=by
 intro pins s σ H xs us Q I r h
 obtain ⟨a,bs,rfl,ha,q⟩:=h
 obtain ⟨u,rfl,ru⟩:=adc r
 cases ru
 obtain ⟨its,r1,p1,_⟩:=I.list ha
 have hl:a < s.heap.objs.size:=by obtain ⟨o,n,e,_⟩:=p1;exact Heap.lt_size e
 have hz:its.toArray.size=bs.length:=by have:=r1.length;simp at this;simp [this]
 refine call_all_walk (wpAny_pyIter_list p1.isList ⟨_,[s.heap.objs.size,a],_,_,_,_,_,rfl,Walks.list (A:=X.A.in1) (I.ok.hd hc) _ a (Nat.ne_of_lt hl) its.toArray,⟨⟨_,Heap.get?_push_size _ rfl,rfl,rfl⟩,p1.isList.push _⟩,amj _ _ _ r1,fun h2 tk kp=>?_⟩)
 rw [hz,ap6]
 refine ⟨.bl _,H,I.kept fun b o e=>kp b o (fun z=>?_) (Heap.get?_push_of_some _ e),rfl,q⟩
 exact absurd (Heap.lt_size e) (by rw [List.mem_singleton.mp z];exact Nat.lt_irrefl _)
def rAbs:List V->Hp->VK->Prop:=fun xs H Q=>∃ i:Int,xs=[.int i]/\Q (.int (if i < 0 then -i else i)) H
theorem ap7:abg X (.builtin "abs") rAbs:=by
 intro pins s σ H xs us Q I r h
 obtain ⟨i,rfl,q⟩:=h
 obtain ⟨u,rfl,t,rfl⟩:=adc r
 exact call_abs_int fun t' tk=>⟨.int _,H,I.tok _,⟨_,rfl⟩,q⟩
def ap8 (ta:TA):TE:=fun σ H Q=>ta σ H fun vs H1=>∃ j:Int,vs=[.int j]/\0<=j/\j<=1000000/\∀ l,H1 l=none->Q (.ref l) (upd H1 l (.lst ((List.range j.toNat).map fun (i:Nat)=>V.int (i:Int))))
theorem alt {a:Expr} {ta:TA} {p1 p2 pos pos2:Pos} (hg:Gl X "list") (hm:X.mg "list" = none) (hg2:Gl X "range") (hm2:X.mg "range" = none) (hc:X.calm=true) (ha:PA X [a] ta) (hs:starEach [a] X.env=[(false,eval a X.env)]:=by rfl)
  (hs2:starEach [.Call (.Name "range" p2) [a] [] pos2] X.env=[(false,eval (.Call (.Name "range" p2) [a] [] pos2) X.env)]:=by rfl):PE X (.Call (.Name "list" p1) [.Call (.Name "range" p2) [a] [] pos2] [] pos) (ap8 ta):=by
 intro pins s σ H Q I h
 refine Call_ (acu I hg hm ah7 (PyProof.Rows.callWith_type1 ?_ hs2 rfl))
 rw [hs2]
 refine Calls.spliced_cons (Call_ (acu I hg2 hm2 boot_range (PyProof.Rows.callWith_type1 (thn (ha pos2 pins s σ H _ I h) fun us s1 ⟨vs,H1,I1,r1,j,ev,j0,j1,q⟩=>?_) hs rfl)))
 subst ev
 obtain ⟨u,rfl,t,rfl⟩:=adc r1
 refine call_range_1 (Calls.spliced_nil ?_)
 have hr:IsRange (s1.heap.push { cls:=.type "range",data:=.fields #[.int 0 s1.toks,.int j t,.int 1 (s1.toks+1)] }) s1.heap.objs.size 0 j 1 s1.toks t (s1.toks+1):=Heap.get?_push_size _ rfl
 have hn:Builtin.Range.rangeSize 0 j 1=((j.toNat:Nat):Int):=by rw [rangeSize_one];split <;> omega
 refine call_list_range (s:={ s1 with heap:=s1.heap.push { cls:=.type "range",data:=.fields #[.int 0 s1.toks,.int j t,.int 1 (s1.toks+1)] },toks:=s1.toks+1+1 }) (I1.ok.hd hc) hr (small_one (by omega) (by omega) (by omega) (by omega)) hn (by omega) fun h2 tk acc c kp hS items=>?_
 have k2:∀ b o,s1.heap.get? b=some o->h2.get? b=some o:=fun b o e=>kp b o (Heap.get?_push_of_some _ e)
 have hfree:s1.heap.objs.size<=(s1.heap.push { cls:=.type "range",data:=.fields #[.int 0 s1.toks,.int j t,.int 1 (s1.toks+1)] }).objs.size:=by rw [Heap.size_push];exact Nat.le_succ _
 refine ⟨.ref _,_,I1.laid (t':=tk) (o:=.lst ((List.range j.toNat).map fun (i:Nat)=>V.int (i:Int))) k2 hfree ?_,rfl,q _ (I1.hok.fresh hfree)⟩
 refine ⟨by rw [List.length_map,List.length_range];exact Nat.le_of_lt (VL.big (by omega)),acc.toList,c,?_,by simpa using hS⟩
 obtain ⟨h1,h2'⟩:=items
 refine anr (by simp [h1]) fun i v u hv hu=>?_
 have hu':acc[i]?=some u:=by simpa using hu
 obtain ⟨t',e'⟩:=h2' i u hu'
 rw [List.getElem?_map] at hv
 have hi:i < j.toNat:=by
  have:=(Array.getElem?_eq_some_iff.mp hu').1
  omega
 rw [List.getElem?_eq_getElem (by simpa using hi)] at hv
 simp at hv
 subst hv
 exact ⟨t',by rw [e'];simp⟩
end
section
variable {X:Cx} {pins:List (Addr × Obj)} {σ:St} {H:Hp} {s:Shared}
theorem Inv.toFrz {a:Addr} {o:Obj} {u:HO} (I:Inv X pins σ H s) (e:H a=some u) (ho:s.heap.get? a=some o) (nt:∀ xs,u ≠ .tup xs) (nf:∀ o v,u ≠ .frz o v) (nb:∀ ps,u ≠ .tbl ps) (no:∀ x,u ≠ .own x):Inv X pins σ (upd H a (.frz o u)) s:=by
 have ne:∀ b v,H b=some v->v ≠ u->b ≠ a:=fun b v eb hv z=>by subst z;rw [e] at eb;exact hv (Option.some.inj eb).symm
 have J:=I.un (t':=s.toks) (H':=upd H a (.frz o u)) (h':=s.heap) ⟨fun b o q _ _ _=>q,fun b o q _ _ _=>⟨o.slots,q⟩,fun b o q n _=>by rw [aag (aau e n).symm];exact n,fun b o q _=>⟨o,q⟩,fun b xs q=>by rw [aag (ne b _ q (fun z=>nt xs z.symm))];exact q,
  fun b w v q=>by rw [aag (ne b _ q (fun z=>nf w v z.symm))];exact q,fun b ps q=>⟨#[],by rw [aag (ne b _ q (fun z=>nb ps z.symm)),q];simp⟩⟩ fun b v q=>?_
 ·exact J
 ·have st:∀ c v,ObjOk X.prog X.w H s.heap c v->ObjOk X.prog X.w (upd H a (.frz o u)) s.heap c v:=fun c v x=>x.stay (fun _ _ _ q=>q) (fun d q=>by rw [aag (ne d _ q (fun z=>no c z.symm))];exact q) fun d xs q=>by rw [aag (ne d _ q (fun z=>nt xs z.symm))];exact q
  by_cases hb:b=a
  ·subst hb;rw [aan] at q;cases q
   exact ⟨ho,st _ _ (I.hok b u e)⟩
  ·rw [aag hb] at q
   exact st _ _ (I.hok b v q)
end
noncomputable def Itd (a:Addr) (kvs:List (List Key × V)) (o:Obj):It :=
 ⟨fun i H=>i < kvs.length/\H a=some (.frz o (.dT kvs)),fun i H x H'=>H'=H/\∃ b k,x=.ref b/\H b=some (.tup (k.map kV))/\(kvs[i]?).map (·.1)=some k,fun i H=>kvs.length=i/\H a=some (.frz o (.dT kvs))⟩
theorem KT.get {H:Hp}:∀ {kvs:List (List Key × V)} {xs:List (List Key × Addr × Value)} {i:Nat} {p:List Key × V},KT H kvs xs->kvs[i]?=some p->∃ q,xs[i]?=some q/\p.1=q.1/\H q.2.1=some (.tup (p.1.map kV))
 | _,_,_,_,.nil,e=>by simp at e
 | _,_,0,_,.cons r _,e=>by simp at e;subst e;exact ⟨_,rfl,r.1,r.2.1⟩
 | _,_,i+1,p,.cons _ t,e=>by
  obtain ⟨q,h1,h2⟩:=KT.get (i:=i) (p:=p) t (by simpa using e)
  exact ⟨q,by simpa using h1,h2⟩
theorem avi {P:Program} {w:World} {K:Frag} {tg:Expr} (a it:Addr) {kvs:List (List Key × V)} {o:Obj} {es:Array DictEntry} {ep:Nat} (hx:o.ExactDict) (hd:o.data=.dict es ep) (hz:es.size=kvs.length) (hn:a ≠ it) :
  Turn P w K tg (Itd a kvs o) [it] it (fun i h=>h.IsKeyIter it a i es.size ep) where
 mem:=by simp
 obj:=fun i h st b hb=>by
  have e:b=it:=by simpa using hb
  subst e
  obtain ⟨u,e,c,d⟩:=st
  exact ⟨u,e,fun v z=>by rw [d] at z;cases z⟩
 keep:=fun i h h' st q=>st.at fun u e=>q it (by simp) u e
 item:=by
  intro X hP hw hK hc i pins s σ H E I hf st hg
  subst hP hw hK
  obtain ⟨hi,hH⟩:=hg
  have hi':i < es.size:=by omega
  obtain ⟨ho,z,y,xs,rel,o',es',ep',h1,h2,h3,h4,h5⟩:=(show ObjOk X.prog X.w H s.heap a (.frz o (.dT kvs)) from I.hok a _ hH)
  rw [ho] at h1;cases h1
  rw [hd] at h3;cases h3
  obtain ⟨p,hp⟩:∃ p,kvs[i]?=some p:=⟨_,List.getElem?_eq_getElem hi⟩
  obtain ⟨q,hq,eq1,eq2⟩:=KT.get rel hp
  have hkey:es[i].key=.ref q.2.1:=by
   have:es.toList[i]?=some es[i]:=by simp [hi']
   rw [h4,List.getElem?_map,hq] at this
   simp at this
   rw [← this];rfl
  obtain ⟨f0,f1,f2,f3,f4,f5⟩:=hf it (by simp)
  refine DI.raw_item st ⟨o,ho,hx,hd⟩ hi' fun h' nx sb=>?_
  rw [hkey]
  have I1:Inv X pins σ H { s with heap:=h' }:=I.turned (t':=s.toks) (fun b u hb e=>(sb.2 b hb).trans e) f0 f1 f3 f4 f5
  obtain ⟨u,e,c,d⟩:=id nx
  exact ⟨_,rfl,aj8 (s:={ s with heap:=h' }) e c d (by decide) ⟨.ref q.2.1,H,I1,rfl,⟨rfl,q.2.1,p.1,rfl,eq2,by rw [hp];rfl⟩,nx,fun b hb=>(hf b hb).1⟩⟩
 done:=by
  intro X hP hw hK hc i pins s σ H E I hf st hg
  subst hP hw hK
  obtain ⟨hi,hH⟩:=hg
  obtain ⟨ho,_⟩:=(show ObjOk X.prog X.w H s.heap a (.frz o (.dT kvs)) from I.hok a _ hH)
  obtain ⟨f0,f1,f2,f3,f4,f5⟩:=hf it (by simp)
  have e:i=es.size:=by omega
  subst e
  exact DI.raw_end (I.ok.hd hc) st ⟨o,ho,hx,hd⟩ fun h' eb=>⟨rfl,I.turned (t':=s.toks) (fun b u hb e=>eb b u hb e) f0 f1 f3 f4 f5⟩
 self:=fun _ _ _ _ _ st h=>wpAny_pyIter_keyiter st h
section
variable {X:Cx} {tg:Expr}
def iDT (te:TE):TI:=fun σ H R=>te σ H fun x H1=>∃ a kvs,x=.ref a/\H1 a=some (.dT kvs)/\∀ o,R (Itd a kvs o) (upd H1 a (.frz o (.dT kvs)))
theorem ayw {l:Expr} {te:TE} (hl:PE X l te):PI X tg l (iDT te):=by
 intro pins s σ H R I h
 refine thn (hl pins s σ H _ I h) fun v s1 ⟨x,H1,I1,r1,a,kvs,ex,hH,q⟩=>?_
 subst ex
 cases r1
 obtain ⟨z,y,xs,rel,o,es,ep,h1,h2,h3,h4,h5⟩:=(show ObjOk X.prog X.w H1 s1.heap a (.dT kvs) from I1.hok a _ hH)
 have hz:es.size=kvs.length:=by
  have e1:es.toList.length=xs.length:=by rw [h4];simp
  have e2:=Paired.length rel
  simp at e1;omega
 have J:=I1.toFrz (u:=.dT kvs) hH h1 (fun _ z=>nomatch z) (fun _ _ z=>nomatch z) (fun _ z=>nomatch z) fun _ z=>nomatch z
 have hlt:a < s1.heap.objs.size:=Heap.lt_size h1
 refine DI.raw_iter y ⟨o,h1,h2,h3⟩ ⟨s1.heap.objs.size,[s1.heap.objs.size],_,_,_,rfl,J.kept (t':=s1.toks) fun b u e=>Heap.get?_push_of_some _ e,avi a _ h2 h3 hz (Nat.ne_of_lt hlt),⟨_,Heap.get?_push_size _ rfl,rfl,rfl⟩,fun b hb=>?_,q o⟩
 have e:b=s1.heap.objs.size:=by simpa using hb
 subst e
 exact J.fpOk (Nat.le_refl _) (J.hok.fresh (Nat.le_refl _))
end
end L2
namespace VL
open PySem PySem.Spec L2
noncomputable def enD (ds:List PyData):List PyData:=(List.range ds.length).map fun (i:Nat) => .tuple [.int (i:Int),ds.getD i .none]
theorem afc {ds:List PyData}:(enD ds).length=ds.length:=by simp [enD]
theorem ans {ds:List PyData} {i:Nat} {d:PyData} (h:(enD ds)[i]?=some d):∃ x,ds[i]?=some x/\d=.tuple [.int (i:Int),x]:=by
 unfold enD at h
 rw [List.getElem?_map] at h
 by_cases hi:i < ds.length
 ·rw [List.getElem?_eq_getElem (by simpa using hi)] at h
  simp at h
  refine ⟨ds[i],List.getElem?_eq_getElem hi,?_⟩
  rw [← h]
  simp [hi]
 ·rw [List.getElem?_eq_none_iff.mpr (by simp;omega)] at h;cases h
theorem Out.tup2 {G H:Hp} {p:Addr} {x y:V} {d e:PyData} (g:Same G H) (h:H p=none) (r1:Rp G x d) (r2:Rp G y e):Out G H (.ref p) (upd G p (.tup [x,y])) (upd H p (.tup [x,y])) (.st (.tuple [d,e])) (fun _=>False):=Out.newT g h (.cons r1 (.cons r2 .nil))
section
variable {B:Bs} {env:En} {QI:List PyData->En->Prop} {QO:Sl->En->Prop} {Q':PyData->En->Prop} {K:Frag} {i:Nat} {ta:TA}
theorem asp (h:EvA B ta env fun vs e=>∃ ds,vs=[.list ds]/\QI (enD ds) e):EvI B (atu K ta) env QI:=fun σ G H F R I k =>
 h σ G H F _ I fun vs G1 H1 F1 ds e1 I1 g1 r1 z_=>by
  obtain ⟨xs,ed,q1⟩:=z_
  subst ed
  cases r1 with
  | cons r t =>
   cases t
   cases r with
   | @lst a us _ ha rs =>
    refine ⟨a,us,rfl,SqL.of (I1.gh _ _ ha),k _ G1 H1 F1 _ e1 I1 g1 ⟨fun i G' H' g h hi=>?_,fun i G' H' g h hi=>?_,fun i G' H' x H'' d g h ft hd y=>?_⟩ q1⟩
    ·have:i < us.length:=by rw [rs.length];rw [afc] at hi;exact hi
     exact ⟨us,us[i],SqL.of (h _ _ (g _ _ ha)),List.getElem?_eq_getElem this⟩
    ·exact ⟨us,SqL.of (h _ _ (g _ _ ha)),by rw [rs.length];rw [afc] at hi;exact Nat.le_of_eq hi.symm⟩
    ·obtain ⟨p,v,rfl,hp,rfl,hv⟩:=y
     obtain ⟨dx,hx,rfl⟩:=ans hd
     obtain ⟨u,hu,ru⟩:=rs.get hx
     have:=hv us (SqL.of (h _ _ (g _ _ ha)))
     rw [hu] at this;cases this
     exact ⟨_,Out.tup2 h hp (.int _) (ru.same g)⟩
theorem RpT.len {G:Hp}:∀ {kvs:List (List Key × V)} {es:List (List Key × PyData)},RpT G kvs es->kvs.length=es.length/\kvs.map (·.1)=es.map (·.1)
 | _,_,.nil=>⟨rfl,rfl⟩
 | _,_,.cons _ t=>by
  obtain ⟨h1,h2⟩:=RpT.len t
  exact ⟨by simp [h1],by simp [h2]⟩
theorem ag1 {G:Hp}:∀ (ks:List Key),Rps G (ks.map kV) (ks.map kD)
 | [] => .nil
 | .inl i :: r => .cons (.int i) (ag1 r)
 | .inr x :: r => .cons (.str x) (ag1 r)
@[reducible] noncomputable def tkD (ks:List Key):PyData:=.tuple (ks.map kD)
theorem axr {es:List (List Key × PyData)} (e:env[i]?=some (some (.own (OT es)))) (q:QI (es.map fun p=>tkD p.1) (env.set i none)):EvI B (iDT (tVar i)) env QI:=fun σ G H F R I k=>by
 obtain ⟨v,hv,⟨a,kvs,rfl,ha,rt,hf⟩,hb⟩:=I.sl i _ e
 refine ⟨_,hv,a,kvs,rfl,ha,fun o=>?_⟩
 have Fa:F i a:=(hf a).mpr rfl
 have D:=(I.drop i).aside (p:=a) (o:=.frz o (.dT kvs)) (fun _ z=>nomatch z) (I.fg i a Fa) (fun j z=>by
  by_cases h:j=i
  ·subst h;exact putF_same.mp z
  ·rw [aa6 h] at z;exact h (I.fd j i a z Fa)) (hb a Fa)
 have J:=D.freeze (Fv:=(· = a)) (fun b z=>by rw [z];exact hb a Fa) (fun j b z y=>by
  rw [z] at y
  by_cases h:j=i
  ·subst h;exact putF_same.mp y
  ·rw [aa6 h] at y;exact h (I.fd j i a y Fa)) (fun b z=>by rw [z];exact I.fg i a Fa)
 have ga:jn G (upd H a (.frz o (.dT kvs))) (· = a) a=some (.frz o (.dT kvs)):=(ae8 (F:=(· = a)) rfl).trans aan
 obtain ⟨l1,l2⟩:=RpT.len rt
 refine k _ _ _ _ _ _ J (abl fun b z=>by rw [z];exact I.fg i a Fa) ⟨fun n G' H' g h hn=>⟨by simp at hn;omega,h _ _ (g _ _ ga)⟩,fun n G' H' g h hn=>⟨by simp at hn;omega,h _ _ (g _ _ ga)⟩,fun n G' H' x H'' d g h ft hd y=>?_⟩ q
 obtain ⟨rfl,b,ks,rfl,hb',hk⟩:=y
 have:d=tkD ks:=by
  rw [List.getElem?_map] at hd
  cases e2:es[n]? with
  | none=>rw [e2] at hd;cases hd
  | some p =>
   rw [e2] at hd;cases hd
   have h3:(kvs.map (·.1))[n]?=some ks:=by rw [List.getElem?_map];exact hk
   rw [l2,List.getElem?_map,e2] at h3
   simp at h3
   show tkD p.1=tkD ks;rw [h3]
 subst this
 exact ⟨G',Out.refl h (.tup (ft b ks hb') (ag1 ks))⟩
@[reducible] noncomputable def tiD (ns:List Int):PyData:=.tuple (ns.map .int)
def lexS (pss:List (List Int)):Prop:=pss.Pairwise fun x y=>HT.lexLt y x=false
theorem alu {G H:Hp} (ft:FT G H):∀ {vs:List V},(∀ v∈vs,TupI H v)->Rps G vs ((vs.map (kH H)).map tiD)
 | [],_ => .nil
 | v :: vs,h=>by
  obtain ⟨t,ns,rfl,e,_⟩:=h v List.mem_cons_self
  rw [List.map_cons,List.map_cons,aok e]
  have:(ns.map V.int)=(ns.map (fun i=>(Sum.inl i:Key))).map kV:=by rw [List.map_map];rfl
  refine .cons (.tup ?_ (Rps.ints ns)) (alu ft fun u hu=>h u (List.mem_cons_of_mem _ hu))
  rw [this];exact ft t _ (by rw [← this];exact e)
theorem ago {G H:Hp} (gh:Same G H):∀ {vs:List V} {pss:List (List Int)},Rps G vs (pss.map tiD)->(∀ ns∈pss,ns ≠ [])->(∀ v∈vs,TupI H v)/\vs.map (kH H)=pss
 | _,[],.nil,_=>⟨fun v hv=>by simp at hv,rfl⟩
 | v :: vs,ns :: pss,.cons r t,hn=>by
  obtain ⟨i1,i2⟩:=ago gh t fun ms hm=>hn ms (List.mem_cons_of_mem _ hm)
  cases r with
  | tup h rs =>
   have:=Rps.ints_inv rs
   subst this
   have e:=gh _ _ h
   refine ⟨fun u hu=>?_,by rw [List.map_cons,aok e,i2]⟩
   rcases List.mem_cons.mp hu with rfl | hu
   ·exact ⟨_,ns,rfl,e,hn ns List.mem_cons_self⟩
   ·exact i1 u hu
theorem ap9 {pss:List (List Int)} (hn:∀ ns∈pss,ns ≠ []) (h:EvA B ta env fun ds e=>ds=[.list (pss.map tiD)]/\∀ qss:List (List Int),qss.Perm pss->lexS qss->QO (.own (OL (qss.map tiD))) e):EvO B (tCB (ahl K) ta) env QO:=fun σ G H F Q I k =>
 h σ G H F _ I fun vs G1 H1 F1 ds e1 I1 g1 r1 z_=>by
  obtain ⟨ed,q1⟩:=z_
  subst ed
  cases r1 with
  | cons r t =>
   cases t
   cases r with
   | @lst a us _ ha rs =>
    obtain ⟨t1,t2⟩:=ago I1.gh rs hn
    refine ⟨a,us,rfl,SqL.of (I1.gh _ _ ha),t1,fun ws p hp hs hf=>?_⟩
    have tw:∀ v∈ws,TupI H1 v:=fun v hv=>t1 v (hp.mem_iff.mp hv)
    have o:=Out.newL I1.gh hf (alu I1.ft tw)
    refine k _ _ _ F1 _ _ e1 (I1.out o).1 (g1.trans o.gg) (I1.out o).2 (q1 _ ?_ ?_)
    ·have:=hp.map (kH H1);rw [t2] at this;exact this
    ·unfold lexS;rw [List.pairwise_map];exact hs
end
section
variable {B:Bs} {env:En} {QO:Sl->En->Prop} {Q':PyData->En->Prop} {K:Frag} {i:Nat} {ta:TA} {R:Sl->Prop}
theorem Rps.bools_inv {G:Hp}:∀ {bs:List Bool} {vs:List V},Rps G vs (bs.map PyData.bool)->vs=bs.map V.bl
 | [],_,.nil=>rfl
 | b :: bs,_,.cons r t=>by
  cases r
  rw [Rps.bools_inv t];rfl
theorem ad9 {bs:List Bool} (h:R (.st (.bool (bs.all id)))):OpA (rAll K) [.list (bs.map .bool)] R:=fun G H vs Q gh rs k=>by
 cases rs with
 | cons r t =>
  cases t
  cases r with
  | lst ha ra =>
   have:=Rps.bools_inv ra
   subst this
   exact ⟨_,bs,rfl,SqL.of (gh _ _ ha),k _ _ _ _ _ (Out.refl gh (.bl _)) h⟩
theorem avj {n:Int} (h:R (.st (.int (if n < 0 then -n else n)))):OpA rAbs [.int n] R:=fun G H vs Q gh rs k=>by
 obtain rfl:vs=[V.int n]:=Rps.ints_inv (ns:=[n]) rs
 exact ⟨n,rfl,k _ _ _ _ _ (Out.refl gh (.int _)) h⟩
theorem aqa {G:Hp} (n:Nat):Rps G ((List.range n).map fun (i:Nat)=>V.int (i:Int)) (rngD 0 n):=by
 unfold rngD
 refine alr (by simp) fun i v d hv hd=>?_
 rw [List.getElem?_map] at hv hd
 cases e:(List.range n)[i]? with
 | none=>rw [e] at hv;cases hv
 | some m=>rw [e] at hv hd;cases hv;cases hd;show Rp G (.int (m:Int)) (.int (0+(m:Int)));rw [Int.zero_add];exact .int _
theorem aqb (h:EvA B ta env fun ds e=>∃ j:Int,ds=[.int j]/\0<=j/\j<=1000000/\QO (.own (OL (rngD 0 j.toNat))) e):EvO B (ap8 ta) env QO:=fun σ G H F Q I k =>
 h σ G H F _ I fun vs G1 H1 F1 ds e1 I1 g1 r1 z_=>by
  obtain ⟨j,ed,j0,j1,q1⟩:=z_
  subst ed
  obtain rfl:vs=[V.int j]:=Rps.ints_inv (ns:=[j]) r1
  refine ⟨j,rfl,j0,j1,fun p hp=>?_⟩
  have o:=Out.newL I1.gh hp (aqa j.toNat)
  exact k _ _ _ F1 _ _ e1 (I1.out o).1 (g1.trans o.gg) (I1.out o).2 q1
end
section
variable {κ:Type} [DecidableEq κ] {α:Type}
noncomputable def valD (es:List (κ × α)) (k : κ):Option α:=(es.find? fun e=>decide (e.1=k)).map (·.2)
noncomputable def putD (es:List (κ × α)) (k : κ) (d : α):List (κ × α):=if (es.any fun e=>decide (e.1=k))=true then es.map (fun e=>if e.1=k then (e.1,d) else e) else es ++ [(k,d)]
end
theorem RpK.val {G:Hp} {k:Key}:∀ {kvs:List (Key × V)} {es:List (Key × PyData)},RpK G kvs es->(valD es k=none->valV kvs k=none)/\∀ d,valD es k=some d->∃ v,valV kvs k=some v/\Rp G v d
 | _,_,.nil=>⟨fun _=>rfl,fun d h=>by cases h⟩
 | _,_,.cons (k:=k') r t=>by
  obtain ⟨i1,i2⟩:=RpK.val (k:=k) t
  by_cases e:k'=k
  ·refine ⟨fun h=>by simp [valD,e] at h,fun d h=>?_⟩
   simp [valD,e] at h
   subst h
   exact ⟨_,by simp [valV,e],r⟩
  ·refine ⟨fun h=>?_,fun d h=>?_⟩
   ·simp [valV,e];simp [valD,e] at h
    have:=i1 (by simp [valD];exact h)
    simpa [valV] using this
   ·obtain ⟨v,h1,h2⟩:=i2 d (by simpa [valD,e] using h)
    exact ⟨v,by simpa [valV,e] using h1,h2⟩
theorem RpK.any {G:Hp} {k:Key}:∀ {kvs:List (Key × V)} {es:List (Key × PyData)},RpK G kvs es->(kvs.any fun e=>decide (e.1=k))=es.any fun e=>decide (e.1=k)
 | _,_,.nil=>rfl
 | _,_,.cons r t=>by simp [RpK.any t]
theorem RpK.map {G:Hp} {k:Key} {v:V} {d:PyData} (h:Rp G v d):∀ {kvs:List (Key × V)} {es:List (Key × PyData)},RpK G kvs es->RpK G (kvs.map fun e=>if e.1=k then (e.1,v) else e) (es.map fun e=>if e.1=k then (e.1,d) else e)
 | _,_,.nil => .nil
 | _,_,.cons (k:=k') r t=>by
  by_cases e:k'=k
  ·simp only [List.map_cons,e,if_true];exact .cons h (RpK.map h t)
  ·simp only [List.map_cons,e,if_false];exact .cons r (RpK.map h t)
theorem RpK.append {G:Hp}:∀ {a b:List (Key × V)} {c d:List (Key × PyData)},RpK G a c->RpK G b d->RpK G (a ++ b) (c ++ d)
 | _,_,_,_,.nil,s=>s
 | _,_,_,_,.cons r t,s => .cons r (RpK.append t s)
theorem RpK.put {G:Hp} {k:Key} {v:V} {d:PyData} (h:Rp G v d) {kvs:List (Key × V)} {es:List (Key × PyData)} (r:RpK G kvs es):RpK G (putK kvs k v) (putD es k d):=by
 unfold putK putD
 rw [r.any]
 split
 ·exact r.map h
 ·exact r.append (.cons h .nil)
theorem RpT.any {G:Hp} {k:List Key}:∀ {kvs:List (List Key × V)} {es:List (List Key × PyData)},RpT G kvs es->(kvs.any fun e=>decide (e.1=k))=es.any fun e=>decide (e.1=k)
 | _,_,.nil=>rfl
 | _,_,.cons r t=>by simp [RpT.any t]
theorem RpT.map {G:Hp} {k:List Key} {v:V} {d:PyData} (h:Rp G v d):∀ {kvs:List (List Key × V)} {es:List (List Key × PyData)},RpT G kvs es->RpT G (kvs.map fun e=>if e.1=k then (e.1,v) else e) (es.map fun e=>if e.1=k then (e.1,d) else e)
 | _,_,.nil => .nil
 | _,_,.cons (k:=k') r t=>by
  by_cases e:k'=k
  ·simp only [List.map_cons,e,if_true];exact .cons h (RpT.map h t)
  ·simp only [List.map_cons,e,if_false];exact .cons r (RpT.map h t)
theorem RpT.append {G:Hp}:∀ {a b:List (List Key × V)} {c d:List (List Key × PyData)},RpT G a c->RpT G b d->RpT G (a ++ b) (c ++ d)
 | _,_,_,_,.nil,s=>s
 | _,_,_,_,.cons r t,s => .cons r (RpT.append t s)
theorem RpT.put {G:Hp} {k:List Key} {v:V} {d:PyData} (h:Rp G v d) {kvs:List (List Key × V)} {es:List (List Key × PyData)} (r:RpT G kvs es):RpT G (putK kvs k v) (putD es k d):=by
 unfold putK putD
 rw [r.any]
 split
 ·exact r.map h
 ·exact r.append (.cons h .nil)
theorem RpK.length {G:Hp}:∀ {kvs:List (Key × V)} {es:List (Key × PyData)},RpK G kvs es->kvs.length=es.length
 | _,_,.nil=>rfl
 | _,_,.cons _ t=>by simp [RpK.length t]
theorem ayx {G:Hp} {v:V} {k:Key} (r:Rp G v (kD k)):v=kV k:=by
 cases k with
 | inl i=>cases r;rfl
 | inr x=>cases r;rfl
theorem aqc {G:Hp}:∀ {ks:List Key} {vs:List V},Rps G vs (ks.map kD)->vs=ks.map kV
 | [],_,.nil=>rfl
 | k :: ks,_,.cons r t=>by rw [ayx r,aqc t];rfl
section
variable {B:Bs} {env:En} {QO:Sl->En->Prop} {Q':PyData->En->Prop} {D':VEnds} {i:Nat} {te ty tv td:TE}
theorem aqd (q:QO (.own (OT [])) env):EvO B apj env QO:=fun σ G H F Q I k p hp=>by
 have o:=Out.newDT (ds:=[]) I.gh hp .nil
 exact k _ _ _ F _ _ env (I.out o).1 o.gg (I.out o).2 q
theorem aqe {es0:List (List Key × PyData)} (h:Ev B tv env fun d e1=>Has e1 i (OT es0)/\Ev B ty e1 fun y e2=>∃ es ks,e2[i]?=some (some (.own (OT es)))/\y=tkD ks/\es.length<=999999/\D'.nx (e2.set i (some (.own (OT (putD es ks d)))))):EvS B (aoa (tVar i) ty tv) D' env:=fun σ G H F D I r =>
 h σ G H F _ I fun v G1 H1 F1 d e1 I1 g1 r1 z_=>by
  obtain ⟨h0,q1⟩:=z_
  obtain ⟨v0,hv,a,kvs,rfl,ha,rt,_⟩:=I1.has h0
  refine ⟨_,hv,q1 σ G1 H1 F1 _ I1 fun vy G2 H2 F2 y e2 I2 g2 r2 ⟨es,ks,es2,ey,hl,q2⟩=>?_⟩
  subst ey
  obtain ⟨v',hv',⟨a',kvs',ea',ha',rt',hf⟩,hb⟩:=I2.sl i _ es2
  rw [hv] at hv';cases hv';cases ea'
  cases r2 with
  | tup hk rs =>
   have:=aqc rs
   subst this
   refine ⟨a,_,rfl,DPut.t ha' (I2.gh _ _ hk) (by rw [(RpT.len rt').1];exact big (by omega)),?_⟩
   exact r.nx σ G2 _ _ _ (I2.upd1 (A':=OT (putD es ks d)) es2 (.inl rfl) hv hf ⟨a,_,rfl,aan,rt'.put (r1.same g2),fun b=>Iff.rfl⟩) (g1.trans g2) q2
end
section
variable {B:Bs} {env:En} {QO:Sl->En->Prop} {Q':PyData->En->Prop} {QE:En->Prop} {D':VEnds} {K:Frag} {i:Nat} {ta:TA}
theorem ant {n:Nat} {gs:TGs} {ds:List PyData} (hl:ds.length=n) (h:EvGs B gs ds env QE):EvG B (gLst K n gs) (.st (.list ds)) env QE:=fun σ G H F v Fv Q I x k=>by
 obtain ⟨r,_⟩:=x.ok
 cases r with
 | lst ha rs=>exact ⟨_,_,rfl,SqL.of (I.gh _ _ ha),by rw [rs.length,hl],h σ G H F _ Q I rs k⟩
theorem ahs {ns:List Int} {tl th:TO} (e:env[i]?=some (some (.scr ns))) (hK:B.K=K) (h:EvOp B tl env fun lo e2=>EvOp B th e2 fun hi e3=>QO (.own (OL (cutD (ns.map .int) lo hi))) e3):EvO B (tSl (rSlL K) (tVar i) tl th) env QO:=fun σ G H F Q I k=>by
 subst hK
 obtain ⟨v0,hv,⟨a,ea,sq⟩,_⟩:=I.sl i _ e
 subst ea
 refine ⟨_,hv,h σ G H F _ I fun lo G2 H2 F2 e2 I2 g2 q2=>q2 σ G2 H2 F2 _ I2 fun hi G3 H3 F3 e3 I3 g3 q3=>⟨a,_,rfl,I3.gh.seq (g3.seq (g2.seq sq)),fun p hp=>?_⟩⟩
 have o:=Out.newL (xs:=cutV (ns.map V.int) lo hi) (ds:=cutD (ns.map .int) lo hi) I3.gh hp (by
  unfold cutV cutD
  rw [List.length_map,List.length_map]
  exact ((Rps.ints ns).drop _).take _)
 exact k _ _ _ F3 _ _ e3 (I3.out o).1 (g2.trans (g3.trans o.gg)) (I3.out o).2 q3
theorem aqf {ns:List Int} {tl th:TO} (e:env[i]?=some (some (.scr ns))) (hK:B.K=K) (h:EvOp B tl env fun lo e2=>EvOp B th e2 fun hi e3=>Q' (.list (cutD (ns.map .int) lo hi)) e3):Ev B (tSl (rSlL K) (tVar i) tl th) env Q':=acg (ahs e hK fun σ G H F Q I k=>h σ G H F Q I fun lo G' H' F' e' I' g' q=>k lo G' H' F' e' I' g' fun σ G H F Q I k=>q σ G H F Q I fun hi G' H' F' e' I' g' q=>k hi G' H' F' e' I' g' (adh q))
theorem ajd (h:EvA B ta env fun ds e=>∃ ns:List Int,ds=[.list (ns.map .int)]/\ns.length < 64/\∀ ns':List Int,ns'.Perm ns->ns'.Pairwise (·<=·)->QO (.own (OL (ns'.map .int))) e):EvO B (tCB (ahf K) ta) env QO:=fun σ G H F Q I k =>
 h σ G H F _ I fun vs G1 H1 F1 ds e1 I1 g1 r1 z_=>by
  obtain ⟨ns,ed,hl,q1⟩:=z_
  subst ed
  cases r1 with
  | cons r t =>
   cases t
   cases r with
   | @lst a us _ ha rs =>
    have:=Rps.ints_inv rs
    subst this
    refine ⟨a,ns,rfl,SqL.of (I1.gh _ _ ha),hl,fun ns' p hp hs hf=>?_⟩
    have o:=Out.newL I1.gh hf (Rps.ints ns')
    exact k _ _ _ F1 _ _ e1 (I1.out o).1 (g1.trans o.gg) (I1.out o).2 (q1 _ hp hs)
theorem x_en {ds:List PyData} {R:List PyData->Prop} (h:R ds):∃ xs,[PyData.list ds]=[.list xs]/\R xs:=⟨ds,rfl,h⟩
theorem avk {j:Int} {R:Int->Prop} (h0:0<=j) (h1:j<=1000000) (h:R j):∃ i:Int,[PyData.int j]=[.int i]/\0<=i/\i<=1000000/\R i:=⟨j,rfl,h0,h1,h⟩
theorem x_dT {es:List (List Key × PyData)} {a b:Int} {e2:En} {R:List (List Key × PyData)->List Key->Prop} (e:e2[i]?=some (some (.own (OT es)))) (hl:es.length<=999999) (q:R es [.inl a,.inl b]):∃ es ks,e2[i]?=some (some (.own (OT es)))/\PyData.tuple [.int a,.int b]=tkD ks/\es.length<=999999/\R es ks:=⟨es,_,e,rfl,hl,q⟩
end
def ltP (p q:Int × Int):Prop:=p.1 < q.1\/(p.1=q.1/\p.2 < q.2)
@[reducible] noncomputable def p2 (p:Int × Int):List Int:=[p.1,p.2]
theorem lex2 (p q:Int × Int):HT.lexLt (p2 p) (p2 q)=true ↔ ltP p q:=by
 obtain ⟨a,b⟩:=p
 obtain ⟨c,d⟩:=q
 simp [p2,HT.lexLt,ltP]
 split <;> omega
theorem aop {qss:List (List Int)} {ps:List (Int × Int)} (h:qss.Perm (ps.map p2)):∃ qs:List (Int × Int),qss=qs.map p2/\qs.Perm ps:=by
 refine ⟨qss.map fun l=>(l.getD 0 0,l.getD 1 0),?_,?_⟩
 ·rw [List.map_map]
  symm
  conv=>rhs;rw [← List.map_id qss]
  apply List.map_congr_left
  intro l hl
  obtain ⟨p,_,rfl⟩:=List.mem_map.mp (h.mem_iff.mp hl)
  rfl
 ·have:=h.map fun l=>(l.getD 0 0,l.getD 1 0)
  rw [List.map_map] at this
  have e:((fun l:List Int=>(l.getD 0 0,l.getD 1 0)) ∘ p2)=id:=by funext p;rfl
  rw [e,List.map_id] at this
  exact this
def Rise (es:List (Int × Int)):Prop:=es.Pairwise ltP
theorem agi (p:Int × Int):¬ ltP p p:=by unfold ltP;omega
theorem avl (p q:Int × Int):ltP p q\/p=q\/ltP q p:=by
 obtain ⟨a,b⟩:=p
 obtain ⟨c,d⟩:=q
 unfold ltP
 simp only [Prod.mk.injEq]
 omega
theorem aqg {p q r:Int × Int} (h:ltP p q) (g:ltP q r):ltP p r:=by unfold ltP at *;omega
theorem anu {qs ps:List (Int × Int)} (hp:qs.Perm ps) (hn:ps.Nodup) (hs:lexS (qs.map p2)):Rise qs:=by
 have hn':qs.Nodup:=hp.nodup_iff.mpr hn
 unfold lexS at hs
 rw [List.pairwise_map] at hs
 unfold Rise
 refine (List.Pairwise.and hs hn').imp fun {p q} h=>?_
 have h1:¬ ltP q p:=fun z=>by rw [(lex2 q p).mpr z] at h;exact absurd h.1 (by simp)
 rcases avl p q with z | z | z
 ·exact z
 ·exact absurd z h.2
 ·exact absurd z h1
theorem Rise.nodup {es:List (Int × Int)} (h:Rise es):es.Nodup:=h.imp fun {p q} z (e:p=q)=>agi q (by rw [e] at z;exact z)
theorem Rise.eq:∀ {as bs:List (Int × Int)},Rise as->Rise bs->(∀ p,p∈as ↔ p∈bs)->as=bs
 | [],[],_,_,_=>rfl
 | [],b :: _,_,_,h=>by have:=(h b).mpr List.mem_cons_self;simp at this
 | a :: _,[],_,_,h=>by have:=(h a).mp List.mem_cons_self;simp at this
 | a :: as,b :: bs,ha,hb,h=>by
  obtain ⟨ha1,ha2⟩:=List.pairwise_cons.mp ha
  obtain ⟨hb1,hb2⟩:=List.pairwise_cons.mp hb
  have e:a=b:=by
   rcases List.mem_cons.mp ((h a).mp List.mem_cons_self) with e | e
   ·exact e
   ·rcases List.mem_cons.mp ((h b).mpr List.mem_cons_self) with e2 | e2
    ·exact e2.symm
    ·exact absurd (aqg (ha1 b e2) (hb1 a e)) (agi a)
  subst e
  have:=Rise.eq ha2 hb2 fun p=>by
   have hp:=h p
   simp only [List.mem_cons] at hp
   constructor
   ·intro m
    rcases hp.mp (.inr m) with e | e
    ·subst e;exact absurd (ha1 p m) (agi p)
    ·exact e
   ·intro m
    rcases hp.mpr (.inr m) with e | e
    ·subst e;exact absurd (hb1 p m) (agi p)
    ·exact e
  rw [this]
structure WebOk (n:Int) (es:List (Int × Int)):Prop where
 lo:1<=n
 hi:n<=60
 inn:∀ p∈es,0<=p.1/\p.1 < p.2/\p.2 < n
 rise:Rise es
theorem WebOk.in {n:Int} {es:List (Int × Int)} (h:WebOk n es):InN n es:=fun p hp=>by
 have:=h.inn p hp;omega
theorem aje {n:Nat} {es:List (Int × Int)} (hn:es.Nodup) (hi:∀ p∈es,0<=p.1/\p.1 < (n:Int)/\0<=p.2/\p.2 < (n:Int)):es.length<=n * n:=by
 have h1:(es.map fun (p:Int × Int)=>p.1 * (n:Int)+p.2).Nodup:=by
  unfold List.Nodup
  rw [List.pairwise_map]
  refine List.Pairwise.imp_of_mem ?_ hn
  intro p q hp hq hne e
  have a:=hi p hp
  have b:=hi q hq
  apply hne
  have e1:p.1=q.1:=by
   rcases Int.lt_trichotomy p.1 q.1 with z | z | z
   ·have:(p.1+1) * n<=q.1 * n:=Int.mul_le_mul_of_nonneg_right (by omega) (by omega)
    rw [Int.add_mul] at this;omega
   ·exact z
   ·have:(q.1+1) * n<=p.1 * n:=Int.mul_le_mul_of_nonneg_right (by omega) (by omega)
    rw [Int.add_mul] at this;omega
  rw [e1] at e
  exact Prod.ext e1 (by omega)
 have:=L2.few_places (n * n) _ h1 fun v hv=>by
  obtain ⟨p,hp,rfl⟩:=List.mem_map.mp hv
  have a:=hi p hp
  have h2:0<=p.1 * (n:Int):=Int.mul_nonneg a.1 (by omega)
  have h3:(p.1+1) * (n:Int)<=n * n:=Int.mul_le_mul_of_nonneg_right (by omega) (by omega)
  rw [Int.add_mul] at h3
  push_cast
  omega
 simpa using this
theorem WebOk.len {n:Int} {es:List (Int × Int)} (h:WebOk n es):es.length<=3600:=by
 have:=aje (n:=n.toNat) h.rise.nodup fun p hp=>by have:=h.inn p hp;have:=h.lo;omega
 have h2:n.toNat<=60:=by have:=h.hi;omega
 exact Nat.le_trans this (Nat.mul_le_mul h2 h2)
noncomputable def kE (ps:List (Int × Int)):List (List Key × PyData):=ps.map fun p=>([Sum.inl p.1,Sum.inl p.2],.bool true)
noncomputable def addP (ps:List (Int × Int)) (p:Int × Int):List (Int × Int):=if p∈ps then ps else ps ++ [p]
theorem aeq {ps:List (Int × Int)}:(kE ps).length=ps.length:=by simp [kE]
theorem aht (ps:List (Int × Int)) (a b:Int):putD (kE ps) [Sum.inl a,Sum.inl b] (.bool true)=kE (addP ps (a,b)):=by
 have hany:((kE ps).any fun e=>decide (e.1=[Sum.inl a,Sum.inl b]))=decide ((a,b)∈ps):=by
  rw [Bool.eq_iff_iff,List.any_eq_true,decide_eq_true_iff]
  constructor
  ·rintro ⟨e,he,h⟩
   obtain ⟨p,hp,rfl⟩:=List.mem_map.mp he
   simp at h
   obtain ⟨p1,p2⟩:=p
   simp at h
   rw [← h.1,← h.2];exact hp
  ·intro h
   exact ⟨_,List.mem_map.mpr ⟨(a,b),h,rfl⟩,by simp⟩
 unfold putD
 rw [hany]
 unfold addP
 by_cases h:(a,b)∈ps
 ·rw [if_pos (by simpa using h),if_pos h]
  unfold kE
  rw [List.map_map]
  apply List.map_congr_left
  intro p _
  simp only [Function.comp]
  split <;> rfl
 ·rw [if_neg (by simpa using h),if_neg h]
  simp [kE]
theorem addP_mem {ps:List (Int × Int)} {p q:Int × Int}:q∈addP ps p ↔ q∈ps\/q=p:=by
 unfold addP
 split
 ·rename_i h
  exact ⟨.inl,fun z=>z.elim id fun e=>e ▸ h⟩
 ·simp
theorem aoq {ps:List (Int × Int)} {p:Int × Int} (h:ps.Nodup):(addP ps p).Nodup:=by
 unfold addP
 split
 ·exact h
 ·rename_i hn
  rw [List.nodup_append]
  exact ⟨h,by simp,fun x hx y hy=>by simp at hy;subst hy;rintro rfl;exact hn hx⟩
theorem avm (ps:List (Int × Int)):(kE ps).map (fun e=>tkD e.1)=ps.map prD:=by
 unfold kE;rw [List.map_map];rfl
theorem aqh (ps:List (Int × Int)):(ps.map p2).map tiD=ps.map prD:=by rw [List.map_map];rfl
theorem ayy {ps:List (Int × Int)}:∀ ns∈ps.map p2,ns ≠ []:=fun ns h=>by
 obtain ⟨p,_,rfl⟩:=List.mem_map.mp h
 simp
section
variable {B:Bs} {env:En} {QO:Sl->En->Prop} {K:Frag} {i:Nat} {ta:TA}
theorem ajf {ps:List (Int × Int)} (h:EvA B ta env fun ds e=>ds=[.list (ps.map prD)]/\∀ qs:List (Int × Int),qs.Perm ps->lexS (qs.map p2)->QO (.own (OL (qs.map prD))) e):EvO B (tCB (ahl K) ta) env QO :=
 ap9 (pss:=ps.map p2) ayy fun σ G H F Q I k=>h σ G H F Q I fun vs G' H' F' ds e I' g r ⟨h1,q⟩=>k vs G' H' F' ds e I' g r ⟨by rw [aqh];exact h1,fun qss hp hs=>by
  obtain ⟨qs,rfl,hq⟩:=aop hp
  rw [aqh];exact q qs hq hs⟩
end
noncomputable def OW (d:PyData) (ds:List PyData):Own where
 P:=fun G H v F=>∃ t l u vs,v=.ref t/\H t=some (.tup [u,.ref l])/\Rp G u d/\H l=some (.lst vs)/\Rps G vs ds/\∀ b,F b ↔ b=t\/b=l
 mono:=fun ⟨t,l,u,vs,e,h1,r1,h2,r2,f⟩ g hh=>⟨t,l,u,vs,e,hh t _ ((f t).mpr (.inl rfl)) h1,r1.same g,hh l _ ((f l).mpr (.inr rfl)) h2,r2.same g,f⟩
 dom:=fun ⟨t,l,u,vs,e,h1,r1,h2,r2,f⟩ b z=>by
  rcases (f b).mp z with rfl | rfl
  ·exact ⟨_,h1⟩
  ·exact ⟨_,h2⟩
theorem aqi {d:PyData} {ds:List PyData}:Frz (OW d ds) (.tuple [d,.list ds]):=fun G H v F ⟨t,l,u,vs,e,h1,r1,h2,r2,f⟩ n g=>by
 subst e
 exact .tup (by rw [ae8 ((f t).mpr (.inl rfl))];exact h1) (.cons (r1.same (abl n)) (.cons (.lst (by rw [ae8 ((f l).mpr (.inr rfl))];exact h2) (r2.same (abl n))) .nil))
theorem atv {d:PyData} {ds:List PyData} {R:PyData->Prop} (h:R (.tuple [d,.list ds])):FQ (.own (OW d ds)) R:=⟨_,aqi,h⟩
section
variable {B:Bs} {env:En} {QO:Sl->En->Prop} {Q':PyData->En->Prop} {K:Frag} {i j:Nat} {ta te:TE}
theorem asq {u:V} {l:Addr} {ks:List Key}:HO.tup [u,.ref l] ≠ .tup (ks.map kV):=by
 intro z
 injection z with z
 match ks,z with
 | [],z=>cases z
 | [_],z=>cases z
 | [_,k],z =>
  simp at z
  cases k <;> simp [kV] at z
 | _ :: _ :: _ :: _,z=>simp at z
theorem asr {ds0:List PyData} (h0:env[j]?=some (some (.own (OL ds0)))) (h:Ev B ta env fun d e1=>∃ ds,e1[j]?=some (some (.own (OL ds)))/\QO (.own (OW d ds)) (e1.set j none)):EvO B (tTup (aco ta (aco (tVar j) tNil))) env QO:=fun σ G H F Q I k =>
 h σ G H F _ I fun v G1 H1 F1 d e1 I1 g1 r1 z_=>by
  obtain ⟨ds,ej,q⟩:=z_
  obtain ⟨w,hw,⟨l,vs,rfl,hl,rs,hf⟩,hb⟩:=I1.sl j _ ej
  refine ⟨_,hw,⟨by show (2:Nat)<=sizeLine;decide,fun p hp=>?_⟩⟩
  have Fl:F1 j l:=(hf l).mpr rfl
  have pl:p ≠ l:=(aau hl hp).symm
  have D:=I1.drop j
  have nF:∀ m a,(a=p\/a=l)->¬ putF F1 j (fun _=>False) m a:=fun m a ha z=>by
   by_cases hm:m=j
   ·subst hm;exact putF_same.mp z
   ·rw [aa6 hm] at z
    rcases ha with rfl | rfl
    ·exact I1.no_f hp m z
    ·exact hm (I1.fd m j a z Fl)
  have J:VI B G1 (upd H1 p (.tup [v,.ref l])) σ (e1.set j none) (putF F1 j fun _=>False):=D.grow (Same.refl _) (I1.gh.trans (ack hp)) (ack hp) (fun a o e => .inl e) fun a ks e=>by
   by_cases z:a=p
   ·subst z;rw [aan] at e;exact absurd (Option.some.inj e) asq
   ·rw [aag z] at e;exact I1.ft a ks e
  refine k _ G1 _ _ (fun a=>a=p\/a=l) (.own (OW d ds)) _ J g1 ⟨⟨p,l,v,vs,rfl,aan,r1,by rw [aag pl.symm];exact hl,rs,fun b=>Iff.rfl⟩,fun a z=>?_,fun a z=>?_,fun a z=>?_,fun m a z=>nF m a z⟩ q
  ·rcases z with rfl | rfl
   ·exact I1.no_b hp
   ·exact hb a Fl
  ·rcases z with rfl | rfl
   ·exact I1.no_g hp
   ·exact I1.fg j a Fl
  ·rcases z with rfl | rfl
   ·exact ⟨_,aan⟩
   ·exact ⟨_,by rw [aag pl.symm];exact hl⟩
theorem x_ow {ds:List PyData} {e1:En} {R:List PyData->Prop} (e:e1[j]?=some (some (.own (OL ds)))) (q:R ds):∃ ds,e1[j]?=some (some (.own (OL ds)))/\R ds:=⟨ds,e,q⟩
end
section
variable {B:Bs} {env:En} {Q':PyData->En->Prop} {D':VEnds} {i:Nat} {ty tv:TE}
theorem aor {es1:List (List Key × PyData)} (h0:env[i]?=some (some (.own (OT es1)))) (h:Ev B tv env fun d e1=>Has e1 i (OT es1)/\Ev B ty e1 fun y e2=>∃ es ks,e2[i]?=some (some (.own (OT es)))/\y=tkD ks/\es.length<=999999/\D'.nx (e2.set i (some (.own (OT (putD es ks d)))))):EvS B (aoa (tVar i) ty tv) D' env:=aqe h
end
section
variable {R:Sl->Prop} {K:Frag}
theorem avn {p q:Int × Int} (h:R (.st (.bool (HT.lexLt (p2 p) (p2 q))))):Op2 (rLtT K) (prD p) (prD q) R:=fun G H vx vy Q gh rx ry k=>by
 cases rx with
 | tup ha ra =>
  cases ry with
  | tup hb rb =>
   have e1:=Rps.ints_inv (ns:=p2 p) ra
   have e2:=Rps.ints_inv (ns:=p2 q) rb
   subst e1 e2
   exact ⟨_,_,p2 p,p2 q,rfl,rfl,SqT.of (gh _ _ ha),SqT.of (gh _ _ hb),k _ _ _ _ _ (Out.refl gh (.bl _)) h⟩
end
theorem aqj (p:Int × Int):aav (prD p)=true:=rfl
theorem aos (ps:List (Int × Int)):plainDs (ps.map prD)=true:=by
 rw [aeu]
 intro d hd
 obtain ⟨p,_,rfl⟩:=List.mem_map.mp hd
 rfl
theorem anv (p q:Int × Int):PyData.eqv (prD p) (prD q)=decide (p=q):=by
 rw [Bool.eq_iff_iff,ai3 _ _ rfl rfl,decide_eq_true_iff]
 constructor
 ·intro h
  simp [prD] at h
  exact Prod.ext h.1 h.2
 ·rintro rfl;rfl
theorem avo (ps:List (Int × Int)) (q:Int × Int):((ps.map prD).any fun z=>PyData.eqv z (prD q))=decide (q∈ps):=by
 rw [Bool.eq_iff_iff,List.any_eq_true,decide_eq_true_iff]
 constructor
 ·rintro ⟨d,hd,e⟩
  obtain ⟨p,hp,rfl⟩:=List.mem_map.mp hd
  rw [anv] at e
  rw [← of_decide_eq_true e];exact hp
 ·intro h
  exact ⟨prD q,List.mem_map.mpr ⟨q,h,rfl⟩,by rw [anv];exact decide_eq_true rfl⟩
theorem amk {ds:List PyData} {m:Nat} (h:∀ d∈ds,d.depth<=m):PyData.depthAll ds<=m:=by
 induction ds with
 | nil=>simp [PyData.depthAll]
 | cons d ds ih =>
  simp only [PyData.depthAll]
  exact Nat.max_le.mpr ⟨h d List.mem_cons_self,ih fun e he=>h e (List.mem_cons_of_mem _ he)⟩
theorem aqk (p:Int × Int):(prD p).depth<=1:=by simp [prD,PyData.depth,PyData.depthAll]
end VL
namespace VL
theorem af1 {α:Type} (R : α->α->Prop) (tr:∀ {a b c},R a b->R b c->R a c) {xs:List α}:xs.Pairwise R ↔ ∀ i (h:i+1 < xs.length),R (xs[i]'(by omega)) xs[i+1]:=by
 constructor
 ·intro h i hi
  exact List.pairwise_iff_getElem.mp h i (i+1) (by omega) hi (by omega)
 ·intro h
  rw [List.pairwise_iff_getElem]
  intro i j hi hj hij
  induction j with
  | zero=>omega
  | succ j ih =>
   by_cases e:i=j
   ·subst e;exact h i hj
   ·exact tr (ih (by omega) (by omega)) (h j hj)
end VL
namespace VL
open PySem PySem.Spec L2
section
variable {B:Bs} {env:En} {Q':PyData->En->Prop} {K:Frag} {E:XK} {i:Nat}
theorem ass {f:VP} {t:TA} {A0:Own} (h0:Has env i A0) (h:EvA B t env fun ds e1=>∃ A d,Has e1 i A/\Frz A d/\f (.st d :: ds.map Sl.st) fun s=>∃ d',s=.st d'/\afb d'=true/\Q' d' e1):Ev B (adz (spP K f) [] E (aco (tVar i) t)) env Q':=fun σ G H F Q I k=>by
 unfold adz
 simp only [List.append_nil]
 obtain ⟨v,hv,_⟩:=I.has h0
 refine ⟨v,hv,h σ G H F _ I fun vs G1 H1 F1 ds e1 I1 g1 r1 ⟨A,d,hA,fz,q1⟩=>?_⟩
 obtain ⟨v',hv',ap⟩:=I1.has hA
 rw [hv] at hv';cases hv'
 have js:=abl (H:=H1) (I1.fg i)
 refine ⟨jn G1 H1 (F1 i),_,_,akg I1.gh,fun a ks e=>js _ _ (I1.ft a ks e),.cons (s:=.st d) (fz _ _ _ _ ap (I1.fg i) I1.gh) (ArgsOk.of (r1.same js)),q1,fun s q u G' H' Fv o=>?_⟩
 obtain ⟨d',rfl,hs,q⟩:=q
 obtain ⟨G4,g4,I4⟩:=I1.moment js o
 exact k u G4 H' F1 d' e1 I4 (g1.trans g4) (ail o.ok.1 hs) q
end
end VL
namespace VL
open PySem L2
theorem ayz {B:Bs} {t:TS} {D':VEnds} {e:En} (h:EvS B t D' e):EvS B t D' e:=h
theorem ay0 {B:Bs} {g:TG} {s:Sl} {e:En} {Q:En->Prop} (h:EvG B g s e Q):EvG B g s e Q:=h
theorem axs {B:Bs} {g:TGs} {s:List PyData} {e:En} {Q:En->Prop} (h:EvGs B g s e Q):EvGs B g s e Q:=h
theorem g_Ev {B:Bs} {t:TE} {e:En} {Q:PyData->En->Prop} (h:Ev B t e Q):Ev B t e Q:=h
theorem ay1 {B:Bs} {t:TE} {e:En} {Q:Sl->En->Prop} (h:EvO B t e Q):EvO B t e Q:=h
theorem ay2 {B:Bs} {t:TT} {e:En} {Q:Bool->En->Prop} (h:EvT B t e Q):EvT B t e Q:=h
theorem ay3 {B:Bs} {t:TA} {e:En} {Q:List PyData->En->Prop} (h:EvA B t e Q):EvA B t e Q:=h
theorem ay4 {B:Bs} {t:TI} {e:En} {Q:List PyData->En->Prop} (h:EvI B t e Q):EvI B t e Q:=h
theorem axt {B:Bs} {t:TO} {e:En} {Q:Option Int->En->Prop} (h:EvOp B t e Q):EvOp B t e Q:=h
theorem ay5 {r:R2} {x y:PyData} {R:Sl->Prop} (h:Op2 r x y R):Op2 r x y R:=h
theorem ay6 {r:V->Hp->VK->Prop} {x:PyData} {R:Sl->Prop} (h:Op1 r x R):Op1 r x R:=h
theorem ay7 {r:List V->Hp->VK->Prop} {x:List PyData} {R:Sl->Prop} (h:OpA r x R):OpA r x R:=h
theorem g_FQ {s:Sl} {R:PyData->Prop} (h:FQ s R):FQ s R:=h
theorem avp {ds:List PyData} {R:List PyData->Prop} (h:akh ds R):akh ds R:=h
theorem avq {ds:List PyData} {R:List PyData->Prop} (h:aki ds R):aki ds R:=h
structure PsOk (n:Int) (ps:List (Int × Int)):Prop where
 nd:ps.Nodup
 inn:∀ p∈ps,0<=p.1/\p.1 < p.2/\p.2 < n
theorem PsOk.nil (n:Int):PsOk n []:=⟨List.nodup_nil,fun p hp=>by simp at hp⟩
theorem PsOk.add {n a b:Int} {ps:List (Int × Int)} (h:PsOk n ps) (h0:0<=a) (h1:a < b) (h2:b < n):PsOk n (addP ps (a,b)) :=
 ⟨aoq h.nd,fun p hp=>by
  rcases addP_mem.mp hp with q | q
  ·exact h.inn p q
  ·subst q;exact ⟨h0,h1,h2⟩⟩
theorem PsOk.len {n:Int} {ps:List (Int × Int)} (h:PsOk n ps) (hn:n<=100):ps.length<=10000:=by
 by_cases h0:0<=n
 ·have:=aje (n:=n.toNat) h.nd fun p hp=>by have:=h.inn p hp;omega
  have h2:n.toNat<=100:=by omega
  exact Nat.le_trans this (Nat.mul_le_mul h2 h2)
 ·cases ps with
  | nil=>simp
  | cons p r=>have:=h.inn p List.mem_cons_self;omega
def Tr (n:Int) (ps:List (Int × Int)):Prop:=∀ k,1<=k->k < n->∃ h,0<=h/\h < k/\(h,k)∈ps
theorem Tr.add {n:Int} {ps:List (Int × Int)} {p:Int × Int} (h:Tr n ps):Tr n (addP ps p):=fun k k1 k2=>by
 obtain ⟨x,a,b,c⟩:=h k k1 k2
 exact ⟨x,a,b,addP_mem.mpr (.inl c)⟩
def Conn (n:Int) (T:Int->Int->Prop):Prop:=∀ u v,0<=u->u < n->0<=v->v < n->∃ k,Gr.Walk T u k v
theorem Tr.conn {n:Int} {ps:List (Int × Int)} (h:Tr n ps):Conn n (Tied ps):=by
 have key:∀ (m:Nat) (v:Int),v=m->v < n->∃ k,Gr.Walk (Tied ps) 0 k v:=by
  intro m
  induction m using Nat.strongRecOn with
  | ind m ih =>
   intro v hv hn
   by_cases h0:m=0
   ·subst h0;have:v=0:=by omega
    subst this;exact ⟨0,.refl⟩
   ·obtain ⟨x,a,b,c⟩:=h v (by omega) hn
    obtain ⟨k,w⟩:=ih x.toNat (by omega) x (by omega) (by omega)
    exact ⟨k+1,.step w (.inl c)⟩
 intro u v u0 u1 v0 v1
 obtain ⟨k,w⟩:=key u.toNat u (by omega) u1
 obtain ⟨j,x⟩:=key v.toNat v (by omega) v1
 exact ⟨k+j,(w.rev fun _ _ t=>t.symm).app x⟩
theorem Conn.joined {n:Int} {es:List (Int × Int)} (h:Conn n (Tied es)) (h0:0 < n):Joined n es:=fun v v0 v1=>by
 obtain ⟨k,w⟩:=h 0 v (by omega) (by omega) v0 v1
 obtain ⟨d,_,hd⟩:=Gr.Dist.of_walk w
 exact ⟨d,hd⟩
theorem Joined.conn {n:Int} {es:List (Int × Int)} (h:Joined n es):Conn n (Tied es):=fun u v u0 u1 v0 v1=>by
 obtain ⟨d,hd⟩:=h u u0 u1
 obtain ⟨e,he⟩:=h v v0 v1
 exact ⟨d+e,(hd.1.rev fun _ _ t=>t.symm).app he.1⟩
theorem Conn.mono {n:Int} {T T':Int->Int->Prop} (h:Conn n T) (g:∀ u v,T u v->T' u v):Conn n T':=fun u v u0 u1 v0 v1=>by
 obtain ⟨k,w⟩:=h u v u0 u1 v0 v1
 exact ⟨k,w.rec .refl fun _ t ih => .step ih (g _ _ t)⟩
def Order (n:Int) (row:List Int):Prop:=row.Perm ((List.range n.toNat).map fun (i:Nat)=>(i:Int))
theorem Order.len {n:Int} {row:List Int} (h:Order n row):row.length=n.toNat:=by have:=h.length_eq;simpa using this
theorem Order.nodup {n:Int} {row:List Int} (h:Order n row):row.Nodup:=by
 refine h.nodup_iff.mpr ?_
 unfold List.Nodup
 rw [List.pairwise_map]
 exact List.nodup_range.imp fun {a b} hab e=>hab (by omega)
theorem Order.mem {n:Int} {row:List Int} (h:Order n row) {v:Int}:v∈row ↔ 0<=v/\v < n:=by
 rw [h.mem_iff,List.mem_map]
 constructor
 ·rintro ⟨i,hi,rfl⟩
  have:=List.mem_range.mp hi
  omega
 ·rintro ⟨h0,h1⟩
  exact ⟨v.toNat,List.mem_range.mpr (by omega),by omega⟩
theorem Order.get {n:Int} {row:List Int} (h:Order n row) {a:Int} (h0:0<=a) (h1:a < n):∃ x,row[a.toNat]?=some x/\atI row a=some x/\0<=x/\x < n:=by
 have hl:a.toNat < row.length:=by rw [h.len];omega
 have e:row[a.toNat]?=some row[a.toNat]:=List.getElem?_eq_getElem hl
 have:=h.mem.mp (List.mem_of_getElem? e)
 exact ⟨_,e,ad3 h0 e,this.1,this.2⟩
theorem Order.inj {n:Int} {row:List Int} (h:Order n row) {a b x:Int} (a0:0<=a) (b0:0<=b) (ha:row[a.toNat]?=some x) (hb:row[b.toNat]?=some x):a=b:=by
 obtain ⟨l1,e1⟩:=List.getElem?_eq_some_iff.mp ha
 obtain ⟨l2,e2⟩:=List.getElem?_eq_some_iff.mp hb
 have:=nodup_ix h.nodup l1 l2 (e1.trans e2.symm)
 omega
theorem Order.id (n:Int):Order n ((List.range n.toNat).map fun (i:Nat)=>(i:Int)):=List.Perm.refl _
noncomputable def abd (row:List Int) (a:Int):Int:=row.getD a.toNat 0
noncomputable def reP (row:List Int) (p:Int × Int):Int × Int:=if abd row p.1 < abd row p.2 then (abd row p.1,abd row p.2) else (abd row p.2,abd row p.1)
theorem Order.at {n:Int} {row:List Int} (h:Order n row) {a:Int} (h0:0<=a) (h1:a < n):row[a.toNat]?=some (abd row a)/\0<=abd row a/\abd row a < n:=by
 obtain ⟨x,e,_,x0,x1⟩:=h.get h0 h1
 have:abd row a=x:=by unfold abd;rw [List.getD_eq_getElem?_getD,e];rfl
 rw [this];exact ⟨e,x0,x1⟩
theorem Order.atI {n:Int} {row:List Int} (h:Order n row) {a:Int} (h0:0<=a) (h1:a < n):L2.atI row a=some (abd row a):=ad3 h0 (h.at h0 h1).1
theorem Order.ne {n:Int} {row:List Int} (h:Order n row) {a b:Int} (a0:0<=a) (a1:a < n) (b0:0<=b) (b1:b < n) (hab:a ≠ b):abd row a ≠ abd row b:=fun e=>by
 have h1:=(h.at a0 a1).1
 have h2:=(h.at b0 b1).1
 rw [e] at h1
 exact hab (h.inj a0 b0 h1 h2)
theorem PsOk.re {n:Int} {ps:List (Int × Int)} {row:List Int} (h:PsOk n ps) (o:Order n row):PsOk n (ps.map (reP row)):=by
 have inn:∀ p∈ps,0<=(reP row p).1/\(reP row p).1 < (reP row p).2/\(reP row p).2 < n:=fun p hp=>by
  obtain ⟨p0,p1,p2⟩:=h.inn p hp
  have a:=o.at p0 (by omega)
  have b:=o.at (a:=p.2) (by omega) p2
  have ne:=o.ne p0 (by omega) (by omega) p2 (by omega)
  unfold reP
  split <;> dsimp only <;> omega
 refine ⟨?_,fun q hq=>by obtain ⟨p,hp,rfl⟩:=List.mem_map.mp hq;exact inn p hp⟩
 unfold List.Nodup
 rw [List.pairwise_map]
 refine List.Pairwise.imp_of_mem ?_ h.nd
 intro p q hp hq hne e
 apply hne
 obtain ⟨p0,p1,p2⟩:=h.inn p hp
 obtain ⟨q0,q1,q2⟩:=h.inn q hq
 have inj:∀ a b,0<=a->a < n->0<=b->b < n->abd row a=abd row b->a=b:=fun a b a0 a1 b0 b1 e=>by
  apply Classical.byContradiction
  intro hab
  exact o.ne a0 a1 b0 b1 hab e
 have d1:=inj p.1 q.1 p0 (by omega) q0 (by omega)
 have d2:=inj p.2 q.2 (by omega) p2 (by omega) q2
 have d3:=inj p.1 q.2 p0 (by omega) (by omega) q2
 have d4:=inj p.2 q.1 (by omega) p2 q0 (by omega)
 unfold reP at e
 split at e <;> split at e <;> simp only [Prod.mk.injEq] at e
 ·exact Prod.ext (d1 e.1) (d2 e.2)
 ·have:=d3 e.1;have:=d4 e.2;omega
 ·have:=d4 e.1;have:=d3 e.2;omega
 ·exact Prod.ext (d1 e.2) (d2 e.1)
theorem Tied.re {ps:List (Int × Int)} {row:List Int} {u v:Int} (h:Tied ps u v):Tied (ps.map (reP row)) (abd row u) (abd row v):=by
 have key:∀ a b,(a,b)∈ps->Tied (ps.map (reP row)) (abd row a) (abd row b):=fun a b hm=>by
  have:=List.mem_map_of_mem (f:=reP row) hm
  unfold reP at this
  dsimp only at this
  split at this
  ·exact .inl this
  ·exact .inr this
 rcases h with h | h
 ·exact key u v h
 ·exact (key v u h).symm
theorem Conn.re {n:Int} {ps:List (Int × Int)} {row:List Int} (h:Conn n (Tied ps)) (o:Order n row):Conn n (Tied (ps.map (reP row))):=fun u v u0 u1 v0 v1=>by
 have back:∀ x,0<=x->x < n->∃ a,0<=a/\a < n/\abd row a=x:=fun x x0 x1=>by
  obtain ⟨i,hi,e⟩:=List.mem_iff_getElem.mp (o.mem.mpr ⟨x0,x1⟩)
  refine ⟨i,by omega,by rw [o.len] at hi;omega,?_⟩
  unfold abd
  simp [hi,e]
 obtain ⟨a,a0,a1,rfl⟩:=back u u0 u1
 obtain ⟨b,b0,b1,rfl⟩:=back v v0 v1
 obtain ⟨k,w⟩:=h a b a0 a1 b0 b1
 exact ⟨k,w.rec .refl fun _ t ih => .step ih t.re⟩
theorem Tied.perm {qs ps:List (Int × Int)} (h:qs.Perm ps) {u v:Int}:Tied qs u v ↔ Tied ps u v:=by unfold Tied;rw [h.mem_iff,h.mem_iff]
theorem ast {n:Int} {ps qs:List (Int × Int)} (h0:1<=n) (h1:n<=60) (h:PsOk n ps) (hp:qs.Perm ps) (hs:lexS (qs.map p2)):WebOk n qs:=⟨h0,h1,fun p hm=>h.inn p (hp.mem_iff.mp hm),anu hp h.nd hs⟩
theorem WebOk.ps {n:Int} {es:List (Int × Int)} (h:WebOk n es):PsOk n es:=⟨h.rise.nodup,h.inn⟩
theorem afd {α:Type}:∀ {l:List α} {k:Nat} {x : α},l[k]?=some x->(x :: l.eraseIdx k).Perm l
 | [],_,_,h=>by simp at h
 | a :: l,0,x,h=>by simp at h;subst h;exact List.Perm.refl _
 | a :: l,k+1,x,h=>by
  have ih:=afd (l:=l) (k:=k) (x:=x) (by simpa using h)
  exact (List.Perm.swap a x _).trans (ih.cons a)
theorem aot {n:Int} {row left:List Int} {k:Nat} {x:Int} (h:Order n (row ++ left)) (hx:left[k]?=some x):Order n ((row ++ [x]) ++ left.eraseIdx k):=by
 refine List.Perm.trans ?_ h
 rw [List.append_assoc]
 refine List.Perm.append_left row ?_
 exact afd hx
section
variable {B:Bs} {env:En} {g:TG} {tif:TT} {te:TE} {K:Frag} {src:List (Option Nat)} {ds:List PyData} {e1:En} {R:List PyData->En->Prop}
theorem aql {K':Frag} {α:Type} {xs:List α} {fa fb : α->PyData} (f : α->PyData) (p : α->Bool) (hno:noIo (aaj src e1)=true) (hl:xs.length<=999999)
  (h:∀ x∈xs,∀ B':Bs,B'.K=K->EvT B' tif (some (.st (fa x)) :: some (.st (fb x)) :: aaj src e1) fun b e3=>b=p x/\e3=some (.st (fa x)) :: some (.st (fb x)) :: aaj src e1/\(b=true->Ev B' te (some (.st (fa x)) :: some (.st (fb x)) :: aaj src e1) fun y e4=>y=f x/\e4=some (.st (fa x)) :: some (.st (fb x)) :: aaj src e1))
  (hR:R ((xs.filter p).map f) e1):LcV K (none :: none :: src) (gLst K' 2 (ado (aay 0) (ado (aay 1) gNil))) tif te (xs.map fun x => .list [fa x,fb x]) e1 R:=by
 have hno':noIo (aaj (none :: none :: src) e1)=true:=by
  show ((none :: none :: aaj src e1).all fun s => !isIo s)=true
  rw [List.all_cons,List.all_cons]
  exact (Bool.and_eq_true _ _).mpr ⟨rfl,(Bool.and_eq_true _ _).mpr ⟨rfl,hno⟩⟩
 refine ⟨fun i ys e=>ys=((xs.take i).filter p).map f/\∃ o o',e=stO o :: stO o' :: aaj src e1,⟨by simp,none,none,rfl⟩,?_,?_,?_⟩
 ·rintro i ys e ⟨_,o,o',rfl⟩
  exact ⟨⟨isIo_stO.symm,ab6⟩,⟨isIo_stO.symm,ab6⟩,ac9 acw⟩
 ·rintro i d ys e hd ⟨rfl,o,o',rfl⟩ B' hB
  rw [List.getElem?_map] at hd
  cases hx:xs[i]? with
  | none=>rw [hx] at hd;cases hd
  | some x =>
   rw [hx] at hd
   cases hd
   have hi:i < xs.length:=(List.getElem?_eq_some_iff.mp hx).1
   have et:xs.take (i+1)=xs.take i ++ [x]:=by rw [List.take_add_one,hx];rfl
   refine ant rfl (adw (aat (adw (aat (agy ?_)))))
   show EvT B' tif (some (.st (fa x)) :: some (.st (fb x)) :: aaj src e1) _
   intro σ G H F Q I k
   refine h x (List.mem_of_getElem? hx) B' hB σ G H F Q I fun b G' H' F' e3 I' g' ⟨hb,he,hq⟩=>k b G' H' F' e3 I' g' ?_
   subst he
   by_cases hp:b=true
   ·rw [if_pos hp]
    intro σ G H F Q I k
    refine hq hp σ G H F Q I fun v G' H' F' d' e4 I' g' r' ⟨hy,he4⟩=>k v G' H' F' d' e4 I' g' r' ?_
    subst hy he4
    refine ⟨?_,?_,some _,some _,rfl⟩
    ·have:=List.length_filter_le p (xs.take i)
     simp only [List.length_map]
     have h2:(xs.take i).length<=i:=by simp;omega
     omega
    ·rw [et,List.filter_append,List.map_append]
     have:p x=true:=by rw [← hb];exact hp
     simp [this]
   ·rw [if_neg hp]
    refine ⟨?_,some _,some _,rfl⟩
    rw [et,List.filter_append,List.map_append]
    have:p x=false:=by rw [← hb];simpa using hp
    simp [this]
 ·rintro ys e ⟨rfl,o,o',rfl⟩
  rw [ae1 hno']
  simpa using hR
end
theorem anw (n:Nat):rngD 0 n=((List.range n).map fun (i:Nat)=>(i:Int)).map PyData.int:=by simp [rngD]
theorem alv {B:Bs} {t:TS} {D':VEnds} {env:En} (J:En->Prop) (h:EvS B t { D' with nx:=J } env) (k:∀ e,J e->D'.nx e):EvS B t D' env:=fun σ G H F D I r=>h σ G H F D I ⟨fun σ G' H F env I' g q=>r.nx _ _ _ _ _ I' g (k _ q),r.rt,r.bk,r.ct⟩
theorem aea {B:Bs} {g:TG} {A:Own} {d:PyData} {env:En} {QE:En->Prop} (f:Frz A d) (h:EvG B g (.st d) env QE):EvG B g (.own A) env QE:=fun σ G H F v Fv Q I x k =>
 h σ _ H F v _ Q (I.freeze x.fb x.fd x.fg) (aeh (f G H v Fv x.ok x.fg I.gh)) fun σ' G' H' F' e' I' g' q=>k σ' G' H' F' e' I' ((abl x.fg).trans g') q
theorem alw {B:Bs} {t:TS} {D':VEnds} {env:En} {A:Own} {d:PyData} {s:Sl} (i:Nat) (h:s=.own A\/s=.st d) (e:env[i]?=some (some s)) (f:Frz A d) (q:EvS B t D' (env.set i (some (.st d)))):EvS B t D' env:=by
 rcases h with rfl | rfl
 ·exact aim i e f q
 ·obtain ⟨hi,e⟩:=List.getElem?_eq_some_iff.mp e
  rw [← e,List.set_getElem_self] at q
  exact q
theorem cutR {R X:Prop} (h:R->X) (r:R):X:=h r
end VL
namespace VL
open PySem PySem.Spec L2
def aei (e:En):Prop:=∀ (j:Nat) (s:Sl),e[j]?=some (some s)->(∃ d,s=.st d)\/∃ ns:List Int,s=.scr ns
def Sls (K:Frag) (G:Hp) (σ:St) (e:En):Prop:=∀ (j:Nat) (s:Sl),e[j]?=some (some s)->∃ v,σ[j]?=some (some v)/\((∃ d,s=.st d/\Rp G v d)\/∃ (ns:List Int) (a:Addr),s=.scr ns/\v=.ref a/\SqL K G a (ns.map V.int))
theorem Sls.same {K:Frag} {G G':Hp} {σ:St} {e:En} (h:Sls K G σ e) (g:Same G G'):Sls K G' σ e:=fun j s es=>by
 obtain ⟨v,hv,q⟩:=h j s es
 refine ⟨v,hv,?_⟩
 rcases q with ⟨d,e1,r⟩ | ⟨ns,a,e1,e2,r⟩
 ·exact .inl ⟨d,e1,r.same g⟩
 ·exact .inr ⟨ns,a,e1,e2,g.seq r⟩
noncomputable def bsC (K:Frag) (G H:Hp) (σ:St):Bs:=⟨K,G,H,H,σ,noF⟩
theorem ajg {K:Frag} {G H:Hp} {σ:St} {e:En} (gh:Same G H) (ft:FT G H) (ln : σ.length=e.length) (sl:Sls K G σ e):VI (bsC K G H σ) G H σ e noF:=by
 refine ⟨gh,Same.refl _,fun a o e => .inl e,Same.refl _,Same.refl _,fun a o e=>⟨o,e⟩,fun i a z=>z.elim,fun i a z=>z.elim,fun i j a z=>z.elim,fun i a z=>z.elim,fun i s es=>?_,ln,ft⟩
 obtain ⟨v,hv,q⟩:=sl i s es
 refine ⟨v,hv,?_⟩
 rcases q with ⟨d,e1,r⟩ | ⟨ns,a,e1,e2,r⟩
 ·subst e1;exact ⟨r,fun a z=>z⟩
 ·subst e1;exact ⟨⟨a,e2,r⟩,fun a z=>z⟩
theorem ahu {B:Bs} {K:Frag} {G H:Hp} {σ:St} {e:En} {F:Nat->Addr->Prop} (I:VI B G H σ e F) (c:aei e) (hK:B.K=K:=by rfl):Sls K G σ e:=fun j s es=>by
 subst hK
 obtain ⟨v,hv,q⟩:=I.sl j s es
 refine ⟨v,hv,?_⟩
 rcases c j s es with ⟨d,rfl⟩ | ⟨ns,rfl⟩
 ·exact .inl ⟨d,rfl,q.1⟩
 ·obtain ⟨⟨a,ea,sq⟩,_⟩:=q
  exact .inr ⟨ns,a,rfl,ea,sq⟩
def LcV2 (K:Frag) (src:List (Option Nat)) (g:TG) (tif:TT) (wi2:TI) (g2:TG) (tif2:TT) (te:TE) (ds:List PyData) (e1:En) (R:List PyData->Prop):Prop:=∃ J:Nat->List PyData->En->Prop,J 0 [] (aaj src e1)/\(∀ i ys e,J i ys e->aei e) /\
 (∀ i d ys e,ds[i]?=some d->J i ys e->∀ B':Bs,B'.K=K->EvG B' g (.st d) e fun e2=>EvT B' tif e2 fun b e3=>if b=true then EvI B' wi2 e3 fun ds2 e4=>∃ J2:Nat->List PyData->En->Prop,J2 0 ys e4/\(∀ j ys e,J2 j ys e->aei e) /\
  (∀ j d2 ys2 e,ds2[j]?=some d2->J2 j ys2 e->∀ B2:Bs,B2.K=K->EvG B2 g2 (.st d2) e fun e5=>EvT B2 tif2 e5 fun b e6=>if b=true then Ev B2 te e6 fun y e7=>ys2.length<=999999/\J2 (j+1) (ys2 ++ [y]) e7 else J2 (j+1) ys2 e6)/\(∀ ys2 e,J2 ds2.length ys2 e->J (i+1) ys2 e) else J (i+1) ys e3)/\∀ ys e,J ds.length ys e->R ys
section
variable {B:Bs} {env:En}
theorem anx {src:List (Option Nat)} {wi:TI} {g:TG} {tif:TT} {wi2:TI} {g2:TG} {tif2:TT} {te:TE} {QO:Sl->En->Prop} (h:EvI B wi env fun ds e1=>LcV2 B.K src g tif wi2 g2 tif2 te ds e1 fun ys=>QO (.own (OL ys)) e1):EvO B (tLC2 src wi g tif wi2 g2 tif2 te) env QO:=fun σ G H F Q I k=>by
 refine h σ G H F _ I fun J G1 H1 F1 ds e1 I1 g1 it ⟨Jv,j0,jc,js,jd⟩ acc hacc=>?_
 have fa:∀ j,¬ F1 j acc:=I1.no_f hacc
 have hb:B.H acc=none:=I1.no_b hacc
 -- between two turns
 let Wv:(List PyData->En->Prop)->List V->St->Hp->Prop:=fun J ys σI H=>∃ G2 e yd,VI B G2 H σ e1 F1/\Same G1 G2/\H acc=some (.lst ys)/\Rps G2 ys yd/\G2 acc=none/\J yd e/\σI.length=e.length/\Sls B.K G2 σI e
 -- out of a frame within
 have leave:∀ {G3 H3:Hp} {σI:St} {ys:List V},VI B G3 H3 σ e1 F1->G3 acc=none->H3 acc=some (.lst ys)->∀ {G4 H4:Hp} {σ4:St} {F4:Nat->Addr->Prop} {e4:En},VI (bsC B.K G3 H3 σI) G4 H4 σ4 e4 F4->VI B G4 H4 σ e1 F1/\G4 acc=none/\H4 acc=some (.lst ys):=by
  intro G3 H3 σI ys I3 ga ac G4 H4 σ4 F4 e4 I4
  refine ⟨I3.grow I4.g0 I4.gh I4.rs I4.gn I4.ft,?_,I4.rs _ _ ac⟩
  cases e':G4 acc with
  | none=>rfl
  | some u =>
   rcases I4.gn acc u e' with q | q
   ·change G3 acc=_ at q;rw [ga] at q;cases q
   ·change H3 acc=_ at q;rw [ac] at q;cases q
 have step:∀ {G2 H2:Hp} {ys:List V} {x:V} {G3 H3:Hp} {d:PyData},VI B G2 H2 σ e1 F1->G2 acc=none->H2 acc=some (.lst ys)->Out G2 H2 x G3 H3 (.st d) (fun _=>False)->VI B G3 H3 σ e1 F1/\G3 acc=none/\H3 acc=some (.lst ys):=by
  intro G2 H2 ys x G3 H3 d I2 ga ac o
  refine ⟨(I2.out o).1,?_,o.hh _ _ ac⟩
  cases e':G3 acc with
  | none=>rfl
  | some u =>
   rcases o.gn acc u e' with q | q
   ·rw [ga] at q;cases q
   ·rw [ac] at q;cases q
 refine ⟨fun i m ys σI H=>m=ds.length - i/\i<=ds.length/\Wv (Jv i) ys σI H,⟨ds.length,by simp,Nat.zero_le _,?_⟩,?_⟩
 ·refine ⟨G1,aaj src e1,[],I1.aside (fun _ z=>nomatch z) (I1.no_g hacc) fa hb,Same.refl _,aan,.nil,I1.no_g hacc,j0,by simp [pick,aaj],fun j s e=>?_⟩
  obtain ⟨i,t,hs,ht,hp⟩:=af0 e
  obtain ⟨v,hv,q⟩:=I1.sl i t ht
  refine ⟨v,alp hs hv,?_⟩
  cases t with
  | st d=>cases hp;exact .inl ⟨d,rfl,q.1⟩
  | scr ns =>
   cases hp
   obtain ⟨⟨a,ea,sq⟩,_⟩:=q
   exact .inr ⟨ns,a,rfl,ea,sq⟩
  | own A=>cases hp;rcases jc _ _ _ j0 j _ e with ⟨d,z⟩ | ⟨ns,z⟩ <;> cases z
  | io A=>cases hp;rcases jc _ _ _ j0 j _ e with ⟨d,z⟩ | ⟨ns,z⟩ <;> cases z
 ·rintro i m ys σI H2 ⟨rfl,hi,G2,e,yd,I2,g2',hac,ry,ga,jv,ln,sl⟩
  by_cases hlt:i < ds.length
  ·refine .inr ⟨it.go i G2 H2 g2' I2.gh hlt,Wv (Jv (i+1)),fun ys' σ' H' hw=>⟨ds.length - (i+1),by omega,rfl,hlt,hw⟩,fun x H3 y=>?_⟩
   obtain ⟨G3,o⟩:=it.yld i G2 H2 x H3 _ g2' I2.gh I2.ft (List.getElem?_eq_getElem hlt) y
   obtain ⟨I3,ga3,ac3⟩:=step I2 ga hac o
   have E3:=ajg (K:=B.K) I3.gh I3.ft ln (sl.same o.gg)
   refine js i _ yd e (List.getElem?_eq_getElem hlt) jv (bsC B.K G3 H3 σI) rfl σI G3 H3 _ x _ _ E3 (aeh o.ok.1) fun σ4 G4 H4 F4 e4 I4 g4 q4=>?_
   refine q4 σ4 G4 H4 F4 _ I4 fun b G5 H5 F5 e5 I5 g5 q5=>?_
   have ry5:=ry.same (o.gg.trans (g4.trans g5))
   have s5:=g2'.trans (o.gg.trans (g4.trans g5))
   cases b with
   | false =>
    rw [if_neg Bool.false_ne_true] at q5 ⊢
    obtain ⟨K5,ga5,ac5⟩:=leave I3 ga3 ac3 I5
    exact ⟨G5,e5,yd,K5,s5,ac5,ry5,ga5,q5,I5.ln,ahu I5 (jc _ _ _ q5)⟩
   | true =>
    rw [if_pos rfl] at q5 ⊢
    refine q5 σ4 G5 H5 F5 _ I5 fun J2 G6 H6 F6 ds2 e6 I6 g6 it2 ⟨Jw,w0,wc,ws,wd⟩=>?_
    obtain ⟨K6,ga6,ac6⟩:=leave I3 ga3 ac3 I6
    have s6:=s5.trans g6
    let Wi:Nat->List V->St->Hp->Prop:=fun j ys σI H=>∃ G2 e yd,VI B G2 H σ e1 F1/\Same G6 G2/\H acc=some (.lst ys)/\Rps G2 ys yd/\G2 acc=none/\Jw j yd e/\σI.length=e.length/\Sls B.K G2 σI e
    refine ⟨fun j m ys σI H=>m=ds2.length - j/\j<=ds2.length/\Wi j ys σI H,⟨ds2.length,by simp,Nat.zero_le _,G6,e6,yd,K6,Same.refl _,ac6,ry5.same g6,ga6,w0,I6.ln,ahu I6 (wc _ _ _ w0)⟩,?_⟩
    rintro j m zs σJ H7 ⟨rfl,hj,G7,e7,zd,I7,g7,ac7,rz,ga7,jw,ln7,sl7⟩
    refine ⟨ac7,?_⟩
    by_cases hlt2:j < ds2.length
    ·refine .inr ⟨it2.go j G7 H7 g7 I7.gh hlt2,Wi (j+1),fun ys' σ' H' hw=>⟨ds2.length - (j+1),by omega,rfl,hlt2,hw⟩,fun x2 H8 y2=>?_⟩
     obtain ⟨G8,o2⟩:=it2.yld j G7 H7 x2 H8 _ g7 I7.gh I7.ft (List.getElem?_eq_getElem hlt2) y2
     obtain ⟨I8,ga8,ac8⟩:=step I7 ga7 ac7 o2
     have E8:=ajg (K:=B.K) I8.gh I8.ft ln7 (sl7.same o2.gg)
     refine ws j _ zd e7 (List.getElem?_eq_getElem hlt2) jw (bsC B.K G8 H8 σJ) rfl σJ G8 H8 _ x2 _ _ E8 (aeh o2.ok.1) fun σ9 G9 H9 F9 e9 I9 g9 q9=>?_
     refine q9 σ9 G9 H9 F9 _ I9 fun b GA HA FA eA IA gA qA=>?_
     cases b with
     | false =>
      rw [if_neg Bool.false_ne_true] at qA ⊢
      obtain ⟨KA,gaA,acA⟩:=leave I8 ga8 ac8 IA
      have sA:=o2.gg.trans (g9.trans gA)
      exact ⟨GA,eA,zd,KA,g7.trans sA,acA,rz.same sA,gaA,qA,IA.ln,ahu IA (wc _ _ _ qA)⟩
     | true =>
      rw [if_pos rfl] at qA ⊢
      refine qA σ9 GA HA FA _ IA fun yv GB HB FB dB eB IB gB rB ⟨lB,qB⟩=>?_
      obtain ⟨KB,gaB,acB⟩:=leave I8 ga8 ac8 IB
      have sB:=o2.gg.trans (g9.trans (gA.trans gB))
      have rzB:=rz.same sB
      refine ⟨acB,by rw [rzB.length];exact Nat.lt_of_le_of_lt lB (by decide),GB,eB,zd ++ [dB],KB.aside (fun _ z=>nomatch z) gaB fa hb,g7.trans sB,aan,rzB.append (.cons rB .nil),gaB,qB,IB.ln,ahu IB (wc _ _ _ qB)⟩
    ·have ej:j=ds2.length:=by omega
     subst ej
     refine .inl ⟨it2.stop _ G7 H7 g7 I7.gh rfl,G7,e7,zd,I7,s6.trans g7,ac7,rz,ga7,wd _ _ jw,ln7,sl7⟩
  ·have ei:i=ds.length:=by omega
   subst ei
   refine .inl ⟨it.stop _ G2 H2 g2' I2.gh rfl,?_⟩
   refine k (.ref acc) G2 H2 F1 (· = acc) (.own (OL yd)) e1 I2 (g1.trans g2') ⟨⟨acc,ys,rfl,hac,ry,fun b=>Iff.rfl⟩,fun a z=>by rw [z];exact hb,fun a z=>by rw [z];exact ga,fun a z=>by rw [z];exact ⟨_,hac⟩,fun j a z=>by rw [z];exact fa j⟩ (jd _ _ jv)
end
theorem adq {o:Option PyData} {e:En} (h:aei e):aei (stO o :: e):=fun j s es=>by
 cases j with
 | zero =>
  cases o with
  | none=>simp [stO] at es
  | some d =>
   have:s=.st d:=by simpa [stO] using es.symm
   exact .inl ⟨d,this⟩
 | succ j=>exact h j s (by simpa using es)
theorem alx {α β:Type} {K:Frag} {src:List (Option Nat)} {e1:En} {wi2:TI} {tif2:TT} {te:TE} {R:List PyData->Prop} {xs:List α} {fx : α->PyData} (yf : α->List β) (fy : β->PyData) (f : α->β->PyData) (q : α->β->Bool) (hc:aei (aaj src e1))
  (hl:(xs.flatMap fun x=>((yf x).filter (q x)).map (f x)).length<=999999)
  (h1:∀ x∈xs,∀ B':Bs,B'.K=K->∀ o,EvI B' wi2 (some (.st (fx x)) :: stO o :: aaj src e1) fun ds2 e4=>ds2=(yf x).map fy/\e4=some (.st (fx x)) :: stO o :: aaj src e1)
  (h2:∀ x∈xs,∀ y∈yf x,∀ B':Bs,B'.K=K->EvT B' tif2 (some (.st (fx x)) :: some (.st (fy y)) :: aaj src e1) fun b e6=>b=q x y/\e6=some (.st (fx x)) :: some (.st (fy y)) :: aaj src e1/\(b=true->Ev B' te (some (.st (fx x)) :: some (.st (fy y)) :: aaj src e1) fun z e7=>z=f x y/\e7=some (.st (fx x)) :: some (.st (fy y)) :: aaj src e1))
  (hR:R (xs.flatMap fun x=>((yf x).filter (q x)).map (f x))):LcV2 K (none :: none :: src) (aay 0) tYes wi2 (aay 1) tif2 te (xs.map fx) e1 R:=by
 refine ⟨fun i ys e=>ys=(xs.take i).flatMap (fun x=>((yf x).filter (q x)).map (f x))/\∃ o o',e=stO o :: stO o' :: aaj src e1,⟨by simp,none,none,rfl⟩,?_,?_,?_⟩
 ·rintro i ys e ⟨_,o,o',rfl⟩
  exact adq (adq hc)
 ·rintro i d ys e hd ⟨rfl,o,o',rfl⟩ B' hB
  rw [List.getElem?_map] at hd
  cases hx:xs[i]? with
  | none=>rw [hx] at hd;cases hd
  | some x =>
   rw [hx] at hd
   cases hd
   have hxm:=List.mem_of_getElem? hx
   have et:xs.take (i+1)=xs.take i ++ [x]:=by rw [List.take_add_one,hx];rfl
   have hle:((xs.take (i+1)).flatMap (fun x=>((yf x).filter (q x)).map (f x))).length<=999999:=by
    refine Nat.le_trans ?_ hl
    conv=>rhs;rw [← List.take_append_drop (i+1) xs,List.flatMap_append,List.length_append]
    exact Nat.le_add_right _ _
   refine aat (acs ?_)
   rw [if_pos rfl]
   show EvI B' wi2 (some (.st (fx x)) :: stO o' :: aaj src e1) _
   intro σ G H F Q I k
   refine h1 x hxm B' hB o' σ G H F Q I fun J G' H' F' ds2 e4 I' g' it' ⟨hds,he4⟩=>k J G' H' F' ds2 e4 I' g' it' ?_
   subst hds he4
   refine ⟨fun j ys2 e=>ys2=(xs.take i).flatMap (fun x=>((yf x).filter (q x)).map (f x)) ++ (((yf x).take j).filter (q x)).map (f x)/\∃ o',e=some (.st (fx x)) :: stO o' :: aaj src e1,⟨by simp,o',rfl⟩,?_,?_,?_⟩
   ·rintro j ys2 e ⟨_,o'',rfl⟩
    exact adq (o:=some (fx x)) (adq hc)
   ·rintro j d2 ys2 e hd2 ⟨rfl,o'',rfl⟩ B2 hB2
    rw [List.getElem?_map] at hd2
    cases hy:(yf x)[j]? with
    | none=>rw [hy] at hd2;cases hd2
    | some y =>
     rw [hy] at hd2
     cases hd2
     have et2:(yf x).take (j+1)=(yf x).take j ++ [y]:=by rw [List.take_add_one,hy];rfl
     refine aat ?_
     show EvT B2 tif2 (some (.st (fx x)) :: some (.st (fy y)) :: aaj src e1) _
     intro σ G H F Q I k
     refine h2 x hxm y (List.mem_of_getElem? hy) B2 hB2 σ G H F Q I fun b G' H' F' e3 I' g' ⟨hb,he,hq⟩=>k b G' H' F' e3 I' g' ?_
     subst he
     by_cases hp:b=true
     ·rw [if_pos hp]
      intro σ G H F Q I k
      refine hq hp σ G H F Q I fun v G' H' F' d' e4 I' g' r' ⟨hy',he4⟩=>k v G' H' F' d' e4 I' g' r' ?_
      subst hy' he4
      have hqt:q x y=true:=by rw [← hb];exact hp
      refine ⟨?_,?_,some (fy y),rfl⟩
      ·refine Nat.le_trans ?_ hle
       rw [et,List.flatMap_append,List.length_append,List.length_append]
       refine Nat.add_le_add_left ?_ _
       simp only [List.flatMap_cons,List.flatMap_nil,List.append_nil,List.length_map]
       exact (List.Sublist.filter (q x) (List.take_sublist j (yf x))).length_le
      ·rw [et2,List.filter_append,List.map_append,← List.append_assoc]
       simp [hqt]
     ·rw [if_neg hp]
      have hqf:q x y=false:=by rw [← hb];simpa using hp
      refine ⟨?_,some (fy y),rfl⟩
      rw [et2,List.filter_append,List.map_append]
      simp [hqf]
   ·rintro ys2 e ⟨rfl,o'',rfl⟩
    refine ⟨?_,some (fx x),o'',rfl⟩
    rw [et,List.flatMap_append]
    simp
 ·rintro ys e ⟨rfl,o,o',rfl⟩
  rw [List.length_map,List.take_length]
  exact hR
section
variable {B:Bs} {env:En} {Q':PyData->En->Prop} {QO:Sl->En->Prop} {c:TT} {ta tb:TE}
theorem avr (h:EvT B c env fun b e=>if b=true then EvO B ta e QO else EvO B tb e QO):EvO B (tIf c ta tb) env QO:=fun σ G H F Q I k =>
 h σ G H F _ I fun b G1 H1 F1 e1 I1 g1 q=>by
  cases b with
  | true=>rw [if_pos rfl] at q ⊢;exact q σ G1 H1 F1 Q I1 fun v G' H' F' Fv d e I' g r z=>k v G' H' F' Fv d e I' (g1.trans g) r z
  | false=>rw [if_neg Bool.false_ne_true] at q ⊢;exact q σ G1 H1 F1 Q I1 fun v G' H' F' Fv d e I' g r z=>k v G' H' F' Fv d e I' (g1.trans g) r z
theorem axu {src:List (Option Nat)} {wi:TI} {g:TG} {tif:TT} {wi2:TI} {g2:TG} {tif2:TT} {te:TE} (h:EvI B wi env fun ds e1=>LcV2 B.K src g tif wi2 g2 tif2 te ds e1 fun ys=>Q' (.list ys) e1):Ev B (tLC2 src wi g tif wi2 g2 tif2 te) env Q':=acg (anx fun σ G H F R I k=>h σ G H F R I fun J G1 H1 F1 ds e1 I1 g1 it ⟨Jv,a,b,c,d⟩=>k J G1 H1 F1 ds e1 I1 g1 it ⟨Jv,a,b,c,fun ys e q=>adh (d ys e q)⟩)
end
noncomputable def axv (e:En):Bool:=e.all fun o=>match o with | some (.own _)=>false | some (.io _)=>false | _=>true
theorem ajh {e:En} (h:axv e=true):aei e:=fun j s es=>by
 have:=List.all_eq_true.mp h (some s) (List.mem_of_getElem? es)
 cases s with
 | st d=>exact .inl ⟨d,rfl⟩
 | scr ns=>exact .inr ⟨ns,rfl⟩
 | own A=>simp at this
 | io A=>simp at this
end VL
namespace VL
open PySem PySem.Spec L2 PyProof.Rows
end VL
namespace VL
open PySem PySem.Spec L2
section
variable {B:Bs} {env:En} {QO:Sl->En->Prop} {i:Nat}
end
section
variable {X:Cx}
end
section
variable {R:Sl->Prop}
end
end VL
namespace L2
open PySem PySem.Spec PyProof.Rows
noncomputable def isV (k:Int):Value->Bool
 | .int a _=>decide (a=k)
 | _=>false
theorem aly {ns:List Int} {us:List Value} (r:Vals (ns.map V.int) us) (k:Int):∀ i (h:i < us.length) (h':i < ns.length),isV k us[i]=decide (ns[i]=k):=by
 induction ns generalizing us with
 | nil=>intro i h h';simp at h'
 | cons n ns ih =>
  rw [List.map_cons] at r
  cases r with
  | cons r1 r2 =>
   obtain ⟨t,e⟩:=r1
   subst e
   intro i h h'
   cases i with
   | zero=>rfl
   | succ i=>exact ih r2 i (by simpa using h) (by simpa using h')
theorem aou {ns:List Int} {us:List Value} (r:Vals (ns.map V.int) us) (k:Int) (t:Tok):∀ y∈us,MeetsSeq.EqGives y (.int k t) (isV k y):=by
 induction ns generalizing us with
 | nil=>rw [List.map_nil] at r;cases r;intro y hy;simp at hy
 | cons n ns ih =>
  rw [List.map_cons] at r
  cases r with
  | cons r1 r2 =>
   obtain ⟨u,e⟩:=r1
   subst e
   intro y hy
   rcases List.mem_cons.mp hy with rfl | hy
   ·exact MeetsSeq.EqGives.int n k u t
   ·exact ih r2 y hy
section
variable {X:Cx}
def aqm:V->List V->Hp->VK->Prop:=fun x vs H Q=>∃ (l:Addr) (ns:List Int) (k:Int) (j:Nat),x=.ref l/\vs=[.int k]/\H l=some (.lst (ns.map V.int))/\ns[j]?=some k/\(∀ m,m < j->ns[m]? ≠ some k)/\Q (.int j) H
theorem alz:MtM X "list.index" aqm:=by
 intro pins s σ H x vs v us Q I rx rv h
 obtain ⟨l,ns,k,j,rfl,rfl,hH,hj,hno,q⟩:=h
 cases rx
 obtain ⟨u,rfl,ru⟩:=rv.one
 obtain ⟨t,rfl⟩:=ru
 obtain ⟨z,its,n,r,hl,e⟩:=I.lstM hH
 rw [List.length_map] at hl z
 obtain ⟨hj1,hj2⟩:=List.getElem?_eq_some_iff.mp hj
 have hz:sizeLine < 2 ^ 62:=by decide
 refine call_meets F.slot_list_index ⟨_,e,rfl⟩ F.entry_list_index (F.args_list_index_2 _ _)
  (MeetsSeq.list_index l its.toArray n (.int k t) (isV k) (fun y hy=>aou r k t y (by simpa using hy)) j (by rw [List.size_toArray];omega) (by omega) ?_ (fun m hm hlt=>?_)) ⟨e,?_⟩
 ·rw [List.getElem_toArray,aly r k j (by omega) hj1,decide_eq_true hj2]
 ·have hm':m < ns.length:=by omega
  rw [List.getElem_toArray,aly r k m (by omega) hm']
  exact decide_eq_false fun e=>hno m hlt (by rw [List.getElem?_eq_getElem hm',e])
 ·exact ⟨.int j,H,I.tok _,⟨_,rfl⟩,q⟩
variable {e est:Expr} {te:TE} {ts:TO} {pos p2:Pos}
end
end L2
namespace VL
open PySem PySem.Spec L2
section
variable {B:Bs} {env:En} {QO:Sl->En->Prop} {Q':PyData->En->Prop} {te tl:TE} {ts:TO} {K:Frag} {i:Nat}
theorem Rps.rev {G:Hp}:∀ {vs:List V} {ds:List PyData},Rps G vs ds->Rps G vs.reverse ds.reverse
 | _,_,.nil => .nil
 | _,_,.cons r t=>by
  rw [List.reverse_cons,List.reverse_cons]
  exact (Rps.rev t).append (.cons r .nil)
theorem asu (h:Ev B tl env fun x e1=>∃ ns:List Int,x=.list (ns.map .int)/\Ev B te e1 fun y e2=>∃ (k:Int) (j:Nat),y=.int k/\ns[j]?=some k/\(∀ m,m < j->ns[m]? ≠ some k)/\Q' (.int j) e2):Ev B (tBM K "list" aqm tl (aco te tNil)) env Q':=fun σ G H F Q I k =>
 h σ G H F _ I fun v G1 H1 F1 d e1 I1 g1 r1 z_=>by
  obtain ⟨ns,ed,q1⟩:=z_
  subst ed
  cases r1 with
  | @lst a vs _ ha rs =>
   have ev:vs=ns.map V.int:=rs.ints_inv
   subst ev
   refine ⟨.inl ⟨rfl,_,SqL.of (I1.gh _ _ ha)⟩,q1 σ G1 H1 F1 _ I1 fun u G2 H2 F2 y e2 I2 g2 r2 ⟨c,j,ey,h1,h2,q⟩=>?_⟩
   subst ey
   cases r2
   exact ⟨a,ns,c,j,rfl,rfl,I2.gh _ _ (g2 _ _ ha),h1,h2,k _ G2 H2 F2 _ e2 I2 (g1.trans g2) (.int _) q⟩
end
theorem akj {α:Type} [DecidableEq α]:∀ {as bs:List α},as.Nodup->(∀ a∈as,a∈bs)->as.length<=bs.length
 | [],_,_,_=>Nat.zero_le _
 | a :: as,bs,hn,hs=>by
  have ha:a∈bs:=hs a (List.mem_cons_self ..)
  have hn':=List.nodup_cons.mp hn
  have h:=akj (bs:=bs.erase a) hn'.2 fun x hx=>(List.mem_erase_of_ne (show x ≠ a from fun e=>hn'.1 (by rw [← e];exact hx))).mpr (hs x (List.mem_cons_of_mem _ hx))
  rw [List.length_erase_of_mem ha] at h
  have:0 < bs.length:=List.length_pos_of_mem ha
  simp only [List.length_cons]
  omega
structure But (n:Int) (es rem:List (Int × Int)):Prop where
 rise:Rise es
 inn:∀ p∈es,0<=p.1/\p.1 < p.2/\p.2 < n
 all:∀ p:Int × Int,0<=p.1->p.1 < p.2->p.2 < n->p∈es\/p∈rem
theorem But.len {n:Int} {es rem:List (Int × Int)} (h:But n es rem) (hn:8<=n) (hr:rem.length<=5):2<=es.length:=by
 have:=akj (as:=[((0:Int),(1:Int)),(0,2),(0,3),(0,4),(0,5),(0,6),(0,7)]) (bs:=es ++ rem) (by decide) (fun p hp=>by
  have:0<=p.1/\p.1 < p.2/\p.2 < 8:=by
   simp only [List.mem_cons,List.not_mem_nil,or_false] at hp
   rcases hp with rfl | rfl | rfl | rfl | rfl | rfl | rfl <;> decide
  exact List.mem_append.mpr (h.all p this.1 this.2.1 (by omega)))
 simp at this
 omega
end VL
namespace L2
open PySem PySem.Spec PyProof.Rows
theorem aov (r:Addr) (a b c:Int) (t u v:Tok) (hs:¬ ((!(Builtin.Range.rangeFitsLong a && Builtin.Range.rangeFitsLong b && Builtin.Range.rangeFitsLong c && Builtin.Range.rangeFitsLong (-c) && Builtin.Range.rangeFitsLong (a - c) && Builtin.Range.rangeFitsLong (Builtin.Range.rangeSize a b c)))=true)) :
  Meets (Builtin.«range.__reversed__» ⟨[.ref r],[]⟩) (fun _ R s=>s.heap.get? r=some { cls:=.type "range",dict:=none,data:=.fields #[.int a t,.int b u,.int c v],slots:=#[] } /\
   R (.ok (.ret (Value.ref s.heap.objs.size))) { s with heap:=s.heap.push { cls:=Value.type (if (Builtin.Range.rangeFitsLong a && Builtin.Range.rangeFitsLong b && Builtin.Range.rangeFitsLong c && Builtin.Range.rangeFitsLong (-c) && Builtin.Range.rangeFitsLong (a - c) && Builtin.Range.rangeFitsLong (Builtin.Range.rangeSize a b c))=true then "range_iterator" else "longrange_iterator"),data:=.fields #[rawInt (a+(Builtin.Range.rangeSize a b c - 1) * c),rawInt (Builtin.Range.rangeSize a b c),rawInt (-c)] } }) :=
 .of_wp fun prog w A R s h=>by obtain ⟨hp,g,d,tk,os⟩:=s;obtain ⟨hl,h⟩:=h;wp_walk;exact ⟨_,rfl,h⟩
theorem aip:isSubtype (.type "range_iterator") (.type "reversed")=pure false:=by rw [isSubtype_type];kernel_rfl
section
variable {prog:Program} {w:World} {A:Around} {E:Value->Shared->Prop} {s:Shared}
theorem aqn {j:Int} (h1 : -(2 ^ 62)<=j) (h2:j < 2 ^ 62):(Builtin.Range.rangeFitsLong 0 && Builtin.Range.rangeFitsLong j && Builtin.Range.rangeFitsLong 1 && Builtin.Range.rangeFitsLong (-1) && Builtin.Range.rangeFitsLong (0 - 1) && Builtin.Range.rangeFitsLong (Builtin.Range.rangeSize 0 j 1))=true:=by
 have e:=rangeSize_one 0 j
 have h:Builtin.Range.rangeSize 0 j 1=if 0 < j then j - 0 else 0:=by rw [e]
 have b1:Builtin.Range.rangeFitsLong j=true:=by unfold Builtin.Range.rangeFitsLong;simp;omega
 have b2:Builtin.Range.rangeFitsLong (Builtin.Range.rangeSize 0 j 1)=true:=by rw [h];unfold Builtin.Range.rangeFitsLong;split <;> simp <;> omega
 rw [b1,b2]
 rfl
theorem aqo (j:Int):Builtin.Range.rangeSize 0 j 1=(j.toNat:Int):=by rw [rangeSize_one];split <;> omega
theorem ahv {r:Addr} {j:Int} {t u v:Tok} {Q:Value->Shared->Prop} (hr:IsRange s.heap r 0 j 1 t u v) (h1 : -(2 ^ 62)<=j) (h2:j < 2 ^ 62)
  (h:Q (.ref s.heap.objs.size) { s with heap:=s.heap.push { cls:=.type "range_iterator",data:=.fields #[rawInt ((j.toNat:Int) - 1),rawInt (j.toNat:Int),rawInt (-1)] } }):wpAny (model prog w) A (call (.builtin "range.__reversed__") [.ref r]) Q E s:=by
 have hT:s.TypeIs (.ref r) "range":=⟨_,hr,rfl⟩
 have hf:=aqn h1 h2
 refine call_meets F.slot_range_reversed hT F.entry_range_reversed (F.args_range_reversed_1 _) (aov r 0 j 1 t u v (by rw [hf];decide)) ⟨hr,?_⟩
 rw [hf,if_pos rfl,aqo,Int.zero_add,Int.mul_one]
 exact h
theorem afl {r:Addr} {j:Int} {t u v:Tok} {Q:Value->Shared->Prop} (hr:IsRange s.heap r 0 j 1 t u v) (h1 : -(2 ^ 62)<=j) (h2:j < 2 ^ 62)
  (h:Q (.ref s.heap.objs.size) { s with heap:=s.heap.push { cls:=.type "range_iterator",data:=.fields #[rawInt ((j.toNat:Int) - 1),rawInt (j.toNat:Int),rawInt (-1)] } }) :
  codeAny (model prog w) A (.call (.builtin "reversed.__new__") ⟨[.type "reversed",.ref r],[]⟩) (wants Q E) s:=by
 have hT:s.TypeIs (.ref r) "range":=⟨_,hr,rfl⟩
 refine codeAny_of_tree ?_
 show wpAny _ A.in1 (do checkBuiltinCall "reversed.__new__" ⟨[.type "reversed",.ref r],[]⟩;again (.builtin "reversed.__new__" ⟨[.type "reversed",.ref r],[]⟩)) _ _ s
 refine wpAny_bind (wpAny_of_eq (F.newCall_reversed_1 _) (wpAny_pure ⟨plainId_quiet F.plain_reversed_new _,codeAny_builtin F.entry_reversed_new ?_⟩))
 rw [Around.under_plainId F.plain_reversed_new _]
 unfold Builtin.«reversed.__new__»
 refine wpAny_bind (wpAny_of_eq (newClass_reversed _) ?_)
 try dsimp only
 refine wpAny_bind (wpAny_of_eq (a:=()) (by first | rfl | kernel_rfl) ?_)
 refine wpAny_bind (wpAny_of_eq (a:=()) (by first | rfl | kernel_rfl) ?_)
 try dsimp only
 refine wpAny_bind (wpAny_specialOf hT F.slot_range_reversed.lookup ?_)
 try dsimp only
 refine wpAny_bind (wpAny_of_eq (F.slot_range_reversed.bind _) ?_)
 try dsimp only
 first
 | rw [if_neg (show ¬ ((Value.builtin "range.__reversed__" == Value.none)=true) from Bool.false_ne_true)]
 | (show wpAny _ _ (if (Value.builtin "range.__reversed__" == Value.none)=true then _ else _) _ _ _;rw [if_neg (show ¬ ((Value.builtin "range.__reversed__" == Value.none)=true) from Bool.false_ne_true)])
 refine wpAny_bind (wpAny_rule ?_)
 refine wpAny_bind (m:=runValue (.call (.builtin "range.__reversed__") ⟨[.ref r],[]⟩)) (show wpAny _ _ (call (.builtin "range.__reversed__") [.ref r]) _ _ _ from ahv hr h1 h2 ?_)
 first
 | exact wpAny_pure h
 | exact wpAny_bind (wpAny_pure (wpAny_pure h))
theorem afm {r:Addr} {j:Int} {t u v:Tok} {Q:Value->Shared->Prop} (hr:IsRange s.heap r 0 j 1 t u v) (h1 : -(2 ^ 62)<=j) (h2:j < 2 ^ 62)
  (h:Q (.ref s.heap.objs.size) { s with heap:=s.heap.push { cls:=.type "range_iterator",data:=.fields #[rawInt ((j.toNat:Int) - 1),rawInt (j.toNat:Int),rawInt (-1)] } }):wpAny (model prog w) A (call (.type "reversed") [.ref r]) Q E s:=by
 refine callType_other (U:="range_iterator") (Q₁:=fun obj s₁=>obj=.ref s.heap.objs.size/\s₁={ s with heap:=s.heap.push { cls:=.type "range_iterator",data:=.fields #[rawInt ((j.toNat:Int) - 1),rawInt (j.toNat:Int),rawInt (-1)] } }) (by decide +kernel) F.create_reversed ⟨_,_,F.mro_reversed⟩ F.made_reversed aip (F.typeCall_reversed_1 _) (afl hr h1 h2 ⟨rfl,rfl⟩) ?_
 rintro obj s₁ ⟨rfl,rfl⟩
 exact ⟨⟨_,Heap.get?_push_size _ rfl,rfl⟩,h⟩
end
noncomputable def Itn (n:Nat):It:=⟨fun i _=>i < n,fun i H x H'=>H'=H/\x=.int ((n:Int) - 1 - i),fun i _=>n<=i⟩
theorem aqp {P:Program} {w:World} {K:Frag} {tg:Expr} (it:Addr) (n:Nat):Turn P w K tg (Itn n) [it] it (fun i h=>IsRangeIter h it (((n:Int) - 1)+(i:Nat) * (-1)) ((n:Int) - (i:Nat)) (-1)) where
 mem:=by simp
 obj:=fun i h st b hb=>by
  have e:b=it:=by simpa using hb
  subst e
  exact ⟨_,st,fun v z=>by
   have z':Data.fields _=Data.cell v:=z
   cases z'⟩
 keep:=fun i h h' st k=>k it (by simp) _ st
 item:=by
  intro X hP hw hK hc i pins s σ H E I hf st hg
  subst hP hw hK
  obtain ⟨f0,f1,f2,f3,f4,f5⟩:=hf it (by simp)
  have W:=Walks.range (prog:=X.prog) (w:=X.w) (I.ok.hd hc) it ((n:Int) - 1) (-1) n
  refine W.item i s _ _ hg st fun v h' tk hv st' kk=>?_
  obtain ⟨t,rfl⟩:=hv
  have I1:Inv X pins σ H { s with heap:=h',toks:=tk }:=I.turned (fun b o hb e=>kk b o (by simpa using hb) e) f0 f1 f3 f4 f5
  refine ⟨_,rfl,aj8 (s:={ s with heap:=h',toks:=tk }) (n:="range_iterator") st' rfl rfl (by decide) ⟨.int ((n:Int) - 1 - i),H,I1,⟨t,?_⟩,⟨rfl,rfl⟩,st',fun b hb=>(hf b hb).1⟩⟩
  rw [show (n:Int) - 1+(i:Int) * -1=(n:Int) - 1 - i by omega]
 done:=by
  intro X hP hw hK hc i pins s σ H E I hf st hg
  subst hP hw hK
  obtain ⟨f0,f1,f2,f3,f4,f5⟩:=hf it (by simp)
  exact wpAny_pyNext_range_end (I.ok.hd hc) st (by have:n<=i:=hg;omega) fun h' eb=>⟨rfl,I.turned (t':=s.toks) (fun b o hb e=>eb b o hb e) f0 f1 f3 f4 f5⟩
 self:=fun _ _ _ _ _ st h=>wpAny_pyIter_rangeiter st h
section
variable {X:Cx} {tg:Expr}
def atw (ta:TA):TI:=fun σ H R=>ta σ H fun vs H1=>∃ j:Int,vs=[.int j]/\-(2 ^ 62)<=j/\j < 2 ^ 62/\R (Itn j.toNat) H1
theorem avs {a:Expr} {ta:TA} {p pos p2 pos2:Pos} (hg2:Gl X "reversed") (hm2:X.mg "reversed" = none) (hg:Gl X "range") (hm:X.mg "range" = none) (ha:PA X [a] ta) (hs:starEach [a] X.env=[(false,eval a X.env)]:=by rfl)
  (hs2:starEach [.Call (.Name "range" p) [a] [] pos] X.env=[(false,eval (.Call (.Name "range" p) [a] [] pos) X.env)]:=by rfl):PI X tg (.Call (.Name "reversed" p2) [.Call (.Name "range" p) [a] [] pos] [] pos2) (atw ta):=by
 intro pins s σ H R I h
 refine Call_ (acu I hg2 hm2 boot_reversed (PyProof.Rows.callWith_type1 ?_ hs2 rfl))
 rw [hs2]
 show wpAny _ _ (spliced ((false,eval (.Call (.Name "range" p) [a] [] pos) X.env) :: backTo pos2 [])) _ _ s
 refine Calls.spliced_cons ?_
 refine Call_ (acu I hg hm boot_range (PyProof.Rows.callWith_type1 (thn (ha pos pins s σ H _ I h) fun us s1 ⟨vs,H1,I1,r1,q1⟩=>?_) hs rfl))
 obtain ⟨j,e,q1,q2,q⟩:=q1
 subst e
 cases r1 with
 | cons r rr =>
  cases rr
  obtain ⟨t,rfl⟩:=r
  refine call_range_1 ?_
  refine Calls.spliced_nil ?_
  refine afm (IsRange.new ..) q1 q2 ?_
  have I2:Inv X pins σ H1 { s1 with heap:=s1.heap.push { cls:=.type "range",data:=.fields #[.int 0 s1.toks,.int j t,.int 1 (s1.toks+1)] },toks:=s1.toks+1+1 }:=I1.kept fun b o e=>Heap.get?_push_of_some _ e
  have st:IsRangeIter ((s1.heap.push { cls:=.type "range",data:=.fields #[.int 0 s1.toks,.int j t,.int 1 (s1.toks+1)] }).push { cls:=.type "range_iterator",data:=.fields #[rawInt ((j.toNat:Int) - 1),rawInt (j.toNat:Int),rawInt (-1)] }) (s1.heap.push { cls:=.type "range",data:=.fields #[.int 0 s1.toks,.int j t,.int 1 (s1.toks+1)] }).objs.size (((j.toNat:Int) - 1)+((0:Nat):Int) * (-1)) ((j.toNat:Int) - ((0:Nat):Int)) (-1):=by
   rw [show ((j.toNat:Int) - 1)+((0:Nat):Int) * (-1)=(j.toNat:Int) - 1 by omega,show (j.toNat:Int) - ((0:Nat):Int)=(j.toNat:Int) by omega]
   exact Heap.get?_push_size _ rfl
  refine wpAny_pyIter_rangeiter st ?_
  refine ⟨_,[(s1.heap.push { cls:=.type "range",data:=.fields #[.int 0 s1.toks,.int j t,.int 1 (s1.toks+1)] }).objs.size],_,_,H1,rfl,I2.kept (t':=s1.toks+1+1) fun b o e=>Heap.get?_push_of_some _ e,aqp _ j.toNat,st,fun b hb=>?_,q⟩
  have e:b=(s1.heap.push { cls:=.type "range",data:=.fields #[.int 0 s1.toks,.int j t,.int 1 (s1.toks+1)] }).objs.size:=by simpa using hb
  subst e
  exact I2.fpOk (Nat.le_refl _) (I2.hok.fresh (Nat.le_refl _))
end
end L2
namespace VL
open PySem PySem.Spec L2
noncomputable def dnD (n:Nat):List PyData:=(List.range n).map fun (i:Nat) => .int ((n:Int) - 1 - (i:Int))
theorem ad4 (n:Nat):(dnD n).length=n:=by simp [dnD]
theorem anz {n i:Nat} {d:PyData} (h:(dnD n)[i]?=some d):i < n/\d=.int ((n:Int) - 1 - (i:Int)):=by
 have hi:i < n:=by have:=(List.getElem?_eq_some_iff.mp h).1;rwa [ad4] at this
 refine ⟨hi,?_⟩
 unfold dnD at h
 rw [List.getElem?_map,List.getElem?_range hi] at h
 exact (Option.some.inj h).symm
theorem axw {G:Hp} {n:Nat}:ItOk G (Itn n) (dnD n):=by
 refine ⟨fun i G' H' g h hi=>?_,fun i G' H' g h hi=>?_,fun i G' H' x H'' d g h ft hd y=>?_⟩
 ·rw [ad4] at hi;exact hi
 ·rw [ad4] at hi;exact Nat.le_of_eq hi.symm
 ·obtain ⟨e,y⟩:=y
  subst e y
  rw [(anz hd).2]
  exact ⟨G',Out.refl h (.int _)⟩
section
variable {B:Bs} {env:En} {g:TG} {tb:TS} {D':VEnds} {QI:List PyData->En->Prop}
theorem asv {ta:TA} (h:EvA B ta env fun ds e=>∃ j:Int,ds=[.int j]/\-4611686018427387904<=j/\j < 4611686018427387904/\QI (dnD j.toNat) e):EvI B (atw ta) env QI:=fun σ G H F R I k =>
 h σ G H F _ I fun vs G1 H1 F1 ds e1 I1 g1 r1 z_=>by
  obtain ⟨j,ed,b1,b2,q1⟩:=z_
  subst ed
  obtain rfl:vs=[V.int j]:=Rps.ints_inv (ns:=[j]) r1
  exact ⟨j,rfl,by omega,by omega,k _ G1 H1 F1 _ e1 I1 g1 axw q1⟩
theorem aqq {n:Nat} (J:Nat->En->Prop) (h0:J 0 env) (hs:∀ i e,i < n->J i e->EvG B g (.st (.int ((n:Int) - 1 - (i:Int)))) e fun e2=>EvS B tb { D' with nx:=J (i+1),ct:=J (i+1),bk:=D'.nx } e2) (hd:∀ e,J n e->D'.nx e):ForV B g tb D' (dnD n) env :=
 ⟨J,h0,fun i d e h j=>by obtain ⟨hi,rfl⟩:=anz h;exact hs i e hi j,fun e j=>hd e (by rw [ad4] at j;exact j)⟩
end
end VL
namespace PopT
open PySem PyProof.Rows
section
variable {prog:Program} {w:World} {K:Type} [DecidableEq K] {knd:HeapKind prog w K} {A:Around} {E:Value->Shared->Prop} {s:Shared}
end
end PopT
namespace L2
open PySem PySem.Spec PySem.W PyProof.Rows
theorem KT.at {H:Hp} {kvs:List (List Key × V)} {xs:List (List Key × Addr × Value)} (r:KT H kvs xs):∀ {j:Nat} {k:List Key} {v:V},kvs[j]?=some (k,v)->∃ p:Addr × Value,xs[j]?=some (k,p)/\RelV v p.2:=by
 induction r with
 | nil=>intro j k v e;simp at e
 | @cons p q ps qs hq t ih =>
  intro j k v e
  cases j with
  | zero =>
   have e:p=(k,v):=by simpa using e
   subst e
   exact ⟨q.2,by rw [List.getElem?_cons_zero,show k=q.1 from hq.1],hq.2.2⟩
  | succ j=>exact ih (by simpa using e)
section
variable {X:Cx} {pins:List (Addr × Obj)} {σ:St} {H:Hp} {s:Shared} {a b:Addr} {A:Around} {E:Value->Shared->Prop}
end
section
variable {X:Cx} {o e f:Expr} {apos cpos:Pos} {td ty tx:TE}
end
end L2
namespace DNe
open PySem PyProof.Rows
end DNe
namespace L2
open PySem PySem.Spec PySem.W PyProof.Rows
end L2
namespace DNe
open PySem PyProof.Rows
section
variable {prog:Program} {w:World} {A:Around} {E:Value->Shared->Prop} {s:Shared}
end
end DNe
namespace L2
open PySem PySem.Spec PySem.W PyProof.Rows
end L2
namespace VL
open PySem PySem.Spec L2
section
variable {B:Bs} {env:En} {Q':PyData->En->Prop} {QO:Sl->En->Prop} {i:Nat} {ty:TE}
theorem RpT.at {G:Hp}:∀ {kvs:List (List Key × V)} {es:List (List Key × PyData)},RpT G kvs es->∀ {j:Nat} {ks:List Key} {d:PyData},es[j]?=some (ks,d)->∃ v,kvs[j]?=some (ks,v)/\Rp G v d
 | _,_,.nil,j,ks,d,e=>by simp at e
 | _,_,.cons (k:=k) (v:=v) (d:=d0) h t,0,ks,d,e=>by
  have e:(k,d0)=(ks,d):=by simpa using e
  cases e
  exact ⟨v,rfl,h⟩
 | _,_,.cons h t,j+1,ks,d,e=>by
  obtain ⟨v,e1,r⟩:=RpT.at t (j:=j) (by simpa using e)
  exact ⟨v,by simpa using e1,r⟩
end
section
variable {B:Bs} {env:En} {QO:Sl->En->Prop} {Q':PyData->En->Prop} {K:Frag} {i:Nat}
end
theorem aqr {α:Type} {K:Frag} {src:List (Option Nat)} {e1:En} {te:TE} {tif:TT} {R:List PyData->En->Prop} {xs:List α} {f : α->PyData} (g : α->PyData) (p : α->Bool) (hno:noIo (aaj src e1)=true) (hl:xs.length<=999999)
  (h:∀ x∈xs,∀ B':Bs,B'.K=K->EvT B' tif (some (.st (f x)) :: aaj src e1) fun b e3=>b=p x/\e3=some (.st (f x)) :: aaj src e1/\(b=true->Ev B' te (some (.st (f x)) :: aaj src e1) fun y e4=>y=g x/\e4=some (.st (f x)) :: aaj src e1))
  (hR:R ((xs.filter p).map g) e1):LcV K (none :: src) (aay 0) tif te (xs.map f) e1 R:=by
 have hno':noIo (aaj (none :: src) e1)=true:=by
  show ((none :: aaj src e1).all fun s => !isIo s)=true
  rw [List.all_cons]
  exact (Bool.and_eq_true _ _).mpr ⟨rfl,hno⟩
 refine ⟨fun i ys e=>ys=((xs.take i).filter p).map g/\∃ o,e=stO o :: aaj src e1,⟨by simp,none,rfl⟩,?_,?_,?_⟩
 ·rintro i ys e ⟨_,o,rfl⟩
  exact ⟨⟨isIo_stO.symm,ab6⟩,ac9 acw⟩
 ·rintro i d ys e hd ⟨rfl,o,rfl⟩ B' hB
  rw [List.getElem?_map] at hd
  cases hx:xs[i]? with
  | none=>rw [hx] at hd;cases hd
  | some x =>
  rw [hx] at hd
  cases hd
  have hi:i < xs.length:=(List.getElem?_eq_some_iff.mp hx).1
  have et:xs.take (i+1)=xs.take i ++ [x]:=by rw [List.take_add_one,hx];rfl
  refine aat ?_
  show EvT B' tif (some (.st (f x)) :: aaj src e1) _
  intro σ G H F Q I k
  refine h x (List.mem_of_getElem? hx) B' hB σ G H F Q I fun b G' H' F' e3 I' g' ⟨hb,he,hq⟩=>k b G' H' F' e3 I' g' ?_
  subst he
  by_cases hp:b=true
  ·rw [if_pos hp]
   intro σ G H F Q I k
   refine hq hp σ G H F Q I fun v G' H' F' d' e4 I' g' r' ⟨hy,he4⟩=>k v G' H' F' d' e4 I' g' r' ?_
   subst hy he4
   refine ⟨?_,?_,some _,rfl⟩
   ·have:=List.length_filter_le p (xs.take i)
    simp only [List.length_map]
    have h2:(xs.take i).length<=i:=by simp;omega
    omega
   ·rw [et,List.filter_append,List.map_append]
    have:p x=true:=by rw [← hb];exact hp
    simp [this]
  ·rw [if_neg hp]
   refine ⟨?_,some _,rfl⟩
   rw [et,List.filter_append,List.map_append]
   have:p x=false:=by rw [← hb];simpa using hp
   simp [this]
 ·rintro ys e ⟨rfl,o,rfl⟩
  rw [ae1 hno',List.length_map,List.take_length]
  exact hR
section
variable {B:Bs} {env:En} {QO:Sl->En->Prop} {Q':PyData->En->Prop} {K:Frag} {i:Nat}
end
section
variable {B:Bs} {env:En} {QO:Sl->En->Prop} {Q':PyData->En->Prop} {K:Frag} {E:XK} {i:Nat}
end
noncomputable def stS:Option Sl->Option Sl
 | some (.st d)=>some (.st d)
 | some (.scr ns)=>some (.scr ns)
 | _=>none
noncomputable def momE (env:En) (i:Nat) (d:PyData):En:=(env.map stS).set i (some (.st d))
section
variable {B:Bs} {env:En} {QO:Sl->En->Prop} {Q':PyData->En->Prop} {K:Frag} {i j:Nat} {ta te:TE}
theorem aqs {A:Own} {d:PyData} (hA:Has env i A) (fz:Frz A d) (h:∀ B':Bs,B'.K=B.K->Ev B' te (momE env i d) fun d' _=>afb d'=true/\Q' d' env):Ev B te env Q':=fun σ G H F Q I k=>by
 obtain ⟨v,hv,ap⟩:=I.has hA
 have js:=abl (H:=H) (I.fg i)
 let B':Bs:={ K:=B.K,G:=jn G H (F i),H:=H,R:=H,S:=σ,F:=fun _ _=>False }
 have hi:i < env.length:=by
  rcases hA with e | e <;> exact (List.getElem?_eq_some_iff.mp e).1
 have J:VI B' (jn G H (F i)) H σ (momE env i d) (fun _ _=>False):={
  gh:=akg I.gh
  g0:=Same.refl _
  gn:=fun a o e => .inl e
  rs:=Same.refl _
  rb:=Same.refl _
  bh:=fun a o e=>⟨o,e⟩
  fg:=fun _ _ z=>z.elim
  fr:=fun _ _ z=>z.elim
  fd:=fun _ _ _ z=>z.elim
  fo:=fun _ _ z=>z.elim
  sl:=fun m s e=>by
   unfold momE at e
   by_cases hm:m=i
   ·subst hm
    rw [List.getElem?_set,if_pos rfl,if_pos (by simpa using hi)] at e
    cases e
    exact ⟨v,hv,fz _ _ _ _ ap (I.fg m) I.gh,fun _ z=>z⟩
   ·rw [List.getElem?_set,if_neg (fun z=>hm z.symm),List.getElem?_map] at e
    cases em:env[m]? with
    | none=>rw [em] at e;cases e
    | some o =>
     rw [em] at e
     cases o with
     | none=>cases e
     | some t =>
      obtain ⟨u,hu,q⟩:=I.sl m t em
      cases t with
      | st d'=>cases e;exact ⟨u,hu,q.1.same js,fun _ z=>z⟩
      | scr ns =>
       cases e
       obtain ⟨⟨a,ea,sq⟩,_⟩:=q
       exact ⟨u,hu,⟨a,ea,js.seq sq⟩,fun _ z=>z⟩
      | own A'=>cases e
      | io A'=>cases e
  ln:=by simp [momE,I.ln]
  ft:=fun a ks e=>js _ _ (I.ft a ks e) }
 refine h B' rfl σ _ H _ Q J fun w G2 H2 F2 d' e2 I2 g2 r2 ⟨hs,q⟩=>?_
 have o:Out (jn G H (F i)) H w G2 H2 (.st d') (fun _=>False):={
  gg:=g2
  gh:=I2.gh
  hh:=I2.rs
  gn:=I2.gn
  fn:=fun _ z=>z.elim
  fg:=fun _ z=>z.elim
  fo:=fun _ z=>z.elim
  ok:=⟨r2,fun _ z=>z⟩
  ft:=fun _=>I2.ft }
 obtain ⟨G4,g4,I4⟩:=I.moment js o
 exact k w G4 H2 F d' env I4 g4 (ail r2 hs) q
end
end VL
namespace L2
open PySem PySem.W PyProof.Rows
section
variable {X:Cx}
end
end L2
namespace VL
open PySem PySem.Spec L2
section
variable {B:Bs} {env:En} {Q':PyData->En->Prop} {R:Sl->Prop} {td:TE}
end
end VL
namespace L2
open PySem PySem.W PyProof.Rows
def atx:R2:=fun x y H Q=>∃ b c,x=.bl b/\y=.bl c/\Q (.bl (!decide (b=c))) H
section
variable {X:Cx}
theorem avt:OpR X (compareOp .IsNot) atx:=by
 intro pins s σ H x y v u Q I rx ry h
 obtain ⟨b,c,rfl,rfl,q⟩:=h
 cases rx
 cases ry
 refine wpAny_isNot_plain rfl (aa1 I q ?_)
 cases b <;> cases c <;> rfl
end
end L2
namespace VL
open PySem PySem.Spec L2
theorem asw {R:Sl->Prop} {b c:Bool} (h:R (.st (.bool (!decide (b=c))))):Op2 atx (.bool b) (.bool c) R:=fun G H vx vy Q gh rx ry k=>by
 cases rx
 cases ry
 exact ⟨b,c,rfl,rfl,k _ _ _ _ _ (Out.refl gh (.bl _)) h⟩
end VL
namespace G
open PySem L2 VL
noncomputable def top (i:Nat):Stmt:=PySem.Challenge.pw_fewties_k22_whole_whatever_is_put_in.main.body.getD i (.Pass ⟨0,0,0,0⟩)
noncomputable abbrev s_is_whole:Stmt:=top 7
noncomputable abbrev s_is_between:Stmt:=top 8
noncomputable abbrev s_need_number:Stmt:=top 9
noncomputable abbrev s_is_place:Stmt:=top 10
noncomputable abbrev s_is_tie:Stmt:=top 11
noncomputable abbrev s_are_ties:Stmt:=top 12
noncomputable abbrev s_is_rising:Stmt:=top 13
noncomputable abbrev s_tied_places:Stmt:=top 14
noncomputable abbrev s_far_from:Stmt:=top 15
noncomputable abbrev s_need_place:Stmt:=top 16
noncomputable abbrev s_all_far:Stmt:=top 17
noncomputable abbrev s_how_far:Stmt:=top 18
noncomputable abbrev s_is_joined:Stmt:=top 19
noncomputable abbrev s_need_joined:Stmt:=top 21
noncomputable abbrev s_far_rows:Stmt:=top 22
noncomputable abbrev s_most_far:Stmt:=top 23
noncomputable abbrev s_farthest_two:Stmt:=top 24
noncomputable abbrev s_stay_shows:Stmt:=top 28
noncomputable abbrev s_is_pair:Stmt:=top 29
noncomputable abbrev s_need_places:Stmt:=top 30
noncomputable abbrev s_need_far:Stmt:=top 31
noncomputable abbrev s_are_apart:Stmt:=top 32
noncomputable abbrev s_best_stay:Stmt:=top 33
noncomputable abbrev s_apart_lists:Stmt:=top 34
noncomputable abbrev s_places_after:Stmt:=top 35
noncomputable abbrev s_with_ties:Stmt:=top 37
noncomputable abbrev s_law_draws:Stmt:=top 39
noncomputable abbrev s_law_web:Stmt:=top 40
noncomputable abbrev s_law_free:Stmt:=top 42
noncomputable abbrev s_law_put:Stmt:=top 43
noncomputable abbrev s_law_chosen:Stmt:=top 44
noncomputable abbrev s_law:Stmt:=top 45
structure Txt (K:Frag) (mg:Str->Option Value):Prop where
 b_ValueError:mg "ValueError" = none
 b_all:mg "all" = none
 b_max:mg "max" = none
 b_reversed:mg "reversed" = none
 b_range:mg "range" = none
 b_sorted:mg "sorted" = none
 b_enumerate:mg "enumerate" = none
 b_list:mg "list" = none
 b_min:mg "min" = none
 b_isinstance:mg "isinstance" = none
 b_int:mg "int" = none
 b_len:mg "len" = none
 b_abs:mg "abs" = none
 b_bool:mg "bool" = none
 b_tuple:mg "tuple" = none
 v_MOST_STAY_TIES:∃ t,mg "MOST_STAY_TIES" = some (.int 5 t)
 v_MOST_PLACES_FOR_STAY:∃ t,mg "MOST_PLACES_FOR_STAY" = some (.int 12 t)
 d_is_whole:∃ f fd,DefAt K mg "is_whole" s_is_whole ["thing"] f fd
 d_is_between:∃ f fd,DefAt K mg "is_between" s_is_between ["least","most","thing"] f fd
 d_need_number:∃ f fd,DefAt K mg "need_number" s_need_number ["least","most","thing"] f fd
 d_is_place:∃ f fd,DefAt K mg "is_place" s_is_place ["n","thing"] f fd
 d_is_tie:∃ f fd,DefAt K mg "is_tie" s_is_tie ["n","thing"] f fd
 d_are_ties:∃ f fd,DefAt K mg "are_ties" s_are_ties ["n","thing"] f fd
 d_is_rising:∃ f fd,DefAt K mg "is_rising" s_is_rising ["things"] f fd
 d_tied_places:∃ f fd,DefAt K mg "tied_places" s_tied_places ["web"] f fd
 d_far_from:∃ f fd,DefAt K mg "far_from" s_far_from ["tied","start"] f fd
 d_need_place:∃ f fd,DefAt K mg "need_place" s_need_place ["web","thing"] f fd
 d_all_far:∃ f fd,DefAt K mg "all_far" s_all_far ["web","a"] f fd
 d_how_far:∃ f fd,DefAt K mg "how_far" s_how_far ["web","a","b"] f fd
 d_is_joined:∃ f fd,DefAt K mg "is_joined" s_is_joined ["web"] f fd
 d_need_joined:∃ f fd,DefAt K mg "need_joined" s_need_joined ["web"] f fd
 d_far_rows:∃ f fd,DefAt K mg "far_rows" s_far_rows ["web"] f fd
 d_most_far:∃ f fd,DefAt K mg "most_far" s_most_far ["rows"] f fd
 d_farthest_two:∃ f fd,DefAt K mg "farthest_two" s_farthest_two ["web"] f fd
 d_stay_shows:∃ f fd,DefAt K mg "stay_shows" s_stay_shows ["web","k","paper"] f fd
 d_is_pair:∃ f fd,DefAt K mg "is_pair" s_is_pair ["thing"] f fd
 d_need_places:∃ f fd,DefAt K mg "need_places" s_need_places ["k"] f fd
 d_need_far:∃ f fd,DefAt K mg "need_far" s_need_far ["r"] f fd
 d_are_apart:∃ f fd,DefAt K mg "are_apart" s_are_apart ["rows","least","places"] f fd
 d_best_stay:∃ f fd,DefAt K mg "best_stay" s_best_stay ["web","k"] f fd
 d_apart_lists:∃ f fd,DefAt K mg "apart_lists" s_apart_lists ["rows","least","many"] f fd
 d_places_after:∃ f fd,DefAt K mg "places_after" s_places_after ["rows","least","places"] f fd
 d_with_ties:∃ f fd,DefAt K mg "with_ties" s_with_ties ["web","ties"] f fd
 d_law_draws:∃ f fd,DefAt K mg "_law_draws" s_law_draws ["script","many"] f fd
 d_law_web:∃ f fd,DefAt K mg "_law_web" s_law_web ["d","spot","most"] f fd
 d_law_free:∃ f fd,DefAt K mg "_law_free" s_law_free ["web"] f fd
 d_law_put:∃ f fd,DefAt K mg "_law_put" s_law_put ["d","spot","web","k"] f fd
 d_law_chosen:∃ f fd,DefAt K mg "_law_chosen" s_law_chosen ["web","far","begin"] f fd
 d_law:∃ f fd,DefAt K mg "law" s_law ["script"] f fd
local macro_rules | `(tactic| row_cond sc) => `(tactic| exact ⟨rfl,rfl,rfl,by decide +kernel,rfl,by decide +kernel,by decide +kernel⟩)
local macro_rules | `(tactic| row_cond gn) => `(tactic| first | (with_reducible first | refine evg_n0 ?_ | refine axg ?_ | refine axh ?_ | refine axi ?_ | refine axj ?_ | refine axk ?_ | refine axl ?_ | refine axm ?_ | refine axn ?_ | refine axo ?_ | refine au5 ?_ | refine au6 ?_ | refine au7 ?_ | refine au8 ?_ | refine au9 ?_ | refine ava ?_ | refine avb ?_ | refine avc ?_ | refine evg_n18 ?_ | refine evg_n19 ?_ | refine evg_n20 ?_ | refine evg_n21 ?_ | refine evg_n22 ?_ | refine evg_n23 ?_ | refine evg_n24 ?_ | refine evg_n25 ?_) | ((with_reducible refine aat ?_); dsimp only [List.set_cons_zero, List.set_cons_succ]))
local macro_rules | `(tactic| row_cond dc) => `(tactic| first | assumption | omega | (with_reducible rfl))
local macro_rules | `(tactic| row_cond ar) => `(tactic| first | assumption | (refine ⟨?_, ?_, ?_⟩ <;> decide) | (constructor <;> first | assumption | omega) | (show (0 : Int) < _; first | assumption | omega) | (left; constructor <;> first | assumption | omega) | (right; constructor <;> first | assumption | omega))
local macro_rules | `(tactic| row_cond hs) => `(tactic| first | exact Or.inl rfl | exact Or.inr rfl)
local macro_rules | `(tactic| row_cond fz) => `(tactic| first | exact acf | exact frz_OD | exact frz_OT | exact aqi | exact ain | assumption)
local macro_rules | `(tactic| row_cond le) => `(tactic| first | exact Nat.le_of_ble_eq_true rfl | assumption | omega | (simp only [List.length_append, List.length_map, List.length_cons, List.length_nil, List.length_set, List.length_replicate]; omega))
local macro_rules | `(tactic| row_cond ia) => `(tactic| first | assumption | exact at0 | exact at1 | exact at2 | exact rfl)
local macro_rules | `(tactic| row_cond ty) => `(tactic| first | exact axd | exact au3 | exact asm | exact au4 | exact ty_str | exact ty_dict)
local macro_rules | `(tactic| row_cond sEvS) => `(tactic| first | (with_reducible refine ar6 (fun c_ hc_ => ?_)) | (with_reducible first | refine auo ?_ | refine apy ?_ | refine ar2 ?_) | ((with_reducible refine' asn ?h0 ?_); (case h0 => exact rfl)) | (with_reducible first | refine anl ?_ | refine aup ?_ | refine ac0 ?_) | ((with_reducible refine' aor ?h0 ?_); (case h0 => exact rfl)) | ((with_reducible refine' anm ?h0 ?_); (case h0 => assumption)))
local macro_rules | `(tactic| row_cond sEvG) => `(tactic| first | row_cond gn | ((with_reducible refine' ank ?h0 ?_); (case h0 => exact rfl)) | ((with_reducible refine' asl ?h0 ?_); (case h0 => row_cond hs)) | ((with_reducible refine' ant ?h0 ?_); (case h0 => exact rfl)) | (with_reducible refine evg_st ?_))
local macro_rules | `(tactic| row_cond sEvGs) => `(tactic| first | (with_reducible first | refine adw ?_ | refine agy ?_))
local macro_rules | `(tactic| row_cond sEv) => `(tactic| first | ((with_reducible refine' awx ?h0 ?_); (case h0 => exact rfl)) | (with_reducible refine awy ?_) | ((with_reducible refine' axb ?h0 ?_); (case h0 => row_cond hs)) | (with_reducible refine ayl ?_) | ((with_reducible refine' axc ?h0 ?_); (case h0 => row_cond ty)) | ((with_reducible refine' axa ?h0 ?h1 ?_); (case h0 => row_cond hs); (case h1 => row_cond fz)) | (with_reducible refine ar7 ?_) | ((with_reducible refine' auj ?h0 ?h1 ?_); (case h0 => exact rfl); (case h1 => row_cond fz); dsimp only [List.set_cons_zero, List.set_cons_succ]) | (with_reducible first | refine aw2 ?_ | refine aw3 ?_ | refine ayk ?_ | refine awz ?_ | refine aym ?_ | refine aum ?_ | refine aun ?_ | refine ar1 ?_ | refine acg (te:=tCB (ahl _) _) ?_ | refine acg (te:=tCB (ahf _) _) ?_ | refine ayn ?_) | ((with_reducible refine' aon ?h0 ?_); (case h0 => row_cond hs)) | ((with_reducible refine' asj ?h0 ?_); (case h0 => row_cond hs)) | (with_reducible refine ev_listR ?_) | ((with_reducible refine' ayv ?h0 ?_); (case h0 => decide)) | ((with_reducible refine' aqf ?h0 ?h1 ?_); (case h0 => exact rfl); (case h1 => assumption)) | (with_reducible first | refine asi ?_ | refine axu ?_ | refine asu ?_))
local macro_rules | `(tactic| row_cond sEvO) => `(tactic| first | (with_reducible first | refine alk (r:=rCat) ?_ | refine alk (r:=rRep) ?_ | refine abh (te:=tOp _ _ _) ?_ | refine abh (te:=tVar _) ?_ | refine abh (te:=tC _) ?_ | refine anh ?_) | ((with_reducible refine' asr ?h0 ?_); (case h0 => exact rfl)) | (with_reducible refine ang ?_) | ((with_reducible refine' ap0 ?h0 ?h1 ?_); (case h0 => exact rfl); (case h1 => assumption)) | (with_reducible first | refine ai9 ?_ | refine avd ?_) | ((with_reducible refine' ap1 ?h0 ?_); (case h0 => decide)) | (with_reducible first | refine anx ?_ | refine avr ?_) | ((with_reducible refine' ahs ?h0 ?h1 ?_); (case h0 => exact rfl); (case h1 => assumption)) | (with_reducible first | refine ajb ?_ | refine aqd ?_ | refine aqb ?_ | refine abh (te:=tUn _ _) ?_ | refine abh (te:=tIf _ _ _) ?_ | refine abh (te:=an3 _ _) ?_ | refine abh (te:=an4 _) ?_ | refine abh (te:=akn _ _ _ _ _) ?_ | refine abh (te:=tCB (rLen _) _) ?_ | refine abh (te:=tCB (rIsi _) _) ?_ | refine abh (te:=tCB akb _) ?_ | refine abh (te:=tCB akc _) ?_ | refine abh (te:=tCB akd _) ?_ | refine abh (te:=tCB rAbs _) ?_ | refine abh (te:=tCB (ahi _) _) ?_ | refine abh (te:=tCB (aoi _) _) ?_ | refine abh (te:=tCB (rAll _) _) ?_ | refine abh (te:=tBM _ _ _ _ _) ?_))
local macro_rules | `(tactic| row_cond sEvT) => `(tactic| first | (with_reducible first | refine ae9 ?_ | refine ayo ?_ | refine auk ?_ | refine aw4 ?_ | refine ani ?_ | refine acs ?_) | (with_reducible refine aul ?_))
local macro_rules | `(tactic| row_cond sEvA) => `(tactic| first | (with_reducible first | refine ar0 ?_ | refine anf ?_))
local macro_rules | `(tactic| row_cond sEvI) => `(tactic| first | (with_reducible first | refine ar4 ?_ | refine ar5 ?_ | refine asv ?_ | refine ar3 ?_ | refine asp ?_) | ((with_reducible refine' axr ?h0 ?_); (case h0 => exact rfl); dsimp only [List.set_cons_zero, List.set_cons_succ]) | (with_reducible refine evi_tup ?_))
local macro_rules | `(tactic| row_cond sEvOp) => `(tactic| first | (with_reducible first | refine asg ?_ | refine ash ?_))
local macro_rules | `(tactic| row_cond sOp2) => `(tactic| first | (with_reducible first | refine aus ?_ | refine aut ?_) | ((with_reducible refine' aw8 ?h0 ?_); (case h0 => row_cond ar)) | (with_reducible first | refine auu ?_ | refine auv ?_) | ((with_reducible refine' aux ?h0 ?_); (case h0 => row_cond ia)) | ((with_reducible refine' auy ?h0 ?_); (case h0 => row_cond ia)) | (with_reducible first | refine au0 ?_) | ((with_reducible refine' au1 ?h0 ?_); (case h0 => row_cond le)))
local macro_rules | `(tactic| row_cond sOp1) => `(tactic| first | (with_reducible refine aw9 ?_))
local macro_rules | `(tactic| row_cond sOpA) => `(tactic| first | (with_reducible first | refine asa ?_ | refine asb ?_ | refine asc ?_ | refine asd ?_ | refine ase ?_ | refine avj ?_))
local macro_rules | `(tactic| row_cond sFQ) => `(tactic| first | (with_reducible first | refine ayj ?_ | refine adh ?_ | refine atv ?_))
local macro_rules | `(tactic| row_cond sRngA1) => `(tactic| first | ((with_reducible refine' aw6 ?h0 ?h1 ?_); (case h0 => omega); (case h1 => omega)))
local macro_rules | `(tactic| row_cond sRngA2) => `(tactic| first | ((with_reducible refine' aw7 ?h0 ?_); (case h0 => omega)))
local macro_rules | `(tactic| row_cond sRest) => `(tactic| first | (with_reducible first | refine x_bl ?_ | refine x_st ?_ | refine aw5 ?_ | refine ayp ?_) | ((with_reducible refine' ayt ?h0 ?h1 ?_); (case h0 => row_cond hs); (case h1 => row_cond ia)) | ((with_reducible refine' x_sc ?h0 ?_); (case h0 => exact rfl)) | ((with_reducible refine' ays ?h0 ?_); (case h0 => row_cond le)) | (with_reducible first | refine acr ?_ | refine adg ?_ | refine age ?_ | refine aid ?_) | ((with_reducible refine' ah5 ?h0 ?_); (case h0 => row_cond dc)) | ((with_reducible refine' ah6 ?h0 ?_); (case h0 => row_cond dc)) | ((with_reducible refine' arw ?h0 ?_); (case h0 => row_cond dc)) | ((with_reducible refine' arx ?h0 ?_); (case h0 => row_cond dc)) | ((with_reducible refine' ayu ?h0 ?_); (case h0 => first | exact rfl | row_cond hs)) | ((with_reducible refine' axe ?h0 ?h1 ?_); (case h0 => exact rfl); (case h1 => row_cond le); dsimp only [List.set_cons_zero, List.set_cons_succ]) | ((with_reducible refine' aoo ?h0 ?h1 ?_); (case h0 => exact rfl); (case h1 => first | exact ixN0 | exact ixN1 | exact ixN2 | assumption); dsimp only [List.set_cons_zero, List.set_cons_succ, reS]) | (with_reducible first | refine axf ?_ | refine aso ?_) | ((with_reducible refine' x_dT ?h0 ?h1 ?_); (case h0 => exact rfl); (case h1 => row_cond le); dsimp only [List.set_cons_zero, List.set_cons_succ]) | (with_reducible first | refine x_en ?_) | ((with_reducible refine' avk ?h0 ?h1 ?_); (case h0 => omega); (case h1 => omega)) | ((with_reducible refine' x_ow ?h0 ?_); (case h0 => exact rfl); dsimp only [List.set_cons_zero, List.set_cons_succ]))
local macro_rules | `(tactic| row_cond st) => `(tactic| first | ((with_reducible refine ayz ?_); row_cond sEvS) | ((with_reducible refine ay0 ?_); row_cond sEvG) | ((with_reducible refine axs ?_); row_cond sEvGs) | ((with_reducible refine g_Ev ?_); row_cond sEv) | ((with_reducible refine ay1 ?_); row_cond sEvO) | ((with_reducible refine ay2 ?_); row_cond sEvT) | ((with_reducible refine ay3 ?_); row_cond sEvA) | ((with_reducible refine ay4 ?_); row_cond sEvI) | ((with_reducible refine axt ?_); row_cond sEvOp) | ((with_reducible refine ay5 ?_); row_cond sOp2) | ((with_reducible refine ay6 ?_); row_cond sOp1) | ((with_reducible refine ay7 ?_); row_cond sOpA) | ((with_reducible refine g_FQ ?_); row_cond sFQ) | ((with_reducible refine avp ?_); row_cond sRngA1) | ((with_reducible refine avq ?_); row_cond sRngA2) | row_cond sRest)
local macro_rules | `(tactic| row_cond go) => `(tactic| repeat row_cond st)
local macro_rules | `(tactic| row_cond hnx) => `(tactic| first | assumption | (apply Ne.symm; assumption) | exact aau (by assumption) (by assumption) | exact (aau (by assumption) (by assumption)).symm)
local macro_rules | `(tactic| row_cond hhp) => `(tactic| first | assumption | exact aan | (rw [aag (by row_cond hnx)]; row_cond hhp) | ((refine' Same.at ?ss ?hh); (case ss => assumption); (case hh => row_cond hhp)))
local macro_rules | `(tactic| row_cond hix) => `(tactic| first | assumption | exact at0 | exact at1 | exact at2)
local macro_rules | `(tactic| row_cond hst) => `(tactic| first | (with_reducible first | refine go_seq ?_ | refine go_asg ?_ | refine am4 ?_ | refine go_op ?_ | refine go_c ?_ | refine go_I0 ?_ | refine go_U ?_ | refine apr ?_ | refine go_test ?_ | refine go_bl ?_ | refine go_ifS ?_ | refine go_and ?_ | refine go_ret ?_ | refine go_drop ?_ | refine go_next ?_ | refine go_cb ?_ | refine go_cons ?_ | refine apq ?_ | refine go_call ?_ | refine am7 ?_ | refine am8 ?_ | refine am9 ?_ | refine go_gsub ?_ | refine go_lstW ?_ | refine go_bmL ?_ | refine go_for ?_ | refine go_lc ?_ | refine go_irng1 ?_ | refine aps ?_ | refine acr ?_ | refine adg ?_) | ((with_reducible refine' go_var ?hv ?_); (case hv => exact rfl)) | ((with_reducible refine' ae7 ?ha ?hv ?_); (case ha => row_cond hhp); (case hv => row_cond hix)) | ((with_reducible refine go_I ?hc ?_); (case hc => row_cond ar)) | ((with_reducible refine' am6 ?ha ?_); (case ha => row_cond hhp)) | ((with_reducible refine' am5 ?ha ?hj ?_); (case ha => row_cond hhp); (case hj => first | exact ixN0 | exact ixN1 | exact ixN2)) | ((with_reducible refine' go_tyL ?ha ?_); (case ha => row_cond hhp)) | ((with_reducible refine' afu ?ha ?hl ?_); (case ha => row_cond hhp); (case hl => exact ael (by simp; omega))) | ((with_reducible refine' ah5 ?hc ?_); (case hc => row_cond dc)) | ((with_reducible refine' ah6 ?hc ?_); (case hc => row_cond dc)) | dsimp only [List.set_cons_zero, List.set_cons_succ])
local macro_rules | `(tactic| row_cond hgo) => `(tactic| repeat row_cond hst)
noncomputable def isInt:PyData->Bool
 | .int _=>true
 | _=>false
noncomputable def btwD (a b:Int):PyData->Bool
 | .int i=>decide (a<=i/\i<=b)
 | _=>false
def avu:VP:=fun ss Q=>∃ d,ss=[.st d]/\Q (.st (.bool (isInt d)))
def aqt:VP:=fun ss Q=>∃ (a b:Int) (d:PyData),ss=[.st (.int a),.st (.int b),.st d]/\Q (.st (.bool (btwD a b d)))
def avv:VP:=fun ss Q=>∃ (n:Int) (d:PyData),ss=[.st (.int n),.st d]/\Q (.st (.bool (btwD 0 (n - 1) d)))
section
variable {P:Program} {w:World} {K:Frag} {mg:Str->Option Value} {base:Heap}
theorem sc_is_whole:FnScope ["thing"] ["thing"] (aai s_is_whole):=by row_cond sc
theorem af2 (T:Txt K mg):Can P w K mg base "is_whole" 1 ["thing"] (spP K (avu)):=by
 obtain ⟨f,fd,D⟩:=T.d_is_whole
 refine D.can (D.fn.ok sc_is_whole (fun vs H Q E h=>lenP h fun ss Q' q=>by obtain ⟨d,rfl,k⟩:=q;rfl) (fun cdv A outer s H vs Q E hr h=>?_))
 have nd:=sc_is_whole.nd
 refine ⟨_,(aaf (aas (adb (aal adl (by rfl) T.b_isinstance abz (aaa (pv 0) (aaa (ad6 (v:=.ty "int") rfl T.b_int apt rfl) aab))) (aec (awa (aal adl (by rfl) T.b_isinstance abz (aaa (pv 0) (aaa (ad6 (v:=.ty "bool") rfl T.b_bool aua rfl) aab)))))))),?_⟩
 refine aa4 h fun ss Q' q B hK=>?_
 refine exS1 ss q fun d q1_=>?_
 have k:=q1_
 clear q1_ q
 show EvS B _ _ [some (.st d)]
 row_cond go
 cases d with
 | int i => refine acr ?_; row_cond go; exact k
 | bool b => refine acr ?_; row_cond go; exact k
 | _=>refine adg ?_;exact k
theorem sc_is_between:FnScope ["least","most","thing"] ["least","most","thing"] (aai s_is_between):=by row_cond sc
theorem ae2 (T:Txt K mg):Can P w K mg base "is_between" 2 ["least","most","thing"] (spP K (aqt)):=by
 obtain ⟨f,fd,D⟩:=T.d_is_between
 refine D.can (D.fn.ok sc_is_between (fun vs H Q E h=>lenP h fun ss Q' q=>by obtain ⟨a,b,d,rfl,k⟩:=q;rfl) (fun cdv A outer s H vs Q E hr h=>?_))
 have nd:=sc_is_between.nd
 refine ⟨_,(aaf (aas (adb (aah (af2 T) hr (aaa (pv 2) aab)) (aec (ara atm atm (pv 0) (pv 2) (pv 1)))))),?_⟩
 refine aa4 h fun ss Q' q B hK=>?_
 refine exS3 ss q fun a b d q1_=>?_
 have k:=q1_
 clear q1_ q
 show EvS B _ _ [some (.st (.int a)),some (.st (.int b)),some (.st d)]
 row_cond go
 refine ⟨d,rfl,?_⟩
 row_cond go
 cases d with
 | int i =>
  refine acr ?_
  row_cond go
  refine ab4 (fun h1=>?_) (fun h1=>?_)
  ·row_cond go
   have e:decide (i<=b)=btwD a b (.int i):=by
    show _=decide (a<=i/\i<=b)
    rw [Bool.eq_iff_iff];simp [h1]
   rw [e];exact k
  ·have e:false=btwD a b (.int i):=by
    show _=decide (a<=i/\i<=b)
    exact (decide_eq_false (fun z=>h1 z.1)).symm
   rw [e];exact k
 | _=>exact adg k
theorem sc_is_place:FnScope ["n","thing"] ["n","thing"] (aai s_is_place):=by row_cond sc
theorem adi (T:Txt K mg):Can P w K mg base "is_place" 3 ["n","thing"] (spP K (avv)):=by
 obtain ⟨f,fd,D⟩:=T.d_is_place
 refine D.can (D.fn.ok sc_is_place (fun vs H Q E h=>lenP h fun ss Q' q=>by obtain ⟨n,d,rfl,k⟩:=q;rfl) (fun cdv A outer s H vs Q E hr h=>?_))
 have nd:=sc_is_place.nd
 refine ⟨_,(aaf (aas (aah (ae2 T) hr (aaa aac (aaa (aae acp (pv 0) aac) (aaa (pv 1) aab)))))),?_⟩
 refine aa4 h fun ss Q' q B hK=>?_
 refine exS2 ss q fun n d q1_=>?_
 have k:=q1_
 clear q1_ q
 show EvS B _ _ [some (.st (.int n)),some (.st d)]
 row_cond go
 exact ⟨_,_,_,rfl,k⟩
def axx:VP:=fun ss Q=>∃ (n:Int) (es:List (Int × Int)),ss=[.st (webD n es)]/\0<=n/\n<=100/\InN n es/\es.length<=10000/\∀ tl,TiedL n (Tied es) tl->Q (.own (OLL (tlD tl)))
theorem sc_tied_places:FnScope ["web","n","ties","tied","a","b"] ["web"] (aai s_tied_places):=by row_cond sc
theorem aer (T:Txt K mg):Can P w K mg base "tied_places" 1 ["web"] (spP K (axx)):=by
 obtain ⟨f,fd,D⟩:=T.d_tied_places
 refine D.can (D.fn.ok sc_tied_places (fun vs H Q E h=>lenP h fun ss Q' q=>by obtain ⟨n,es,rfl,n0,n1,hin,hle,k⟩:=q;rfl) (fun cdv A outer s H vs Q E hr h=>?_))
 have nd:=sc_tied_places.nd
 refine ⟨_,(aad (aew (pv 0) (aee rfl (aa8 (aak (i:=1) nd rfl (Or.inl rfl)) (aa8 (aak (i:=2) nd rfl (Or.inl rfl)) ac1))))
  (aad (ags (i:=3) nd rfl (Or.inl rfl) rfl (N:=["place"]) (src:=[none]) (by exact abf rfl rfl rfl rfl rfl rfl) (aa7 rfl T.b_range (aaa (pv 1) aab)) (fun _ _ _ _=>(aak (i:=0) (show List.Nodup (["place"]:List Str) by decide +kernel) rfl (Or.inl rfl) (hf:=Or.inr rfl))) (fun _ _ _ _=>abe) (fun _ _ _ _=>(abt aab)))
  (aad (abo PassesOwn.never rfl (abj (pv 2)) (aee rfl (aa8 (aak (i:=4) nd rfl (Or.inl rfl)) (aa8 (aak (i:=5) nd rfl (Or.inl rfl)) ac1)))
   (aad (aba (acj PySem.F.plainAttrs_list PySem.F.slot_list_append PySem.F.type_list_append abb (aap aaq (pv 3) (pv 4) (fun _ _=>rfl)) (aaa (pv 5) aab)))
    (aaf (aba (acj PySem.F.plainAttrs_list PySem.F.slot_list_append PySem.F.type_list_append abb (aap aaq (pv 3) (pv 5) (fun _ _=>rfl)) (aaa (pv 4) aab))))))
  (aaf (aas (pv 3)))))),?_⟩
 refine aa4 h fun ss Q' q B hK=>?_
 refine exS2 ss q fun n es q1_=>?_
 have n0:=q1_.1
 have n1:=q1_.2.1
 have hin:=q1_.2.2.1
 have hle:=q1_.2.2.2.1
 have k:=q1_.2.2.2.2
 clear q1_ q
 show EvS B _ _ [some (.st (webD n es)),none,none,none,none,none]
 row_cond go
 rw [abv]
 refine ⟨by omega,?_⟩
 row_cond go
 refine agz (fun i e=>∃ v4 v5 tl,e=[some (.st (webD n es)),some (.st (.int n)),some (.st (.list (es.map prD))),some (.own (OLL (tlD tl))),v4,v5]/\TiedL n (Tied (es.take i)) tl/\∀ ws∈tl,ws.length<=2 * i)
  ⟨none,none,List.replicate n.toNat [],by simp [tlD],⟨by simp;omega,fun i ws hi w=>?_⟩,fun ws hw=>?_⟩ ?_ ?_
 ·rw [List.getElem?_replicate] at hi
  split at hi
  ·cases hi;simp [Tied]
  ·cases hi
 ·have:=List.eq_of_mem_replicate hw
  subst this;simp
 ·rintro i ⟨a,b⟩ e hx q0_
  refine exS3 e q0_ fun v4 v5 tl q1_=>?_
  have ht:=q1_.1
  have hlen:=q1_.2
  clear q1_ q0_
  have hi:i < es.length:=(List.getElem?_eq_some_iff.mp hx).1
  obtain ⟨a0,a1,b0,b1⟩:=hin _ (List.mem_of_getElem? hx)
  dsimp only at a0 a1 b0 b1
  row_cond go
  obtain ⟨ws,hws,_⟩:=ht.get a0 a1
  have l1:=hlen ws (List.mem_of_getElem? hws)
  refine ahq (n:=a.toNat) (ds:=ws.map .int) rfl rfl rfl (by rw [List.length_map];exact ahr a0 (by rw [ht.1];exact a1)) (aio hws) (by rw [List.length_map];omega) ?_
  dsimp only [List.set_cons_zero,List.set_cons_succ]
  have t2:=ht.put (q:=b) a0 a1 hws
  rw [show ws.map PyData.int ++ [.int b]=(ws ++ [b]).map .int by simp,anq]
  have hlen2:∀ us∈tl.set a.toNat (ws ++ [b]),us.length<=2 * i+1:=fun us hu=>by
   rcases List.mem_or_eq_of_mem_set hu with h | h
   ·have:=hlen us h;omega
   ·subst h;simp;omega
  generalize tl.set a.toNat (ws ++ [b])=tl2 at t2 hlen2
  row_cond go
  obtain ⟨ws,hws,_⟩:=t2.get b0 b1
  have l1:=hlen2 ws (List.mem_of_getElem? hws)
  refine ahq (n:=b.toNat) (ds:=ws.map .int) rfl rfl rfl (by rw [List.length_map];exact ahr b0 (by rw [t2.1];exact b1)) (aio hws) (by rw [List.length_map];omega) ?_
  dsimp only [List.set_cons_zero,List.set_cons_succ]
  rw [show ws.map PyData.int ++ [.int a]=(ws ++ [a]).map .int by simp,anq]
  refine ⟨_,_,_,rfl,(t2.put (q:=a) b0 b1 hws).iff fun u v=>(Tied.snoc hx u v).symm,fun us hu=>?_⟩
  rcases List.mem_or_eq_of_mem_set hu with h | h
  ·have:=hlen2 us h;omega
  ·subst h;simp;omega
 ·rintro e q0_
  refine exS3 e q0_ fun v4 v5 tl q1_=>?_
  have ht:=q1_.1
  have hlen:=q1_.2
  clear q1_ q0_
  rw [List.take_length] at ht
  row_cond go
  exact k tl ht
end
@[reducible] noncomputable def tlV (tl:List (List Int)):PyData:=.list ((tlD tl).map .list)
def ay8:VP:=fun ss Q=>∃ (n a:Int) (T:Int->Int->Prop) (tl:List (List Int)),ss=[.st (tlV tl),.st (.int a)]/\n<=100/\TiedL n T tl/\(∀ u v,T u v->0<=v/\v < n)/\0<=a/\a < n/\Q (.own (OL (lab n.toNat (Gr.farO T a))))
section
variable {P:Program} {w:World} {K:Frag} {mg:Str->Option Value} {base:Heap}
theorem sc_far_from:FnScope ["tied","start","far","edge","beyond","place","other"] ["tied","start"] (aai s_far_from):=by row_cond sc
theorem af3 (T:Txt K mg):Can P w K mg base "far_from" 1 ["tied","start"] (spP K (ay8)):=by
 obtain ⟨f,fd,D⟩:=T.d_far_from
 refine D.can (D.fn.ok sc_far_from (fun vs H Q E h=>lenP h fun ss Q' q=>by obtain ⟨n,a,T,tl,rfl,n1,ht,hT,a0,a1,k⟩:=q;rfl) (fun cdv A outer s H vs Q E hr h=>?_))
 have nd:=sc_far_from.nd
 refine ⟨_,(aad (aao (i:=2) nd rfl (Or.inl rfl) (aae awk (abt (aaa afo aab)) (aal aa9 (by rfl) T.b_len ab5 (aaa (pv 0) aab))))
  (aad (aew aac (ao4 (pv 2) (pv 1) akr))
  (aad (aao (i:=3) nd rfl (Or.inl rfl) (abt (aaa (pv 1) aab)))
  (aad (akl PassesOwn.never (ahj (pv 3))
   (aad (aao (i:=4) nd rfl (Or.inl rfl) (abt aab))
    (aad (abo PassesOwn.never rfl (abj (pv 3)) (aak (i:=5) nd rfl (Or.inl rfl))
     (aaf (abo PassesOwn.never rfl (abj (aap aaq (pv 0) (pv 5) (fun _ _=>rfl))) (aak (i:=6) nd rfl (Or.inl rfl))
       (aaf (abc (aa3 anc (aap aaq (pv 2) (pv 6) (fun _ _=>rfl)) afo (aaz _))
         (aad (aew (aae aar (aap aaq (pv 2) (pv 5) (fun _ _=>rfl)) aac) (ao4 (pv 2) (pv 6) akr))
          (aaf (aba (acj PySem.F.plainAttrs_list PySem.F.slot_list_append PySem.F.type_list_append abb (pv 4) (aaa (pv 6) aab)))))
         aa5)))))
    (aaf (aao (i:=3) nd rfl (Or.inl rfl) (pv 4))))))
  (aaf (aas (pv 2))))))),?_⟩
 refine aa4 h fun ss Q' q B hK=>?_
 refine exS4 ss q fun n a T tl q1_=>?_
 have n1:=q1_.1
 have ht:=q1_.2.1
 have hT:=q1_.2.2.1
 have a0:=q1_.2.2.2.1
 have a1:=q1_.2.2.2.2.1
 have k:=q1_.2.2.2.2.2
 clear q1_ q
 show EvS B _ _ [some (.st (tlV tl)),some (.st (.int a)),none,none,none,none,none]
 have hl:tl.length=n.toNat:=by have:=ht.1;omega
 row_cond go
 refine au2 (by first | omega | (simp;done) | (simp;omega)) (by first | omega | (simp;done) | (simp;omega)) (by first | omega | (simp;done) | (simp;omega)) ?_
 simp only [List.length_map,hl]
 rw [show ((n.toNat:Nat):Int).toNat=n.toNat by omega,avf]
 row_cond go
 refine aoo (j:=a.toNat) rfl (by rw [act];exact ahr a0 (by omega)) ?_
 dsimp only [List.set_cons_zero,List.set_cons_succ,reS]
 rw [show (PyData.int 0)=.int ((0:Nat):Int) from rfl,anp a0 (by omega)]
 row_cond go
 refine aim 3 rfl acf ?_
 dsimp only [List.set_cons_zero,List.set_cons_succ]
 refine ai8 (fun m e=>∃ v4 v5 v6 far edge kk,e=[some (.st (tlV tl)),some (.st (.int a)),some (.own (OL (lab n.toNat far))),some (.st (.list (edge.map .int))),v4,v5,v6]/\Gr.Ring T a kk far edge/\(∀ v∈edge,0<=v/\v < n)/\m=2 * cnt far n.toNat+(if edge=[] then 0 else 1))
  ⟨_,none,none,none,_,[a],0,rfl,Gr.Ring.start,fun v hv=>by simp at hv;subst hv;exact ⟨a0,a1⟩,rfl⟩ ?_
 rintro m e q0_
 refine exS6 e q0_ fun v4 v5 v6 far edge kk q1_=>?_
 have hR:=q1_.1
 have hb:=q1_.2.1
 have e2_:=q1_.2.2
 clear q1_ q0_
 subst e2_
 row_cond go
 rw [ami]
 cases hedge:edge with
 | nil =>
  subst hedge
  refine adg ?_
  row_cond go
  rw [ap3 (g:=Gr.farO T a) fun v _ _=>hR.fin v]
  exact k
 | cons e0 er =>
  refine acr ?_
  rw [← hedge]
  have hne:edge ≠ []:=by rw [hedge];simp
  row_cond go
  refine agz (fun i e=>∃ v5 v6 far' beyond,e=[some (.st (tlV tl)),some (.st (.int a)),some (.own (OL (lab n.toNat far'))),some (.st (.list (edge.map .int))),some (.own (OL (beyond.map .int))),v5,v6]/\Gr.Mid T kk far edge (fun u=>u∈edge.take i) far' beyond/\cnt far' n.toNat+beyond.length=cnt far n.toNat/\∀ v∈beyond,0<=v/\v < n)
   ⟨v5,v6,far,[],rfl,Gr.Mid.start.imp fun u hu=>by simp at hu,rfl,fun v hv=>by simp at hv⟩ ?_ ?_
  ·rintro i p e hp q0_
   refine exS4 e q0_ fun v5 v6 far' beyond q1_=>?_
   have hM:=q1_.1
   have hc:=q1_.2.1
   have hbd:=q1_.2.2
   clear q1_ q0_
   have hpe:=List.mem_of_getElem? hp
   obtain ⟨p0,p1⟩:=hb p hpe
   obtain ⟨ws,hws,hw⟩:=ht.get p0 p1
   have hat:atI ((tlD tl).map PyData.list) p=some (.list (ws.map .int)):=adx (f:=PyData.list) (ad3 p0 (aio hws))
   row_cond go
   have hfp:far p=some kk:=(hR.lab p kk).mpr ⟨(hR.edg p).mp hpe,Nat.le_refl _⟩
   refine agz (fun j e=>∃ v6 far' beyond,e=[some (.st (tlV tl)),some (.st (.int a)),some (.own (OL (lab n.toNat far'))),some (.st (.list (edge.map .int))),some (.own (OL (beyond.map .int))),some (.st (.int p)),v6]/\Gr.Mid T kk far edge (fun u=>u∈edge.take i) far' beyond/\cnt far' n.toNat+beyond.length=cnt far n.toNat/\(∀ v∈beyond,0<=v/\v < n)/\∀ x∈ws.take j,far' x ≠ none)
    ⟨v6,far',beyond,rfl,hM,hc,hbd,fun x hx=>by simp at hx⟩ ?_ ?_
   ·rintro j u e hu q0_
    refine exS3 e q0_ fun v6 far' beyond q1_=>?_
    have hM:=q1_.1
    have hc:=q1_.2.1
    have hbd:=q1_.2.2.1
    have hdn:=q1_.2.2.2
    clear q1_ q0_
    have tu:T p u:=(hw u).mp (List.mem_of_getElem? hu)
    obtain ⟨u0,u1⟩:=hT _ _ tu
    have hau:atI (lab n.toNat far') u=some (oD (far' u)):=als u0 (by omega)
    have hap:atI (lab n.toNat far') p=some (.int (kk:Int)):=by
     rw [als p0 (by omega),hM.old p kk hfp];rfl
    row_cond go
    rw [ave]
    cases hf:far' u with
    | none =>
     refine acr ?_
     row_cond go
     refine aoo (j:=u.toNat) rfl (by rw [act];exact ahr u0 (by omega)) ?_
     dsimp only [List.set_cons_zero,List.set_cons_succ,reS]
     rw [show (PyData.int ((kk:Int)+1))=.int ((kk+1:Nat):Int) by simp,anp u0 (by omega)]
     have hcc:=ajc (d:=kk+1) u0 hf (n:=n.toNat) (by omega)
     have hblen:beyond.length<=cnt far n.toNat:=by omega
     have hcn:∀ m,cnt far m<=m:=fun m=>by
      induction m with
      | zero=>exact Nat.le_refl _
      | succ m ih=>unfold cnt;split <;> omega
     have:=hcn n.toNat
     row_cond go
     refine ⟨some (.st (.int u)),Gr.label far' u (kk+1),beyond ++ [u],by simp,hM.add hpe tu hf,by simp;omega,fun v hv=>?_,fun x hx=>?_⟩
     ·rcases List.mem_append.mp hv with h | h
      ·exact hbd v h
      ·have:v=u:=by simpa using h
       subst this;exact ⟨u0,u1⟩
     ·by_cases hx2:x=u
      ·subst hx2;rw [Gr.label_same];simp
      ·rw [Gr.label_ne hx2]
       rcases ady hu hx with h | h
       ·exact hdn x h
       ·exact absurd h hx2
    | some d =>
     refine adg ?_
     row_cond go
     refine ⟨_,far',beyond,rfl,hM,hc,hbd,fun x hx=>?_⟩
     rcases ady hu hx with h | h
     ·exact hdn x h
     ·subst h;rw [hf];simp
   ·rintro e q0_
    refine exS3 e q0_ fun v6 far' beyond q1_=>?_
    have hM:=q1_.1
    have hc:=q1_.2.1
    have hbd:=q1_.2.2.1
    have hdn:=q1_.2.2.2
    clear q1_ q0_
    rw [List.take_length] at hdn
    refine ⟨_,_,far',beyond,rfl,?_,hc,hbd⟩
    refine (hM.did (u:=p) fun x tx=>hdn x ((hw x).mpr tx)).imp fun x hx=>?_
    exact ady hp hx
  ·rintro e q0_
   refine exS4 e q0_ fun v5 v6 far' beyond q1_=>?_
   have hM:=q1_.1
   have hc:=q1_.2.1
   have hbd:=q1_.2.2
   clear q1_ q0_
   row_cond go
   refine ⟨_,?_,_,_,_,far',beyond,kk+1,rfl,hR.next hM fun u hu=>by rw [List.take_length];exact hu,hbd,rfl⟩
   rw [if_neg hne]
   cases beyond with
   | nil=>rw [if_pos rfl];simp at hc;omega
   | cons b0 br=>rw [if_neg (by simp)];simp at hc;omega
end
def aml:VP:=fun ss Q=>∃ (n a:Int) (es:List (Int × Int)),ss=[.st (webD n es),.st (.int a)]/\0<=a/\a < n/\Q (.st .none)
def asx:VP:=fun ss Q=>∃ (n a:Int) (es:List (Int × Int)),ss=[.st (webD n es),.st (.int a)]/\n<=100/\InN n es/\es.length<=10000/\0<=a/\a < n/\Q (.own (OL (lab n.toNat (Gr.farO (Tied es) a))))
def asz:VP:=fun ss Q=>∃ (n a b:Int) (es:List (Int × Int)),ss=[.st (webD n es),.st (.int a),.st (.int b)]/\n<=100/\InN n es/\es.length<=10000/\0<=a/\a < n/\0<=b/\b < n/\Q (.st (oD (Gr.farO (Tied es) a b)))
def as0:VP:=fun ss Q=>∃ (n:Int) (es:List (Int × Int)),ss=[.st (webD n es)]/\1<=n/\n<=100/\InN n es/\es.length<=10000/\∀ b:Bool,(b=true ↔ Joined n es)->Q (.st (.bool b))
section
variable {P:Program} {w:World} {K:Frag} {mg:Str->Option Value} {base:Heap}
theorem sc_need_place:FnScope ["web","thing"] ["web","thing"] (aai s_need_place):=by row_cond sc
theorem adn (T:Txt K mg):Can P w K mg base "need_place" 4 ["web","thing"] (spP K (aml)):=by
 obtain ⟨f,fd,D⟩:=T.d_need_place
 refine D.can (D.fn.ok sc_need_place (fun vs H Q E h=>lenP h fun ss Q' q=>by obtain ⟨n,a,es,rfl,a0,a1,k⟩:=q;rfl) (fun cdv A outer s H vs Q E hr h=>?_))
 have nd:=sc_need_place.nd
 refine ⟨_,(aaf (abc (acv (ab0 (aah (adi T) hr (aaa (aap aaq (pv 0) aac (fun _ _=>rfl)) (aaa (pv 1) aab)))))
   (aaf aed)
   aa5)),?_⟩
 refine aa4 h fun ss Q' q B hK=>?_
 refine exS3 ss q fun n a es q1_=>?_
 have a0:=q1_.1
 have a1:=q1_.2.1
 have k:=q1_.2.2
 clear q1_ q
 show EvS B _ _ [some (.st (webD n es)),some (.st (.int a))]
 row_cond go
 refine ⟨_,_,rfl,?_⟩
 row_cond go
 have e:btwD 0 (n - 1) (.int a)=true:=decide_eq_true ⟨a0,by omega⟩
 rw [e]
 row_cond go
 exact k
theorem sc_all_far:FnScope ["web","a"] ["web","a"] (aai s_all_far):=by row_cond sc
theorem agp (T:Txt K mg):Can P w K mg base "all_far" 5 ["web","a"] (spP K (asx)):=by
 obtain ⟨f,fd,D⟩:=T.d_all_far
 refine D.can (D.fn.ok sc_all_far (fun vs H Q E h=>lenP h fun ss Q' q=>by obtain ⟨n,a,es,rfl,n1,hin,hle,a0,a1,k⟩:=q;rfl) (fun cdv A outer s H vs Q E hr h=>?_))
 have nd:=sc_all_far.nd
 refine ⟨_,(aad (aba (aah (adn T) hr (aaa (pv 0) (aaa (pv 1) aab))))
  (aaf (aas (aah (af3 T) hr (aaa (aah (aer T) hr (aaa (pv 0) aab)) (aaa (pv 1) aab)))))),?_⟩
 refine aa4 h fun ss Q' q B hK=>?_
 refine exS3 ss q fun n a es q1_=>?_
 have n1:=q1_.1
 have hin:=q1_.2.1
 have hle:=q1_.2.2.1
 have a0:=q1_.2.2.2.1
 have a1:=q1_.2.2.2.2.1
 have k:=q1_.2.2.2.2.2
 clear q1_ q
 show EvS B _ _ [some (.st (webD n es)),some (.st (.int a))]
 row_cond go
 refine ⟨n,a,es,rfl,a0,a1,?_⟩
 row_cond go
 refine ⟨n,es,rfl,by omega,n1,hin,hle,fun tl ht=>?_⟩
 refine axp ?_
 row_cond go
 exact ⟨n,a,Tied es,tl,rfl,n1,ht,fun u v h=>(h.in hin).2,a0,a1,k⟩
theorem sc_how_far:FnScope ["web","a","b"] ["web","a","b"] (aai s_how_far):=by row_cond sc
theorem amm (T:Txt K mg):Can P w K mg base "how_far" 6 ["web","a","b"] (spP K (asz)):=by
 obtain ⟨f,fd,D⟩:=T.d_how_far
 refine D.can (D.fn.ok sc_how_far (fun vs H Q E h=>lenP h fun ss Q' q=>by obtain ⟨n,a,b,es,rfl,n1,hin,hle,a0,a1,b0,b1,k⟩:=q;rfl) (fun cdv A outer s H vs Q E hr h=>?_))
 have nd:=sc_how_far.nd
 refine ⟨_,(aad (aba (aah (adn T) hr (aaa (pv 0) (aaa (pv 1) aab))))
  (aad (aba (aah (adn T) hr (aaa (pv 0) (aaa (pv 2) aab))))
  (aaf (aas (aap aaq (aah (agp T) hr (aaa (pv 0) (aaa (pv 1) aab))) (pv 2) (fun _ _=>rfl)))))),?_⟩
 refine aa4 h fun ss Q' q B hK=>?_
 refine exS4 ss q fun n a b es q1_=>?_
 have n1:=q1_.1
 have hin:=q1_.2.1
 have hle:=q1_.2.2.1
 have a0:=q1_.2.2.2.1
 have a1:=q1_.2.2.2.2.1
 have b0:=q1_.2.2.2.2.2.1
 have b1:=q1_.2.2.2.2.2.2.1
 have k:=q1_.2.2.2.2.2.2.2
 clear q1_ q
 show EvS B _ _ [some (.st (webD n es)),some (.st (.int a)),some (.st (.int b))]
 row_cond go
 refine ⟨n,a,es,rfl,a0,a1,?_⟩
 row_cond go
 refine ⟨n,b,es,rfl,b0,b1,?_⟩
 row_cond go
 refine ⟨n,a,es,rfl,n1,hin,hle,a0,a1,?_⟩
 have hat:atI (lab n.toNat (Gr.farO (Tied es) a)) b=some (oD (Gr.farO (Tied es) a b)):=als b0 (by omega)
 row_cond go
 exact k
theorem sc_is_joined:FnScope ["web"] ["web"] (aai s_is_joined):=by row_cond sc
theorem aj2 (T:Txt K mg):Can P w K mg base "is_joined" 6 ["web"] (spP K (as0)):=by
 obtain ⟨f,fd,D⟩:=T.d_is_joined
 refine D.can (D.fn.ok sc_is_joined (fun vs H Q E h=>lenP h fun ss Q' q=>by obtain ⟨n,es,rfl,n0,n1,hin,hle,k⟩:=q;rfl) (fun cdv A outer s H vs Q E hr h=>?_))
 have nd:=sc_is_joined.nd
 refine ⟨_,(aaf (aas (acb (ai4 hr.units) afo (aah (agp T) hr (aaa (pv 0) (aaa aac aab))) rfl))),?_⟩
 refine aa4 h fun ss Q' q B hK=>?_
 refine exS2 ss q fun n es q1_=>?_
 have n0:=q1_.1
 have n1:=q1_.2.1
 have hin:=q1_.2.2.1
 have hle:=q1_.2.2.2.1
 have k:=q1_.2.2.2.2
 clear q1_ q
 show EvS B _ _ [some (.st (webD n es))]
 row_cond go
 refine ⟨n,0,es,rfl,n1,hin,hle,by omega,by omega,?_⟩
 row_cond go
 refine ann rfl ap4 (by simp [PyData.depth]) ?_
 row_cond go
 refine k _ ?_
 rw [if_pos rfl,Bool.not_eq_true',← Bool.not_eq_true,avg]
 constructor
 ·intro h v v0 v1
  cases e:Gr.farO (Tied es) 0 v with
  | some d=>exact ⟨d,Gr.farO_some.mp e⟩
  | none=>exact absurd ⟨v,v0,by omega,e⟩ h
 ·rintro h ⟨v,v0,v1,e⟩
  obtain ⟨d,hd⟩:=h v v0 (by omega)
  exact Gr.farO_none.mp e d hd
end
noncomputable def dsF (es:List (Int × Int)) (u v:Int):Int:=(((Gr.farO (Tied es) u v).getD 0:Nat):Int)
noncomputable def rowD (n:Nat) (r:Int->Int):List PyData:=(List.range n).map fun (i:Nat) => .int (r (i:Int))
noncomputable def matD (n:Nat) (m:Int->Int->Int):List PyData:=(List.range n).map fun (u:Nat) => .list (rowD n (m (u:Int)))
theorem aqu {n:Nat} {r:Int->Int} {x:Int} (h0:0<=x) (h1:x < n):atI (rowD n r) x=some (.int (r x)):=by
 have:=aga (xs:=rowD n r) (j:=x.toNat) (v:=.int (r x)) (by
  unfold rowD
  rw [List.getElem?_map,List.getElem?_eq_getElem (by simp;omega)]
  simp [Int.max_eq_left h0])
 rwa [show ((x.toNat:Nat):Int)=x by omega] at this
theorem al0 {n:Nat} {m:Int->Int->Int} {x:Int} (h0:0<=x) (h1:x < n):atI (matD n m) x=some (.list (rowD n (m x))):=by
 have:=aga (xs:=matD n m) (j:=x.toNat) (v:=.list (rowD n (m x))) (by
  unfold matD
  rw [List.getElem?_map,List.getElem?_eq_getElem (by simp;omega)]
  simp [Int.max_eq_left h0])
 rwa [show ((x.toNat:Nat):Int)=x by omega] at this
theorem an0 {n:Nat} {m:Int->Int->Int}:(matD n m).length=n:=by simp [matD]
theorem ag2 {n:Nat} {r:Int->Int}:rowD n r=((List.range n).map fun (i:Nat)=>r (i:Int)).map .int:=by simp [rowD]
theorem ad5 {n:Int} {es:List (Int × Int)} (hJ:Joined n es) {u v:Int} (u0:0<=u) (u1:u < n) (v0:0<=v) (v1:v < n):∃ d,Gr.farO (Tied es) u v=some d:=by
 cases e:Gr.farO (Tied es) u v with
 | some d=>exact ⟨d,rfl⟩
 | none =>
  obtain ⟨k,hw⟩:=hJ.conn u v u0 u1 v0 v1
  obtain ⟨d,_,hd⟩:=Gr.Dist.of_walk hw
  exact absurd hd (Gr.farO_none.mp e d)
theorem avw {n:Int} {es:List (Int × Int)} (hJ:Joined n es) {u:Int} (u0:0<=u) (u1:u < n):lab n.toNat (Gr.farO (Tied es) u)=rowD n.toNat (dsF es u):=by
 unfold lab rowD
 refine List.map_congr_left fun i hi=>?_
 obtain ⟨d,e⟩:=ad5 hJ u0 u1 (show 0<=(i:Int) by omega) (by have:=List.mem_range.mp hi;omega)
 simp only [dsF,e,oD,Option.getD_some]
theorem aej {α:Type} {K:Frag} {src:List (Option Nat)} {e1:En} {te:TE} {R:List PyData->En->Prop} {xs:List α} {f : α->PyData} (g : α->PyData) (hno:noIo (aaj src e1)=true) (hl:xs.length<=999999)
  (h:∀ x∈xs,∀ B':Bs,B'.K=K->Ev B' te (some (.st (f x)) :: aaj src e1) fun y e4=>y=g x/\e4=some (.st (f x)) :: aaj src e1)
  (hR:R (xs.map g) e1):LcV K (none :: src) (aay 0) tYes te (xs.map f) e1 R:=by
 have hno':noIo (aaj (none :: src) e1)=true:=by
  show ((none :: aaj src e1).all fun s => !isIo s)=true
  rw [List.all_cons]
  exact (Bool.and_eq_true _ _).mpr ⟨rfl,hno⟩
 refine ⟨fun i ys e=>ys=(xs.take i).map g/\∃ o,e=stO o :: aaj src e1,⟨by simp,none,rfl⟩,?_,?_,?_⟩
 ·rintro i ys e ⟨_,o,rfl⟩
  exact ⟨⟨isIo_stO.symm,ab6⟩,ac9 acw⟩
 ·rintro i d ys e hd ⟨rfl,o,rfl⟩ B' hB
  rw [List.getElem?_map] at hd
  cases hx:xs[i]? with
  | none=>rw [hx] at hd;cases hd
  | some x =>
   rw [hx] at hd
   cases hd
   have hi:i < xs.length:=(List.getElem?_eq_some_iff.mp hx).1
   have et:xs.take (i+1)=xs.take i ++ [x]:=by rw [List.take_add_one,hx];rfl
   refine aat (acs ?_)
   rw [if_pos rfl]
   intro σ G H F Q I k
   refine h x (List.mem_of_getElem? hx) B' hB σ G H F Q I fun v G' H' F' d' e4 I' g' r' ⟨hy,he4⟩=>k v G' H' F' d' e4 I' g' r' ?_
   subst hy he4
   refine ⟨by simp;omega,by rw [et];simp,some _,rfl⟩
 ·rintro ys e ⟨rfl,o,rfl⟩
  rw [ae1 hno']
  simpa using hR
theorem al1 {ns:List Int} {x y:Int} (h:ae6 ns x) (g:ae6 ns y):x=y:=Int.le_antisymm (g.2 x h.1) (h.2 y g.1)
theorem aiq:∀ {ns:List Int},ns ≠ []->∃ x,ae6 ns x
 | [a],_=>⟨a,by simp [ae6]⟩
 | a :: b :: r,_=>by
  obtain ⟨x,hx,hm⟩:=aiq (ns:=b :: r) (by simp)
  by_cases h:a<=x
  ·exact ⟨x,List.mem_cons_of_mem _ hx,fun y hy=>by
    rcases List.mem_cons.mp hy with rfl | hy
    ·exact h
    ·exact hm y hy⟩
  ·exact ⟨a,List.mem_cons_self,fun y hy=>by
    rcases List.mem_cons.mp hy with rfl | hy
    ·exact Int.le_refl _
    ·have:=hm y hy;omega⟩
theorem an1 {n:Nat} (n0:1<=n) (m:Int->Int->Int):∃ mx:Nat->Int,∀ u:Nat,ae6 ((List.range n).map fun (i:Nat)=>m (u:Int) (i:Int)) (mx u) :=
 ⟨fun u=>Classical.choose (aiq (ns:=(List.range n).map fun (i:Nat)=>m (u:Int) (i:Int)) (by simp;omega)),fun u=>Classical.choose_spec (aiq (ns:=(List.range n).map fun (i:Nat)=>m (u:Int) (i:Int)) (by simp;omega))⟩
def al2:VP:=fun ss Q=>∃ (n:Int) (es:List (Int × Int)),ss=[.st (webD n es)]/\1<=n/\n<=100/\InN n es/\es.length<=10000/\Joined n es/\Q (.st .none)
def aqv:VP:=fun ss Q=>∃ (n:Int) (es:List (Int × Int)),ss=[.st (webD n es)]/\1<=n/\n<=100/\InN n es/\es.length<=10000/\Joined n es/\Q (.own (OL (matD n.toNat (dsF es))))
def ahw (n:Nat) (m:Int->Int->Int) (x:Int):Prop:=(∃ u v:Int,0<=u/\u < n/\0<=v/\v < n/\m u v=x)/\∀ u v:Int,0<=u->u < n->0<=v->v < n->m u v<=x
def aqw:VP:=fun ss Q=>∃ (n:Nat) (m:Int->Int->Int),ss=[.st (.list (matD n m))]/\1<=n/\n<=1000/\∀ x,ahw n m x->Q (.st (.int x))
structure FreeAll (n:Int) (es fs:List (Int × Int)):Prop where
 mem:∀ p:Int × Int,p∈fs ↔ (0<=p.1/\p.1 < p.2/\p.2 < n/\p ∉ es)
 rise:Rise fs
theorem FreeAll.eq {n:Int} {es fs gs:List (Int × Int)} (h:FreeAll n es fs) (g:FreeAll n es gs):fs=gs:=h.rise.eq g.rise fun p=>by rw [h.mem,g.mem]
theorem FreeAll.len {n:Int} {es fs:List (Int × Int)} (h:FreeAll n es fs) (h1:n<=100):fs.length<=10000:=PsOk.len ⟨h.rise.nodup,fun p hp=>by have:=(h.mem p).mp hp;omega⟩ h1
section
variable {P:Program} {w:World} {K:Frag} {mg:Str->Option Value} {base:Heap}
theorem sc_need_joined:FnScope ["web"] ["web"] (aai s_need_joined):=by row_cond sc
theorem ahx (T:Txt K mg):Can P w K mg base "need_joined" 7 ["web"] (spP K (al2)):=by
 obtain ⟨f,fd,D⟩:=T.d_need_joined
 refine D.can (D.fn.ok sc_need_joined (fun vs H Q E h=>lenP h fun ss Q' q=>by obtain ⟨n,es,rfl,n0,n1,hin,hle,hJ,k⟩:=q;rfl) (fun cdv A outer s H vs Q E hr h=>?_))
 have nd:=sc_need_joined.nd
 refine ⟨_,(aaf (abc (acv (ab0 (aah (aj2 T) hr (aaa (pv 0) aab))))
   (aaf aed)
   aa5)),?_⟩
 refine aa4 h fun ss Q' q B hK=>?_
 refine exS2 ss q fun n es q1_=>?_
 have n0:=q1_.1
 have n1:=q1_.2.1
 have hin:=q1_.2.2.1
 have hle:=q1_.2.2.2.1
 have hJ:=q1_.2.2.2.2.1
 have k:=q1_.2.2.2.2.2
 clear q1_ q
 show EvS B _ _ [some (.st (webD n es))]
 row_cond go
 refine ⟨n,es,rfl,n0,n1,hin,hle,fun b hb=>?_⟩
 have:b=true:=hb.mpr hJ
 subst this
 row_cond go
 exact k
theorem sc_far_rows:FnScope ["web","tied"] ["web"] (aai s_far_rows):=by row_cond sc
theorem aek (T:Txt K mg):Can P w K mg base "far_rows" 8 ["web"] (spP K (aqv)):=by
 obtain ⟨f,fd,D⟩:=T.d_far_rows
 refine D.can (D.fn.ok sc_far_rows (fun vs H Q E h=>lenP h fun ss Q' q=>by obtain ⟨n,es,rfl,n0,n1,hin,hle,hJ,k⟩:=q;rfl) (fun cdv A outer s H vs Q E hr h=>?_))
 have nd:=sc_far_rows.nd
 refine ⟨_,(aad (aba (aah (ahx T) hr (aaa (pv 0) aab)))
  (aad (aao (i:=1) nd rfl (Or.inr rfl) (aah (aer T) hr (aaa (pv 0) aab)))
  (aaf (aas (adf rfl (N:=["place","tied"]) (src:=[none,some 1]) (by exact abf rfl rfl rfl rfl rfl rfl) (aa7 rfl T.b_range (aaa (aal aa9 (by rfl) T.b_len ab5 (aaa (pv 1) aab)) aab)) (fun _ _ _ _=>(aak (i:=0) (show List.Nodup (["place","tied"]:List Str) by decide +kernel) rfl (Or.inl rfl) (hf:=Or.inr rfl))) (fun _ _ _ _=>abe) (fun _ _ _ _=>(aah (af3 T) hr (aaa (pv 1) (aaa (pv 0) aab))))))))),?_⟩
 refine aa4 h fun ss Q' q B hK=>?_
 refine exS2 ss q fun n es q1_=>?_
 have n0:=q1_.1
 have n1:=q1_.2.1
 have hin:=q1_.2.2.1
 have hle:=q1_.2.2.2.1
 have hJ:=q1_.2.2.2.2.1
 have k:=q1_.2.2.2.2.2
 clear q1_ q
 show EvS B _ _ [some (.st (webD n es)),none]
 row_cond go
 refine ⟨n,es,rfl,n0,n1,hin,hle,hJ,?_⟩
 row_cond go
 refine ⟨n,es,rfl,by omega,n1,hin,hle,fun tl ht=>?_⟩
 refine aea ain ?_
 have hl:tl.length=n.toNat:=by have:=ht.1;omega
 have hl2:((tlD tl).map PyData.list).length=n.toNat:=by simp [tlD,hl]
 row_cond go
 rw [hl2,show (((n.toNat:Nat):Int)).toNat=n.toNat by omega]
 unfold rngD
 refine aej (fun u:Nat => .list (rowD n.toNat (dsF es (u:Int)))) rfl (by simp;omega) (fun u hu B' hB=>?_) ?_
 ·have hu1:(u:Int) < n:=by have:=List.mem_range.mp hu;omega
  row_cond go
  refine ⟨n,0+(u:Int),Tied es,tl,rfl,n1,ht,fun u v h=>(h.in hin).2,by omega,by omega,adh ⟨?_,rfl⟩⟩
  rw [Int.zero_add,avw hJ (by omega) hu1]
 ·row_cond go
  exact k
theorem sc_most_far:FnScope ["rows"] ["rows"] (aai s_most_far):=by row_cond sc
theorem af4 (T:Txt K mg):Can P w K mg base "most_far" 1 ["rows"] (spP K (aqw)):=by
 obtain ⟨f,fd,D⟩:=T.d_most_far
 refine D.can (D.fn.ok sc_most_far (fun vs H Q E h=>lenP h fun ss Q' q=>by obtain ⟨n,m,rfl,n0,n1,k⟩:=q;rfl) (fun cdv A outer s H vs Q E hr h=>?_))
 have nd:=sc_most_far.nd
 refine ⟨_,(aaf (aas (aal (afy rfl) (by rfl) T.b_max afv (aaa (adf rfl (N:=["row"]) (src:=[none]) (by exact abf rfl rfl rfl rfl rfl rfl) (abj (pv 0)) (fun _ _ _ _=>(aak (i:=0) (show List.Nodup (["row"]:List Str) by decide +kernel) rfl (Or.inl rfl) (hf:=Or.inr rfl))) (fun _ _ _ _=>abe) (fun _ _ _ _=>(aal (show abg _ (.builtin "max") (ahi K) from (afy rfl)) (by rfl) T.b_max afv (aaa (pv 0) aab)))) aab)))),?_⟩
 refine aa4 h fun ss Q' q B hK=>?_
 refine exS2 ss q fun n m q1_=>?_
 have n0:=q1_.1
 have n1:=q1_.2.1
 have k:=q1_.2.2
 clear q1_ q
 show EvS B _ _ [some (.st (.list (matD n m)))]
 obtain ⟨mx,hmx⟩:=an1 n0 m
 row_cond go
 unfold matD
 refine aej (fun u:Nat => .int (mx u)) rfl (by simp;omega) (fun u hu B' hB=>?_) ?_
 ·row_cond go
  rw [ag2]
  exact ag0 (by simp;omega) fun x hx=>⟨by rw [al1 hx (hmx u)],rfl⟩
 ·row_cond go
  rw [show (List.range n).map (fun u:Nat=>PyData.int (mx u))=((List.range n).map mx).map .int by rw [List.map_map];rfl]
  refine ag0 (by simp;omega) fun x hx=>?_
  row_cond go
  refine k x ⟨?_,fun u v u0 u1 v0 v1=>?_⟩
  ·obtain ⟨i,hi,e⟩:=List.mem_map.mp hx.1
   obtain ⟨j,hj,e2⟩:=List.mem_map.mp (hmx i).1
   exact ⟨i,j,by omega,by have:=List.mem_range.mp hi;omega,by omega,by have:=List.mem_range.mp hj;omega,e2.trans e⟩
  ·have h1:=(hmx u.toNat).2 (m ((u.toNat:Nat):Int) ((v.toNat:Nat):Int)) (List.mem_map.mpr ⟨v.toNat,List.mem_range.mpr (by omega),rfl⟩)
   have h2:=hx.2 (mx u.toNat) (List.mem_map.mpr ⟨u.toNat,List.mem_range.mpr (by omega),rfl⟩)
   rw [show ((u.toNat:Nat):Int)=u by omega,show ((v.toNat:Nat):Int)=v by omega] at h1
   omega
end
noncomputable def aaw (ps:List Int):Int:=match ps.getLast? with | some x=>x+1 | none=>0
noncomputable def okP (m:Int->Int->Int) (least:Int) (ps:List Int) (x:Int):Bool:=ps.all fun o=>decide (m x o ≥ least)
noncomputable def adj (n:Nat) (m:Int->Int->Int) (least:Int) (ps:List Int):List Int:=((List.range ((n:Int) - aaw ps).toNat).map fun (j:Nat)=>aaw ps+(j:Int)).filter (okP m least ps)
noncomputable def afe (n:Nat) (m:Int->Int->Int) (least:Int) (ps:List Int):List (List Int):=(adj n m least ps).map fun p=>ps ++ [p]
noncomputable def abi (n:Nat) (m:Int->Int->Int) (least:Int):Nat->List (List Int)
 | 0=>[[]]
 | i+1=>(abi n m least i).flatMap (afe n m least)
@[reducible] noncomputable def plD (ps:List Int):PyData:=.list (ps.map .int)
theorem acx (ps:List Int) (x:Int):aaw (ps ++ [x])=x+1:=by simp [aaw]
theorem afterF_mem {n:Nat} {m:Int->Int->Int} {least:Int} {ps:List Int} {x:Int}:x∈adj n m least ps ↔ aaw ps<=x/\x < n/\okP m least ps x=true:=by
 unfold adj
 rw [List.mem_filter,List.mem_map]
 constructor
 ·rintro ⟨⟨j,hj,rfl⟩,h⟩
  have:=List.mem_range.mp hj
  exact ⟨by omega,by omega,h⟩
 ·rintro ⟨h1,h2,h3⟩
  exact ⟨⟨(x - aaw ps).toNat,List.mem_range.mpr (by omega),by omega⟩,h3⟩
structure Apart (n:Nat) (m:Int->Int->Int) (least:Int) (ps:List Int):Prop where
 rise:ps.Pairwise (· < ·)
 inn:∀ x∈ps,0<=x/\x < n
 far:ps.Pairwise fun a b=>m b a ≥ least
theorem as4 {ps:List Int} (h:ps.Pairwise (· < ·)) (h0:∀ x∈ps,0<=x) {y:Int} (hy:aaw ps<=y):0<=y/\∀ x∈ps,x < y:=by
 rcases List.eq_nil_or_concat ps with rfl | ⟨qs,z,rfl⟩
 ·exact ⟨by simpa [aaw] using hy,fun x hx=>by simp at hx⟩
 ·rw [List.concat_eq_append] at *
  rw [acx] at hy
  have hz:=h0 z (by simp)
  refine ⟨by omega,fun x hx=>?_⟩
  rcases List.mem_append.mp hx with hx | hx
  ·have:=(List.pairwise_append.mp h).2.2 x hx z (by simp)
   omega
  ·have:x=z:=by simpa using hx
   omega
theorem ab7 {n:Nat} {m:Int->Int->Int} {least:Int}:∀ (i:Nat) (ps:List Int),ps∈abi n m least i ↔ Apart n m least ps/\ps.length=i
 | 0,ps=>by
  simp only [abi,List.mem_singleton]
  constructor
  ·rintro rfl;exact ⟨⟨.nil,fun x hx=>by simp at hx,.nil⟩,rfl⟩
  ·rintro ⟨_,h⟩;exact List.length_eq_zero_iff.mp h
 | i+1,ps=>by
  simp only [abi,List.mem_flatMap,afe,List.mem_map]
  constructor
  ·rintro ⟨qs,hq,x,hx,rfl⟩
   obtain ⟨hA,hl⟩:=(ab7 i qs).mp hq
   obtain ⟨h1,h2,h3⟩:=afterF_mem.mp hx
   obtain ⟨s0,s1⟩:=as4 hA.rise (fun x hx=>(hA.inn x hx).1) h1
   refine ⟨⟨List.pairwise_append.mpr ⟨hA.rise,by simp,fun a ha b hb=>?_⟩,fun y hy=>?_,List.pairwise_append.mpr ⟨hA.far,by simp,fun a ha b hb=>?_⟩⟩,by simp [hl]⟩
   ·rw [List.mem_singleton.mp hb];exact s1 a ha
   ·rcases List.mem_append.mp hy with hy | hy
    ·exact hA.inn y hy
    ·rw [List.mem_singleton.mp hy];exact ⟨s0,h2⟩
   ·rw [List.mem_singleton.mp hb]
    have:=List.all_eq_true.mp h3 a ha
    simpa using this
  ·rintro ⟨hA,hl⟩
   rcases List.eq_nil_or_concat ps with rfl | ⟨qs,x,rfl⟩
   ·simp at hl
   ·rw [List.concat_eq_append] at *
    have r:=List.pairwise_append.mp hA.rise
    have f:=List.pairwise_append.mp hA.far
    have hx:=hA.inn x (by simp)
    refine ⟨qs,(ab7 i qs).mpr ⟨⟨r.1,fun y hy=>hA.inn y (by simp [hy]),f.1⟩,by simpa using hl⟩,x,afterF_mem.mpr ⟨?_,hx.2,List.all_eq_true.mpr fun a ha=>?_⟩,rfl⟩
    ·rcases List.eq_nil_or_concat qs with rfl | ⟨rs,z,rfl⟩
     ·simpa [aaw] using hx.1
     ·rw [List.concat_eq_append] at *
      rw [acx]
      have:=r.2.2 z (by simp) x (by simp)
      omega
    ·have:=f.2.2 a ha x (by simp)
     simpa using this
theorem an2 (c:Nat->Bool):∀ k:Nat,(((List.range k).filter c).map fun j=>2 ^ (k - 1 - j)).sum+1<=2 ^ k
 | 0=>by simp
 | k+1=>by
  have ih:=an2 (fun j=>c (j+1)) k
  rw [List.range_succ_eq_map,List.filter_cons]
  have e:(((List.range k).map (· + 1)).filter c).map (fun j=>2 ^ (k+1 - 1 - j))=((List.range k).filter fun j=>c (j+1)).map fun j=>2 ^ (k - 1 - j):=by
   rw [List.filter_map,List.map_map]
   refine List.map_congr_left fun j hj=>?_
   show 2 ^ (k+1 - 1 - (j+1))=2 ^ (k - 1 - j)
   congr 1
   omega
  rw [show (List.range k).map Nat.succ=(List.range k).map (· + 1) from rfl]
  split
  ·rw [List.map_cons,e,List.sum_cons,Nat.pow_succ]
   simp only [Nat.add_sub_cancel,Nat.sub_zero]
   omega
  ·rw [e,Nat.pow_succ]
   omega
noncomputable def wtF (n:Nat) (ps:List Int):Nat:=2 ^ ((n:Int) - aaw ps).toNat
theorem avx {n:Nat} {m:Int->Int->Int} {least:Int} {ps:List Int}:((afe n m least ps).map (wtF n)).sum<=wtF n ps:=by
 have h:=an2 (fun j=>okP m least ps (aaw ps+(j:Int))) ((n:Int) - aaw ps).toNat
 unfold afe adj
 rw [List.filter_map,List.map_map,List.map_map]
 have e:∀ j∈(List.range ((n:Int) - aaw ps).toNat).filter ((okP m least ps) ∘ fun (j:Nat)=>aaw ps+(j:Int)),((wtF n ∘ fun p=>ps ++ [p]) ∘ fun (j:Nat)=>aaw ps+(j:Int)) j=2 ^ (((n:Int) - aaw ps).toNat - 1 - j):=fun j hj=>by
  have:=List.mem_range.mp (List.mem_filter.mp hj).1
  show 2 ^ ((n:Int) - aaw (ps ++ [aaw ps+(j:Int)])).toNat=_
  rw [acx]
  congr 1
  omega
 rw [List.map_congr_left e]
 unfold wtF
 have h':(List.range ((n:Int) - aaw ps).toNat).filter ((okP m least ps) ∘ fun (j:Nat)=>aaw ps+(j:Int))=(List.range ((n:Int) - aaw ps).toNat).filter fun (j:Nat)=>okP m least ps (aaw ps+(j:Int)):=rfl
 rw [h']
 omega
theorem as6 {n:Nat} {m:Int->Int->Int} {least:Int} (pss:List (List Int)):((pss.flatMap (afe n m least)).map (wtF n)).sum<=(pss.map (wtF n)).sum:=by
 induction pss with
 | nil=>simp
 | cons ps pss ih =>
  rw [List.flatMap_cons,List.map_append,List.sum_append,List.map_cons,List.sum_cons]
  have:=avx (n:=n) (m:=m) (least:=least) (ps:=ps)
  omega
theorem avy {n:Nat} (pss:List (List Int)):pss.length<=(pss.map (wtF n)).sum:=by
 induction pss with
 | nil=>simp
 | cons ps pss ih =>
  rw [List.map_cons,List.sum_cons,List.length_cons]
  have:1<=wtF n ps:=Nat.one_le_two_pow
  omega
theorem ahy {n:Nat} {m:Int->Int->Int} {least:Int} (hn:n<=12) (i:Nat):(abi n m least i).length<=4096:=by
 have key:∀ i,((abi n m least i).map (wtF n)).sum<=2 ^ n:=fun i=>by
  induction i with
  | zero=>simp [abi,wtF,aaw]
  | succ i ih=>exact Nat.le_trans (as6 _) ih
 refine Nat.le_trans (avy (n:=n) _) (Nat.le_trans (key i) ?_)
 exact Nat.le_trans (Nat.pow_le_pow_right (by decide) hn) (by decide)
def aqx:VP:=fun ss Q=>∃ (a b c:Int),ss=[.st (.int a),.st (.int b),.st (.int c)]/\a<=c/\c<=b/\Q (.st .none)
def aqy:VP:=fun ss Q=>∃ r:Int,ss=[.st (.int r)]/\-1000000<=r/\r<=1000000/\Q (.st (.int (2 * r+1)))
def al3:VP:=fun ss Q=>∃ r:Int,ss=[.st (.int r)]/\-1000000<=r/\r<=1000000/\Q (.st (.int (2 * r+2)))
def avz:VP:=fun ss Q=>∃ (n:Nat) (m:Int->Int->Int) (least:Int) (ps:List Int),ss=[.st (.list (matD n m)),.st (.int least),.st (plD ps)]/\n<=1000/\ps.Pairwise (· < ·)/\(∀ x∈ps,0<=x/\x < n)/\Q (.own (OL ((adj n m least ps).map .int)))
def av0:VP:=fun ss Q=>∃ (n:Nat) (m:Int->Int->Int) (least many:Int),ss=[.st (.list (matD n m)),.st (.int least),.st (.int many)]/\n<=12/\0<=many/\many<=1000/\Q (.st (.list ((abi n m least many.toNat).map plD)))
theorem al4 {n:Nat} {ps:List Int} (hr:ps.Pairwise (· < ·)) (hin:∀ x∈ps,0<=x/\x < (n:Int)):ps.length<=n:=by
 have hn:ps.Nodup:=hr.imp fun {a b} h e=>by omega
 have:=akj (bs:=(List.range n).map fun (i:Nat)=>(i:Int)) hn fun a ha=>by
  have:=hin a ha
  exact List.mem_map.mpr ⟨a.toNat,List.mem_range.mpr (by omega),by omega⟩
 simpa using this
section
variable {P:Program} {w:World} {K:Frag} {mg:Str->Option Value} {base:Heap}
theorem sc_need_number:FnScope ["least","most","thing"] ["least","most","thing"] (aai s_need_number):=by row_cond sc
theorem aes (T:Txt K mg):Can P w K mg base "need_number" 3 ["least","most","thing"] (spP K (aqx)):=by
 obtain ⟨f,fd,D⟩:=T.d_need_number
 refine D.can (D.fn.ok sc_need_number (fun vs H Q E h=>lenP h fun ss Q' q=>by obtain ⟨a,b,c,rfl,h1,h2,k⟩:=q;rfl) (fun cdv A outer s H vs Q E hr h=>?_))
 have nd:=sc_need_number.nd
 refine ⟨_,(aaf (abc (acv (ab0 (aah (ae2 T) hr (aaa (pv 0) (aaa (pv 1) (aaa (pv 2) aab))))))
   (aaf aed)
   aa5)),?_⟩
 refine aa4 h fun ss Q' q B hK=>?_
 refine exS3 ss q fun a b c q1_=>?_
 have h1:=q1_.1
 have h2:=q1_.2.1
 have k:=q1_.2.2
 clear q1_ q
 show EvS B _ _ [some (.st (.int a)),some (.st (.int b)),some (.st (.int c))]
 row_cond go
 refine ⟨a,b,.int c,rfl,?_⟩
 have:btwD a b (.int c)=true:=by simp [btwD];omega
 rw [this]
 row_cond go
 exact k
theorem sc_need_far:FnScope ["r"] ["r"] (aai s_need_far):=by row_cond sc
theorem af5 (T:Txt K mg):Can P w K mg base "need_far" 1 ["r"] (spP K (aqy)):=by
 obtain ⟨f,fd,D⟩:=T.d_need_far
 refine D.can (D.fn.ok sc_need_far (fun vs H Q E h=>lenP h fun ss Q' q=>by obtain ⟨r,rfl,h1,h2,k⟩:=q;rfl) (fun cdv A outer s H vs Q E hr h=>?_))
 have nd:=sc_need_far.nd
 refine ⟨_,(aaf (aas (aae aar (aae abp aac (pv 0)) aac))),?_⟩
 refine aa4 h fun ss Q' q B hK=>?_
 refine exS1 ss q fun r q1_=>?_
 have h1:=q1_.1
 have h2:=q1_.2.1
 have k:=q1_.2.2
 clear q1_ q
 show EvS B _ _ [some (.st (.int r))]
 row_cond go
 exact k
theorem sc_need_places:FnScope ["k"] ["k"] (aai s_need_places):=by row_cond sc
theorem aet (T:Txt K mg):Can P w K mg base "need_places" 1 ["k"] (spP K (al3)):=by
 obtain ⟨f,fd,D⟩:=T.d_need_places
 refine D.can (D.fn.ok sc_need_places (fun vs H Q E h=>lenP h fun ss Q' q=>by obtain ⟨r,rfl,h1,h2,k⟩:=q;rfl) (fun cdv A outer s H vs Q E hr h=>?_))
 have nd:=sc_need_places.nd
 refine ⟨_,(aaf (aas (aae aar (aae abp aac (pv 0)) aac))),?_⟩
 refine aa4 h fun ss Q' q B hK=>?_
 refine exS1 ss q fun r q1_=>?_
 have h1:=q1_.1
 have h2:=q1_.2.1
 have k:=q1_.2.2
 clear q1_ q
 show EvS B _ _ [some (.st (.int r))]
 row_cond go
 exact k
theorem sc_places_after:FnScope ["rows","least","places","start"] ["rows","least","places"] (aai s_places_after):=by row_cond sc
theorem ag3 (T:Txt K mg):Can P w K mg base "places_after" 1 ["rows","least","places"] (spP K (avz)):=by
 obtain ⟨f,fd,D⟩:=T.d_places_after
 refine D.can (D.fn.ok sc_places_after (fun vs H Q E h=>lenP h fun ss Q' q=>by obtain ⟨n,m,least,ps,rfl,hn,hr,hin,k⟩:=q;rfl) (fun cdv A outer s H vs Q E hr h=>?_))
 have nd:=sc_places_after.nd
 refine ⟨_,(aad (aao (i:=3) nd rfl (Or.inl rfl) (aq9 (ahj (pv 2)) (aae aar (aap aaq (pv 2) (ayb awd aac) (fun _ _=>rfl)) aac) aac))
  (aaf (aas (awo rfl (x0:="place") (N:=["place","least","places","rows"]) (src:=[none,some 1,some 2,some 0]) (by exact arl rfl (fun _ _=>rfl) (fun _=>rfl) rfl rfl rfl rfl rfl rfl) (afq rfl T.b_range (aaa (pv 3) (aaa (aal aa9 (by rfl) T.b_len ab5 (aaa (pv 0) aab)) aab))) (fun _ _ _ _=>(aak (i:=0) (show List.Nodup (["place","least","places","rows"]:List Str) by decide +kernel) rfl (Or.inr rfl) (hf:=Or.inl rfl))) (fun _ _ _ _=>ah2 (ab0 (aal (show abg _ (.builtin "all") (rAll K) from (ada rfl)) (by rfl) T.b_all aey (aaa (adf rfl (N:=["other","least","rows","place"]) (src:=[none,some 1,some 3,some 0]) (by exact abf rfl rfl rfl rfl rfl rfl) (show PI _ _ _ (ag7 K _) from abj (pv 2)) (fun _ _ _ _=>(aak (i:=0) (show List.Nodup (["other","least","rows","place"]:List Str) by decide +kernel) rfl (Or.inl rfl) (hf:=Or.inr rfl))) (fun _ _ _ _=>abe) (fun _ _ _ _=>(acb aj9 (aap (show IxR _ (abw K) from aaq) (aap (show IxR _ (abw K) from aaq) (pv 2) (pv 3) (fun _ _=>rfl)) (pv 0) (fun _ _=>rfl)) (pv 1) (aaz _)))) aab)))) (fun _ _ _ _=>(pv 0)))))),?_⟩
 refine aa4 h fun ss Q' q B hK=>?_
 refine exS4 ss q fun n m least ps q1_=>?_
 have hn:=q1_.1
 have hr:=q1_.2.1
 have hin:=q1_.2.2.1
 have k:=q1_.2.2.2
 clear q1_ q
 show EvS B _ _ [some (.st (.list (matD n m))),some (.st (.int least)),some (.st (plD ps)),none]
 row_cond go
 refine' cutR (R:=EvS B _ _ [some (.st (.list (matD n m))),some (.st (.int least)),some (.st (plD ps)),some (.st (.int (aaw ps)))]) (fun R=>?K1) ?K2
 case K1 =>
  rcases List.eq_nil_or_concat ps with e | ⟨qs,z,e⟩
  ·have he:(ps.map PyData.int).isEmpty=true:=by rw [e];rfl
   have hs:aaw ps=0:=by rw [e];rfl
   rw [hs] at R
   rw [he,if_neg (by decide)]
   repeat (first | exact R | row_cond st)
  ·rw [List.concat_eq_append] at e
   have hz:atI (ps.map PyData.int) (-1)=some (.int z):=by
    rw [e]
    unfold atI ixN
    have h1:(1:Int)<=(qs.length:Int)+1:=by omega
    have h2:(-1+((qs.length:Int)+1)).toNat=(qs.map PyData.int).length:=by rw [List.length_map];omega
    simp only [List.map_append,List.length_append,List.length_map,List.map_cons,List.map_nil,List.length_singleton]
    push_cast
    simp [h1,h2]
   have hzb:=hin z (by rw [e];simp)
   have hs:aaw ps=z+1:=by rw [e,acx]
   rw [hs] at R
   have he:(ps.map PyData.int).isEmpty=false:=by rw [e];cases qs <;> rfl
   rw [he,if_pos (by decide)]
   repeat (first | exact R | row_cond st)
 case K2 =>
  have hs0:0<=aaw ps/\aaw ps<=n:=by
   rcases List.eq_nil_or_concat ps with e | ⟨qs,z,e⟩
   ·have hs:aaw ps=0:=by rw [e];rfl
    omega
   ·rw [List.concat_eq_append] at e
    have hs:aaw ps=z+1:=by rw [e,acx]
    have hzb:=hin z (by rw [e];simp)
    omega
  have hml:(matD n m).length=n:=an0
  row_cond go
  rw [hml]
  row_cond go
  refine alq (fun d=>d) (fun d=>match d with | .int x=>okP m least ps x | _=>false) rfl (by rw [abv];omega) (fun d hd B' hB'=>?_) ?_
  ·obtain ⟨i,hi⟩:=List.mem_iff_getElem?.mp hd
   obtain ⟨hi,rfl⟩:=adm hi
   have hx1:aaw ps+(i:Int) < n:=by omega
   have hrow:=al0 (n:=n) (m:=m) (x:=aaw ps+(i:Int)) (by omega) hx1
   row_cond go
   refine aej (fun o:Int => .bool (decide (m (aaw ps+(i:Int)) o ≥ least))) rfl (by have:=al4 hr hin;omega) (fun o ho B2 hB2=>?_) ?_
   ·have hob:=hin o ho
    have hcol:=aqu (n:=n) (r:=m (aaw ps+(i:Int))) (x:=o) hob.1 hob.2
    row_cond go
    exact rfl
   ·row_cond go
    rw [show (ps.map fun o=>PyData.bool (decide (m (aaw ps+(i:Int)) o ≥ least)))=(ps.map fun o=>decide (m (aaw ps+(i:Int)) o ≥ least)).map .bool by rw [List.map_map];rfl]
    refine ad9 ?_
    row_cond go
    refine ⟨?_,rfl,fun _=>?_⟩
    ·simp only [okP,List.all_map]
     rfl
    ·row_cond go
     exact rfl
  ·have e:((rngD (aaw ps) ((n:Int) - aaw ps).toNat).filter (fun d=>match d with | .int x=>okP m least ps x | _=>false)).map (fun d=>d)=(adj n m least ps).map .int:=by
    unfold rngD adj
    rw [List.map_id',List.filter_map,List.filter_map,List.map_map]
    rfl
   rw [e]
   exact k
end
section
variable {P:Program} {w:World} {K:Frag} {mg:Str->Option Value} {base:Heap}
theorem sc_apart_lists:FnScope ["rows","least","many","lists","again"] ["rows","least","many"] (aai s_apart_lists):=by row_cond sc
theorem ahz (T:Txt K mg):Can P w K mg base "apart_lists" 2 ["rows","least","many"] (spP K (av0)):=by
 obtain ⟨f,fd,D⟩:=T.d_apart_lists
 refine D.can (D.fn.ok sc_apart_lists (fun vs H Q E h=>lenP h fun ss Q' q=>by obtain ⟨n,m,least,many,rfl,hn,h0,h1,k⟩:=q;rfl) (fun cdv A outer s H vs Q E hr h=>?_))
 have nd:=sc_apart_lists.nd
 refine ⟨_,(aad (aao (i:=3) nd rfl (Or.inl rfl) (abt (aaa (abt aab) aab)))
  (aad (abo PassesOwn.never rfl (aa7 rfl T.b_range (aaa (pv 2) aab)) (aak (i:=4) nd rfl (Or.inl rfl))
   (aaf (apo (i:=3) nd rfl (Or.inl rfl) rfl (N:=["places","place","rows","least"]) (src:=[none,none,some 0,some 1]) (by exact abf rfl rfl rfl rfl rfl rfl) (abj (pv 3)) (fun _ _ _ _=>(aak (i:=0) (show List.Nodup (["places","place","rows","least"]:List Str) by decide +kernel) rfl (Or.inl rfl) (hf:=Or.inr rfl))) (fun _ _ _ _=>abe) (fun _ _ _ _=>(show PI _ _ _ (ag7 K _) from abj (aah (ag3 T) hr (aaa (pv 2) (aaa (pv 3) (aaa (pv 0) aab)))))) (fun _ _ _ _=>(aak (i:=1) (show List.Nodup (["places","place","rows","least"]:List Str) by decide +kernel) rfl (Or.inl rfl) (hf:=Or.inr rfl))) (fun _ _ _ _=>abe) (fun _ _ _ _=>(aae apg (pv 0) (abt (aaa (pv 1) aab)))))))
  (aaf (aas (pv 3))))),?_⟩
 refine aa4 h fun ss Q' q B hK=>?_
 refine exS4 ss q fun n m least many q1_=>?_
 have hn:=q1_.1
 have h0:=q1_.2.1
 have h1:=q1_.2.2.1
 have k:=q1_.2.2.2
 clear q1_ q
 show EvS B _ _ [some (.st (.list (matD n m))),some (.st (.int least)),some (.st (.int many)),none,none]
 row_cond go
 refine abr (fun i e=>∃ v4 s3,e=[some (.st (.list (matD n m))),some (.st (.int least)),some (.st (.int many)),some s3,v4]/\(s3=.own (OL ((abi n m least i).map plD))\/s3=.st (.list ((abi n m least i).map plD)))) ⟨_,_,rfl,.inl rfl⟩ ?_ ?_
 ·rintro i e hi q0_
  refine exS2 e q0_ fun v4 s3 q1_=>?_
  have h3:=q1_
  clear q1_ q0_
  refine aat ?_
  dsimp only [List.set_cons_zero,List.set_cons_succ]
  refine alw 3 h3 rfl acf ?_
  dsimp only [List.set_cons_zero,List.set_cons_succ]
  have hlen:=ahy (m:=m) (least:=least) hn i
  have hlen2:=ahy (m:=m) (least:=least) hn (i+1)
  row_cond go
  have he:((abi n m least i).flatMap fun ps=>((adj n m least ps).filter fun _=>true).map fun p=>PyData.list (ps.map .int ++ [.int p]))=(abi n m least (i+1)).map plD:=by
   show _=((abi n m least i).flatMap (afe n m least)).map plD
   rw [List.map_flatMap]
   congr 1
   funext ps
   unfold afe
   rw [ad2,List.map_map]
   refine List.map_congr_left fun p _=>?_
   simp [plD]
  refine alx (xs:=abi n m least i) (adj n m least) .int (fun ps p => .list (ps.map .int ++ [.int p])) (fun _ _=>true) ?_ ?_ ?_ ?_ ?_
  ·exact ajh rfl
  ·rw [he,List.length_map];omega
  ·intro ps hps B' hB o
   have hA:=((ab7 i ps).mp hps).1
   row_cond go
   refine ⟨n,m,least,ps,rfl,by omega,hA.rise,hA.inn,adh ?_⟩
   row_cond go
   exact rfl
  ·intro ps hps p hp B' hB
   have hA:=((ab7 i ps).mp hps).1
   have hl:=al4 hA.rise hA.inn
   refine acs ⟨rfl,rfl,fun _=>?_⟩
   row_cond go
   exact rfl
  ·rw [he]
   row_cond go
   exact ⟨_,_,rfl,.inl rfl⟩
 ·rintro e q0_
  refine exS2 e q0_ fun v4 s3 q1_=>?_
  have h3:=q1_
  clear q1_ q0_
  refine alw 3 h3 rfl acf ?_
  dsimp only [List.set_cons_zero,List.set_cons_succ]
  row_cond go
  exact k
end
theorem aow {n:Nat} {m:Int->Int->Int} {x least:Int} (hx:ahw n m x) (h:x < least):∀ j:Nat,2<=j->abi n m least j=[]:=fun j hj=>by
 cases e:abi n m least j with
 | nil=>rfl
 | cons ps t =>
  exfalso
  obtain ⟨hA,hl⟩:=(ab7 j ps).mp (by rw [e];simp)
  match ps,hl with
  | a :: b :: r,_ =>
   have hf:=hA.far
   rw [List.pairwise_cons] at hf
   have h1:=hf.1 b (by simp)
   have ha:=hA.inn a (by simp)
   have hb:=hA.inn b (by simp)
   have:=hx.2 b a hb.1 hb.2 ha.1 ha.2
   omega
  | [],h=>simp at h;omega
  | [_],h=>simp at h;omega
noncomputable def oSD:Option (Int × List Int)->PyData
 | none => .none
 | some p => .tuple [.int p.1,plD p.2]
noncomputable def adr (n:Int) (es:List (Int × Int)) (k r:Int):List (List Int):=abi n.toNat (dsF es) (2 * r+1) (2 * k+2).toNat
noncomputable def StayOk (n:Int) (es:List (Int × Int)) (k:Int):Option (Int × List Int)->Prop
 | none=>∀ r,0<=r->adr n es k r=[]
 | some p=>0<=p.1/\(adr n es k p.1).head?=some p.2/\∀ r,p.1 < r->adr n es k r=[]
theorem StayOk.uniq {n:Int} {es:List (Int × Int)} {k:Int} {o q:Option (Int × List Int)} (h:StayOk n es k o) (g:StayOk n es k q):o=q:=by
 cases o with
 | none =>
  cases q with
  | none=>rfl
  | some p =>
   obtain ⟨r,ps⟩:=p
   have:=h r g.1
   have g2:=g.2.1
   rw [this] at g2
   simp at g2
 | some p =>
  obtain ⟨r,ps⟩:=p
  cases q with
  | none =>
   have:=g r h.1
   have h2:=h.2.1
   rw [this] at h2
   simp at h2
  | some p' =>
   obtain ⟨r',ps'⟩:=p'
   have h2:=h.2.1
   have g2:=g.2.1
   have:r=r':=by
    rcases Int.lt_trichotomy r r' with hlt | he | hlt
    ·have:=h.2.2 r' hlt
     rw [this] at g2
     simp at g2
    ·exact he
    ·have:=g.2.2 r hlt
     rw [this] at h2
     simp at h2
   subst this
   rw [h2] at g2
   cases g2
   rfl
def axy:VP:=fun ss Q=>∃ (n:Int) (es:List (Int × Int)) (k:Int),ss=[.st (webD n es),.st (.int k)]/\1<=n/\n<=12/\InN n es/\es.length<=10000/\Joined n es/\0<=k/\k<=5/\∀ o,StayOk n es k o->Q (.st (oSD o))
theorem ay9 (es:List (Int × Int)) (u:Int):dsF es u u=0:=by
 unfold dsF
 rw [Gr.farO_self]
 rfl
theorem aqz {n:Int} {es:List (Int × Int)} (hJ:Joined n es) (hin:InN n es) {u v:Int} (u0:0<=u) (u1:u < n) (v0:0<=v) (v1:v < n):dsF es u v < n:=by
 obtain ⟨d,e⟩:=ad5 hJ u0 u1 v0 v1
 have:=Gr.Dist.lt (n:=n.toNat) (fun a b t=>by have:=(t.in hin).2;omega) (by omega) (Gr.farO_some.mp e)
 simp only [dsF,e,Option.getD_some]
 omega
section
variable {P:Program} {w:World} {K:Frag} {mg:Str->Option Value} {base:Heap}
theorem sc_best_stay:FnScope ["web","k","rows","r","lists"] ["web","k"] (aai s_best_stay):=by row_cond sc
theorem aj3 (T:Txt K mg):Can P w K mg base "best_stay" 9 ["web","k"] (spP K (axy)):=by
 obtain ⟨f,fd,D⟩:=T.d_best_stay
 obtain ⟨tk_MOST_STAY_TIES,hMOST_STAY_TIES⟩:=T.v_MOST_STAY_TIES
 obtain ⟨tk_MOST_PLACES_FOR_STAY,hMOST_PLACES_FOR_STAY⟩:=T.v_MOST_PLACES_FOR_STAY
 refine D.can (D.fn.ok sc_best_stay (fun vs H Q E h=>lenP h fun ss Q' q=>by obtain ⟨n,es,k,rfl,n0,n1,hin,hle,hJ,k0,k1,kk⟩:=q;rfl) (fun cdv A outer s H vs Q E hr h=>?_))
 have nd:=sc_best_stay.nd
 refine ⟨_,(aad (aao (i:=2) nd rfl (Or.inl rfl) (aah (aek T) hr (aaa (pv 0) aab)))
  (aad (aba (aah (aes T) hr (aaa aac (aaa (ams (v:=.int 5) rfl hMOST_STAY_TIES ⟨_,rfl⟩) (aaa (pv 1) aab)))))
  (aad (aba (aah (aes T) hr (aaa aac (aaa (ams (v:=.int 12) rfl hMOST_PLACES_FOR_STAY ⟨_,rfl⟩) (aaa (aap aaq (pv 0) aac (fun _ _=>rfl)) aab)))))
  (aad (abo PassesOwn.never rfl (avs rfl T.b_reversed rfl T.b_range (aaa (aae abx (aae aar (aah (af4 T) hr (aaa (pv 2) aab)) aac) aac) aab)) (aak (i:=3) nd rfl (Or.inl rfl))
   (aad (aao (i:=4) nd rfl (Or.inl rfl) (aah (ahz T) hr (aaa (pv 2) (aaa (aah (af5 T) hr (aaa (pv 3) aab)) (aaa (aah (aet T) hr (aaa (pv 1) aab)) aab)))))
    (aaf (abc (ahj (pv 4))
     (aaf (aas (ab2 (aaa (pv 3) (aaa (aap aaq (pv 4) aac (fun _ _=>rfl)) aab)))))
     aa5))))
  (aaf (aas afo)))))),?_⟩
 refine aa4 h fun ss Q' q B hK=>?_
 refine exS3 ss q fun n es k q1_=>?_
 have n0:=q1_.1
 have n1:=q1_.2.1
 have hin:=q1_.2.2.1
 have hle:=q1_.2.2.2.1
 have hJ:=q1_.2.2.2.2.1
 have k0:=q1_.2.2.2.2.2.1
 have k1:=q1_.2.2.2.2.2.2.1
 have kk:=q1_.2.2.2.2.2.2.2
 clear q1_ q
 show EvS B _ _ [some (.st (webD n es)),some (.st (.int k)),none,none,none]
 have hn:1<=n.toNat:=by omega
 row_cond go
 refine ⟨n,es,rfl,n0,by omega,hin,hle,hJ,aea acf ?_⟩
 row_cond go
 refine ⟨0,5,k,rfl,k0,k1,?_⟩
 row_cond go
 refine ⟨1,12,n,rfl,n0,n1,?_⟩
 row_cond go
 refine ⟨n.toNat,dsF es,rfl,hn,by omega,fun x hx=>?_⟩
 have hx0:0<=x:=by
  have:=hx.2 0 0 (by omega) (by omega) (by omega) (by omega)
  rw [ay9] at this
  exact this
 have hxn:x < n:=by
  obtain ⟨u,v,u0,u1,v0,v1,e⟩:=hx.1
  rw [← e]
  exact aqz hJ hin u0 (by omega) v0 (by omega)
 row_cond go
 refine ⟨(x+1) / 2,rfl,by omega,by omega,?_⟩
 have hM:∀ r:Int,(((x+1) / 2).toNat:Int)<=r->adr n es k r=[]:=fun r hr=>aow hx (by omega) _ (by omega)
 refine aqq (fun i e=>∃ v3 v4,e=[some (.st (webD n es)),some (.st (.int k)),some (.st (.list (matD n.toNat (dsF es)))),v3,v4]/\∀ r,(((x+1) / 2).toNat:Int) - (i:Int)<=r->adr n es k r=[]) ⟨_,_,rfl,fun r hr=>hM r (by omega)⟩ ?_ ?_
 ·rintro i e hi q0_
  refine exS2 e q0_ fun v3 v4 q1_=>?_
  have hno:=q1_
  clear q1_ q0_
  row_cond go
  refine ⟨_,rfl,by omega,by omega,?_⟩
  row_cond go
  refine ⟨k,rfl,by omega,by omega,?_⟩
  row_cond go
  refine ⟨n.toNat,dsF es,_,2 * k+2,rfl,by omega,by omega,by omega,?_⟩
  row_cond go
  have hLe:abi n.toNat (dsF es) (2 * ((((x+1) / 2).toNat:Int) - 1 - (i:Int))+1) (2 * k+2).toNat=adr n es k ((((x+1) / 2).toNat:Int) - 1 - (i:Int)):=rfl
  rw [hLe]
  cases hL:adr n es k ((((x+1) / 2).toNat:Int) - 1 - (i:Int)) with
  | nil =>
   rw [if_neg (show ¬ ((!(List.map plD []).isEmpty)=true) from fun h=>Bool.noConfusion h)]
   refine ac0 ?_
   refine ⟨_,_,rfl,fun r hr=>?_⟩
   by_cases hrr:r=(((x+1) / 2).toNat:Int) - 1 - (i:Int)
   ·rw [hrr];exact hL
   ·exact hno r (by push_cast at hr;omega)
  | cons ps t =>
   rw [if_pos (show (!(List.map plD (ps :: t)).isEmpty)=true from rfl)]
   rw [List.map_cons]
   have hat:atI (plD ps :: List.map plD t) 0=some (plD ps):=ad3 (by omega) rfl
   row_cond go
   refine kk (some ((((x+1) / 2).toNat:Int) - 1 - (i:Int),ps)) ⟨by simp only;omega,by simp only;rw [hL];rfl,fun r hr=>hno r (by simp only at hr;omega)⟩
 ·rintro e q0_
  refine exS2 e q0_ fun v3 v4 q1_=>?_
  have hno:=q1_
  clear q1_ q0_
  row_cond go
  exact kk none fun r hr=>hno r (by omega)
end
def axz:VP:=fun ss Q=>∃ (r:Int) (ps:List Int),ss=[.st (.tuple [.int r,plD ps])]/\Q (.st (.bool true))
def ax0:VP:=fun ss Q=>∃ (ps:List Int),ss=[.st (plD ps)]/\ps.length<=100000/\∀ b:Bool,(b=true ↔ ps.Pairwise (· < ·))->Q (.st (.bool b))
def aox:VP:=fun ss Q=>∃ (n:Nat) (m:Int->Int->Int) (least:Int) (ps:List Int),ss=[.st (.list (matD n m)),.st (.int least),.st (plD ps)]/\n<=1000/\ps.length<=900/\(∀ x∈ps,0<=x/\x < n)/\∀ b:Bool,(b=true ↔ ∀ a∈ps,∀ c∈ps,a < c->m a c ≥ least)->Q (.st (.bool b))
structure ShowOk (n:Int) (es:List (Int × Int)) (k r:Int) (ps:List Int):Prop where
 k0:0<=k
 r0:0<=r
 len:2 * k+2<=ps.length
 inn:∀ x∈ps,0<=x/\x < n
 rise:ps.Pairwise (· < ·)
 far:∀ a∈ps,∀ c∈ps,a < c->dsF es a c ≥ 2 * r+1
def av1:VP:=fun ss Q=>∃ (n:Int) (es:List (Int × Int)) (k r:Int) (ps:List Int),ss=[.st (webD n es),.st (.int k),.st (.tuple [.int r,plD ps])]/\1<=n/\n<=100/\InN n es/\es.length<=10000/\Joined n es/\-1000000<=k/\k<=1000000/\-1000000<=r/\r<=1000000/\ps.length<=900/\∀ b:Bool,(b=true ↔ ShowOk n es k r ps)->Q (.st (.bool b))
theorem aq0 {α β:Type} (xs:List α) (ys:List β) (q : α->β->Bool) (f : α->β->PyData):(xs.flatMap fun x=>(ys.filter (q x)).map (f x)).length<=xs.length * ys.length:=by
 induction xs with
 | nil=>simp
 | cons x xs ih =>
  rw [List.flatMap_cons,List.length_append,List.length_map,List.length_cons,Nat.succ_mul]
  have:=List.length_filter_le (q x) ys
  omega
section
variable {P:Program} {w:World} {K:Frag} {mg:Str->Option Value} {base:Heap}
theorem sc_is_pair:FnScope ["thing"] ["thing"] (aai s_is_pair):=by row_cond sc
theorem amn (T:Txt K mg):Can P w K mg base "is_pair" 2 ["thing"] (spP K (axz)):=by
 obtain ⟨f,fd,D⟩:=T.d_is_pair
 refine D.can (D.fn.ok sc_is_pair (fun vs H Q E h=>lenP h fun ss Q' q=>by obtain ⟨r,ps,rfl,k⟩:=q;rfl) (fun cdv A outer s H vs Q E hr h=>?_))
 have nd:=sc_is_pair.nd
 refine ⟨_,(aad (abc (PW.pt (ae3 (acv (ab0 (aal adl (by rfl) T.b_isinstance abz (aaa (pv 0) (aaa (ad6 (v:=.ty "tuple") rfl T.b_tuple ak0 rfl) aab))))) (aeb (aa3 atl (aal aa9 (by rfl) T.b_len ab5 (aaa (pv 0) aab)) aac (aaz _)))))
   (aaf (aas aca))
   aa5)
  (aaf (aas (adb (aah (af2 T) hr (aaa (aap aaq (pv 0) aac (fun _ _=>rfl)) aab)) (aec (aal adl (by rfl) T.b_isinstance abz (aaa (aap aaq (pv 0) aac (fun _ _=>rfl)) (aaa (ad6 (v:=.ty "list") rfl T.b_list ah7 rfl) aab)))))))),?_⟩
 refine aa4 h fun ss Q' q B hK=>?_
 refine exS2 ss q fun r ps q1_=>?_
 have k:=q1_
 clear q1_ q
 show EvS B _ _ [some (.st (.tuple [.int r,plD ps]))]
 row_cond go
 refine age ?_
 row_cond go
 refine ac0 ?_
 row_cond go
 refine ⟨_,rfl,?_⟩
 row_cond go
 rw [if_pos (show isInt (PyData.int r)=true from rfl)]
 row_cond go
 exact k
theorem sc_is_rising:FnScope ["things"] ["things"] (aai s_is_rising):=by row_cond sc
theorem aj4 (T:Txt K mg):Can P w K mg base "is_rising" 1 ["things"] (spP K (ax0)):=by
 obtain ⟨f,fd,D⟩:=T.d_is_rising
 refine D.can (D.fn.ok sc_is_rising (fun vs H Q E h=>lenP h fun ss Q' q=>by obtain ⟨ps,rfl,hl,k⟩:=q;rfl) (fun cdv A outer s H vs Q E hr h=>?_))
 have nd:=sc_is_rising.nd
 refine ⟨_,(aaf (aas (aal (ada rfl) (by rfl) T.b_all aey (aaa (adf rfl (N:=["at","things"]) (src:=[none,some 0]) (by exact abf rfl rfl rfl rfl rfl rfl) (aa7 rfl T.b_range (aaa (aae acp (aal aa9 (by rfl) T.b_len ab5 (aaa (pv 0) aab)) aac) aab)) (fun _ _ _ _=>(aak (i:=0) (show List.Nodup (["at","things"]:List Str) by decide +kernel) rfl (Or.inl rfl) (hf:=Or.inr rfl))) (fun _ _ _ _=>abe) (fun _ _ _ _=>(acb acn (aap (show IxR _ (abw K) from aaq) (pv 1) (pv 0) (fun _ _=>rfl)) (aap (show IxR _ (abw K) from aaq) (pv 1) (aae aar (pv 0) aac) (fun _ _=>rfl)) (aaz _)))) aab)))),?_⟩
 refine aa4 h fun ss Q' q B hK=>?_
 refine exS1 ss q fun ps q1_=>?_
 have hl:=q1_.1
 have k:=q1_.2
 clear q1_ q
 show EvS B _ _ [some (.st (plD ps))]
 row_cond go
 rw [List.length_map]
 row_cond go
 refine aik (fun d=>match d with | .int i => .bool (match ps[i.toNat]?,ps[i.toNat+1]? with | some p,some q=>decide (p < q) | _,_=>false) | _ => .none) rfl (by rw [abv];omega) (fun d hd B' hB=>?_) ?_
 ·obtain ⟨i,hi⟩:=List.mem_iff_getElem?.mp hd
  obtain ⟨hi,rfl⟩:=adm hi
  have h1:i < ps.length:=by omega
  have h2:i+1 < ps.length:=by omega
  have a1:atI (ps.map PyData.int) (0+(i:Int))=some (.int ps[i]):=adx (f:=PyData.int) (ad3 (by omega) (by rw [show (0+(i:Int)).toNat=i by omega];exact List.getElem?_eq_getElem h1))
  have a2:atI (ps.map PyData.int) (0+(i:Int)+1)=some (.int ps[i+1]):=adx (f:=PyData.int) (ad3 (by omega) (by rw [show (0+(i:Int)+1).toNat=i+1 by omega];exact List.getElem?_eq_getElem h2))
  row_cond go
  refine ⟨?_,rfl⟩
  simp [h1,h2]
 ·row_cond go
  have e:(rngD 0 ((ps.length:Int) - 1).toNat).map (fun d=>match d with | .int i=>PyData.bool (match ps[i.toNat]?,ps[i.toNat+1]? with | some p,some q=>decide (p < q) | _,_=>false) | _ => .none)=((List.range (ps.length - 1)).map fun i=>match ps[i]?,ps[i+1]? with | some p,some q=>decide (p < q) | _,_=>false).map .bool:=by
   unfold rngD
   rw [List.map_map,List.map_map,show ((ps.length:Int) - 1).toNat=ps.length - 1 by omega]
   apply List.map_congr_left
   intro i _
   simp
  rw [e]
  refine ad9 ?_
  row_cond go
  refine k _ ?_
  rw [List.all_map,List.all_eq_true]
  rw [af1 (· < ·) (fun {a b c} h g=>Int.lt_trans h g)]
  constructor
  ·intro h i hi
   have:=h i (List.mem_range.mpr (by omega))
   simp [show i < ps.length by omega,hi] at this
   exact this
  ·intro h i hi
   have hi':i+1 < ps.length:=by have:=List.mem_range.mp hi;omega
   have:=h i hi'
   simp [show i < ps.length by omega,hi',this]
theorem sc_are_apart:FnScope ["rows","least","places"] ["rows","least","places"] (aai s_are_apart):=by row_cond sc
theorem aj5 (T:Txt K mg):Can P w K mg base "are_apart" 1 ["rows","least","places"] (spP K (aox)):=by
 obtain ⟨f,fd,D⟩:=T.d_are_apart
 refine D.can (D.fn.ok sc_are_apart (fun vs H Q E h=>lenP h fun ss Q' q=>by obtain ⟨n,m,least,ps,rfl,hn,hl,hin,k⟩:=q;rfl) (fun cdv A outer s H vs Q E hr h=>?_))
 have nd:=sc_are_apart.nd
 refine ⟨_,(aaf (aas (aal (ada rfl) (by rfl) T.b_all aey (aaa (awn rfl (N:=["a","b","least","rows","places"]) (src:=[none,none,some 1,some 0,some 2]) (by exact abf rfl rfl rfl rfl rfl rfl) (abj (pv 2)) (fun _ _ _ _=>(aak (i:=0) (show List.Nodup (["a","b","least","rows","places"]:List Str) by decide +kernel) rfl (Or.inl rfl) (hf:=Or.inr rfl))) (fun _ _ _ _=>abe) (fun _ _ _ _=>(show PI _ _ _ (ag7 K _) from abj (pv 4))) (fun _ _ _ _=>(aak (i:=1) (show List.Nodup (["a","b","least","rows","places"]:List Str) by decide +kernel) rfl (Or.inl rfl) (hf:=Or.inr rfl))) (fun _ _ _ _=>ah2 (aa3 acn (pv 0) (pv 1) (aaz _))) (fun _ _ _ _=>(acb aj9 (aap (show IxR _ (abw K) from aaq) (aap (show IxR _ (abw K) from aaq) (pv 3) (pv 0) (fun _ _=>rfl)) (pv 1) (fun _ _=>rfl)) (pv 2) (aaz _)))) aab)))),?_⟩
 refine aa4 h fun ss Q' q B hK=>?_
 refine exS4 ss q fun n m least ps q1_=>?_
 have hn:=q1_.1
 have hl:=q1_.2.1
 have hin:=q1_.2.2.1
 have k:=q1_.2.2.2
 clear q1_ q
 show EvS B _ _ [some (.st (.list (matD n m))),some (.st (.int least)),some (.st (plD ps))]
 row_cond go
 refine alx (xs:=ps) (fun _=>ps) .int (fun a c => .bool (decide (m a c ≥ least))) (fun a c=>decide (a < c)) ?_ ?_ ?_ ?_ ?_
 ·exact ajh rfl
 ·refine Nat.le_trans (aq0 ps ps _ _) (Nat.le_trans (Nat.mul_le_mul hl hl) (by decide))
 ·intro a ha B' hB o
  row_cond go
  exact rfl
 ·intro a ha c hc B' hB
  have h1:=al0 (n:=n) (m:=m) (x:=a) (hin a ha).1 (hin a ha).2
  have h2:=aqu (n:=n) (r:=m a) (x:=c) (hin c hc).1 (hin c hc).2
  row_cond go
  intro _
  row_cond go
  exact rfl
 ·row_cond go
  rw [show (ps.flatMap fun x=>(ps.filter fun c=>decide (x < c)).map fun c=>PyData.bool (decide (m x c ≥ least)))=(ps.flatMap fun x=>(ps.filter fun c=>decide (x < c)).map fun c=>decide (m x c ≥ least)).map .bool by rw [List.map_flatMap];congr 1;funext x;rw [List.map_map];rfl]
  refine ad9 ?_
  row_cond go
  refine k _ ?_
  rw [List.all_eq_true]
  constructor
  ·intro h a ha c hc hac
   have:=h (decide (m a c ≥ least)) (List.mem_flatMap.mpr ⟨a,ha,List.mem_map.mpr ⟨c,List.mem_filter.mpr ⟨hc,by simpa using hac⟩,rfl⟩⟩)
   simpa using this
  ·intro h b hb
   obtain ⟨a,ha,hb⟩:=List.mem_flatMap.mp hb
   obtain ⟨c,hc,rfl⟩:=List.mem_map.mp hb
   obtain ⟨hc1,hc2⟩:=List.mem_filter.mp hc
   simpa using h a ha c hc1 (by simpa using hc2)
theorem sc_stay_shows:FnScope ["web","k","paper","rows","r","places"] ["web","k","paper"] (aai s_stay_shows):=by row_cond sc
theorem ach (T:Txt K mg):Can P w K mg base "stay_shows" 9 ["web","k","paper"] (spP K (av1)):=by
 obtain ⟨f,fd,D⟩:=T.d_stay_shows
 refine D.can (D.fn.ok sc_stay_shows (fun vs H Q E h=>lenP h fun ss Q' q=>by obtain ⟨n,es,k,r,ps,rfl,n0,n1,hin,hle,hJ,ka,kb,ra,rb,hl,kk⟩:=q;rfl) (fun cdv A outer s H vs Q E hr h=>?_))
 have nd:=sc_stay_shows.nd
 refine ⟨_,(aad (aao (i:=3) nd rfl (Or.inr rfl) (aah (aek T) hr (aaa (pv 0) aab)))
  (aad (abc (PW.pt (ae3 (aa3 acn (pv 1) aac (aaz _)) (aeb (acv (ab0 (aah (amn T) hr (aaa (pv 2) aab)))))))
   (aaf (aas aca))
   aa5)
  (aad (aew (pv 2) (aee rfl (aa8 (aak (i:=4) nd rfl (Or.inl rfl)) (aa8 (aak (i:=5) nd rfl (Or.inl rfl)) ac1))))
  (aad (abc (PW.pt (ae3 (aa3 acn (pv 4) aac (aaz _)) (aeb (aa3 acn (aal aa9 (by rfl) T.b_len ab5 (aaa (pv 5) aab)) (aah (aet T) hr (aaa (pv 1) aab)) (aaz _)))))
   (aaf (aas aca))
   aa5)
  (aad (abc (acv (ab0 (aal (ada rfl) (by rfl) T.b_all aey (aaa (adf rfl (N:=["place","rows"]) (src:=[none,some 3]) (by exact abf rfl rfl rfl rfl rfl rfl) (abj (pv 5)) (fun _ _ _ _=>(aak (i:=0) (show List.Nodup (["place","rows"]:List Str) by decide +kernel) rfl (Or.inl rfl) (hf:=Or.inr rfl))) (fun _ _ _ _=>abe) (fun _ _ _ _=>(aah (adi T) hr (aaa (aal (show abg _ (.builtin "len") (rLen K) from aa9) (by rfl) T.b_len ab5 (aaa (pv 1) aab)) (aaa (pv 0) aab))))) aab))))
   (aaf (aas aca))
   aa5)
  (aaf (aas (adb (aah (aj4 T) hr (aaa (pv 5) aab)) (aec (aah (aj5 T) hr (aaa (pv 3) (aaa (aah (af5 T) hr (aaa (pv 4) aab)) (aaa (pv 5) aab))))))))))))),?_⟩
 refine aa4 h fun ss Q' q B hK=>?_
 refine exS5 ss q fun n es k r ps q1_=>?_
 have n0:=q1_.1
 have n1:=q1_.2.1
 have hin:=q1_.2.2.1
 have hle:=q1_.2.2.2.1
 have hJ:=q1_.2.2.2.2.1
 have ka:=q1_.2.2.2.2.2.1
 have kb:=q1_.2.2.2.2.2.2.1
 have ra:=q1_.2.2.2.2.2.2.2.1
 have rb:=q1_.2.2.2.2.2.2.2.2.1
 have hl:=q1_.2.2.2.2.2.2.2.2.2.1
 have kk:=q1_.2.2.2.2.2.2.2.2.2.2
 clear q1_ q
 show EvS B _ _ [some (.st (webD n es)),some (.st (.int k)),some (.st (.tuple [.int r,plD ps])),none,none,none]
 row_cond go
 refine ⟨n,es,rfl,n0,n1,hin,hle,hJ,aea acf ?_⟩
 row_cond go
 have no:¬ ShowOk n es k r ps->Q' (.st (.bool false)):=fun h=>kk false ⟨fun e=>(by cases e),fun e=>absurd e h⟩
 refine ab4 (fun h1=>?_) (fun h1=>?_)
 ·row_cond go
  exact no fun h=>by have:=h.k0;omega
 ·row_cond go
  refine ⟨r,ps,rfl,?_⟩
  row_cond go
  refine ab4 (fun h2=>?_) (fun h2=>?_)
  ·row_cond go
   exact no fun h=>by have:=h.r0;omega
  ·row_cond go
   refine ⟨k,rfl,by omega,by omega,?_⟩
   row_cond go
   rw [List.length_map]
   refine ab4 (fun h3=>?_) (fun h3=>?_)
   ·row_cond go
    exact no fun h=>by have:=h.len;omega
   ·refine ac0 ?_
    row_cond go
    refine aej (fun o:Int => .bool (btwD 0 (n - 1) (.int o))) rfl (by omega) (fun o ho B' hB=>?_) ?_
    ·row_cond go
     refine ⟨n,.int o,?_,?_⟩
     ·rw [an0]
      simp
      omega
     ·row_cond go
      exact rfl
    ·row_cond go
     rw [show (ps.map fun o=>PyData.bool (btwD 0 (n - 1) (.int o)))=(ps.map fun o=>btwD 0 (n - 1) (.int o)).map .bool by rw [List.map_map];rfl]
     refine ad9 ?_
     row_cond go
     have hall:(ps.map fun o=>btwD 0 (n - 1) (.int o)).all id=true ↔ ∀ x∈ps,0<=x/\x < n:=by
      rw [List.all_map,List.all_eq_true]
      constructor
      ·intro h x hx;have:=h x hx;simp [btwD] at this;omega
      ·intro h x hx;have:=h x hx;simp [btwD];omega
     cases hb:(ps.map fun o=>btwD 0 (n - 1) (.int o)).all id with
     | false =>
      row_cond go
      exact no fun h=>by have:=hall.mpr h.inn;rw [hb] at this;cases this
     | true =>
      have hinn:=hall.mp hb
      row_cond go
      refine ⟨ps,rfl,by omega,fun b hb=>?_⟩
      row_cond go
      cases b with
      | false =>
       row_cond go
       exact no fun h=>by have:=hb.mpr h.rise;cases this
      | true =>
       have hrise:=hb.mp rfl
       row_cond go
       refine ⟨r,rfl,by omega,by omega,?_⟩
       row_cond go
       refine ⟨n.toNat,dsF es,2 * r+1,ps,rfl,by omega,hl,fun x hx=>by have:=hinn x hx;omega,fun b2 hb2=>?_⟩
       row_cond go
       exact kk b2 ⟨fun e=>⟨by omega,by omega,by omega,hinn,hrise,hb2.mp e⟩,fun h=>hb2.mpr h.far⟩
end
theorem acm {n:Int} {es:List (Int × Int)} (hJ:Joined n es) {u v:Int} (u0:0<=u) (u1:u < n) (v0:0<=v) (v1:v < n):0<=dsF es u v/\Gr.Dist (Tied es) u v (dsF es u v).toNat:=by
 obtain ⟨d,e⟩:=ad5 hJ u0 u1 v0 v1
 simp only [dsF,e,Option.getD_some]
 exact ⟨by omega,by rw [show ((d:Nat):Int).toNat=d by omega];exact Gr.farO_some.mp e⟩
theorem ax1 {es:List (Int × Int)} {u v:Int} {d:Nat} (h:Gr.Dist (Tied es) u v d):dsF es u v=d:=by
 simp only [dsF,Gr.farO_some.mpr h,Option.getD_some]
theorem as7 {es gs:List (Int × Int)} (h:∀ u v,Tied es u v ↔ Tied gs u v):dsF es=dsF gs:=by
 have:Tied es=Tied gs:=funext fun u=>funext fun v=>propext (h u v)
 unfold dsF
 rw [this]
theorem amo {n:Int} {es gs:List (Int × Int)} (hJ:Joined n es) (h0:0 < n):Joined n (es ++ gs):=Conn.joined (hJ.conn.mono fun u v t=>t.imp (fun z=>List.mem_append.mpr (.inl z)) (fun z=>List.mem_append.mpr (.inl z))) h0
theorem ag4 {n:Int} {es:List (Int × Int)} (hJ:Joined n es) (hin:InN n es) {u v w:Int} (u0:0<=u) (u1:u < n) (t:Tied es v w):dsF es u w<=dsF es u v+1:=by
 have hv:=t.in hin
 have h1:=acm hJ u0 u1 hv.1.1 hv.1.2
 have h2:=acm hJ u0 u1 hv.2.1 hv.2.2
 have:=h2.2.2 _ (.step h1.2.1 t)
 omega
theorem ag5 (es:List (Int × Int)) (u:Int):dsF es u u=0:=by rw [ax1 (Gr.Dist.self _ u)];rfl
theorem aff (es:List (Int × Int)) (u v:Int):dsF es u v=dsF es v u:=by unfold dsF;rw [Gr.farO_comm fun _ _ t=>t.symm]
theorem as8 {n:Int} {es:List (Int × Int)} (hJ:Joined n es) {u c x:Int} (u0:0<=u) (u1:u < n) (c0:0<=c) (c1:c < n) (x0:0<=x) (x1:x < n):dsF es u x<=dsF es u c+dsF es c x:=by
 have h1:=acm hJ u0 u1 x0 x1
 have h2:=acm hJ u0 u1 c0 c1
 have h3:=acm hJ c0 c1 x0 x1
 have:=h1.2.2 _ (h2.2.1.app h3.2.1)
 omega
theorem aq1 {n r a:Int} {es gs:List (Int × Int)} (hJ:Joined n es) (hin:InN n es) (hgs:InN n gs) (r0:0<=r) (a0:0<=a) (a1:a < n)
  (hfar:∀ p∈gs,r+1<=dsF es a p.1/\r+1<=dsF es a p.2):∀ {l:Nat} {y:Int},Gr.Walk (Tied (es ++ gs)) a l y->0<=y/\y < n/\(dsF es a y<=l\/∃ p∈gs,(r+2+dsF es p.1 y<=l\/r+2+dsF es p.2 y<=l)):=by
 intro l y w
 induction w with
 | refl=>exact ⟨a0,a1,.inl (by rw [ag5];simp)⟩
 | @step l v y w t ih =>
  obtain ⟨v0,v1,ih⟩:=ih
  have ht:Tied es v y\/∃ p∈gs,(v=p.1/\y=p.2)\/(v=p.2/\y=p.1):=by
   rcases t with t | t <;> rcases List.mem_append.mp t with t | t
   ·exact .inl (.inl t)
   ·exact .inr ⟨_,t,.inl ⟨rfl,rfl⟩⟩
   ·exact .inl (.inr t)
   ·exact .inr ⟨_,t,.inr ⟨rfl,rfl⟩⟩
  rcases ht with t | ⟨p,hp,hv⟩
  ·have hb:=t.in hin
   refine ⟨hb.2.1,hb.2.2,?_⟩
   rcases ih with ih | ⟨p,hp,ih⟩
   ·have:=ag4 hJ hin a0 a1 t
    exact .inl (by push_cast;omega)
   ·have hq:=hgs p hp
    have s1:=ag4 hJ hin hq.1 hq.2.1 t
    have s2:=ag4 hJ hin hq.2.2.1 hq.2.2.2 t
    exact .inr ⟨p,hp,by push_cast;omega⟩
  ·have hq:=hgs p hp
   have hf:=hfar p hp
   have hl:r+1<=(l:Int):=by
    rcases ih with ih | ⟨p',hp',ih⟩
    ·rcases hv with ⟨e1,e2⟩ | ⟨e1,e2⟩ <;> rw [e1] at ih <;> omega
    ·have hq':=hgs p' hp'
     have d1:=(acm hJ hq'.1 hq'.2.1 v0 v1).1
     have d2:=(acm hJ hq'.2.2.1 hq'.2.2.2 v0 v1).1
     omega
   rcases hv with ⟨e1,e2⟩ | ⟨e1,e2⟩
   ·exact ⟨by rw [e2];exact hq.2.2.1,by rw [e2];exact hq.2.2.2,.inr ⟨p,hp,.inr (by rw [e2,ag5];push_cast;omega)⟩⟩
   ·exact ⟨by rw [e2];exact hq.1,by rw [e2];exact hq.2.1,.inr ⟨p,hp,.inl (by rw [e2,ag5];push_cast;omega)⟩⟩
theorem aq2 {n r:Int} {es gs:List (Int × Int)} {ps:List Int} (hJ:Joined n es) (hin:InN n es) (hgs:InN n gs) (r0:0<=r) (hr:ps.Nodup) (hps:∀ x∈ps,0<=x/\x < n)
  (hfar:∀ a∈ps,∀ c∈ps,a ≠ c->2 * r+1<=dsF es a c) (hlen:2 * gs.length+2<=ps.length):∃ a∈ps,∃ c∈ps,2 * r+1<=dsF (es ++ gs) a c:=by
 open Classical in
 let ends:List Int:=gs.map (·.1) ++ gs.map (·.2)
 have hends:∀ e∈ends,0<=e/\e < n:=fun e he=>by
  rcases List.mem_append.mp he with he | he <;> obtain ⟨p,hp,rfl⟩:=List.mem_map.mp he <;> have:=hgs p hp <;> omega
 let bad:Int->Prop:=fun x=>∃ e,e∈ends/\dsF es x e<=r
 have hT:(ps.filter fun x=>decide (bad x)).length<=2 * gs.length:=by
  have hch:∀ x:Int,∃ e:Int,bad x->e∈ends/\dsF es x e<=r:=fun x=>by
   by_cases h:bad x
   ·obtain ⟨e,he⟩:=h;exact ⟨e,fun _=>he⟩
   ·exact ⟨0,fun z=>absurd z h⟩
  let f:Int->Int:=fun x=>Classical.choose (hch x)
  have hf:∀ x,bad x->f x∈ends/\dsF es x (f x)<=r:=fun x=>Classical.choose_spec (hch x)
  have hnd:((ps.filter fun x=>decide (bad x)).map f).Nodup:=by
   rw [List.Nodup,List.pairwise_map]
   refine List.Pairwise.imp_of_mem (fun {a b} ha hb hab e=>?_) (hr.sublist (List.filter_sublist ..))
   obtain ⟨ha1,ha2⟩:=List.mem_filter.mp ha
   obtain ⟨hb1,hb2⟩:=List.mem_filter.mp hb
   have fa:=hf a (by simpa using ha2)
   have fb:=hf b (by simpa using hb2)
   have ba:=hps a ha1
   have bb:=hps b hb1
   have be:=hends _ fa.1
   have h1:=hfar a ha1 b hb1 hab
   have h2:=as8 hJ ba.1 ba.2 be.1 be.2 bb.1 bb.2
   rw [← e,aff] at fb
   omega
  have:=akj hnd (bs:=ends) fun e he=>by
   obtain ⟨x,hx,rfl⟩:=List.mem_map.mp he
   exact (hf x (by simpa using (List.mem_filter.mp hx).2)).1
  rw [List.length_map] at this
  have hel:ends.length=2 * gs.length:=by simp [ends];omega
  omega
 have hU:2<=(ps.filter fun x => !decide (bad x)).length:=by
  have:(ps.filter fun x=>decide (bad x)).length+(ps.filter fun x => !decide (bad x)).length=ps.length:=by
   clear hT hlen hfar hps hr
   induction ps with
   | nil=>rfl
   | cons x ps ih =>
    rw [List.filter_cons,List.filter_cons]
    cases decide (bad x) <;> simp <;> omega
  omega
 match hm:ps.filter fun x => !decide (bad x),hU with
 | a :: c :: t,_ =>
  have ha:a∈ps.filter fun x => !decide (bad x):=by rw [hm];simp
  have hc:c∈ps.filter fun x => !decide (bad x):=by rw [hm];simp
  obtain ⟨ha1,ha2⟩:=List.mem_filter.mp ha
  obtain ⟨hc1,hc2⟩:=List.mem_filter.mp hc
  have hnda:=hr.sublist (List.filter_sublist (p:=fun x => !decide (bad x)))
  rw [hm] at hnda
  have hac:a ≠ c:=fun e=>(List.nodup_cons.mp hnda).1 (by rw [e];simp)
  have na:∀ e∈ends,r+1<=dsF es a e:=fun e he=>by
   have:¬ bad a:=by simpa using ha2
   apply Classical.byContradiction
   intro h
   exact this ⟨e,he,by omega⟩
  have nc:∀ e∈ends,r+1<=dsF es c e:=fun e he=>by
   have:¬ bad c:=by simpa using hc2
   apply Classical.byContradiction
   intro h
   exact this ⟨e,he,by omega⟩
  have e1:∀ p∈gs,p.1∈ends/\p.2∈ends:=fun p hp=>⟨List.mem_append.mpr (.inl (List.mem_map.mpr ⟨p,hp,rfl⟩)),List.mem_append.mpr (.inr (List.mem_map.mpr ⟨p,hp,rfl⟩))⟩
  have ba:=hps a ha1
  have bc:=hps c hc1
  refine ⟨a,ha1,c,hc1,?_⟩
  have hd:=acm (amo (gs:=gs) hJ (by omega)) ba.1 ba.2 bc.1 bc.2
  have hw:=aq1 hJ hin hgs r0 ba.1 ba.2 (fun p hp=>⟨na _ (e1 p hp).1,na _ (e1 p hp).2⟩) hd.2.1
  rcases hw.2.2 with h | ⟨p,hp,h⟩
  ·have:=hfar a ha1 c hc1 hac
   omega
  ·have h1:=nc _ (e1 p hp).1
   have h2:=nc _ (e1 p hp).2
   rw [aff] at h1 h2
   omega
def Far (n:Int) (es:List (Int × Int)) (least:Int) (ps:List Int):Prop:=ps.Nodup/\(∀ x∈ps,0<=x/\x < n)/\∀ a∈ps,∀ c∈ps,a ≠ c->least<=dsF es a c
theorem aq3 {n:Int} {es:List (Int × Int)} {least:Int} {ps:List Int} (h:Apart n.toNat (dsF es) least ps):Far n es least ps:=by
 refine ⟨h.rise.imp fun {a b} hab e=>by omega,fun x hx=>by have:=h.inn x hx;omega,fun a ha c hc hac=>?_⟩
 obtain ⟨i,hi,ea⟩:=List.mem_iff_getElem.mp ha
 obtain ⟨j,hj,ec⟩:=List.mem_iff_getElem.mp hc
 have hf:=List.pairwise_iff_getElem.mp h.far
 rcases Nat.lt_trichotomy i j with hij | hij | hij
 ·have:=hf i j hi hj hij
  rw [ea,ec,aff] at this
  omega
 ·subst hij
  exact absurd (ea.symm.trans ec) hac
 ·have:=hf j i hj hi hij
  rw [ea,ec] at this
  omega
theorem ax2 {n:Int} {es:List (Int × Int)} {least:Int} {ps:List Int} (h:Far n es least ps):∃ qs,qs.Perm ps/\Apart n.toNat (dsF es) least qs:=by
 have hp:=List.mergeSort_perm ps (fun a b=>decide (a<=b))
 have hs:=List.pairwise_mergeSort (le:=fun a b:Int=>decide (a<=b)) (fun a b c h1 h2=>by simp at *;omega) (fun a b=>by simp;omega) ps
 refine ⟨_,hp,⟨?_,fun x hx=>by have:=h.2.1 x (hp.mem_iff.mp hx);omega,?_⟩⟩
 ·have hn:(ps.mergeSort fun a b=>decide (a<=b)).Nodup:=hp.nodup_iff.mpr h.1
  exact (hs.and hn).imp fun {a b} hab=>by
   have:=hab.1
   have h2:=hab.2
   simp at this
   omega
 ·have hn:(ps.mergeSort fun a b=>decide (a<=b)).Nodup:=hp.nodup_iff.mpr h.1
  refine List.Pairwise.imp_of_mem (fun {a b} ha hb hab=>?_) hn
  have:=h.2.2 b (hp.mem_iff.mp hb) a (hp.mem_iff.mp ha) (fun e=>hab e.symm)
  omega
theorem aji {n:Int} {es:List (Int × Int)} {k r:Int} (k0:0<=k):adr n es k r ≠ [] ↔ ∃ ps:List Int,Far n es (2 * r+1) ps/\(ps.length:Int)=2 * k+2:=by
 constructor
 ·intro h
  obtain ⟨ps,hps⟩:=List.exists_mem_of_ne_nil _ h
  obtain ⟨hA,hl⟩:=(ab7 _ ps).mp hps
  exact ⟨ps,aq3 hA,by omega⟩
 ·rintro ⟨ps,hF,hl⟩ e
  obtain ⟨qs,hq,hA⟩:=ax2 hF
  have:qs∈adr n es k r:=(ab7 _ qs).mpr ⟨hA,by rw [hq.length_eq];omega⟩
  rw [e] at this
  simp at this
def DrawsOk (ds:List Int):Prop:=∀ x∈ds,0<=x/\x < 10007
theorem DrawsOk.snoc {ds:List Int} {x:Int} (h:DrawsOk ds) (h0:0<=x) (h1:x < 10007):DrawsOk (ds ++ [x]):=fun y hy=>by
 rcases List.mem_append.mp hy with hy | hy
 ·exact h y hy
 ·have:y=x:=by simpa using hy
  subst this;exact ⟨h0,h1⟩
theorem as9 {xs:List PyData} {lo hi:Option Int} {d:PyData} (h:d∈cutD xs lo hi):d∈xs:=List.mem_of_mem_drop (List.mem_of_mem_take h)
theorem ata {xs:List PyData} {lo hi:Option Int}:(cutD xs lo hi).length<=xs.length:=by unfold cutD;simp;omega
theorem afg (ds:List Int) (x:Int):ds.map PyData.int ++ [.int x]=(ds ++ [x]).map .int:=by simp
def av2:VP:=fun ss Q=>∃ (ns:List Int) (many:Int),ss=[.scr ns,.st (.int many)]/\ns.length<=63/\0<=many/\many<=1000/\∀ ds:List Int,many<=ds.length->ds.length<=3000->DrawsOk ds->Q (.own (OL (ds.map .int)))
section
variable {P:Program} {w:World} {K:Frag} {mg:Str->Option Value} {base:Heap}
theorem sc_law_draws:FnScope ["script","many","drawn","base","k","cell","number","one"] ["script","many"] (aai s_law_draws):=by row_cond sc
theorem aj6 (T:Txt K mg):Can P w K mg base "_law_draws" 1 ["script","many"] (spP K (av2)):=by
 obtain ⟨f,fd,D⟩:=T.d_law_draws
 refine D.can (D.fn.ok sc_law_draws (fun vs H Q E h=>lenP h fun ss Q' q=>by obtain ⟨ns,many,rfl,hns,m0,m1,k⟩:=q;rfl) (fun cdv A outer s H vs Q E hr h=>?_))
 have nd:=sc_law_draws.nd
 refine ⟨_,(aad (aao (i:=2) nd rfl (Or.inl rfl) (abt aab))
  (aad (aao (i:=3) nd rfl (Or.inl rfl) aac)
  (aad (abo PassesOwn.never rfl (avh rfl T.b_enumerate (aaa (akq am0 (pv 0) amw (amx aac)) aab)) (aee rfl (aa8 (aak (i:=4) nd rfl (Or.inl rfl)) (aa8 (aak (i:=5) nd rfl (Or.inl rfl)) ac1)))
   (aad (aao (i:=6) nd rfl (Or.inl rfl) (aal ap7 (by rfl) T.b_abs axq (aaa (pv 5) aab)))
    (aad (aao (i:=3) nd rfl (Or.inl rfl) (aae aax (aae aar (aae abp (pv 3) aac) (pv 6)) aac))
    (aaf (abc (aa3 aj9 (pv 6) (aug (n:=1000000000000000000) (by decide) (by refine ⟨by decide,by decide,by decide⟩)) (aaz _))
     (aaf (akl PassesOwn.never (PW.pt (afp (aa3 af9 (pv 6) aac (aaz _)) (aev (aa3 acn (aal aa9 (by rfl) T.b_len ab5 (aaa (pv 2) aab)) (pv 1) (aaz _)))))
       (aad (aba (acj PySem.F.plainAttrs_list PySem.F.slot_list_append PySem.F.type_list_append abb (pv 2) (aaa (aae aax (pv 6) aac) aab)))
        (aaf (aao (i:=6) nd rfl (Or.inl rfl) (aae abx (pv 6) aac))))))
     (aad (aao (i:=7) nd rfl (Or.inl rfl) (aae aax (aae abp (aae aar (aae aar (aae aax (pv 6) aac) (pv 4)) aac) aac) aac))
      (aad (aao (i:=7) nd rfl (Or.inl rfl) (aae aax (aae abp (pv 7) (pv 7)) aac))
      (aad (aba (acj PySem.F.plainAttrs_list PySem.F.slot_list_append PySem.F.type_list_append abb (pv 2) (aaa (aae aax (aae abx (pv 7) aac) aac) aab)))
      (aad (aao (i:=7) nd rfl (Or.inl rfl) (aae aax (aae aar (aae aar (aae abp (pv 7) aac) (aae abp aac (pv 4))) aac) aac))
      (aad (aao (i:=7) nd rfl (Or.inl rfl) (aae aax (aae abp (pv 7) (pv 7)) aac))
      (aaf (aba (acj PySem.F.plainAttrs_list PySem.F.slot_list_append PySem.F.type_list_append abb (pv 2) (aaa (aae aax (aae abx (pv 7) aac) aac) aab))))))))))))))
  (aad (abo PassesOwn.never rfl (aa7 rfl T.b_range (aaa (aae acp (pv 1) (aal aa9 (by rfl) T.b_len ab5 (aaa (pv 2) aab))) aab)) (aak (i:=4) nd rfl (Or.inl rfl))
   (aad (aao (i:=7) nd rfl (Or.inl rfl) (aae aax (aae aar (aae aar (pv 3) (aae abp aac (pv 4))) aac) aac))
    (aad (aao (i:=7) nd rfl (Or.inl rfl) (aae aax (aae abp (pv 7) (pv 7)) aac))
    (aad (aao (i:=7) nd rfl (Or.inl rfl) (aae aax (aae aar (aae abp (pv 7) aac) (pv 4)) aac))
    (aaf (aba (acj PySem.F.plainAttrs_list PySem.F.slot_list_append PySem.F.type_list_append abb (pv 2) (aaa (aae aax (aae abx (aae aax (aae abp (pv 7) (pv 7)) aac) aac) aac) aab))))))))
  (aaf (aas (pv 2))))))),?_⟩
 refine aa4 h fun ss Q' q B hK=>?_
 refine exS2 ss q fun ns many q1_=>?_
 have hns:=q1_.1
 have m0:=q1_.2.1
 have m1:=q1_.2.2.1
 have k:=q1_.2.2.2
 clear q1_ q
 show EvS B _ _ [some (.scr ns),some (.st (.int many)),none,none,none,none,none,none]
 row_cond go
 have hcl:(cutD (ns.map PyData.int) none (some 63)).length<=63:=Nat.le_trans ata (by simpa using hns)
 refine ⟨fun i e=>∃ v4 v5 v6 v7 ds bs,e=[some (.scr ns),some (.st (.int many)),some (.own (OL (ds.map .int))),some (.st (.int bs)),v4,v5,v6,v7]/\0<=bs/\bs < 2147483629/\DrawsOk ds/\(ds.length:Int)<=2 * i+many,
  ⟨none,none,none,none,[],7,rfl,by omega,by omega,fun x hx=>by simp at hx,by simp;omega⟩,?_,?_⟩
 ·rintro i d e hd q0_
  refine exS6 e q0_ fun v4 v5 v6 v7 ds bs q1_=>?_
  have b0:=q1_.1
  have b1:=q1_.2.1
  have hD:=q1_.2.2.1
  have hlen:=q1_.2.2.2
  clear q1_ q0_
  obtain ⟨x,hx,rfl⟩:=ans hd
  have hi:i < 63:=Nat.lt_of_lt_of_le (List.getElem?_eq_some_iff.mp hx).1 hcl
  obtain ⟨c,_,rfl⟩:=List.mem_map.mp (as9 (List.mem_of_getElem? hx))
  row_cond go
  have hab:0<=(if c < 0 then -c else c):=by split <;> omega
  generalize (if c < 0 then -c else c)=num0 at hab
  refine ab4 (fun hbig=>?_) (fun hsm=>?_)
  ·row_cond go
   refine ai8 (fun m e=>∃ num ds,e=[some (.scr ns),some (.st (.int many)),some (.own (OL (ds.map .int))),some (.st (.int ((bs * 31+num0) % 2147483629))),some (.st (.int (i:Int))),some (.st (.int c)),some (.st (.int num)),v7]/\0<=num/\DrawsOk ds/\(ds.length:Int)<=2 * i+many/\m=num.toNat) ⟨_,num0,ds,rfl,hab,hD,hlen,rfl⟩ ?_
   rintro m e q0_
   refine exS2 e q0_ fun num ds q1_=>?_
   have n0:=q1_.1
   have hD:=q1_.2.1
   have hlen:=q1_.2.2.1
   have e3_:=q1_.2.2.2
   clear q1_ q0_
   subst e3_
   row_cond go
   refine ab4 (fun hp=>?_) (fun hp=>?_)
   ·row_cond go
    rw [List.length_map]
    refine ab4 (fun hq=>?_) (fun hq=>?_)
    ·row_cond go
     refine ⟨(num / 10007).toNat,by omega,num / 10007,ds ++ [num % 10007],by simp,by omega,hD.snoc (by omega) (by omega),by simp;omega,rfl⟩
    ·row_cond go
     exact ⟨_,_,_,_,ds,_,rfl,by omega,by omega,hD,by push_cast;omega⟩
   ·row_cond go
    exact ⟨_,_,_,_,ds,_,rfl,by omega,by omega,hD,by push_cast;omega⟩
  ·row_cond go
   rw [afg,afg]
   refine ⟨_,_,_,_,_,_,rfl,by omega,by omega,(hD.snoc (by omega) (by omega)).snoc (by omega) (by omega),by simp;omega⟩
 ·rintro e q0_
  refine exS6 e q0_ fun v4 v5 v6 v7 ds bs q1_=>?_
  have b0:=q1_.1
  have b1:=q1_.2.1
  have hD:=q1_.2.2.1
  have hlen:=q1_.2.2.2
  clear q1_ q0_
  rw [afc] at hlen
  row_cond go
  rw [List.length_map]
  have hl2:(ds.length:Int)<=1126:=by omega
  row_cond go
  refine abr (fun i e=>∃ v4 v5 v6 v7 es,e=[some (.scr ns),some (.st (.int many)),some (.own (OL (es.map .int))),some (.st (.int bs)),v4,v5,v6,v7]/\DrawsOk es/\es.length=ds.length+i) ⟨_,_,_,_,ds,rfl,hD,rfl⟩ ?_ ?_
  ·rintro i e hi q0_
   refine exS5 e q0_ fun v4 v5 v6 v7 es q1_=>?_
   have hE:=q1_.1
   have hel:=q1_.2
   clear q1_ q0_
   have hi2:(i:Int) < 1000:=by omega
   row_cond go
   rw [afg]
   exact ⟨_,_,_,_,_,rfl,hE.snoc (by omega) (by omega),by simp;omega⟩
  ·rintro e q0_
   refine exS5 e q0_ fun v4 v5 v6 v7 es q1_=>?_
   have hE:=q1_.1
   have hel:=q1_.2
   clear q1_ q0_
   row_cond go
   exact k es (by omega) (by omega) hE
end
theorem DrawsOk.at {ds:List Int} (h:DrawsOk ds) {i:Int} (h0:0<=i) (h1:i < ds.length):∃ x,atI (ds.map PyData.int) i=some (.int x)/\0<=x/\x < 10007:=by
 have hl:i.toNat < ds.length:=by omega
 have e:ds[i.toNat]?=some ds[i.toNat]:=List.getElem?_eq_getElem hl
 have:=h _ (List.mem_of_getElem? e)
 exact ⟨_,adx (f:=PyData.int) (ad3 h0 e),this.1,this.2⟩
def aza:VP:=fun ss Q=>∃ (ds:List Int) (spot most:Int),ss=[.st (.list (ds.map .int)),.st (.int spot),.st (.int most)]/\DrawsOk ds/\0<=spot/\spot+50<=ds.length/\ds.length<=3000/\1<=most/\most<=60/\∀ n es,WebOk n es->n<=most->Joined n es->Q (.st (webD n es))
theorem at5 {a b c d e:Int} {i:Int} (h0:0<=i) (h1:i < 5):∃ y,atI [PyData.int a,PyData.int b,PyData.int c,PyData.int d,PyData.int e] i=some (PyData.int y)/\(y=a\/y=b\/y=c\/y=d\/y=e):=by
 rcases (show i=0\/i=1\/i=2\/i=3\/i=4 by omega) with rfl | rfl | rfl | rfl | rfl
 ·exact ⟨a,rfl,by simp⟩
 ·exact ⟨b,rfl,by simp⟩
 ·exact ⟨c,rfl,by simp⟩
 ·exact ⟨d,rfl,by simp⟩
 ·exact ⟨e,rfl,by simp⟩
theorem ax3 {a r n:Int} (a0:0<=a) (a1:a < n) (r0:0<=r) (r1:r < n - 1):(a+1+r) % n ≠ a:=by
 by_cases h:a+1+r < n
 ·rw [Int.emod_eq_of_lt (by omega) h];omega
 ·have e:a+1+r=(a+1+r - n)+n * 1:=by omega
  rw [e,Int.add_mul_emod_self_left,Int.emod_eq_of_lt (by omega) (by omega)];omega
theorem af6 {α β:Type} (f : α->β):∀ (l:List α) (k:Nat),(l.map f).eraseIdx k=(l.eraseIdx k).map f
 | [],_=>rfl
 | _ :: _,0=>rfl
 | a :: l,k+1=>by simp [af6 f l k]
theorem aq4 {j:Int} {n:Nat} (q0:0<=j) (q1:j < n):seqIndex? j n=some j.toNat:=by unfold seqIndex?;simp;omega
theorem ax4 {left:List Int} {k:Nat} {y:Int} (hy:left[k]?=some y):(left.map PyData.int)[k]?=some (.int y):=by rw [List.getElem?_map,hy];rfl
theorem azb {x y:Int} {ns:List Int} (hp:ns.Perm [x,y]) (hs:ns.Pairwise (·<=·)):ns=if x < y then [x,y] else [y,x]:=by
 have hq:(if x < y then [x,y] else [y,x]).Perm [x,y]:=by
  split
  ·exact List.Perm.refl _
  ·exact List.Perm.swap _ _ _
 have hr:(if x < y then [x,y] else [y,x]).Pairwise (·<=·):=by
  split <;> simp <;> omega
 exact (hp.trans hq.symm).eq_of_pairwise (fun a b _ _ h g=>Int.le_antisymm h g) hs hr
section
variable {P:Program} {w:World} {K:Frag} {mg:Str->Option Value} {base:Heap}
theorem sc_law_web:FnScope ["d","spot","most","n","way","ties","k","x","head","a","b","kind","cut","two","order","left","at","turned"] ["d","spot","most"] (aai s_law_web):=by row_cond sc
theorem amp (T:Txt K mg):Can P w K mg base "_law_web" 1 ["d","spot","most"] (spP K (aza)):=by
 obtain ⟨f,fd,D⟩:=T.d_law_web
 refine D.can (D.fn.ok sc_law_web (fun vs H Q E h=>lenP h fun ss Q' q=>by obtain ⟨ds,spot,most,rfl,hD,s0,s1,hl,m0,m1,k⟩:=q;rfl) (fun cdv A outer s H vs Q E hr h=>?_))
 have nd:=sc_law_web.nd
 refine ⟨_,(aad (aao (i:=3) nd rfl (Or.inl rfl) (aae aar aac (aae aax (aap aaq (pv 0) (pv 1) (fun _ _=>rfl)) (pv 2))))
  (aad (aao (i:=4) nd rfl (Or.inl rfl) (aae aax (aae abx (aap aaq (pv 0) (pv 1) (fun _ _=>rfl)) aac) aac))
  (aad (aao (i:=5) nd rfl (Or.inl rfl) ari)
  (aad (abo PassesOwn.never rfl (afq rfl T.b_range (aaa aac (aaa (pv 3) aab))) (aak (i:=6) nd rfl (Or.inl rfl))
   (aad (aao (i:=7) nd rfl (Or.inl rfl) (aap aaq (pv 0) (aae aar (aae aar (pv 1) aac) (aae aax (pv 6) aac)) (fun _ _=>rfl)))
    (aad (aao (i:=8) nd rfl (Or.inl rfl) (aap aaq (abt (aaa (aae acp (pv 6) aac) (aaa aac (aaa (aae aax (pv 7) (pv 6)) (aaa (aal (ahb rfl) (by rfl) T.b_max afv (aaa aac (aaa (aae acp (aae acp (pv 6) aac) (aae aax (pv 7) aac)) aab))) (aaa (aae acp (pv 6) aac) aab)))))) (pv 4) (fun _ _=>rfl)))
    (aaf (agb (aka hr) (pv 5) (ab2 (aaa (pv 8) (aaa (pv 6) aab))) aca rfl)))))
  (aad (abc (PW.pt (afp (aa3 atk (pv 4) aac (aaz _)) (aev (aa3 af9 (pv 3) aac (aaz _)))))
   (aaf (agb (aka hr) (pv 5) (ab2 (aaa aac (aaa (aae acp (pv 3) aac) aab))) aca rfl))
   aa5)
  (aad (abo PassesOwn.never rfl (aa7 rfl T.b_range (aaa (aae abp (aap aaq (abt (aaa aac (aaa aac (aaa aac (aaa aac (aaa (aae abx (pv 3) aac) aab)))))) (aae aax (aap aaq (pv 0) (aae aar (pv 1) aac) (fun _ _=>rfl)) aac) (fun _ _=>rfl)) (apf aod (by rfl) T.b_int apt (aaa (acb af9 (pv 3) aac (aaz _)) aab))) aab)) (aak (i:=6) nd rfl (Or.inl rfl))
   (aad (aao (i:=9) nd rfl (Or.inl rfl) (aae aax (aap aaq (pv 0) (aae aar (aae aar (pv 1) aac) (aae aax (pv 6) aac)) (fun _ _=>rfl)) (pv 3)))
    (aad (aao (i:=10) nd rfl (Or.inl rfl) (aae aax (aae aar (aae aar (pv 9) aac) (aae aax (aap aaq (pv 0) (aae aar (aae aar (pv 1) aac) (aae aax (pv 6) aac)) (fun _ _=>rfl)) (aae acp (pv 3) aac))) (pv 3)))
    (aaf (agb (aka hr) (pv 5) (ab2 (aaa (aal (ae4 rfl) (by rfl) T.b_min ahc (aaa (pv 9) (aaa (pv 10) aab))) (aaa (aal (ahb rfl) (by rfl) T.b_max afv (aaa (pv 9) (aaa (pv 10) aab))) aab))) aca rfl)))))
  (aad (aao (i:=11) nd rfl (Or.inl rfl) (aae aax (aae abx (aap aaq (pv 0) (aae aar (pv 1) aac) (fun _ _=>rfl)) aac) aac))
  (aad (aao (i:=12) nd rfl (Or.inl rfl) (aae aar aac (aae aax (aae abx (aap aaq (pv 0) (aae aar (pv 1) aac) (fun _ _=>rfl)) aac) (aal (ae4 rfl) (by rfl) T.b_min ahc (aaa (pv 3) (aaa aac aab))))))
  (aad (abo PassesOwn.never rfl (aa7 rfl T.b_range (aaa (pv 3) aab)) (aak (i:=10) nd rfl (Or.inl rfl))
   (aaf (abo PassesOwn.never rfl (aa7 rfl T.b_range (aaa (pv 10) aab)) (aak (i:=9) nd rfl (Or.inl rfl))
     (aad (aao (i:=13) nd rfl (Or.inl rfl) (adb (acb atk (pv 11) aac (aaz _)) (adb (acb aj9 (pv 9) (pv 12) (aaz _)) (aec (acb acn (pv 3) aac (aaz _))))))
      (aaf (abc (PW.pt (afp (aa3 acn (pv 11) aac (aaz _)) (aev (PW.pt (ae3 (aa3 acn (pv 10) (pv 12) (aaz _)) (aeb (ahj (pv 13))))))))
       (aaf (agb (aka hr) (pv 5) (ab2 (aaa (pv 9) (aaa (pv 10) aab))) aca rfl))
       aa5))))))
  (aad (aao (i:=14) nd rfl (Or.inr rfl) (alt rfl T.b_list rfl T.b_range rfl (aaa (pv 3) aab)))
  (aad (abc (aa3 af9 (aae aax (aae abx (aap aaq (pv 0) (aae aar (pv 1) aac) (fun _ _=>rfl)) aac) aac) aac (aaz _))
   (aad (aao (i:=15) nd rfl (Or.inl rfl) (alt rfl T.b_list rfl T.b_range rfl (aaa (pv 3) aab)))
    (aad (aao (i:=14) nd rfl (Or.inr rfl) (abt aab))
    (aaf (abo PassesOwn.never rfl (aa7 rfl T.b_range (aaa (pv 3) aab)) (aak (i:=6) nd rfl (Or.inl rfl))
     (aad (aao (i:=16) nd rfl (Or.inl rfl) (aae abx (aap aaq (pv 0) (aae aar (aae aar (pv 1) aac) (aae aax (pv 6) aac)) (fun _ _=>rfl)) (aae aar aac (aae abx (pv 6) aac))))
      (aaf (aba (acj PySem.F.plainAttrs_list PySem.F.slot_list_append PySem.F.type_list_append abb (pv 14) (aaa (acj PySem.F.plainAttrs_list PySem.F.slot_list_pop PySem.F.type_list_pop akv (pv 15) (aaa (aae aax (pv 16) (aal aa9 (by rfl) T.b_len ab5 (aaa (pv 15) aab))) aab)) aab)))))))))
   aa5)
  (aad (ags (i:=17) nd rfl (Or.inl rfl) rfl (N:=["a","b","order"]) (src:=[none,none,some 14]) (by exact abf rfl rfl rfl rfl rfl rfl) (ayw (pv 5)) (fun _ _ _ _=>(show PG _ _ (gTup K 2 (ado (aay 0) (ado (aay 1) gNil))) from (aee rfl (aa8 (aak (i:=0) (show List.Nodup (["a","b","order"]:List Str) by decide +kernel) rfl (Or.inl rfl) (hf:=Or.inr rfl)) (aa8 (aak (i:=1) (show List.Nodup (["a","b","order"]:List Str) by decide +kernel) rfl (Or.inl rfl) (hf:=Or.inr rfl)) ac1))))) (fun _ _ _ _=>abe) (fun _ _ _ _=>(aal (show abg _ (.builtin "sorted") (ahf K) from ahg) (by rfl) T.b_sorted aeo (aaa (abt (aaa (aap (show IxR _ (abw K) from aaq) (pv 2) (pv 0) (fun _ _=>rfl)) (aaa (aap (show IxR _ (abw K) from aaq) (pv 2) (pv 1) (fun _ _=>rfl)) aab))) aab))))
  (aaf (aas (ab2 (aaa (pv 3) (aaa (aal ahm (by rfl) T.b_sorted aeo (aaa (adf rfl (N:=["a","b"]) (src:=[none,none]) (by exact abf rfl rfl rfl rfl rfl rfl) (abj (pv 17)) (fun _ _ _ _=>(show PG _ _ (gLst K 2 (ado (aay 0) (ado (aay 1) gNil))) from (aww rfl (aa8 (aak (i:=0) (show List.Nodup (["a","b"]:List Str) by decide +kernel) rfl (Or.inl rfl) (hf:=Or.inr rfl)) (aa8 (aak (i:=1) (show List.Nodup (["a","b"]:List Str) by decide +kernel) rfl (Or.inl rfl) (hf:=Or.inr rfl)) ac1))))) (fun _ _ _ _=>abe) (fun _ _ _ _=>(ab2 (aaa (pv 0) (aaa (pv 1) aab))))) aab)) aab))))))))))))))))),?_⟩
 refine aa4 h fun ss Q' q B hK=>?_
 refine exS3 ss q fun ds spot most q1_=>?_
 have hD:=q1_.1
 have s0:=q1_.2.1
 have s1:=q1_.2.2.1
 have hl:=q1_.2.2.2.1
 have m0:=q1_.2.2.2.2.1
 have m1:=q1_.2.2.2.2.2.1
 have k:=q1_.2.2.2.2.2.2
 clear q1_ q
 show EvS B _ _ [some (.st (.list (ds.map .int))),some (.st (.int spot)),some (.st (.int most)),none,none,none,none,none,none,none,none,none,none,none,none,none,none,none]
 obtain ⟨d0,a0,d0l,d0h⟩:=hD.at (i:=spot) s0 (by omega)
 obtain ⟨d1,a1,d1l,d1h⟩:=hD.at (i:=spot+1) (by omega) (by omega)
 row_cond go
 have hn0:1<=1+d0 % most:=by have:=Int.emod_nonneg d0 (show most ≠ 0 by omega);omega
 have hn1:1+d0 % most<=most:=by have:=Int.emod_lt_of_pos d0 (show 0 < most by omega);omega
 generalize 1+d0 % most=n at hn0 hn1
 generalize hw:d0 / 64 % 5=way
 have hw0:0<=way:=by omega
 have hw1:way < 5:=by omega
 have hsp:(spot:Int)<=2950:=by omega
 row_cond go
 refine abr (fun i e=>∃ v6 v7 v8 ps,e=[some (.st (.list (ds.map .int))),some (.st (.int spot)),some (.st (.int most)),some (.st (.int n)),some (.st (.int way)),some (.own (OT (kE ps))),v6,v7,v8,none,none,none,none,none,none,none,none,none]/\PsOk n ps/\Tr (1+i) ps) ⟨_,_,_,[],rfl,PsOk.nil n,fun k _ _=>by omega⟩ ?_ ?_
 ·rintro i e hi q0_
  refine exS4 e q0_ fun v6 v7 v8 ps q1_=>?_
  have hP:=q1_.1
  have hT:=q1_.2
  clear q1_ q0_
  have hi1:(i:Int) < n - 1:=by omega
  obtain ⟨x,ax,xl,xh⟩:=hD.at (i:=spot+2+(1+(i:Int)) % 20) (by omega) (by omega)
  have x0:=Int.emod_nonneg x (show 1+(i:Int) ≠ 0 by omega)
  have x1:=Int.emod_lt_of_pos x (show 0 < 1+(i:Int) by omega)
  obtain ⟨hd,ah,hh⟩:=at5 (a:=1+(i:Int) - 1) (b:=0) (c:=x % (1+(i:Int))) (d:=if 1+(i:Int) - 1 - x % 3 > 0 then 1+(i:Int) - 1 - x % 3 else 0) (e:=1+(i:Int) - 1) hw0 hw1
  have h0:0<=hd/\hd < 1+(i:Int):=by
   generalize x % (1+(i:Int))=z at *
   split at hh <;> omega
  clear hh
  have hL:(kE ps).length<=999999:=by rw [aeq];exact Nat.le_trans (hP.len (by omega)) (by decide)
  row_cond go
  rw [aht]
  refine ⟨_,_,_,_,rfl,hP.add h0.1 h0.2 (by omega),fun k k1 k2=>?_⟩
  by_cases hk:k=1+(i:Int)
  ·subst hk;exact ⟨hd,h0.1,h0.2,addP_mem.mpr (.inr rfl)⟩
  ·obtain ⟨h,z0,z1,z2⟩:=hT k k1 (by push_cast at k2;omega);exact ⟨h,z0,z1,addP_mem.mpr (.inl z2)⟩
 ·rintro e q0_
  refine exS4 e q0_ fun v6 v7 v8 ps q1_=>?_
  have hP:=q1_.1
  have hT:=q1_.2
  clear q1_ q0_
  replace hT:Tr n ps:=fun k k1 k2=>hT k k1 (by omega)
  row_cond go
  refine' cutR (R:=∀ ps,PsOk n ps->Tr n ps->EvS B _ _ [some (.st (.list (ds.map .int))),some (.st (.int spot)),some (.st (.int most)),some (.st (.int n)),some (.st (.int way)),some (.own (OT (kE ps))),v6,v7,v8,none,none,none,none,none,none,none,none,none]) (fun R=>?K1) ?K2
  case K1 =>
   refine ab4 (fun _=>?_) (fun _=>?_)
   ·row_cond go
    refine ab4 (fun hn=>?_) (fun hn=>?_)
    ·refine alv (fun e=>∃ ps,e=[some (.st (.list (ds.map .int))),some (.st (.int spot)),some (.st (.int most)),some (.st (.int n)),some (.st (.int way)),some (.own (OT (kE ps))),v6,v7,v8,none,none,none,none,none,none,none,none,none]/\PsOk n ps/\Tr n ps) ?_ ?_
     ·have hL:(kE ps).length<=999999:=by rw [aeq];exact Nat.le_trans (hP.len (by omega)) (by decide)
      row_cond go
      rw [aht]
      exact ⟨_,rfl,hP.add (by omega) (by omega) (by omega),hT.add⟩
     ·rintro e q0_
      refine exS1 e q0_ fun ps q1_=>?_
      have hP:=q1_.1
      have hT:=q1_.2
      clear q1_ q0_
      exact R ps hP hT
    ·refine ac0 ?_
     exact R ps hP hT
   ·refine ac0 ?_
    exact R ps hP hT
  case K2 =>
   clear hP hT ps
   intro ps hP hT
   obtain ⟨y5,a5,h5⟩:=at5 (a:=0) (b:=0) (c:=1) (d:=2) (e:=n / 2) (i:=d1 % 5) (by omega) (by omega)
   have y0:0<=y5/\y5<=30:=by omega
   clear h5
   row_cond go
   have hm : -(2 ^ 62)<=y5 * (if decide (1 < n)=true then 1 else 0)/\y5 * (if decide (1 < n)=true then 1 else 0) < 2 ^ 62/\(0 < y5 * (if decide (1 < n)=true then 1 else 0)->1 < n):=by
    by_cases hn:1 < n
    ·rw [if_pos (decide_eq_true hn)];omega
    ·rw [if_neg (by simpa using hn)];omega
   generalize (y5 * if decide (1 < n)=true then 1 else 0)=tot at hm
   obtain ⟨t0,t1,t2⟩:=hm
   row_cond go
   refine abr (fun i e=>∃ v6 v7 v8 v9 v10 ps,e=[some (.st (.list (ds.map .int))),some (.st (.int spot)),some (.st (.int most)),some (.st (.int n)),some (.st (.int way)),some (.own (OT (kE ps))),v6,v7,v8,v9,v10,none,none,none,none,none,none,none]/\PsOk n ps/\Tr n ps) ⟨_,_,_,_,_,ps,rfl,hP,hT⟩ ?_ ?_
   ·clear hP hT v6 v7 v8 ps
    rintro i e hi q0_
    refine exS6 e q0_ fun v6 v7 v8 v9 v10 ps q1_=>?_
    have hP:=q1_.1
    have hT:=q1_.2
    clear q1_ q0_
    have hn:1 < n:=t2 (by omega)
    obtain ⟨x,ax,xl,xh⟩:=hD.at (i:=spot+22+(0+(i:Int)) % 8) (by omega) (by omega)
    obtain ⟨y,ay,yl,yh⟩:=hD.at (i:=spot+30+(0+(i:Int)) % 8) (by omega) (by omega)
    have hL:(kE ps).length<=999999:=by rw [aeq];exact Nat.le_trans (hP.len (by omega)) (by decide)
    have u0:=Int.emod_nonneg x (show n ≠ 0 by omega)
    have u1:=Int.emod_lt_of_pos x (show 0 < n by omega)
    have w0:=Int.emod_nonneg y (show n - 1 ≠ 0 by omega)
    have w1:=Int.emod_lt_of_pos y (show 0 < n - 1 by omega)
    have z0:=Int.emod_nonneg (x % n+1+y % (n - 1)) (show n ≠ 0 by omega)
    have z1:=Int.emod_lt_of_pos (x % n+1+y % (n - 1)) (show 0 < n by omega)
    have zn:=ax3 u0 u1 w0 w1
    row_cond go
    rw [aht]
    generalize (x % n+1+y % (n - 1)) % n=q at *
    generalize x % n=p at *
    refine ⟨_,_,_,_,_,_,rfl,hP.add ?_ ?_ ?_,hT.add⟩ <;> (by_cases hb:q < p) <;> simp [hb] <;> omega
   ·clear hP hT v6 v7 v8 ps
    rintro e q0_
    refine exS6 e q0_ fun v6 v7 v8 v9 v10 ps q1_=>?_
    have hP:=q1_.1
    have hT:=q1_.2
    clear q1_ q0_
    row_cond go
    generalize d1 / 15 % 8=kind
    generalize (2+d1 / 120 % _:Int)=cut
    refine abr (fun i e=>∃ v6 v7 v8 v9 v10 v13 ps,e=[some (.st (.list (ds.map .int))),some (.st (.int spot)),some (.st (.int most)),some (.st (.int n)),some (.st (.int way)),some (.own (OT (kE ps))),v6,v7,v8,v9,v10,some (.st (.int kind)),some (.st (.int cut)),v13,none,none,none,none]/\PsOk n ps/\Tr n ps) ⟨_,_,_,_,_,_,ps,rfl,hP,hT⟩ ?_ ?_
    ·clear hP hT v6 v7 v8 v9 v10 ps
     rintro b e hb q0_
     refine exS7 e q0_ fun v6 v7 v8 v9 v10 v13 ps q1_=>?_
     have hP:=q1_.1
     have hT:=q1_.2
     clear q1_ q0_
     have hb1:0+(b:Int) < n:=by omega
     row_cond go
     refine abr (fun i e=>∃ v6 v7 v8 v9 v13 ps,e=[some (.st (.list (ds.map .int))),some (.st (.int spot)),some (.st (.int most)),some (.st (.int n)),some (.st (.int way)),some (.own (OT (kE ps))),v6,v7,v8,v9,some (.st (.int (0+(b:Int)))),some (.st (.int kind)),some (.st (.int cut)),v13,none,none,none,none]/\PsOk n ps/\Tr n ps) ⟨_,_,_,_,_,ps,rfl,hP,hT⟩ ?_ ?_
     ·clear hP hT v6 v7 v8 v9 v13 ps
      rintro a e ha q0_
      refine exS6 e q0_ fun v6 v7 v8 v9 v13 ps q1_=>?_
      have hP:=q1_.1
      have hT:=q1_.2
      clear q1_ q0_
      have ha1:0+(a:Int) < 0+b:=by omega
      have hL:(kE ps).length<=999999:=by rw [aeq];exact Nat.le_trans (hP.len (by omega)) (by decide)
      row_cond go
      refine' cutR (R:=∀ bb:Bool,EvS B _ _ [some (.st (.list (ds.map .int))),some (.st (.int spot)),some (.st (.int most)),some (.st (.int n)),some (.st (.int way)),some (.own (OT (kE ps))),v6,v7,v8,some (.st (.int (0+(a:Int)))),some (.st (.int (0+(b:Int)))),some (.st (.int kind)),some (.st (.int cut)),some (.st (.bool bb)),none,none,none,none]) (fun R=>?K1) ?K2
      case K1 =>
       refine ab4 (fun _=>?_) (fun _=>?_)
       ·repeat (first | exact R _ | row_cond st)
        refine ab4 (fun _=>?_) (fun _=>?_)
        ·repeat (first | exact R _ | row_cond st)
        ·repeat (first | exact R _ | row_cond st)
       ·repeat (first | exact R _ | row_cond st)
      case K2 =>
       have done1:PsOk n (addP ps (0+(a:Int),0+(b:Int)))/\Tr n (addP ps (0+(a:Int),0+(b:Int))):=⟨hP.add (by omega) ha1 hb1,hT.add⟩
       rintro (_ | _) <;> row_cond go <;> refine ab4 (fun _=>?_) (fun _=>?_) <;> row_cond go <;> first | exact ⟨_,_,_,_,_,_,rfl,hP,hT⟩ | (refine ab4 (fun _=>?_) (fun _=>?_) <;> row_cond go <;> first | exact ⟨_,_,_,_,_,_,rfl,hP,hT⟩ | (rw [aht];exact ⟨_,_,_,_,_,_,rfl,done1.1,done1.2⟩))
     ·rintro e q0_
      refine exS6 e q0_ fun v6 v7 v8 v9 v13 ps q1_=>?_
      have hP:=q1_.1
      have hT:=q1_.2
      clear q1_ q0_
      exact ⟨_,_,_,_,_,_,ps,rfl,hP,hT⟩
    ·clear hP hT v6 v7 v8 v9 v10 ps
     rintro e q0_
     refine exS7 e q0_ fun v6 v7 v8 v9 v10 v13 ps q1_=>?_
     have hP:=q1_.1
     have hT:=q1_.2
     clear q1_ q0_
     row_cond go
     refine' cutR (R:=∀ row v6 v15 v16,Order n row->EvS B _ _ [some (.st (.list (ds.map .int))),some (.st (.int spot)),some (.st (.int most)),some (.st (.int n)),some (.st (.int way)),some (.own (OT (kE ps))),v6,v7,v8,v9,v10,some (.st (.int kind)),some (.st (.int cut)),v13,some (.own (OL (row.map .int))),v15,v16,none]) (fun R=>?K1) ?K2
     case K1 =>
      rw [anw]
      refine ab4 (fun _=>?_) (fun _=>?_)
      ·refine alv (fun e=>∃ row v6 v15 v16,e=[some (.st (.list (ds.map .int))),some (.st (.int spot)),some (.st (.int most)),some (.st (.int n)),some (.st (.int way)),some (.own (OT (kE ps))),v6,v7,v8,v9,v10,some (.st (.int kind)),some (.st (.int cut)),v13,some (.own (OL (row.map .int))),v15,v16,none]/\Order n row) ?_ ?_
       ·row_cond go
        refine abr (fun i e=>∃ row left v6 v16,e=[some (.st (.list (ds.map .int))),some (.st (.int spot)),some (.st (.int most)),some (.st (.int n)),some (.st (.int way)),some (.own (OT (kE ps))),v6,v7,v8,v9,v10,some (.st (.int kind)),some (.st (.int cut)),v13,some (.own (OL (row.map .int))),some (.own (OL (left.map .int))),v16,none]/\Order n (row ++ left)/\row.length=i) ⟨[],_,_,_,by rw [anw];rfl,Order.id n,rfl⟩ ?_ ?_
        ·rintro i e hi q0_
         refine exS4 e q0_ fun row left v6 v16 q1_=>?_
         have hO:=q1_.1
         have hrl:=q1_.2
         clear q1_ q0_
         have hll:left.length=n.toNat - i:=by have:=hO.len;simp at this;omega
         obtain ⟨x,ax,xl,xh⟩:=hD.at (i:=spot+38+(0+(i:Int)) % 12) (by omega) (by omega)
         iterate 30 (row_cond st)
         have h12:1<=1+(0+(i:Int)) / 12/\1+(0+(i:Int)) / 12<=100:=by omega
         row_cond st
         (generalize 1+(0+(i:Int)) / 12=z12 at h12)
         row_cond st
         row_cond st
         (generalize x / z12=q)
         row_cond go
         rw [List.length_map]
         have q0:=Int.emod_nonneg q (show (left.length:Int) ≠ 0 by omega)
         have q1:=Int.emod_lt_of_pos q (show 0 < (left.length:Int) by omega)
         row_cond go
         (generalize q % (left.length:Int)=j at q0 q1)
         obtain ⟨y,hy⟩:∃ y,left[j.toNat]?=some y:=⟨_,List.getElem?_eq_getElem (show j.toNat < left.length by omega)⟩
         refine ⟨_,left.map .int,j,j.toNat,.int y,rfl,rfl,.inl rfl,by omega,by omega,aq4 q0 (by rw [List.length_map];exact q1),ax4 hy,?_⟩
         rw [af6]
         dsimp only [List.set_cons_zero,List.set_cons_succ,reS]
         row_cond go
         refine ⟨_,rfl,by rw [List.length_map];omega,?_⟩
         refine ⟨row ++ [y],left.eraseIdx j.toNat,_,_,by rw [afg],aot hO hy,by simp;omega⟩
        ·rintro e q0_
         refine exS4 e q0_ fun row left v6 v16 q1_=>?_
         have hO:=q1_.1
         have hrl:=q1_.2
         clear q1_ q0_
         have hll:left=[]:=by have:=hO.len;simp at this;exact List.length_eq_zero_iff.mp (by omega)
         subst hll
         rw [List.append_nil] at hO
         exact ⟨row,_,_,_,rfl,hO⟩
       ·rintro e q0_
        refine exS4 e q0_ fun row v6 v15 v16 q1_=>?_
        have hO:=q1_
        clear q1_ q0_
        exact R row v6 v15 v16 hO
      ·refine ac0 ?_
       exact R _ _ _ _ (Order.id n)
     case K2 =>
      clear v6
      intro row v6 v15 v16 hO
      refine aim 14 rfl acf ?_
      row_cond go
      rw [avm]
      refine ar9 (xs:=ps) (fa:=fun p => .int p.1) (fb:=fun p => .int p.2) (fun p => .list [.int (reP row p).1,.int (reP row p).2]) (fun _=>true) rfl (Nat.le_trans (hP.len (by omega)) (by decide)) ?_ ?_
      ·intro p hp B' hB
       have hq:=hP.inn p hp
       have r1:=adx (f:=PyData.int) (hO.atI (a:=p.1) (by omega) (by omega))
       have r2:=adx (f:=PyData.int) (hO.atI (a:=p.2) (by omega) (by omega))
       refine acs ⟨rfl,rfl,fun _=>?_⟩
       refine acg (ajd ?_)
       row_cond go
       refine ⟨[abd row p.1,abd row p.2],rfl,by simp,fun ns' hp' hs'=>adh ⟨?_,rfl⟩⟩
       rw [azb hp' hs']
       unfold reP
       split <;> rfl
      ·rw [ad2]
       row_cond go
       refine ajf (ps:=ps.map (reP row)) ?_
       row_cond go
       refine aql (xs:=ps) (fa:=fun p => .int (reP row p).1) (fb:=fun p => .int (reP row p).2) (fun p=>prD (reP row p)) (fun _=>true) rfl (Nat.le_trans (hP.len (by omega)) (by decide)) ?_ ?_
       ·intro p hp B' hB
        refine acs ⟨rfl,rfl,fun _=>?_⟩
        row_cond go
        exact rfl
       ·rw [ad2]
        row_cond go
        refine ⟨by rw [List.map_map];rfl,fun qs hq hs=>adh ?_⟩
        row_cond go
        refine k n qs (ast hn0 (by omega) (hP.re hO) hq hs) hn1 ?_
        exact Conn.joined ((hT.conn.re hO).mono fun u v h=>(Tied.perm hq).mpr h) (by omega)
end
noncomputable def aci (n:Int):PyData->Bool
 | .tuple [.int a,.int b]=>decide (0<=a/\a<=n - 1) && decide (0<=b/\b<=n - 1) && decide (a < b)
 | _=>false
noncomputable def afh (n:Int):PyData->Bool
 | .list ds=>ds.all (aci n)
 | _=>false
def azc:VP:=fun ss Q=>∃ (n:Int) (d:PyData),ss=[.st (.int n),.st d]/\Q (.st (.bool (aci n d)))
def ax5:VP:=fun ss Q=>∃ (n:Int) (d:PyData),ss=[.st (.int n),.st d]/\(∀ ds,d=.list ds->ds.length<=100000)/\Q (.st (.bool (afh n d)))
def atb:VP:=fun ss Q=>∃ (ps:List (Int × Int)),ss=[.st (.list (ps.map prD))]/\ps.length<=100000/\∀ b:Bool,(b=true ↔ Rise ps)->Q (.st (.bool b))
structure PutOk (n:Int) (es fs:List (Int × Int)):Prop where
 inn:∀ p∈fs,0<=p.1/\p.1 < p.2/\p.2 < n
 nd:(es ++ fs).Nodup
def ax6:VP:=fun ss Q=>∃ (n:Int) (es fs:List (Int × Int)),ss=[.st (webD n es),.st (.list (fs.map prD))]/\es.length<=10000/\fs.length<=10000/\PutOk n es fs/\∀ qs,Rise qs->qs.Perm (es ++ fs)->Q (.own (OW (.int n) (qs.map prD)))
section
variable {P:Program} {w:World} {K:Frag} {mg:Str->Option Value} {base:Heap}
theorem sc_is_tie:FnScope ["n","thing","a","b"] ["n","thing"] (aai s_is_tie):=by row_cond sc
theorem aoy (T:Txt K mg):Can P w K mg base "is_tie" 4 ["n","thing"] (spP K (azc)):=by
 obtain ⟨f,fd,D⟩:=T.d_is_tie
 refine D.can (D.fn.ok sc_is_tie (fun vs H Q E h=>lenP h fun ss Q' q=>by obtain ⟨n,d,rfl,k⟩:=q;rfl) (fun cdv A outer s H vs Q E hr h=>?_))
 have nd:=sc_is_tie.nd
 refine ⟨_,(aad (abc (PW.pt (ae3 (acv (ab0 (aal adl (by rfl) T.b_isinstance abz (aaa (pv 1) (aaa (ad6 (v:=.ty "tuple") rfl T.b_tuple ak0 rfl) aab))))) (aeb (aa3 atl (aal aa9 (by rfl) T.b_len ab5 (aaa (pv 1) aab)) aac (aaz _)))))
   (aaf (aas aca))
   aa5)
  (aad (aew (pv 1) (aee rfl (aa8 (aak (i:=2) nd rfl (Or.inl rfl)) (aa8 (aak (i:=3) nd rfl (Or.inl rfl)) ac1))))
  (aaf (aas (adb (aah (adi T) hr (aaa (pv 0) (aaa (pv 2) aab))) (adb (aah (adi T) hr (aaa (pv 0) (aaa (pv 3) aab))) (aec (acb acn (pv 2) (pv 3) (aaz _))))))))),?_⟩
 refine aa4 h fun ss Q' q B hK=>?_
 refine exS2 ss q fun n d q1_=>?_
 have k:=q1_
 clear q1_ q
 show EvS B _ _ [some (.st (.int n)),some (.st d),none,none]
 row_cond go
 cases d with
 | tuple xs =>
  refine age ?_
  row_cond go
  rcases (show xs.length=2\/xs.length ≠ 2 by omega) with h2 | h2
  ·match xs,h2 with
   | [x,y],_ =>
    row_cond go
    refine ⟨n,x,rfl,?_⟩
    row_cond go
    have key:aci n (.tuple [x,y])=(btwD 0 (n - 1) x && (btwD 0 (n - 1) y && match x,y with | .int a,.int b=>decide (a < b) | _,_=>false)):=by
     cases x <;> cases y <;> simp [aci,btwD,Bool.and_assoc]
    cases hx:btwD 0 (n - 1) x with
    | false =>
     rw [hx,Bool.false_and] at key
     refine adg ?_
     rw [← key];exact k
    | true =>
     refine acr ?_
     row_cond go
     refine ⟨n,y,rfl,?_⟩
     row_cond go
     cases hy:btwD 0 (n - 1) y with
     | false =>
      rw [hx,hy] at key
      refine adg ?_
      rw [show false=aci n (.tuple [x,y]) by rw [key];rfl];exact k
     | true =>
      refine acr ?_
      cases x with
      | int a =>
       cases y with
       | int b =>
        row_cond go
        rw [hx,hy] at key
        rw [show decide (a < b)=aci n (.tuple [.int a,.int b]) by rw [key];rfl];exact k
       | _=>simp [btwD] at hy
      | _=>simp [btwD] at hx
  ·row_cond go
   have:aci n (.tuple xs)=false:=by
    match xs,h2 with
    | [],_=>rfl
    | [x],_=>cases x <;> rfl
    | [_,_],h=>exact absurd rfl h
    | x :: y :: _ :: _,_=>cases x <;> cases y <;> rfl
   rw [← this];exact k
 | _ =>
  refine aid ?_
  row_cond go
  exact k
theorem sc_are_ties:FnScope ["n","thing"] ["n","thing"] (aai s_are_ties):=by row_cond sc
theorem al5 (T:Txt K mg):Can P w K mg base "are_ties" 5 ["n","thing"] (spP K (ax5)):=by
 obtain ⟨f,fd,D⟩:=T.d_are_ties
 refine D.can (D.fn.ok sc_are_ties (fun vs H Q E h=>lenP h fun ss Q' q=>by obtain ⟨n,d,rfl,hl,k⟩:=q;rfl) (fun cdv A outer s H vs Q E hr h=>?_))
 have nd:=sc_are_ties.nd
 refine ⟨_,(aaf (aas (adb (aal adl (by rfl) T.b_isinstance abz (aaa (pv 1) (aaa (ad6 (v:=.ty "list") rfl T.b_list ah7 rfl) aab))) (aec (aal (ada rfl) (by rfl) T.b_all aey (aaa (adf rfl (N:=["tie","n"]) (src:=[none,some 0]) (by exact abf rfl rfl rfl rfl rfl rfl) (abj (pv 1)) (fun _ _ _ _=>(aak (i:=0) (show List.Nodup (["tie","n"]:List Str) by decide +kernel) rfl (Or.inl rfl) (hf:=Or.inr rfl))) (fun _ _ _ _=>abe) (fun _ _ _ _=>(aah (aoy T) hr (aaa (pv 1) (aaa (pv 0) aab))))) aab)))))),?_⟩
 refine aa4 h fun ss Q' q B hK=>?_
 refine exS2 ss q fun n d q1_=>?_
 have hl:=q1_.1
 have k:=q1_.2
 clear q1_ q
 show EvS B _ _ [some (.st (.int n)),some (.st d)]
 row_cond go
 cases d with
 | list ds =>
  have hl:=hl ds rfl
  refine acr ?_
  row_cond go
  refine aik (fun t => .bool (aci n t)) rfl (by omega) (fun t _ B' hB=>?_) ?_
  ·row_cond go
   exact ⟨n,t,rfl,rfl,rfl⟩
  ·row_cond go
   rw [show (ds.map fun t=>PyData.bool (aci n t))=(ds.map (aci n)).map .bool by rw [List.map_map];rfl]
   refine ad9 ?_
   row_cond go
   rw [show (ds.map (aci n)).all id=afh n (.list ds) by simp [afh,List.all_map]]
   exact k
 | _ =>
  refine adg ?_
  exact k
theorem air (T:Txt K mg):Can P w K mg base "is_rising" 1 ["things"] (spP K (atb)):=by
 obtain ⟨f,fd,D⟩:=T.d_is_rising
 refine D.can (D.fn.ok sc_is_rising (fun vs H Q E h=>lenP h fun ss Q' q=>by obtain ⟨ps,rfl,hl,k⟩:=q;rfl) (fun cdv A outer s H vs Q E hr h=>?_))
 have nd:=sc_is_rising.nd
 refine ⟨_,(aaf (aas (aal (ada rfl) (by rfl) T.b_all aey (aaa (adf rfl (N:=["at","things"]) (src:=[none,some 0]) (by exact abf rfl rfl rfl rfl rfl rfl) (aa7 rfl T.b_range (aaa (aae acp (aal aa9 (by rfl) T.b_len ab5 (aaa (pv 0) aab)) aac) aab)) (fun _ _ _ _=>(aak (i:=0) (show List.Nodup (["at","things"]:List Str) by decide +kernel) rfl (Or.inl rfl) (hf:=Or.inr rfl))) (fun _ _ _ _=>abe) (fun _ _ _ _=>(acb (show OpR _ (compareOp .Lt) (rLtT K) from awh hr.units0) (aap (show IxR _ (abw K) from aaq) (pv 1) (pv 0) (fun _ _=>rfl)) (aap (show IxR _ (abw K) from aaq) (pv 1) (aae aar (pv 0) aac) (fun _ _=>rfl)) (aaz _)))) aab)))),?_⟩
 refine aa4 h fun ss Q' q B hK=>?_
 refine exS1 ss q fun ps q1_=>?_
 have hl:=q1_.1
 have k:=q1_.2
 clear q1_ q
 show EvS B _ _ [some (.st (.list (ps.map prD)))]
 row_cond go
 rw [List.length_map]
 row_cond go
 refine aik (fun d=>match d with | .int i => .bool (match ps[i.toNat]?,ps[i.toNat+1]? with | some p,some q=>HT.lexLt (p2 p) (p2 q) | _,_=>false) | _ => .none) rfl (by rw [abv];omega) (fun d hd B' hB=>?_) ?_
 ·obtain ⟨i,hi⟩:=List.mem_iff_getElem?.mp hd
  obtain ⟨hi,rfl⟩:=adm hi
  have h1:i < ps.length:=by omega
  have h2:i+1 < ps.length:=by omega
  have a1:atI (ps.map prD) (0+(i:Int))=some (prD ps[i]):=adx (f:=prD) (ad3 (by omega) (by rw [show (0+(i:Int)).toNat=i by omega];exact List.getElem?_eq_getElem h1))
  have a2:atI (ps.map prD) (0+(i:Int)+1)=some (prD ps[i+1]):=adx (f:=prD) (ad3 (by omega) (by rw [show (0+(i:Int)+1).toNat=i+1 by omega];exact List.getElem?_eq_getElem h2))
  row_cond go
  refine avn ?_
  row_cond go
  refine ⟨?_,rfl⟩
  simp [h1,h2]
 ·row_cond go
  have e:(rngD 0 ((ps.length:Int) - 1).toNat).map (fun d=>match d with | .int i=>PyData.bool (match ps[i.toNat]?,ps[i.toNat+1]? with | some p,some q=>HT.lexLt (p2 p) (p2 q) | _,_=>false) | _ => .none)=((List.range (ps.length - 1)).map fun i=>match ps[i]?,ps[i+1]? with | some p,some q=>HT.lexLt (p2 p) (p2 q) | _,_=>false).map .bool:=by
   unfold rngD
   rw [List.map_map,List.map_map,show ((ps.length:Int) - 1).toNat=ps.length - 1 by omega]
   apply List.map_congr_left
   intro i _
   simp
  rw [e]
  refine ad9 ?_
  row_cond go
  refine k _ ?_
  rw [List.all_map,List.all_eq_true]
  unfold Rise
  rw [af1 ltP (fun h g=>aqg h g)]
  constructor
  ·intro h i hi
   have:=h i (List.mem_range.mpr (by omega))
   simp [show i < ps.length by omega,hi] at this
   exact (lex2 _ _).mp this
  ·intro h i hi
   have hi':i+1 < ps.length:=by have:=List.mem_range.mp hi;omega
   have:=(lex2 _ _).mpr (h i hi')
   simp [show i < ps.length by omega,hi',this]
theorem sc_with_ties:FnScope ["web","ties","n","there","every"] ["web","ties"] (aai s_with_ties):=by row_cond sc
theorem aj7 (T:Txt K mg):Can P w K mg base "with_ties" 6 ["web","ties"] (spP K (ax6)):=by
 obtain ⟨f,fd,D⟩:=T.d_with_ties
 refine D.can (D.fn.ok sc_with_ties (fun vs H Q E h=>lenP h fun ss Q' q=>by obtain ⟨n,es,fs,rfl,l1,l2,hP,k⟩:=q;rfl) (fun cdv A outer s H vs Q E hr h=>?_))
 have nd:=sc_with_ties.nd
 refine ⟨_,(aad (aew (pv 0) (aee rfl (aa8 (aak (i:=2) nd rfl (Or.inl rfl)) (aa8 (aak (i:=3) nd rfl (Or.inl rfl)) ac1))))
  (aad (abc (acv (ab0 (aah (al5 T) hr (aaa (pv 2) (aaa (pv 1) aab)))))
   (aaf aed)
   aa5)
  (aad (aao (i:=4) nd rfl (Or.inl rfl) (aal ahm (by rfl) T.b_sorted aeo (aaa (aae apg (pv 3) (pv 1)) aab)))
  (aad (abc (acv (ab0 (aah (air T) hr (aaa (pv 4) aab))))
   (aaf aed)
   aa5)
  (aaf (aas (ab2 (aaa (pv 2) (aaa (pv 4) aab))))))))),?_⟩
 refine aa4 h fun ss Q' q B hK=>?_
 refine exS3 ss q fun n es fs q1_=>?_
 have l1:=q1_.1
 have l2:=q1_.2.1
 have hP:=q1_.2.2.1
 have k:=q1_.2.2.2
 clear q1_ q
 show EvS B _ _ [some (.st (webD n es)),some (.st (.list (fs.map prD))),none,none,none]
 row_cond go
 refine ⟨n,_,rfl,fun ds e=>by cases e;rw [List.length_map];omega,?_⟩
 row_cond go
 have ht:afh n (.list (fs.map prD))=true:=by
  show ((fs.map prD).all (aci n))=true
  rw [List.all_map,List.all_eq_true]
  intro p hp
  have:=hP.inn p hp
  simp [aci,prD];omega
 rw [ht]
 row_cond go
 refine ajf (ps:=es ++ fs) ?_
 row_cond go
 rw [← List.map_append]
 refine ⟨rfl,fun qs hp hs=>?_⟩
 have hr:Rise qs:=anu hp hP.nd hs
 refine aat ?_
 dsimp only [List.set_cons_zero,List.set_cons_succ]
 try refine' anm (by assumption) ?_
 refine anj (apy (ani (ae9 (ass (.inl rfl) (anf ⟨_,_,.inl rfl,acf,qs,rfl,by rw [hp.length_eq,List.length_append];omega,fun b hb=>?_⟩)))))
 row_cond go
 rw [hb.mpr hr]
 row_cond go
 exact k qs hr hp
end
structure FreeOk (n:Int) (es fs:List (Int × Int)):Prop where
 inn:∀ p∈fs,0<=p.1/\p.1 < p.2/\p.2 < n
 out:∀ p∈fs,p ∉ es
 rise:Rise fs
theorem FreeOk.nil {n:Int} {es:List (Int × Int)}:FreeOk n es []:=⟨fun p h=>by simp at h,fun p h=>by simp at h,List.Pairwise.nil⟩
theorem FreeOk.snoc {n:Int} {es fs:List (Int × Int)} {a b:Int} (h:FreeOk n es fs) (h0:0<=a) (h1:a < b) (h2:b < n) (h3:(a,b) ∉ es) (h4:∀ p∈fs,ltP p (a,b)):FreeOk n es (fs ++ [(a,b)]) :=
 ⟨fun p hp=>by
  rcases List.mem_append.mp hp with hp | hp
  ·exact h.inn p hp
  ·have:p=(a,b):=by simpa using hp
   subst this;exact ⟨h0,h1,h2⟩,
  fun p hp=>by
   rcases List.mem_append.mp hp with hp | hp
   ·exact h.out p hp
   ·have:p=(a,b):=by simpa using hp
    subst this;exact h3,
  List.pairwise_append.mpr ⟨h.rise,List.pairwise_singleton _ _,fun p hp q hq=>by
   have:q=(a,b):=by simpa using hq
   subst this;exact h4 p hp⟩⟩
theorem FreeOk.len {n:Int} {es fs:List (Int × Int)} (h:FreeOk n es fs) (h1:n<=60):fs.length<=10000:=PsOk.len ⟨h.rise.nodup,h.inn⟩ (by omega)
theorem aq5 {p:Int × Int} {a b c:Int} (h:ltP p (a,b)) (hc:b<=c):ltP p (a,c):=by
 unfold ltP at *
 simp only at *
 omega
theorem av3 (fs:List (Int × Int)) (a b:Int):fs.map prD ++ [.tuple [.int a,.int b]]=(fs ++ [(a,b)]).map prD:=by simp [prD]
def ax7:VP:=fun ss Q=>∃ (n:Int) (es:List (Int × Int)),ss=[.st (webD n es)]/\0<=n/\n<=60/\∀ fs,FreeOk n es fs->Q (.own (OL (fs.map prD)))
section
variable {P:Program} {w:World} {K:Frag} {mg:Str->Option Value} {base:Heap}
theorem sc_law_free:FnScope ["web","found","a","b"] ["web"] (aai s_law_free):=by row_cond sc
theorem al6 (T:Txt K mg):Can P w K mg base "_law_free" 1 ["web"] (spP K (ax7)):=by
 obtain ⟨f,fd,D⟩:=T.d_law_free
 refine D.can (D.fn.ok sc_law_free (fun vs H Q E h=>lenP h fun ss Q' q=>by obtain ⟨n,es,rfl,hn0,hn,k⟩:=q;rfl) (fun cdv A outer s H vs Q E hr h=>?_))
 have nd:=sc_law_free.nd
 refine ⟨_,(aad (aao (i:=1) nd rfl (Or.inl rfl) (abt aab))
  (aad (abo PassesOwn.never rfl (aa7 rfl T.b_range (aaa (aap aaq (pv 0) aac (fun _ _=>rfl)) aab)) (aak (i:=2) nd rfl (Or.inl rfl))
   (aaf (abo PassesOwn.never rfl (afq rfl T.b_range (aaa (aae aar (pv 2) aac) (aaa (aap aaq (pv 0) aac (fun _ _=>rfl)) aab))) (aak (i:=3) nd rfl (Or.inl rfl))
     (aaf (abc (aa3 (ai4 hr.units) (ab2 (aaa (pv 2) (aaa (pv 3) aab))) (aap aaq (pv 0) aac (fun _ _=>rfl)) rfl)
       (aaf (aba (acj PySem.F.plainAttrs_list PySem.F.slot_list_append PySem.F.type_list_append abb (pv 1) (aaa (ab2 (aaa (pv 2) (aaa (pv 3) aab))) aab))))
       aa5)))))
  (aaf (aas (pv 1))))),?_⟩
 refine aa4 h fun ss Q' q B hK=>?_
 refine exS2 ss q fun n es q1_=>?_
 have hn0:=q1_.1
 have hn:=q1_.2.1
 have k:=q1_.2.2
 clear q1_ q
 show EvS B _ _ [some (.st (webD n es)),none,none,none]
 row_cond go
 refine abr (fun i e=>∃ v2 v3 fs,e=[some (.st (webD n es)),some (.own (OL (fs.map prD))),v2,v3]/\FreeOk n es fs/\∀ p∈fs,p.1 < (i:Int)) ⟨none,none,[],rfl,FreeOk.nil,fun p hp=>by simp at hp⟩ ?_ ?_
 ·rintro i e hi q0_
  refine exS3 e q0_ fun v2 v3 fs q1_=>?_
  have hF:=q1_.1
  have hlt:=q1_.2
  clear q1_ q0_
  have hi1:0+(i:Int) < n:=by omega
  row_cond go
  refine abr (fun j e=>∃ v3 fs,e=[some (.st (webD n es)),some (.own (OL (fs.map prD))),some (.st (.int (0+(i:Int)))),v3]/\FreeOk n es fs/\∀ p∈fs,ltP p (0+(i:Int),0+(i:Int)+1+j)) ⟨_,fs,rfl,hF,fun p hp => .inl (by have:=hlt p hp;simp only;omega)⟩ ?_ ?_
  ·clear hF hlt fs v3
   rintro j e hj q0_
   refine exS2 e q0_ fun v3 fs q1_=>?_
   have hF:=q1_.1
   have hlt:=q1_.2
   clear q1_ q0_
   have hj1:0+(i:Int)+1+(j:Int) < n:=by omega
   row_cond go
   refine ann (aqj (_,_)) (aos es) (Nat.le_trans (aqk (_,_)) (by decide)) ?_
   row_cond go
   rw [if_pos rfl,show PyData.tuple [PyData.int (0+(i:Int)),PyData.int (0+(i:Int)+1+(j:Int))]=prD (0+(i:Int),0+(i:Int)+1+(j:Int)) from rfl,avo]
   have hFl:=hF.len hn
   by_cases hm:(0+(i:Int),0+(i:Int)+1+(j:Int))∈es
   ·rw [decide_eq_true hm]
    row_cond go
    exact ⟨_,fs,rfl,hF,fun p hp=>aq5 (hlt p hp) (by push_cast;omega)⟩
   ·rw [decide_eq_false hm]
    row_cond go
    rw [av3]
    refine ⟨_,_,rfl,hF.snoc (by omega) (by omega) hj1 hm hlt,fun p hp=>?_⟩
    rcases List.mem_append.mp hp with hp | hp
    ·exact aq5 (hlt p hp) (by push_cast;omega)
    ·have:p=(0+(i:Int),0+(i:Int)+1+(j:Int)):=by simpa using hp
     subst this;exact .inr ⟨rfl,by simp only;push_cast;omega⟩
  ·rintro e q0_
   refine exS2 e q0_ fun v3 fs q1_=>?_
   have hF:=q1_.1
   have hlt:=q1_.2
   clear q1_ q0_
   exact ⟨_,_,fs,rfl,hF,fun p hp=>by have:=hlt p hp;have:=hF.inn p hp;simp only [ltP] at *;push_cast;omega⟩
 ·rintro e q0_
  refine exS3 e q0_ fun v2 v3 fs q1_=>?_
  have hF:=q1_.1
  have hlt:=q1_.2
  clear q1_ q0_
  row_cond go
  exact k fs hF
end
structure FarOk (n:Int) (es:List (Int × Int)) (x a b:Int):Prop where
 top:ahw n.toNat (dsF es) x
 a0:0<=a
 a1:a < n
 b0:0<=b
 b1:b < n
 eq:dsF es a b=x
 fst:∀ u v:Int,0<=u->u < n->0<=v->v < n->dsF es u v=x->a < u\/(a=u/\b<=v)
def aoz:VP:=fun ss Q=>∃ (n:Int) (es:List (Int × Int)),ss=[.st (webD n es)]/\1<=n/\n<=100/\InN n es/\es.length<=10000/\Joined n es/\∀ x a b,FarOk n es x a b->Q (.st (.tuple [.int x,.int a,.int b]))
theorem al7 {ns:List Int} {k:Int} (h:k∈ns):∃ j:Nat,ns[j]?=some k/\∀ m:Nat,m < j->ns[m]? ≠ some k:=by
 induction ns with
 | nil=>simp at h
 | cons n ns ih =>
  by_cases e:n=k
  ·exact ⟨0,by rw [e];rfl,fun m hm=>by omega⟩
  ·obtain ⟨j,h1,h2⟩:=ih ((List.mem_cons.mp h).resolve_left fun z=>e z.symm)
   refine ⟨j+1,h1,fun m hm=>?_⟩
   cases m with
   | zero=>simpa using e
   | succ m=>exact h2 m (by omega)
section
variable {P:Program} {w:World} {K:Frag} {mg:Str->Option Value} {base:Heap}
theorem sc_farthest_two:FnScope ["web","rows","far","a"] ["web"] (aai s_farthest_two):=by row_cond sc
theorem ag6 (T:Txt K mg):Can P w K mg base "farthest_two" 9 ["web"] (spP K (aoz)):=by
 obtain ⟨f,fd,D⟩:=T.d_farthest_two
 refine D.can (D.fn.ok sc_farthest_two (fun vs H Q E h=>lenP h fun ss Q' q=>by obtain ⟨n,es,rfl,n0,n1,hin,hle,hJ,k⟩:=q;rfl) (fun cdv A outer s H vs Q E hr h=>?_))
 have nd:=sc_farthest_two.nd
 refine ⟨_,(aad (aao (i:=1) nd rfl (Or.inl rfl) (aah (aek T) hr (aaa (pv 0) aab)))
  (aad (aao (i:=2) nd rfl (Or.inl rfl) (aah (af4 T) hr (aaa (pv 1) aab)))
  (aad (aao (i:=3) nd rfl (Or.inl rfl) (acj PySem.F.plainAttrs_list PySem.F.slot_list_index PySem.F.type_list_index alz (adf rfl (N:=["row"]) (src:=[none]) (by exact abf rfl rfl rfl rfl rfl rfl) (abj (pv 1)) (fun _ _ _ _=>(aak (i:=0) (show List.Nodup (["row"]:List Str) by decide +kernel) rfl (Or.inl rfl) (hf:=Or.inr rfl))) (fun _ _ _ _=>abe) (fun _ _ _ _=>(aal (show abg _ (.builtin "max") (ahi K) from (afy rfl)) (by rfl) T.b_max afv (aaa (pv 0) aab)))) (aaa (pv 2) aab)))
  (aaf (aas (ab2 (aaa (pv 2) (aaa (pv 3) (aaa (acj PySem.F.plainAttrs_list PySem.F.slot_list_index PySem.F.type_list_index alz (aap aaq (pv 1) (pv 3) (fun _ _=>rfl)) (aaa (pv 2) aab)) aab))))))))),?_⟩
 refine aa4 h fun ss Q' q B hK=>?_
 refine exS2 ss q fun n es q1_=>?_
 have n0:=q1_.1
 have n1:=q1_.2.1
 have hin:=q1_.2.2.1
 have hle:=q1_.2.2.2.1
 have hJ:=q1_.2.2.2.2.1
 have k:=q1_.2.2.2.2.2
 clear q1_ q
 show EvS B _ _ [some (.st (webD n es)),none,none,none]
 have hn:1<=n.toNat:=by omega
 obtain ⟨mx,hmx⟩:=an1 hn (dsF es)
 row_cond go
 refine ⟨n,es,rfl,n0,n1,hin,hle,hJ,aea acf ?_⟩
 row_cond go
 refine ⟨n.toNat,dsF es,rfl,hn,by omega,fun x hx=>?_⟩
 have hxm:x∈(List.range n.toNat).map mx:=by
  obtain ⟨⟨u,v,u0,u1,v0,v1,e⟩,g⟩:=hx
  refine List.mem_map.mpr ⟨u.toNat,List.mem_range.mpr (by omega),?_⟩
  have h1:=(hmx u.toNat).2 (dsF es ((u.toNat:Nat):Int) ((v.toNat:Nat):Int)) (List.mem_map.mpr ⟨v.toNat,List.mem_range.mpr (by omega),rfl⟩)
  rw [show ((u.toNat:Nat):Int)=u by omega,show ((v.toNat:Nat):Int)=v by omega,e] at h1
  obtain ⟨j,hj,e2⟩:=List.mem_map.mp (hmx u.toNat).1
  have:=g u j u0 u1 (by omega) (by have:=List.mem_range.mp hj;omega)
  rw [show ((u.toNat:Nat):Int)=u by omega] at e2
  omega
 obtain ⟨a,ha,hfa⟩:=al7 hxm
 have hal:a < n.toNat:=by have:=(List.getElem?_eq_some_iff.mp ha).1;simpa using this
 have hax:mx a=x:=by
  rw [List.getElem?_map,List.getElem?_range hal] at ha
  simpa using ha
 have hbm:x∈(List.range n.toNat).map fun (i:Nat)=>dsF es (a:Int) (i:Int):=by rw [← hax];exact (hmx a).1
 obtain ⟨b,hb,hfb⟩:=al7 hbm
 have hbl:b < n.toNat:=by have:=(List.getElem?_eq_some_iff.mp hb).1;simpa using this
 have hbx:dsF es (a:Int) (b:Int)=x:=by
  rw [List.getElem?_map,List.getElem?_range hbl] at hb
  simpa using hb
 have hrow:atI (matD n.toNat (dsF es)) (a:Int)=some (.list (rowD n.toNat (dsF es (a:Int)))):=al0 (by omega) (by omega)
 row_cond go
 unfold matD
 refine aej (fun u:Nat => .int (mx u)) rfl (by simp;omega) (fun u hu B' hB=>?_) ?_
 ·row_cond go
  rw [ag2]
  exact ag0 (by simp;omega) fun x hx=>⟨by rw [al1 hx (hmx u)],rfl⟩
 ·refine ⟨(List.range n.toNat).map mx,by rw [List.map_map];rfl,?_⟩
  row_cond go
  refine ⟨x,a,rfl,ha,hfa,?_⟩
  row_cond go
  refine ⟨(List.range n.toNat).map fun (i:Nat)=>dsF es (a:Int) (i:Int),by rw [ag2],?_⟩
  row_cond go
  refine ⟨x,b,rfl,hb,hfb,?_⟩
  row_cond go
  refine k x a b ⟨hx,by omega,by omega,by omega,by omega,hbx,fun u v u0 u1 v0 v1 e=>?_⟩
  have hu:(a:Int)<=u:=by
   apply Classical.byContradiction
   intro hlt
   refine hfa u.toNat (by omega) ?_
   rw [List.getElem?_map,List.getElem?_range (by omega)]
   have h1:=(hmx u.toNat).2 (dsF es ((u.toNat:Nat):Int) ((v.toNat:Nat):Int)) (List.mem_map.mpr ⟨v.toNat,List.mem_range.mpr (by omega),rfl⟩)
   rw [show ((u.toNat:Nat):Int)=u by omega,show ((v.toNat:Nat):Int)=v by omega,e] at h1
   obtain ⟨j,hj,e2⟩:=List.mem_map.mp (hmx u.toNat).1
   have:=hx.2 u j u0 (by omega) (by omega) (by have:=List.mem_range.mp hj;omega)
   rw [show ((u.toNat:Nat):Int)=u by omega] at e2
   simp only [Option.map_some,Option.some.injEq]
   omega
  by_cases hau:(a:Int) < u
  ·exact .inl hau
  ·refine .inr ⟨by omega,?_⟩
   apply Classical.byContradiction
   intro hlt
   refine hfb v.toNat (by omega) ?_
   rw [List.getElem?_map,List.getElem?_range (by omega)]
   simp only [Option.map_some,Option.some.injEq]
   rw [show ((v.toNat:Nat):Int)=v by omega,show (a:Int)=u by omega]
   exact e
end
def ao0 (K:Frag):Sp:=fun vs H Q _=>∃ (a:Addr) (ns:List Int),vs=[.ref a]/\SqL K H a (ns.map V.int)/\ns.length<=63/\∀ H',Q (.bl true) H'
def aty:VP:=fun ss Q=>∃ ns:List Int,ss=[.scr ns]/\ns.length<=63/\Q (.st (.bool true))
theorem atc {K:Frag} {vs:List V} {H:Hp} {Q:VK} {E:XK} (h:ao0 K vs H Q E):spP K aty vs H Q E:=by
 obtain ⟨a,ns,rfl,hS,hl,k⟩:=h
 refine ⟨H,[.scr ns],fun s=>s=.st (.bool true),Same.refl _,fun a ks h=>h,.cons ⟨a,rfl,hS⟩ .nil,⟨ns,rfl,hl,rfl⟩,fun s e v G' H' Fv o=>?_⟩
 subst e
 have r:=o.ok.1
 cases r
 exact k _
theorem afi {n k r:Int} {es:List (Int × Int)} {ps:List Int} (hr:ps.Pairwise (· < ·)):ShowOk n es k r ps ↔ 0<=k/\0<=r/\2 * k+2<=ps.length/\Far n es (2 * r+1) ps:=by
 constructor
 ·intro h
  refine ⟨h.k0,h.r0,h.len,hr.imp fun {a b} hab e=>by omega,h.inn,fun a ha c hc hac=>?_⟩
  rcases Int.lt_or_gt_of_ne hac with hlt | hlt
  ·exact h.far a ha c hc hlt
  ·rw [aff];exact h.far c hc a ha hlt
 ·rintro ⟨k0,r0,hl,hF⟩
  exact ⟨k0,r0,hl,hF.2.1,hr,fun a ha c hc hac=>hF.2.2 a ha c hc (by omega)⟩
theorem aq6 {n k r:Int} {es:List (Int × Int)} {ps:List Int} (k0:0<=k) (h:StayOk n es k (some (r,ps))):0<=r/\ps.Pairwise (· < ·)/\(ps.length:Int)=2 * k+2/\Far n es (2 * r+1) ps:=by
 have hm:ps∈adr n es k r:=List.mem_of_mem_head? h.2.1
 obtain ⟨hA,hl⟩:=(ab7 _ ps).mp hm
 exact ⟨h.1,hA.rise,by omega,aq3 hA⟩
theorem al8 {n k r r2:Int} {es:List (Int × Int)} {ps qs:List Int} (k0:0<=k) (h:StayOk n es k (some (r,ps))) (hS:ShowOk n es k r2 qs):r2<=r:=by
 obtain ⟨_,_,hl,hF⟩:=(afi hS.rise).mp hS
 have hs:=(aji (n:=n) (es:=es) (r:=r2) k0).mpr ⟨qs.take (2 * k+2).toNat,⟨hF.1.sublist (List.take_sublist _ _),fun x hx=>hF.2.1 x (List.mem_of_mem_take hx),fun a ha c hc hac=>hF.2.2 a (List.mem_of_mem_take ha) c (List.mem_of_mem_take hc) hac⟩,by rw [List.length_take];omega⟩
 apply Classical.byContradiction
 intro hlt
 exact hs (h.2.2 r2 (by simp only;omega))
theorem aq7 {n k:Int} {es:List (Int × Int)} (k0:0<=k) (hJ:Joined n es) (h:StayOk n es k none):n < 2 * k+2:=by
 apply Classical.byContradiction
 intro hlt
 refine (aji (n:=n) (es:=es) (r:=0) k0).mpr ⟨(List.range (2 * k+2).toNat).map fun (i:Nat)=>(i:Int),⟨(Order.id (2 * k+2)).nodup,fun x hx=>?_,fun a ha c hc hac=>?_⟩,by rw [List.length_map,List.length_range];omega⟩ (h 0 (by omega))
 ·have:=(Order.id (2 * k+2)).mem.mp hx
  omega
 ·have h1:=(Order.id (2 * k+2)).mem.mp ha
  have h2:=(Order.id (2 * k+2)).mem.mp hc
  obtain ⟨d0,hd⟩:=acm hJ (u:=a) (v:=c) (by omega) (by omega) (by omega) (by omega)
  apply Classical.byContradiction
  intro hz
  rw [show (dsF es a c).toNat=0 by omega] at hd
  cases hd.1
  exact hac rfl
theorem atd {n r:Int} {es:List (Int × Int)} {ps:List Int} (hJ:Joined n es) (hin:InN n es) (hl:2<=ps.length) (h:Far n es (2 * r+1) ps):r < n:=by
 match ps,hl with
 | a :: c :: t,_ =>
  have hac:a ≠ c:=fun e=>by
   have:=h.1
   rw [List.nodup_cons] at this
   exact this.1 (by rw [e];simp)
  have h1:=h.2.1 a (by simp)
  have h2:=h.2.1 c (by simp)
  have:=h.2.2 a (by simp) c (by simp) hac
  have:=aqz hJ hin h1.1 h1.2 h2.1 h2.2
  omega
def PutW (n:Int) (es:List (Int × Int)) (k:Int) (qs:List (Int × Int)):Prop:=∃ gs:List (Int × Int),InN n gs/\(gs.length:Int)<=k/\qs.Perm (es ++ gs)
theorem al9 {n k r m:Int} {es qs:List (Int × Int)} {ps:List Int} (hJ:Joined n es) (hin:InN n es) (hP:PutW n es k qs) (hS:ShowOk n es k r ps) (hm:ahw n.toNat (dsF qs) m):2 * r+1<=m:=by
 obtain ⟨gs,hgs,hgl,hq⟩:=hP
 obtain ⟨_,_,hl,hF⟩:=(afi hS.rise).mp hS
 obtain ⟨a,ha,c,hc,hf⟩:=aq2 hJ hin hgs hS.r0 hF.1 hF.2.1 hF.2.2 (by omega)
 rw [← as7 (es:=qs) (gs:=es ++ gs) fun u v=>or_congr hq.mem_iff hq.mem_iff] at hf
 have h1:=hF.2.1 a ha
 have h2:=hF.2.1 c hc
 have:=hm.2 a c h1.1 (by omega) h2.1 (by omega)
 omega
theorem ax8 (ns:List Int):aav (.list (ns.map .int))=true:=(aeu _).mpr fun d hd=>by
 obtain ⟨x,_,rfl⟩:=List.mem_map.mp hd
 rfl
theorem ate (ns:List Int):(PyData.list (ns.map PyData.int)).depth<=60:=by
 have h:PyData.depthAll (ns.map PyData.int)<=1:=amk fun d hd=>by
  obtain ⟨x,_,rfl⟩:=List.mem_map.mp hd
  simp [PyData.depth]
 simp only [PyData.depth]
 omega
def azd:VP:=fun ss Q=>∃ (ds:List Int) (spot n k:Int) (es:List (Int × Int)),ss=[.st (.list (ds.map .int)),.st (.int spot),.st (webD n es),.st (.int k)]/\WebOk n es/\n<=12/\Joined n es/\DrawsOk ds/\0<=spot/\spot+10<=ds.length/\ds.length<=3000/\0<=k/\k<=5/\∀ qs,PutW n es k qs->InN n qs->qs.length<=8000->Q (.own (OW (.int n) (qs.map prD)))
def atf:VP:=fun ss Q=>∃ (n far begin:Int) (es:List (Int × Int)),ss=[.st (webD n es),.st (.int far),.st (.int begin)]/\WebOk n es/\Joined n es/\0<=begin/\begin < 10007/\∀ ps:List Int,ps.length<=60->Q (.own (OL (ps.map .int)))
section
variable {P:Program} {w:World} {K:Frag} {mg:Str->Option Value} {base:Heap}
theorem sc_law_put:FnScope ["d","spot","web","k","left","some","j"] ["d","spot","web","k"] (aai s_law_put):=by row_cond sc
theorem amq (T:Txt K mg):Can P w K mg base "_law_put" 7 ["d","spot","web","k"] (spP K (azd)):=by
 obtain ⟨f,fd,D⟩:=T.d_law_put
 refine D.can (D.fn.ok sc_law_put (fun vs H Q E h=>lenP h fun ss Q' q=>by obtain ⟨ds,spot,n,k,es,rfl,hW,hn12,hJ,hD,s0,s1,hl,k0,k5,kk⟩:=q;rfl) (fun cdv A outer s H vs Q E hr h=>?_))
 have nd:=sc_law_put.nd
 refine ⟨_,(aad (aao (i:=4) nd rfl (Or.inl rfl) (aah (al6 T) hr (aaa (pv 2) aab)))
  (aad (aao (i:=5) nd rfl (Or.inl rfl) (abt aab))
  (aad (abo PassesOwn.never rfl (aa7 rfl T.b_range (aaa (aal (ae4 rfl) (by rfl) T.b_min ahc (aaa (pv 3) (aaa (aal aa9 (by rfl) T.b_len ab5 (aaa (pv 4) aab)) aab))) aab)) (aak (i:=6) nd rfl (Or.inl rfl))
   (aaf (aba (acj PySem.F.plainAttrs_list PySem.F.slot_list_append PySem.F.type_list_append abb (pv 5) (aaa (acj PySem.F.plainAttrs_list PySem.F.slot_list_pop PySem.F.type_list_pop akv (pv 4) (aaa (aae aax (aae aar (aap aaq (pv 0) (aae aar (pv 1) (pv 6)) (fun _ _=>rfl)) (pv 1)) (aal aa9 (by rfl) T.b_len ab5 (aaa (pv 4) aab))) aab)) aab)))))
  (aaf (aas (aah (aj7 T) hr (aaa (pv 2) (aaa (pv 5) aab)))))))),?_⟩
 refine aa4 h fun ss Q' q B hK=>?_
 refine exS5 ss q fun ds spot n k es q1_=>?_
 have hW:=q1_.1
 have hn12:=q1_.2.1
 have hJ:=q1_.2.2.1
 have hD:=q1_.2.2.2.1
 have s0:=q1_.2.2.2.2.1
 have s1:=q1_.2.2.2.2.2.1
 have hl:=q1_.2.2.2.2.2.2.1
 have k0:=q1_.2.2.2.2.2.2.2.1
 have k5:=q1_.2.2.2.2.2.2.2.2.1
 have kk:=q1_.2.2.2.2.2.2.2.2.2
 clear q1_ q
 show EvS B _ _ [some (.st (.list (ds.map .int))),some (.st (.int spot)),some (.st (webD n es)),some (.st (.int k)),none,none,none]
 have hn0:=hW.lo
 have hel:=hW.len
 row_cond go
 refine ⟨n,es,rfl,by omega,by omega,fun fs hF=>?_⟩
 have hfl:=hF.len (by omega)
 row_cond go
 rw [List.length_map]
 refine abr (fun i e=>∃ gs left v6,e=[some (.st (.list (ds.map .int))),some (.st (.int spot)),some (.st (webD n es)),some (.st (.int k)),some (.own (OL (left.map prD))),some (.own (OL (gs.map prD))),v6]/\(gs ++ left).Perm fs/\gs.length=i) ⟨[],fs,none,rfl,List.Perm.refl _,rfl⟩ ?_ ?_
 ·rintro i e hi q0_
  refine exS3 e q0_ fun gs left v6 q1_=>?_
  have hp:=q1_.1
  have hgl:=q1_.2
  clear q1_ q0_
  have hi2:(i:Int) < k/\i < fs.length:=by
   revert hi
   split <;> omega
  have hll:left.length=fs.length - i:=by have:=hp.length_eq;simp at this;omega
  obtain ⟨x,ax,xl,xh⟩:=hD.at (i:=spot+(0+(i:Int))) (by omega) (by omega)
  row_cond go
  rw [List.length_map]
  have q0:=Int.emod_nonneg (x+spot) (show (left.length:Int) ≠ 0 by omega)
  have q1:=Int.emod_lt_of_pos (x+spot) (show 0 < (left.length:Int) by omega)
  row_cond go
  (generalize (x+spot) % (left.length:Int)=j at q0 q1)
  obtain ⟨p,hpj⟩:∃ p,left[j.toNat]?=some p:=⟨_,List.getElem?_eq_getElem (show j.toNat < left.length by omega)⟩
  refine ⟨_,left.map prD,j,j.toNat,prD p,rfl,rfl,.inl rfl,by omega,by omega,aq4 q0 (by rw [List.length_map];exact q1),by rw [List.getElem?_map,hpj];rfl,?_⟩
  rw [af6]
  dsimp only [List.set_cons_zero,List.set_cons_succ,reS]
  row_cond go
  refine ⟨_,rfl,by rw [List.length_map];omega,gs ++ [p],left.eraseIdx j.toNat,_,by rw [List.map_append];rfl,?_,by simp;omega⟩
  refine List.Perm.trans ?_ hp
  rw [List.append_assoc]
  exact List.Perm.append_left gs (afd hpj)
 ·rintro e q0_
  refine exS3 e q0_ fun gs left v6 q1_=>?_
  have hp:=q1_.1
  have hgl:=q1_.2
  clear q1_ q0_
  have hgk:(gs.length:Int)<=k:=by
   rw [hgl]
   split <;> omega
  have hsub:∀ p∈gs,p∈fs:=fun p h=>hp.mem_iff.mp (List.mem_append.mpr (.inl h))
  have hgn:gs.Nodup:=(List.nodup_append.mp (hp.nodup_iff.mpr hF.rise.nodup)).1
  have hgi:InN n gs:=fun p h=>by have:=hF.inn p (hsub p h);exact ⟨by omega,by omega,by omega,by omega⟩
  row_cond go
  refine ⟨n,es,gs,rfl,by omega,by omega,⟨fun p h=>hF.inn p (hsub p h),List.nodup_append.mpr ⟨hW.ps.nd,hgn,fun x hx y hy e=>hF.out y (hsub y hy) (e ▸ hx)⟩⟩,fun qs hr hq=>?_⟩
  refine kk qs ⟨gs,hgi,hgk,hq⟩ (fun p h=>?_) (by rw [hq.length_eq,List.length_append];omega)
  rcases List.mem_append.mp (hq.mem_iff.mp h) with z | z
  ·exact hW.in p z
  ·exact hgi p z
theorem sc_law_chosen:FnScope ["web","far","begin","found","j","place"] ["web","far","begin"] (aai s_law_chosen):=by row_cond sc
theorem ais (T:Txt K mg):Can P w K mg base "_law_chosen" 7 ["web","far","begin"] (spP K (atf)):=by
 obtain ⟨f,fd,D⟩:=T.d_law_chosen
 refine D.can (D.fn.ok sc_law_chosen (fun vs H Q E h=>lenP h fun ss Q' q=>by obtain ⟨n,far,begin,es,rfl,hW,hJ,b0,b1,kk⟩:=q;rfl) (fun cdv A outer s H vs Q E hr h=>?_))
 have nd:=sc_law_chosen.nd
 refine ⟨_,(aad (aao (i:=3) nd rfl (Or.inl rfl) (abt aab))
  (aad (abo PassesOwn.never rfl (aa7 rfl T.b_range (aaa (aap aaq (pv 0) aac (fun _ _=>rfl)) aab)) (aak (i:=4) nd rfl (Or.inl rfl))
   (aad (aao (i:=5) nd rfl (Or.inr rfl) (aae aax (aae aar (pv 2) (pv 4)) (aap aaq (pv 0) aac (fun _ _=>rfl))))
    (aaf (abc (aa3 (awv hr.units) (adf rfl (N:=["other","far","web","place"]) (src:=[none,some 1,some 0,some 5]) (by exact abf rfl rfl rfl rfl rfl rfl) (abj (pv 3)) (fun _ _ _ _=>(aak (i:=0) (show List.Nodup (["other","far","web","place"]:List Str) by decide +kernel) rfl (Or.inl rfl) (hf:=Or.inr rfl))) (fun _ _ _ _=>ah2 (aa3 acn (aah (amm T) hr (aaa (pv 2) (aaa (pv 3) (aaa (pv 0) aab)))) (pv 1) (aaz _))) (fun _ _ _ _=>(pv 0))) (abt aab) (aaz _))
     (aaf (aba (acj PySem.F.plainAttrs_list PySem.F.slot_list_append PySem.F.type_list_append abb (pv 3) (aaa (pv 5) aab))))
     aa5))))
  (aaf (aas (aal ahg (by rfl) T.b_sorted aeo (aaa (pv 3) aab)))))),?_⟩
 refine aa4 h fun ss Q' q B hK=>?_
 refine exS4 ss q fun n far begin es q1_=>?_
 have hW:=q1_.1
 have hJ:=q1_.2.1
 have b0:=q1_.2.2.1
 have b1:=q1_.2.2.2.1
 have kk:=q1_.2.2.2.2
 clear q1_ q
 show EvS B _ _ [some (.st (webD n es)),some (.st (.int far)),some (.st (.int begin)),none,none,none]
 have hn0:=hW.lo
 have hn6:=hW.hi
 have hel:=hW.len
 have hin:=hW.in
 row_cond go
 refine abr (fun i e=>∃ found v4 v5,e=[some (.st (webD n es)),some (.st (.int far)),some (.st (.int begin)),some (.own (OL (found.map .int))),v4,v5]/\found.length<=i/\∀ x∈found,0<=x/\x < n) ⟨[],none,none,rfl,Nat.le_refl _,fun x h=>absurd h List.not_mem_nil⟩ ?_ ?_
 ·rintro i e hi q0_
  refine exS3 e q0_ fun found v4 v5 q1_=>?_
  have hfl:=q1_.1
  have hfi:=q1_.2
  clear q1_ q0_
  have q0:=Int.emod_nonneg (begin+(0+(i:Int))) (show n ≠ 0 by omega)
  have q1:=Int.emod_lt_of_pos (begin+(0+(i:Int))) (show 0 < n by omega)
  repeat (first | (refine ae9 (aqs (i:=3) (.inl rfl) acf fun B' hB=>?_)) | row_cond st)
  (generalize hp:(begin+(0+(i:Int))) % n=place at q0 q1)
  refine aqr (xs:=found) (f:=PyData.int) PyData.int (fun o=>decide (dsF es place o < far)) rfl (by omega) (fun o ho B' hB=>?_) ?_
  ·have ho2:=hfi o ho
   obtain ⟨d,hd,ed⟩:∃ d:Nat,Gr.farO (Tied es) place o=some d/\dsF es place o=(d:Int):=by
    obtain ⟨d,e⟩:=ad5 hJ q0 q1 ho2.1 ho2.2
    exact ⟨d,e,by simp only [dsF,e,Option.getD_some]⟩
   row_cond go
   refine ⟨n,place,o,es,rfl,by omega,hin,by omega,q0,by omega,ho2.1,by omega,?_⟩
   rw [hd,show oD (some d)=PyData.int (d:Int) from rfl]
   row_cond go
   refine ⟨by rw [ed],rfl,fun _=>?_⟩
   row_cond go
   exact rfl
  ·row_cond go
   refine auw (ax8 _) rfl (ate _) ?_
   generalize (found.filter fun o=>decide (dsF es place o < far))=ys
   cases ys with
   | nil =>
    rw [show PyData.eqv (.list (List.map PyData.int [])) (.list [])=true from rfl]
    row_cond go
    refine ⟨found ++ [place],_,_,by rw [List.map_append];rfl,by simp;omega,fun x hx=>?_⟩
    rcases List.mem_append.mp hx with z | z
    ·exact hfi x z
    ·cases List.mem_singleton.mp z
     exact ⟨q0,q1⟩
   | cons y ys =>
    rw [show PyData.eqv (.list (List.map PyData.int (y :: ys))) (.list [])=false from rfl]
    row_cond go
    exact ⟨found,_,_,rfl,by omega,hfi⟩
 ·rintro e q0_
  refine exS3 e q0_ fun found v4 v5 q1_=>?_
  have hfl:=q1_.1
  have hfi:=q1_.2
  clear q1_ q0_
  repeat (first | (refine ajd ?_) | row_cond st)
  exact ⟨found,rfl,by omega,fun ms hp _=>kk ms (by rw [hp.length_eq];omega)⟩
theorem sc_law:FnScope ["script","d","web","k","put","least","told","j","paper"] ["script"] (aai s_law):=by row_cond sc
theorem av4 (T:Txt K mg) {f:Addr} {fd:FuncData} (D:DefAt K mg "law" s_law ["script"] f fd):FnOk P w K mg base CX0 12 f fd ["script"] (spP K (aty)):=by
 refine D.fn.ok sc_law (fun vs H Q E h=>lenP h fun ss Q' q=>by obtain ⟨ns,rfl,hns,kk⟩:=q;rfl) (fun cdv A outer s H vs Q E hr h=>?_)
 have nd:=sc_law.nd
 refine ⟨_,(aad (aao (i:=1) nd rfl (Or.inr rfl) (aah (aj6 T) hr (aaa (pv 0) (aaa aac aab))))
  (aad (aao (i:=2) nd rfl (Or.inr rfl) (aah (amp T) hr (aaa (pv 1) (aaa aac (aaa aac aab)))))
  (aad (aao (i:=3) nd rfl (Or.inr rfl) (aae aax (aap aaq (pv 1) aac (fun _ _=>rfl)) aac))
  (aad (ags (i:=4) nd rfl (Or.inl rfl) rfl (N:=["j","d","web","k"]) (src:=[none,some 1,some 2,some 3]) (by exact abf rfl rfl rfl rfl rfl rfl) (aa7 rfl T.b_range (aaa aac aab)) (fun _ _ _ _=>(aak (i:=0) (show List.Nodup (["j","d","web","k"]:List Str) by decide +kernel) rfl (Or.inl rfl) (hf:=Or.inr rfl))) (fun _ _ _ _=>abe) (fun _ _ _ _=>(aah (amq T) hr (aaa (pv 1) (aaa (aae aar aac (aae abp aac (pv 0))) (aaa (pv 2) (aaa (pv 3) aab)))))))
  (aad (aao (i:=5) nd rfl (Or.inl rfl) (aal (apw rfl) (by rfl) T.b_min ahc (aaa (adf rfl (N:=["one"]) (src:=[none]) (by exact abf rfl rfl rfl rfl rfl rfl) (abj (pv 4)) (fun _ _ _ _=>(aak (i:=0) (show List.Nodup (["one"]:List Str) by decide +kernel) rfl (Or.inl rfl) (hf:=Or.inr rfl))) (fun _ _ _ _=>abe) (fun _ _ _ _=>(aap (show IxR _ (abw K) from aaq) (aah (ag6 T) hr (aaa (pv 0) aab)) aac (fun _ _=>rfl)))) aab)))
  (aad (aao (i:=6) nd rfl (Or.inl rfl) (aah (aj3 T) hr (aaa (pv 2) (aaa (pv 3) aab))))
  (aad (abc (aa3 anc (pv 6) afo (aaz _))
   (aaf (aas (acb acn (aap aaq (pv 2) aac (fun _ _=>rfl)) (aae aar (aae abp aac (pv 3)) aac) (aaz _))))
   aa5)
  (aad (abc (PW.pt (ae3 (aa3 acn (pv 5) (aae aar (aae abp aac (aap aaq (pv 6) aac (fun _ _=>rfl))) aac) (aaz _)) (aeb (aa3 avt (aah (ach T) hr (aaa (pv 2) (aaa (pv 3) (aaa (pv 6) aab)))) aca (aaz _)))))
   (aaf (aas aca))
   aa5)
  (aad (abc (PW.pt (afp (aa3 af9 (pv 3) aac (aaz _)) (aev (acv (ab0 (aah (ach T) hr (aaa (pv 2) (aaa (aae acp (pv 3) aac) (aaa (pv 6) aab)))))))))
   (aaf (aas aca))
   aa5)
  (aad (abc (ab0 (aah (ach T) hr (aaa (pv 2) (aaa (pv 3) (aaa (ab2 (aaa (aap aaq (pv 6) aac (fun _ _=>rfl)) (aaa (akq am0 (aap aaq (pv 6) aac (fun _ _=>rfl)) (amx aac) amw) aab))) aab)))))
   (aaf (aas aca))
   aa5)
  (aad (abc (ab0 (aah (ach T) hr (aaa (pv 2) (aaa (pv 3) (aaa (ab2 (aaa (aae aar (aap aaq (pv 6) aac (fun _ _=>rfl)) aac) (aaa (aap aaq (pv 6) aac (fun _ _=>rfl)) aab))) aab)))))
   (aaf (aas aca))
   aa5)
  (aad (abo PassesOwn.never rfl (aa7 rfl T.b_range (aaa aac aab)) (aak (i:=7) nd rfl (Or.inl rfl))
   (aad (aao (i:=8) nd rfl (Or.inl rfl) (ab2 (aaa (aae aax (aap aaq (pv 1) (aae aar aac (pv 7)) (fun _ _=>rfl)) aac) (aaa (aah (ais T) hr (aaa (pv 2) (aaa (aae aax (aap aaq (pv 1) (aae aar aac (pv 7)) (fun _ _=>rfl)) aac) (aaa (aap aaq (pv 1) (aae aar aac (pv 7)) (fun _ _=>rfl)) aab)))) aab))))
    (aaf (abc (PW.pt (afp (ab0 (aah (ach T) hr (aaa (pv 2) (aaa (pv 3) (aaa (pv 8) aab))))) (aev (PW.pt (ae3 (aa3 acn (pv 5) (aae aar (aae abp aac (aap aaq (pv 8) aac (fun _ _=>rfl))) aac) (aaz _)) (aeb (aa3 af9 (aap aaq (pv 8) aac (fun _ _=>rfl)) (aap aaq (pv 6) aac (fun _ _=>rfl)) (aaz _))))))))
     (aaf (aas aca))
     aa5))))
  (aaf (aas aca)))))))))))))),?_⟩
 refine aa4 h fun ss Q' q B hK=>?_
 refine exS1 ss q fun ns q1_=>?_
 have hns:=q1_.1
 have kk:=q1_.2
 clear q1_ q
 show EvS B _ _ [some (.scr ns),none,none,none,none,none,none,none,none]
 row_cond go
 refine ⟨ns,140,rfl,hns,by decide,by decide,fun ds hl0 hl hD=>aea acf ?_⟩
 row_cond go
 refine ⟨ds,0,12,rfl,hD,by omega,by omega,hl,by omega,by omega,fun n es hW hn12 hJ=>?_⟩
 have hn0:=hW.lo
 have hel:=hW.len
 have hin:=hW.in
 obtain ⟨x120,a120,_,_⟩:=hD.at (i:=120) (by omega) (by omega)
 row_cond go
 obtain ⟨k,hk,k0,k5⟩:∃ k,x120 % 6=k/\0<=k/\k<=5:=⟨_,rfl,by omega,by omega⟩
 rw [hk]
 refine ⟨fun j ys e=>∃ (o:Option PyData) (wss:List (List (Int × Int))),e=[stO o,some (.st (.list (ds.map .int))),some (.st (webD n es)),some (.st (.int k))]/\ys=wss.map (webD n)/\wss.length=j/\∀ qs∈wss,PutW n es k qs/\InN n qs/\qs.length<=8000,⟨none,[],rfl,rfl,rfl,fun qs h=>absurd h List.not_mem_nil⟩,?_,?_,?_⟩
 ·rintro i ys e q0_
  refine exS2 e q0_ fun o wss q1_=>?_
  have hys:=q1_.1
  have hwl:=q1_.2.1
  have hws:=q1_.2.2
  clear q1_ q0_
  exact ⟨⟨isIo_stO.symm,ab6⟩,⟨rfl,rfl⟩,⟨rfl,rfl⟩,⟨rfl,rfl⟩,True.intro⟩
 ·rintro i d ys e hd ⟨o,wss,rfl,rfl,hwl,hws⟩ B' hB
  obtain ⟨hi,rfl⟩:=adm hd
  refine aat (acs ?_)
  rw [if_pos rfl]
  show Ev B' _ [some (.st (.int (0+(i:Int)))),some (.st (.list (ds.map .int))),some (.st (webD n es)),some (.st (.int k))] _
  row_cond go
  refine ⟨ds,60+5 * (0+(i:Int)),n,k,es,rfl,hW,hn12,hJ,hD,by omega,by omega,hl,k0,k5,fun qs hP hqi hql=>atv ?_⟩
  refine ⟨by rw [List.length_map];omega,some (.int (0+(i:Int))),wss ++ [qs],rfl,by rw [List.map_append];rfl,by rw [List.length_append,hwl];rfl,fun q hq=>?_⟩
  rcases List.mem_append.mp hq with z | z
  ·exact hws q z
  ·cases List.mem_singleton.mp z
   exact ⟨hP,hqi,hql⟩
 ·rintro ys e q0_
  refine exS2 e q0_ fun o wss q1_=>?_
  have e0_:=q1_.1
  have hwl:=q1_.2.1
  have hws:=q1_.2.2
  clear q1_ q0_
  subst e0_
  rw [abv] at hwl
  show EvG B (aay 4) (.own (OL (wss.map (webD n)))) [some (.scr ns),some (.st (.list (ds.map .int))),some (.st (webD n es)),some (.st (.int k)),none,none,none,none,none] _
  refine aea acf ?_
  row_cond go
  refine ⟨fun j ys e=>∃ (o:Option PyData) (xs:List Int),e=[stO o]/\ys=xs.map .int/\xs.length=j/\∀ x∈xs,∃ qs∈wss,ahw n.toNat (dsF qs) x,⟨none,[],rfl,rfl,rfl,fun qs h=>absurd h List.not_mem_nil⟩,?_,?_,?_⟩
  ·rintro i ys e q0_
   refine exS2 e q0_ fun o xs q1_=>?_
   have hys:=q1_.1
   have hxl:=q1_.2.1
   have hxs:=q1_.2.2
   clear q1_ q0_
   exact ⟨⟨isIo_stO.symm,ab6⟩,True.intro⟩
  ·rintro i d ys e hd ⟨o,xs,rfl,rfl,hxl,hxs⟩ B' hB
   rw [List.getElem?_map] at hd
   obtain ⟨qs,hq,rfl⟩:∃ qs,wss[i]?=some qs/\d=webD n qs:=by
    cases e:wss[i]? with
    | none=>rw [e] at hd;cases hd
    | some qs=>rw [e] at hd;cases hd;exact ⟨qs,rfl,rfl⟩
   have hqm:=List.mem_of_getElem? hq
   obtain ⟨⟨gs,hgs,hgl,hqp⟩,hqi,hql⟩:=hws qs hqm
   have hJq:Joined n qs:=Conn.joined (hJ.conn.mono fun u v t=>t.imp (fun z=>hqp.mem_iff.mpr (List.mem_append.mpr (.inl z))) (fun z=>hqp.mem_iff.mpr (List.mem_append.mpr (.inl z)))) (by omega)
   refine aat (acs ?_)
   rw [if_pos rfl]
   show Ev B' _ [some (.st (webD n qs))] _
   row_cond go
   refine ⟨n,qs,rfl,hn0,by omega,hqi,by omega,hJq,fun x a b hF=>?_⟩
   row_cond go
   have hi6:i < wss.length:=(List.getElem?_eq_some_iff.mp hq).1
   refine ⟨by rw [List.length_map];omega,some (webD n qs),xs ++ [x],rfl,by rw [List.map_append];rfl,by rw [List.length_append,hxl];rfl,fun y hy=>?_⟩
   rcases List.mem_append.mp hy with z | z
   ·exact hxs y z
   ·cases List.mem_singleton.mp z
    exact ⟨qs,hqm,hF.top⟩
  ·rintro ys e q0_
   refine exS2 e q0_ fun o xs q1_=>?_
   have e0_:=q1_.1
   have hxl:=q1_.2.1
   have hxs:=q1_.2.2
   clear q1_ q0_
   subst e0_
   rw [List.length_map] at hxl
   show EvA B tNil [some (.scr ns),some (.st (.list (ds.map .int))),some (.st (webD n es)),some (.st (.int k)),some (.st (.list (wss.map (webD n)))),none,none,none,none] _
   row_cond go
   refine asf (by intro z;rw [z] at hxl;simp at hxl;omega) fun m hm=>?_
   obtain ⟨qs,hqm,htop⟩:=hxs m hm.1
   have hP:=(hws qs hqm).1
   row_cond go
   refine ⟨n,es,k,rfl,hn0,hn12,hin,by omega,hJ,k0,k5,fun o ho=>?_⟩
   cases o with
   | none =>
    have hnk:=aq7 k0 hJ ho
    row_cond go
    rw [show isNone (oSD none)=true from rfl]
    row_cond go
    show Q' (.st (.bool (decide _)))
    rw [decide_eq_true hnk]
    exact kk
   | some p =>
    obtain ⟨r,ps⟩:=p
    obtain ⟨r0,hrise,hpl,hF⟩:=aq6 k0 ho
    have hrn:r < n:=atd hJ hin (by omega) hF
    have hS:ShowOk n es k r ps:=(afi hrise).mpr ⟨k0,r0,by omega,hF⟩
    have hmr:=al9 hJ hin hP hS htop
    rw [show oSD (some (r,ps))=.tuple [.int r,plD ps] from rfl]
    row_cond go
    rw [show isNone (.tuple [.int r,plD ps])=false from rfl]
    row_cond go
    refine ⟨n,es,k,r,ps,rfl,hn0,by omega,hin,by omega,hJ,by omega,by omega,by omega,by omega,by omega,fun bb hbb=>?_⟩
    obtain rfl:bb=true:=hbb.mpr hS
    row_cond go
    refine asw ?_
    row_cond go
    refine' cutR (R:=EvS B ?c1 ?d1 [some (.scr ns),some (.st (.list (ds.map .int))),some (.st (webD n es)),some (.st (.int k)),some (.st (.list (wss.map (webD n)))),some (.st (.int m)),some (.st (.tuple [.int r,plD ps])),none,none]) (fun R=>?K1) ?K2
    case K1 =>
     by_cases hk0:0 < k
     ·row_cond go
      refine ⟨n,es,k - 1,r,ps,rfl,hn0,by omega,hin,by omega,hJ,by omega,by omega,by omega,by omega,by omega,fun bb hbb=>?_⟩
      obtain rfl:bb=true:=hbb.mpr ((afi hrise).mpr ⟨by omega,r0,by omega,hF⟩)
      repeat (first | exact R | row_cond st)
     ·repeat (first | exact R | row_cond st)
    case K2 =>
     have hcut:cutD (ps.map PyData.int) (some 1) none=(ps.drop 1).map PyData.int:=by
      unfold cutD
      rw [show (some 1:Option Int)=some ((1:Nat):Int) from rfl,HT.sIx_nat,HT.sIx_none,List.length_map,show min 1 ps.length=1 by omega,List.map_drop,List.take_of_length_le (by simp)]
     row_cond go
     rw [hcut]
     refine ⟨n,es,k,r,ps.drop 1,rfl,hn0,by omega,hin,by omega,hJ,by omega,by omega,by omega,by omega,by rw [List.length_drop];omega,fun bb hbb=>?_⟩
     obtain rfl:bb=false:=by
      cases bb with
      | false=>rfl
      | true =>
       have:=(hbb.mp rfl).len
       rw [List.length_drop] at this
       omega
     row_cond go
     refine ⟨n,es,k,r+1,ps,rfl,hn0,by omega,hin,by omega,hJ,by omega,by omega,by omega,by omega,by omega,fun bb hbb=>?_⟩
     obtain rfl:bb=false:=by
      cases bb with
      | false=>rfl
      | true =>
       have:=al8 k0 ho (hbb.mp rfl)
       omega
     row_cond go
     refine abr (fun i e=>∃ v7 v8,e=[some (.scr ns),some (.st (.list (ds.map .int))),some (.st (webD n es)),some (.st (.int k)),some (.st (.list (wss.map (webD n)))),some (.st (.int m)),some (.st (.tuple [.int r,plD ps])),v7,v8]) ⟨_,_,rfl⟩ ?_ ?_
     ·rintro i e hi q0_
      refine exE2 e q0_ fun v7 v8=>?_
      clear q0_
      obtain ⟨y1,b1,y1a,y1b⟩:=hD.at (i:=100+(0+(i:Int))) (by omega) (by omega)
      obtain ⟨y2,b2,y2a,y2b⟩:=hD.at (i:=104+(0+(i:Int))) (by omega) (by omega)
      obtain ⟨y3,b3,y3a,y3b⟩:=hD.at (i:=108+(0+(i:Int))) (by omega) (by omega)
      row_cond go
      refine ⟨n,y2 % 6,y3,es,rfl,hW,hJ,y3a,y3b,fun zs hzl=>adh ?_⟩
      row_cond go
      refine ⟨n,es,k,y1 % 4,zs,rfl,hn0,by omega,hin,by omega,hJ,by omega,by omega,by omega,by omega,by omega,fun bb hbb=>?_⟩
      cases bb with
      | false =>
       row_cond go
       exact ⟨_,_,rfl⟩
      | true =>
       have hS2:=hbb.mp rfl
       have h1:=al9 hJ hin hP hS2 htop
       have h2:=al8 k0 ho hS2
       row_cond go
       exact ⟨_,_,rfl⟩
     ·rintro e q0_
      refine exE2 e q0_ fun v7 v8=>?_
      clear q0_
      row_cond go
      exact kk
theorem ax9 (T:Txt K mg) {f:Addr} {fd:FuncData} (D:DefAt K mg "law" s_law ["script"] f fd):FnOk P w K mg base CX0 12 f fd ["script"] (ao0 K):=(av4 T D).imp fun _ _ _ _ h=>atc h
end
theorem len0 {α:Type} {us:List α} (h:us.length=0):us=[]:=List.eq_nil_of_length_eq_zero h
theorem len1 {α:Type} {us:List α} (h:us.length=1):∃ a0,us=[a0]:=by
 cases us with
 | nil=>cases h
 | cons a us=>exact ⟨a,by rw [len0 (Nat.succ.inj h)]⟩
theorem len2 {α:Type} {us:List α} (h:us.length=2):∃ a0 a1,us=[a0,a1]:=by
 cases us with
 | nil=>cases h
 | cons a us=>obtain ⟨a1,e⟩:=len1 (Nat.succ.inj h);exact ⟨a,a1,by rw [e]⟩
theorem len3 {α:Type} {us:List α} (h:us.length=3):∃ a0 a1 a2,us=[a0,a1,a2]:=by
 cases us with
 | nil=>cases h
 | cons a us=>obtain ⟨a1,a2,e⟩:=len2 (Nat.succ.inj h);exact ⟨a,a1,a2,by rw [e]⟩
theorem len4 {α:Type} {us:List α} (h:us.length=4):∃ a0 a1 a2 a3,us=[a0,a1,a2,a3]:=by
 cases us with
 | nil=>cases h
 | cons a us=>obtain ⟨a1,a2,a3,e⟩:=len3 (Nat.succ.inj h);exact ⟨a,a1,a2,a3,by rw [e]⟩
def Bnd (x:Str) (st:Stmt) (ps:List Str):Prop:=∀ (kV doc pm:Value) (an:Option Addr) (cdv ct:Value) (us:List Value),us.length=ps.length->bindArgs (fnOf x x (acd st) (aby st) (aai st) .none kV doc pm an cdv ct) ⟨us,[]⟩=pure (ps.zip us)
def FnIn (K:Frag) (x:Str) (st:Stmt):Prop:=∃ f oc od kV dc pm an cd ct sl,nsIn K mainGlobals x=some (some (.ref f))/\K.lookup f=some ⟨oc,od,.func (fnOf x x (acd st) (aby st) (aai st) .none kV dc pm an cd ct),sl⟩/\codeIn K cd x=true/\keepIn K (.ref f)=true
theorem fn_in {K:Frag} {x:Str} {st:Stmt} {f:Addr} {od an:Option Addr} {sl:Array (Option Value)} {oc kV dc pm cd ct:Value} (a:nsIn K mainGlobals x=some (some (.ref f))) (l:K.lookup f=some ⟨oc,od,.func (fnOf x x (acd st) (aby st) (aai st) .none kV dc pm an cd ct),sl⟩) (c:codeIn K cd x=true) (k:keepIn K (.ref f)=true):FnIn K x st:=⟨f,oc,od,kV,dc,pm,an,cd,ct,sl,a,l,c,k⟩
theorem bnd1 {st:Stmt} {x:Str} {ps:List Str} (hp:ps.length=1) (h:∀ (kV doc pm:Value) (an:Option Addr) (cdv ct:Value) (u0:Value),bindArgs (fnOf x x (acd st) (aby st) (aai st) .none kV doc pm an cdv ct) ⟨[u0],[]⟩=pure (ps.zip [u0])):Bnd x st ps:=by
 intro kV doc pm an cdv ct us hl
 rw [hp] at hl
 obtain ⟨_,rfl⟩:=len1 hl
 exact h _ _ _ _ _ _ _
theorem bnd2 {st:Stmt} {x:Str} {ps:List Str} (hp:ps.length=2) (h:∀ (kV doc pm:Value) (an:Option Addr) (cdv ct:Value) (u0 u1:Value),bindArgs (fnOf x x (acd st) (aby st) (aai st) .none kV doc pm an cdv ct) ⟨[u0,u1],[]⟩=pure (ps.zip [u0,u1])):Bnd x st ps:=by
 intro kV doc pm an cdv ct us hl
 rw [hp] at hl
 obtain ⟨_,_,rfl⟩:=len2 hl
 exact h _ _ _ _ _ _ _ _
theorem bnd3 {st:Stmt} {x:Str} {ps:List Str} (hp:ps.length=3) (h:∀ (kV doc pm:Value) (an:Option Addr) (cdv ct:Value) (u0 u1 u2:Value),bindArgs (fnOf x x (acd st) (aby st) (aai st) .none kV doc pm an cdv ct) ⟨[u0,u1,u2],[]⟩=pure (ps.zip [u0,u1,u2])):Bnd x st ps:=by
 intro kV doc pm an cdv ct us hl
 rw [hp] at hl
 obtain ⟨_,_,_,rfl⟩:=len3 hl
 exact h _ _ _ _ _ _ _ _ _
theorem bnd4 {st:Stmt} {x:Str} {ps:List Str} (hp:ps.length=4) (h:∀ (kV doc pm:Value) (an:Option Addr) (cdv ct:Value) (u0 u1 u2 u3:Value),bindArgs (fnOf x x (acd st) (aby st) (aai st) .none kV doc pm an cdv ct) ⟨[u0,u1,u2,u3],[]⟩=pure (ps.zip [u0,u1,u2,u3])):Bnd x st ps:=by
 intro kV doc pm an cdv ct us hl
 rw [hp] at hl
 obtain ⟨_,_,_,_,rfl⟩:=len4 hl
 exact h _ _ _ _ _ _ _ _ _ _
theorem aa2 {K:Frag} {h:Heap} {mg:Str->Option Value} {x:Str} {st:Stmt} {ps:List Str} (X:K.In h) (G:h.Ns mainGlobals mg) (q:FnIn K x st)
  (hb:Bnd x st ps):∃ f fd,DefAt K mg x st ps f fd:=by
 obtain ⟨f,oc,od,kV,dc,pm,an,cd,ct,sl,a,l,c,k⟩:=q
 exact ⟨_,_,have F:=awm (st:=st) l c k;⟨F,mg_of X G a,F.binds hb⟩⟩
theorem txt_mk {K:Frag} {h:Heap} {mg:Str->Option Value} (X:K.In h) (G:h.Ns mainGlobals mg)
  {tk_MOST_STAY_TIES:Tok} {tk_MOST_PLACES_FOR_STAY:Tok} 
  (h0:FnIn K "is_whole" s_is_whole)
  (h1:FnIn K "is_between" s_is_between)
  (h2:FnIn K "need_number" s_need_number)
  (h3:FnIn K "is_place" s_is_place)
  (h4:FnIn K "is_tie" s_is_tie)
  (h5:FnIn K "are_ties" s_are_ties)
  (h6:FnIn K "is_rising" s_is_rising)
  (h7:FnIn K "tied_places" s_tied_places)
  (h8:FnIn K "far_from" s_far_from)
  (h9:FnIn K "need_place" s_need_place)
  (h10:FnIn K "all_far" s_all_far)
  (h11:FnIn K "how_far" s_how_far)
  (h12:FnIn K "is_joined" s_is_joined)
  (h13:FnIn K "need_joined" s_need_joined)
  (h14:FnIn K "far_rows" s_far_rows)
  (h15:FnIn K "most_far" s_most_far)
  (h16:FnIn K "farthest_two" s_farthest_two)
  (h17:FnIn K "stay_shows" s_stay_shows)
  (h18:FnIn K "is_pair" s_is_pair)
  (h19:FnIn K "need_places" s_need_places)
  (h20:FnIn K "need_far" s_need_far)
  (h21:FnIn K "are_apart" s_are_apart)
  (h22:FnIn K "best_stay" s_best_stay)
  (h23:FnIn K "apart_lists" s_apart_lists)
  (h24:FnIn K "places_after" s_places_after)
  (h25:FnIn K "with_ties" s_with_ties)
  (h26:FnIn K "_law_draws" s_law_draws)
  (h27:FnIn K "_law_web" s_law_web)
  (h28:FnIn K "_law_free" s_law_free)
  (h29:FnIn K "_law_put" s_law_put)
  (h30:FnIn K "_law_chosen" s_law_chosen)
  (h31:FnIn K "law" s_law)
  (z_ValueError:nsIn K mainGlobals "ValueError" = some none)
  (z_all:nsIn K mainGlobals "all" = some none)
  (z_max:nsIn K mainGlobals "max" = some none)
  (z_reversed:nsIn K mainGlobals "reversed" = some none)
  (z_range:nsIn K mainGlobals "range" = some none)
  (z_sorted:nsIn K mainGlobals "sorted" = some none)
  (z_enumerate:nsIn K mainGlobals "enumerate" = some none)
  (z_list:nsIn K mainGlobals "list" = some none)
  (z_min:nsIn K mainGlobals "min" = some none)
  (z_isinstance:nsIn K mainGlobals "isinstance" = some none)
  (z_int:nsIn K mainGlobals "int" = some none)
  (z_len:nsIn K mainGlobals "len" = some none)
  (z_abs:nsIn K mainGlobals "abs" = some none)
  (z_bool:nsIn K mainGlobals "bool" = some none)
  (z_tuple:nsIn K mainGlobals "tuple" = some none)
  (g_MOST_STAY_TIES:nsIn K mainGlobals "MOST_STAY_TIES" = some (some (.int 5 tk_MOST_STAY_TIES)))
  (g_MOST_PLACES_FOR_STAY:nsIn K mainGlobals "MOST_PLACES_FOR_STAY" = some (some (.int 12 tk_MOST_PLACES_FOR_STAY)))
  : Txt K mg where
  b_ValueError:=mg_none_of X G z_ValueError
  b_all:=mg_none_of X G z_all
  b_max:=mg_none_of X G z_max
  b_reversed:=mg_none_of X G z_reversed
  b_range:=mg_none_of X G z_range
  b_sorted:=mg_none_of X G z_sorted
  b_enumerate:=mg_none_of X G z_enumerate
  b_list:=mg_none_of X G z_list
  b_min:=mg_none_of X G z_min
  b_isinstance:=mg_none_of X G z_isinstance
  b_int:=mg_none_of X G z_int
  b_len:=mg_none_of X G z_len
  b_abs:=mg_none_of X G z_abs
  b_bool:=mg_none_of X G z_bool
  b_tuple:=mg_none_of X G z_tuple
  v_MOST_STAY_TIES:=⟨_,mg_of X G g_MOST_STAY_TIES⟩
  v_MOST_PLACES_FOR_STAY:=⟨_,mg_of X G g_MOST_PLACES_FOR_STAY⟩
  d_is_whole:=aa2 X G h0 (bnd1 rfl fun _ _ _ _ _ _ _=>rfl)
  d_is_between:=aa2 X G h1 (bnd3 rfl fun _ _ _ _ _ _ _ _ _=>rfl)
  d_need_number:=aa2 X G h2 (bnd3 rfl fun _ _ _ _ _ _ _ _ _=>rfl)
  d_is_place:=aa2 X G h3 (bnd2 rfl fun _ _ _ _ _ _ _ _=>rfl)
  d_is_tie:=aa2 X G h4 (bnd2 rfl fun _ _ _ _ _ _ _ _=>rfl)
  d_are_ties:=aa2 X G h5 (bnd2 rfl fun _ _ _ _ _ _ _ _=>rfl)
  d_is_rising:=aa2 X G h6 (bnd1 rfl fun _ _ _ _ _ _ _=>rfl)
  d_tied_places:=aa2 X G h7 (bnd1 rfl fun _ _ _ _ _ _ _=>rfl)
  d_far_from:=aa2 X G h8 (bnd2 rfl fun _ _ _ _ _ _ _ _=>rfl)
  d_need_place:=aa2 X G h9 (bnd2 rfl fun _ _ _ _ _ _ _ _=>rfl)
  d_all_far:=aa2 X G h10 (bnd2 rfl fun _ _ _ _ _ _ _ _=>rfl)
  d_how_far:=aa2 X G h11 (bnd3 rfl fun _ _ _ _ _ _ _ _ _=>rfl)
  d_is_joined:=aa2 X G h12 (bnd1 rfl fun _ _ _ _ _ _ _=>rfl)
  d_need_joined:=aa2 X G h13 (bnd1 rfl fun _ _ _ _ _ _ _=>rfl)
  d_far_rows:=aa2 X G h14 (bnd1 rfl fun _ _ _ _ _ _ _=>rfl)
  d_most_far:=aa2 X G h15 (bnd1 rfl fun _ _ _ _ _ _ _=>rfl)
  d_farthest_two:=aa2 X G h16 (bnd1 rfl fun _ _ _ _ _ _ _=>rfl)
  d_stay_shows:=aa2 X G h17 (bnd3 rfl fun _ _ _ _ _ _ _ _ _=>rfl)
  d_is_pair:=aa2 X G h18 (bnd1 rfl fun _ _ _ _ _ _ _=>rfl)
  d_need_places:=aa2 X G h19 (bnd1 rfl fun _ _ _ _ _ _ _=>rfl)
  d_need_far:=aa2 X G h20 (bnd1 rfl fun _ _ _ _ _ _ _=>rfl)
  d_are_apart:=aa2 X G h21 (bnd3 rfl fun _ _ _ _ _ _ _ _ _=>rfl)
  d_best_stay:=aa2 X G h22 (bnd2 rfl fun _ _ _ _ _ _ _ _=>rfl)
  d_apart_lists:=aa2 X G h23 (bnd3 rfl fun _ _ _ _ _ _ _ _ _=>rfl)
  d_places_after:=aa2 X G h24 (bnd3 rfl fun _ _ _ _ _ _ _ _ _=>rfl)
  d_with_ties:=aa2 X G h25 (bnd2 rfl fun _ _ _ _ _ _ _ _=>rfl)
  d_law_draws:=aa2 X G h26 (bnd2 rfl fun _ _ _ _ _ _ _ _=>rfl)
  d_law_web:=aa2 X G h27 (bnd3 rfl fun _ _ _ _ _ _ _ _ _=>rfl)
  d_law_free:=aa2 X G h28 (bnd1 rfl fun _ _ _ _ _ _ _=>rfl)
  d_law_put:=aa2 X G h29 (bnd4 rfl fun _ _ _ _ _ _ _ _ _ _=>rfl)
  d_law_chosen:=aa2 X G h30 (bnd3 rfl fun _ _ _ _ _ _ _ _ _=>rfl)
  d_law:=aa2 X G h31 (bnd1 rfl fun _ _ _ _ _ _ _=>rfl)
theorem walk {l:PySem.W.OpenLaw} {q:Program} {loose:List Str} {XP:(Str->Option Value)->Heap->Prop} {YP:World->Heap->Prop} {d:DefRec} {K:Params->Frag} (hn:l.most=some 63) (hdf:d.params.defaults=[]) (hnm:d.name = "law")
  (hY:∀ (w:World) (h:Heap),YP w h->(K w.params).In h)
  (F:∀ (w:World) (mg:Str->Option Value) (h:Heap),(K w.params).In h->h.Ns mainGlobals mg->Txt (K w.params) mg) :
  PySem.W.WalkO q loose XP YP l.row.toRowW d [] (fun f vs=>PySem.call f vs):=by
 refine L2.walk_of (n:=63) (k:=12) (x:="script") (CX:=fun _=>CX0) (sp:=fun w=>ao0 (K w.params)) hn (by decide) hdf ⟨rfl,by decide,by decide⟩ hY (fun w mg fa h X G e=>?_) (fun _ _ a ns hl _ hS=>⟨a,ns,rfl,hS,hl,fun _=>rfl⟩) fun _ _ _ _ _ z=>z
 have T:=F w mg h X G
 rw [hnm] at e
 obtain ⟨f1,fd1,D⟩:=T.d_law
 have e1:=e.symm.trans D.mgx
 cases e1
 refine ⟨fd1,fun s u=>?_,fun base _ _=>?_⟩
 ·obtain ⟨oc,od,kV,doc,pm,an,cdv,ct,osl,rfl,lk,hcd⟩:=D.fn.ex
  exact .of_eq rfl
 ·exact ax9 T D
end G
theorem PySem.W.Fast.tw2038147850500093563 : True := trivial
theorem PySem.W.Fast.tw17383021473847523671 : True := trivial
theorem PySem.W.Fast.tw3927198710000549352 : True := trivial
theorem PySem.W.Fast.tw16997931309785548107 : True := trivial
theorem PySem.W.Fast.tw7999029524478242677 : True := trivial
theorem PySem.W.Fast.tw18304290493671767320 : True := trivial
theorem PySem.W.Fast.tw9826123302871189165 : True := trivial
theorem PySem.W.Fast.tw13999973962981787673 : True := trivial
theorem PySem.W.Fast.tw2184784539483083658 : True := trivial
theorem PySem.W.Fast.tw6214924852305756359 : True := trivial
theorem PySem.W.Fast.tw10701459777049949231 : True := trivial
theorem PySem.W.Fast.tw10362678009298865951 : True := trivial
theorem PySem.W.Fast.tw13052263541456668469 : True := trivial
theorem PySem.W.Fast.tw12917523370044393427 : True := trivial
theorem PySem.W.Fast.tw12696580804206299574 : True := trivial
theorem PySem.W.Fast.tw12965908513029562059 : True := trivial
theorem PySem.W.Fast.tw5844115613418325950 : True := trivial
theorem PySem.W.Fast.tw8349140351273976926 : True := trivial
theorem PySem.W.Fast.tw18409154105297675286 : True := trivial
theorem PySem.W.Fast.tw16453378253803572353 : True := trivial
theorem PySem.W.Fast.tw11370318019849498119 : True := trivial
theorem PySem.W.Fast.tw14941253300585821517 : True := trivial
theorem PySem.W.Fast.tw16956417205690609199 : True := trivial
theorem PySem.W.Fast.tw146668484990809324 : True := trivial
theorem PySem.W.Fast.tw2327803881309733713 : True := trivial
theorem PySem.W.Fast.tw10515957603869532785 : True := trivial
theorem PySem.W.Fast.tw17843334806455999150 : True := trivial
theorem PySem.W.Fast.tw7453282814993556965 : True := trivial
theorem PySem.W.Fast.tw13700937217356077278 : True := trivial
theorem PySem.W.Fast.tw7002941725661795919 : True := trivial
theorem PySem.W.Fast.tw16034669530277428117 : True := trivial
theorem PySem.W.Fast.tw5665687565633193245 : True := trivial
theorem PySem.W.Fast.tw12273267129555319848 : True := trivial
theorem PySem.W.Fast.tw1470969710639106965 : True := trivial
theorem PySem.W.Fast.tw10907788232054444374 : True := trivial
theorem PySem.W.Fast.tw12309484035755122528 : True := trivial
theorem PySem.W.Fast.tw9246889458402729257 : True := trivial
theorem PySem.W.Fast.tw11526797772621958691 : True := trivial
theorem PySem.W.Fast.tw6399441821042126396 : True := trivial
theorem PySem.W.Fast.tw7453896768400649400 : True := trivial
theorem PySem.W.Fast.tw7669746250180789219 : True := trivial
theorem PySem.W.Fast.tw3838841043966584394 : True := trivial
theorem PySem.W.Fast.tw4141452511839846518 : True := trivial
theorem PySem.W.Fast.tw10442823538672075869 : True := trivial
theorem PySem.W.Fast.tw6129639248227692246 : True := trivial
theorem PySem.W.Fast.tw12626622367178755968 : True := trivial
theorem PySem.W.Fast.tw3857047445533652132 : True := trivial
theorem PySem.W.Fast.tw5854395827358578153 : True := trivial
theorem PySem.W.Fast.tw7198034554224732313 : True := trivial
theorem PySem.W.Fast.tw16617453957021384393 : True := trivial
theorem PySem.W.Fast.tw16559118863002921902 : True := trivial
theorem PySem.W.Fast.tw4481337606379920960 : True := trivial
theorem PySem.W.Fast.tw17958978312684382256 : True := trivial
theorem PySem.W.Fast.tw7617478981447125303 : True := trivial
theorem PySem.W.Fast.tw7663171763415797366 : True := trivial
theorem PySem.W.Fast.tw8197646372910319663 : True := trivial
theorem PySem.W.Fast.tw1493656196686244343 : True := trivial
theorem PySem.W.Fast.tw6749256720689961992 : True := trivial
theorem PySem.W.Fast.tw2428725223349042380 : True := trivial
theorem PySem.W.Fast.tw12897394545781233149 : True := trivial
theorem PySem.W.Fast.tw10130160711882884201 : True := trivial
theorem PySem.W.Fast.tw9939046357751737993 : True := trivial
theorem PySem.W.Fast.tw13550979553713395399 : True := trivial
theorem PySem.W.Fast.tw12141048802799702136 : True := trivial
theorem PySem.W.Fast.tw8580664511586617212 : True := trivial
theorem PySem.W.Fast.tw16561951646967832291 : True := trivial
theorem PySem.W.Fast.tw11690251941563817903 : True := trivial
theorem PySem.W.Fast.tw2728684143279994669 : True := trivial
theorem PySem.W.Fast.tw659359194790595262 : True := trivial
theorem PySem.W.Fast.tw7774756315515957844 : True := trivial
theorem PySem.W.Fast.tw247349424948569904 : True := trivial
theorem PySem.W.Fast.tw36080020478750554 : True := trivial
theorem PySem.W.Fast.tw4266288673310945172 : True := trivial
theorem PySem.W.Fast.tw1174131937379091385 : True := trivial
theorem PySem.W.Fast.tw12843527484969491477 : True := trivial
theorem PySem.W.Fast.tw15270980345495232881 : True := trivial
theorem PySem.W.Fast.tw4644738776768510628 : True := trivial
theorem PySem.W.Fast.tw18408110134304025352 : True := trivial
theorem PySem.W.Fast.tw1457445306289584823 : True := trivial
theorem PySem.W.Fast.tw803198437643580115 : True := trivial
theorem PySem.W.Fast.tw16393819134363777725 : True := trivial
theorem PySem.W.Fast.tw7843507640743810230 : True := trivial
theorem PySem.W.Fast.tw860814486669072033 : True := trivial
theorem PySem.W.Fast.tw10535726127003046180 : True := trivial
theorem PySem.W.Fast.tw4109564993931313550 : True := trivial
theorem PySem.W.Fast.tw113907429932869600 : True := trivial
theorem PySem.W.Fast.tw16132021504268510800 : True := trivial
theorem PySem.W.Fast.tw18109411703612417898 : True := trivial
theorem PySem.W.Fast.tw16167219365697369609 : True := trivial
theorem PySem.W.Fast.tw14140757330133813438 : True := trivial
theorem PySem.W.Fast.tw2857251448345662058 : True := trivial
theorem PySem.W.Fast.tw1370019737452827428 : True := trivial
theorem PySem.W.Fast.tw507443998542937914 : True := trivial
theorem PySem.W.Fast.tw17889816567413882894 : True := trivial
theorem PySem.W.Fast.tw4047674303577796893 : True := trivial
theorem PySem.W.Fast.tw6982729408166860206 : True := trivial
theorem PySem.W.Fast.tw5190147968794277906 : True := trivial
theorem PySem.W.Fast.tw6575119794726780348 : True := trivial
theorem PySem.W.Fast.tw17384349851731615791 : True := trivial
theorem PySem.W.Fast.tw8855286310697800419 : True := trivial
theorem PySem.W.Fast.tw5453032726306027223 : True := trivial
theorem PySem.W.Fast.tw14013713947514034906 : True := trivial
theorem PySem.W.Fast.tw2033319954967252770 : True := trivial
theorem PySem.W.Fast.tw16820454333795621462 : True := trivial
theorem PySem.W.Fast.tw874265876067229821 : True := trivial
theorem PySem.W.Fast.tw13227437955445023126 : True := trivial
theorem PySem.W.Fast.tw18407132781974373487 : True := trivial
theorem PySem.W.Fast.tw6210334198359675 : True := trivial
theorem PySem.W.Fast.tw11354147438410906473 : True := trivial
theorem PySem.W.Fast.tw9104793634252565137 : True := trivial
theorem PySem.W.Fast.tw18142147415312224773 : True := trivial
theorem PySem.W.Fast.tw8789348259093168849 : True := trivial
theorem PySem.W.Fast.tw15461946850945353496 : True := trivial
theorem PySem.W.Fast.tw8918330297391816251 : True := trivial
theorem PySem.W.Fast.tw5263755986139546191 : True := trivial
theorem PySem.W.Fast.tw3988009824479882789 : True := trivial
theorem PySem.W.Fast.tw9573917850007139585 : True := trivial
theorem PySem.W.Fast.tw4553289997038999677 : True := trivial
theorem PySem.W.Fast.tw11111376984320292363 : True := trivial
theorem PySem.W.Fast.tw16531850431845971153 : True := trivial
theorem PySem.W.Fast.tw10765358879613376603 : True := trivial
theorem PySem.W.Fast.tw105517183026601426 : True := trivial
theorem PySem.W.Fast.tw7881282551933953743 : True := trivial
theorem PySem.W.Fast.tw15447803363652345575 : True := trivial
theorem PySem.W.Fast.tw2450476901445240070 : True := trivial
theorem PySem.W.Fast.tw17875351588545527396 : True := trivial
theorem PySem.W.Fast.tw5056475902631200282 : True := trivial
theorem PySem.W.Fast.tw2307836285458894377 : True := trivial
theorem PySem.W.Fast.tw312456469632086383 : True := trivial
theorem PySem.W.Fast.tw5986799825579314991 : True := trivial
theorem PySem.W.Fast.tw10271770564730686791 : True := trivial
theorem PySem.W.Fast.tw7489978313465917718 : True := trivial
theorem PySem.W.Fast.tw1089951092124800366 : True := trivial
theorem PySem.W.Fast.tw6265907262104922820 : True := trivial
theorem PySem.W.Fast.tw1827893327615576937 : True := trivial
theorem PySem.W.Fast.tw13802222808793076511 : True := trivial
theorem PySem.W.Fast.tw12149827037469658338 : True := trivial
theorem PySem.W.Fast.tw9532703482733968456 : True := trivial
theorem PySem.W.Fast.tw5666261421061271058 : True := trivial
theorem PySem.W.Fast.tw5339850482006310325 : True := trivial
theorem PySem.W.Fast.tw13367241824704481412 : True := trivial
theorem PySem.W.Fast.tw14793378305509761688 : True := trivial
theorem PySem.W.Fast.tw14692428315524384266 : True := trivial
theorem PySem.W.Fast.tw14078957513787952902 : True := trivial
theorem PySem.W.Fast.tw988945356903012121 : True := trivial
theorem PySem.W.Fast.tw4242722075460299936 : True := trivial
theorem PySem.W.Fast.tw14835239311568833702 : True := trivial
theorem PySem.W.Fast.tw3169657204736460181 : True := trivial
theorem PySem.W.Fast.tw15920010503042261031 : True := trivial
theorem PySem.W.Fast.tw11510350289936433023 : True := trivial
theorem PySem.W.Fast.tw13372408243466679503 : True := trivial
theorem PySem.W.Fast.tw18268419123424228451 : True := trivial
theorem PySem.W.Fast.tw16352761921423567312 : True := trivial
theorem PySem.W.Fast.tw14028488557979214851 : True := trivial
theorem PySem.W.Fast.tw13710681508603905571 : True := trivial
theorem PySem.W.Fast.tw18311348693253974622 : True := trivial
open PySem PySem.W PyProof.Rows
set_option maxRecDepth 100000 in
set_option maxHeartbeats 0 in
theorem PySem.Challenge.cw_fewties_k22_whole_whatever_is_put_in_holds : PySem.Challenge.rw_fewties_k22_whole_whatever_is_put_in.Holds := by
 w_on;o_law;k_head;(case hw=>w_witness2)
 k_fill
 refine G.walk (l:=PySem.Challenge.rw_fewties_k22_whole_whatever_is_put_in) rfl rfl rfl (fun w h Y=>PySem.W.kIn_of Y) ?F
 case F =>
  intro w mg h KX GG
  refine' G.txt_mk KX GG ..
  all_goals try (refine' G.fn_in ?a_ ?l_ ?c_ ?k_;(case a_=>k_is);(case l_=>k_is);(case c_=>k_is);(case k_=>k_is))
  all_goals try k_is
#print axioms PySem.Challenge.cw_fewties_k22_whole_whatever_is_put_in_holds
