import PyProof.Rows.All
import Wide.All
import OpenK.AllK
import Wide.FinOn
import PyProof.EqAt
import PyProof.EqKinds
import PyProof.TupleCall
import PyProof.NeData
import PyProof.P3In
import PyProof.WalkInts
import PyProof.Rows.SortWalk
import PyProof.SumWalkG
import PyProof.Rows.CallKwBuiltin
import KE.KDictList
import PyProof.WalksEnum
import PyProof.ZipIter
import PyProof.ConsumeWalk
import PyProof.ListRange
import PyProof.TupleOfSeq
import PyProof.Rows.RuleN_abs
import KE.KDictOf
import PyProof.AttrMissHeap
import PySem.Challenge.RW_fewties_k44_growers_apart
open PySem.W (Frag kitOne mg_of nsIn mg_none_of excIn fnOf mroIn keepIn codeIn)
set_option Elab.async false
set_option linter.all false
set_option compiler.extract_closed false
set_option maxRecDepth 100000
set_option maxHeartbeats 4000000
noncomputable section
abbrev aA0:=@List.getElem?_eq_getElem
abbrev aA1:=@List.getElem?_eq_some_iff
abbrev aA2:=@List.mem_of_getElem?
abbrev aA3:=@List.length_map
abbrev aA4:=@Array.getElem?_eq_getElem
abbrev aA5:=@List.getElem?_map
abbrev aA6:=@Nat.le_refl
abbrev aA7:=@List.mem_append
abbrev aA8:=@List.mem_cons
abbrev aA9:=@Bool.false_ne_true
abbrev aB0:=@List.length_append
abbrev aB1:=@List.size_toArray
abbrev aB2:=@List.mem_append_right
abbrev aB3:=@List.append_assoc
abbrev aB4:=@List.mem_cons_of_mem
abbrev aB5:=@Nat.ne_of_lt
abbrev aB6:=@List.mem_map
abbrev aB7:=@List.mem_cons_self
abbrev aB8:=@List.mem_range
abbrev aB9:=@List.mem_of_mem_take
abbrev aC0:=@List.take_append_drop
abbrev aC1:=@List.mem_singleton
abbrev aC2:=@List.getElem?_append_left
abbrev aC3:=@List.mem_of_mem_drop
abbrev aC4:=@Nat.lt_of_lt_of_le
abbrev aC5:=@Option.some.inj
abbrev aC6:=@List.mem_append_left
abbrev aC7:=@List.getElem?_append_right
abbrev aC8:=@List.pairwise_append
abbrev aC9:=@Nat.le_trans
abbrev aD0:=@List.map_cons
abbrev aD1:=@List.getElem?_set
abbrev aD2:=@List.getD_eq_getElem?_getD
abbrev aD3:=@Classical.byContradiction
abbrev aD4:=@Array.getElem?_toList
abbrev aD5:=@decide_eq_false
abbrev aD6:=@decide_eq_true
abbrev aD7:=@List.getElem?_range
abbrev aD8:=@List.map_map
abbrev aD9:=@List.getElem?_eq_none
abbrev aE0:=@List.map_append
abbrev aE1:=@List.length_cons
abbrev aE2:=@Int.emod_lt_of_pos
abbrev aE3:=@List.nodup_append
abbrev aE4:=@List.map_congr_left
abbrev aE5:=@List.append_nil
abbrev aE6:=@List.nil_append
abbrev aE7:=@List.take_of_length_le
abbrev aE8:=@List.all_eq_true
abbrev aE9:=@if_pos
abbrev aF0:=@if_neg
abbrev aF1:=@List.getElem?_eq_none_iff
abbrev aF2:=@Nat.lt_succ_of_lt
abbrev aF3:=@List.length_pos_iff
abbrev aF4:=@Nat.zero_le
abbrev aF5:=@List.pairwise_map
abbrev aF6:=@List.ext_getElem?
abbrev aF7:=@beq_iff_eq
abbrev aF8:=@Nat.lt_irrefl
abbrev aF9:=@Nat.le_of_lt
abbrev aG0:=@Array.toList_append
abbrev aG1:=@List.pairwise_iff_getElem
abbrev aG2:=@List.take_length
abbrev aG3:=@List.lookup_cons
abbrev aG4:=@List.length_take
abbrev aG5:=@Bool.and_eq_true
abbrev aG6:=@List.eq_nil_of_length_eq_zero
abbrev aG7:=@List.replicate_succ
abbrev aG8:=@List.take_add_one
abbrev aG9:=@List.getElem?_take_of_lt
abbrev aH0:=@List.mem_iff_getElem
abbrev aH1:=@List.getElem?_replicate
abbrev aH2:=@Bool.eq_iff_iff
abbrev aH3:=@Array.size_push
abbrev aH4:=@List.Pairwise.imp_of_mem
abbrev aH5:=@List.getElem?_cons_succ
abbrev aH6:=@Option.map_some
abbrev aH7:=@List.getElem?_drop
abbrev aH8:=@List.nodup_cons
abbrev aH9:=@Nat.sub_self
abbrev aI0:=@Nat.lt_succ_self
abbrev aI1:=@List.length_nil
open PySem PySem.Spec in
abbrev aI2:=@wpAny_bind
open PySem PySem.Spec in
abbrev aI3:=@wpAny_pure
open PySem PySem.Spec in
abbrev aI4:=@Heap.get?_push_of_some
open PySem PySem.Spec in
abbrev aI5:=@Heap.lt_size
open PySem PySem.Spec in
abbrev aI6:=@Heap.get?_push_size
open PySem PySem.Spec in
abbrev aI7:=@wpAny_holding
open PySem PySem.Spec in
abbrev aI8:=@PassesOwn.never
open PySem PySem.Spec in
abbrev aI9:=@wpAny_mono
open PySem PySem.Spec in
abbrev aJ0:=@wpAny_newObj_type
open PySem PySem.Spec in
abbrev aJ1:=@Around.under_plainId
open PySem PySem.Spec in
abbrev aJ2:=@Heap.size_push
open PySem PySem.Spec in
abbrev aJ3:=@wpAny_call_entry
open PySem PySem.Spec in
abbrev aJ4:=@wpAny_truthy_bool
open PySem PySem.Spec in
abbrev aJ5:=@wpAny_pyIter_list
namespace L2
open PySem PySem.Spec PyProof.Rows
abbrev Key:=Sum Int Str
def agt:Key->Value->Bool
 | .inl k,v=>Value.isInt k v
 | .inr x,v=>Value.isStrOf x v
def keyH (w:World):Key->Int
 | .inl k=>hashInt k
 | .inr x=>hashStr w x
theorem abo:∀ {k:Key} {v:Value},agt k v=true->(∃ i t,k=Sum.inl i/\v=Value.int i t)\/(∃ x t,k=Sum.inr x/\v=Value.str x t)
 | .inl i,v,h=>by
  obtain ⟨t,e⟩:=Value.isInt_shape (k:=i) (v:=v) h
  exact .inl ⟨i,t,rfl,e⟩
 | .inr x,v,h=>by
  obtain ⟨t,e⟩:=Value.isStrOf_shape (x:=x) (v:=v) h
  exact .inr ⟨x,t,rfl,e⟩
theorem aqn (i:Int) (t:Tok):agt (.inl i) (.int i t)=true:=by simp [agt,Value.isInt]
theorem aqo (x:Str) (t:Tok):agt (.inr x) (.str x t)=true:=by simp [agt,Value.isStrOf]
theorem ayt (a b:Int):decide ((Sum.inl a:Key)=Sum.inl b)=(a == b):=by
 by_cases e:a=b
 ·subst e;simp
 ·have h:¬ (Sum.inl a:Key)=Sum.inl b:=fun q=>e (Sum.inl.inj q)
  rw [aD5 h]
  exact (beq_eq_false_iff_ne.mpr e).symm
theorem ayu (a b:Str):decide ((Sum.inr a:Key)=Sum.inr b)=decide (a=b):=by
 by_cases e:a=b
 ·subst e;simp
 ·have h:¬ (Sum.inr a:Key)=Sum.inr b:=fun q=>e (Sum.inr.inj q)
  rw [aD5 h,aD5 e]
theorem ayv (a:Int) (b:Str):decide ((Sum.inl a:Key)=Sum.inr b)=false:=aD5 (fun q=>nomatch q)
theorem ayw (a:Str) (b:Int):decide ((Sum.inr a:Key)=Sum.inl b)=false:=aD5 (fun q=>nomatch q)
def aa3 (prog:Program) (w:World):PySem.KeyKind prog w Key where
 is:=agt
 hash:=keyH w
 inj:=fun v a b ha hb=>by
  rcases abo ha with ⟨i,t,rfl,rfl⟩ | ⟨x,t,rfl,rfl⟩
  ·rcases abo hb with ⟨j,u,rfl,e⟩ | ⟨y,u,rfl,e⟩
   ·injection e with e1 _;rw [e1]
   ·exact nomatch e
  ·rcases abo hb with ⟨j,u,rfl,e⟩ | ⟨y,u,rfl,e⟩
   ·exact nomatch e
   ·injection e with e1 _;rw [e1]
 byValue:=fun k v h=>by
  rcases abo h with ⟨i,t,rfl,rfl⟩ | ⟨x,t,rfl,rfl⟩ <;> rfl
 pyHash:=fun hv h=>by
  rcases abo hv with ⟨i,t,rfl,rfl⟩ | ⟨x,t,rfl,rfl⟩
  ·exact wpAny_pyHash_int h
  ·exact wpAny_pyHash_str h
 eqBool:=fun hu hv h=>by
  rcases abo hu with ⟨i,t,rfl,rfl⟩ | ⟨x,t,rfl,rfl⟩
  ·rcases abo hv with ⟨j,u,rfl,rfl⟩ | ⟨y,u,rfl,rfl⟩
   ·rw [ayt] at h;exact wpAny_eqBool_int h
   ·rw [ayv] at h;exact SeqAt.EqAt.int_str i t y u _ _ _ _ h
  ·rcases abo hv with ⟨j,u,rfl,rfl⟩ | ⟨y,u,rfl,rfl⟩
   ·rw [ayw] at h;exact SeqAt.EqAt.str_int x t j u _ _ _ _ h
   ·rw [ayu] at h;exact wpAny_eqBool_str h
 «strs»:=fun k x t v h=>by
  rcases abo h with ⟨i,u,rfl,e⟩ | ⟨y,u,rfl,e⟩
  ·exact nomatch e
  ·injection e with e1 _
   subst e1
   cases v <;> rfl
theorem ahf (prog:Program) (w:World) (i:Int) (t:Tok):(aa3 prog w).is (.inl i) (.int i t)=true:=aqn i t
theorem anq (prog:Program) (w:World) (x:Str) (t:Tok):(aa3 prog w).is (.inr x) (.str x t)=true:=aqo x t
inductive V where
 | non | bl (b:Bool) | int (i:Int) | str (x:Str) | byt (b:Array UInt8) | flt (b:UInt64) | ref (a:Addr) | ty (n:String)
 deriving DecidableEq
def RelV:V->Value->Prop
 | .non,u=>u=Value.none
 | .bl b,u=>u=Value.bool b
 | .int i,u=>∃ t,u=Value.int i t
 | .str x,u=>∃ t,u=Value.str x t
 | .byt b,u=>∃ t,u=Value.bytes b t
 | .flt b,u=>∃ t,u=Value.float b t
 | .ref a,u=>u=Value.ref a
 | .ty n,u=>u=Value.type n
abbrev Vals:List V->List Value->Prop:=Paired RelV
theorem Vals.length {xs:List V} {us:List Value} (r:Vals xs us):xs.length=us.length:=Paired.length r
theorem Vals.get:∀ {xs:List V} {us:List Value} {i:Nat} {x:V},Vals xs us->xs[i]?=some x->∃ u,us[i]?=some u/\RelV x u
 | _,_,_,_,.nil,e=>by simp at e
 | _,_,0,_,.cons r _,e=>by simp at e;subst e;exact ⟨_,rfl,r⟩
 | _,_,i+1,x,.cons _ t,e=>by
  obtain ⟨u,b,a⟩:=Vals.get (i:=i) (x:=x) t (by simpa using e)
  exact ⟨u,by simpa using b,a⟩
theorem Vals.set {x:V} {u:Value} (r:RelV x u):∀ {xs:List V} {us:List Value} (i:Nat),Vals xs us->Vals (xs.set i x) (us.set i u)
 | _,_,_,.nil => .nil
 | _,_,0,.cons _ t => .cons r t
 | _,_,i+1,.cons q t => .cons q (Vals.set r i t)
theorem Vals.append:∀ {xs ys:List V} {us a:List Value},Vals xs us->Vals ys a->Vals (xs ++ ys) (us ++ a)
 | _,_,_,_,.nil,s=>s
 | _,_,_,_,.cons r t,s => .cons r (Vals.append t s)
theorem Vals.take:∀ {xs:List V} {us:List Value} (n:Nat),Vals xs us->Vals (xs.take n) (us.take n)
 | _,_,0,_ => .nil
 | _,_,_+1,.nil => .nil
 | _,_,n+1,.cons r t => .cons r (Vals.take n t)
theorem Vals.drop:∀ {xs:List V} {us:List Value} (n:Nat),Vals xs us->Vals (xs.drop n) (us.drop n)
 | _,_,0,r=>r
 | _,_,_+1,.nil => .nil
 | _,_,n+1,.cons _ t=>Vals.drop n t
def RelO:Option V->Option Value->Prop
 | some v,some u=>RelV v u
 | none,none=>True
 | _,_=>False
def KV {κ:Type}:List (κ × V)->List (κ × Value)->Prop:=Paired fun (p : κ × V) (q : κ × Value)=>p.1=q.1/\RelV p.2 q.2
def kV:Key->V
 | .inl i => .int i
 | .inr x => .str x
inductive HO where
 /-- a list -/
 | lst (xs:List V)
 /-- a tuple (never changes) -/
 | tup (xs:List V)
 /-- a dict whose keys are ints and texts; one whose keys are tuples of ints and texts (the empty one is both) -/
 | dK (kvs:List (Key × V)) | dT (kvs:List (List Key × V))
 /-- a set of ints: its members, its size -/
 | set (S:Int->Bool) (n:Nat)
 /-- an instance of the class at C, its dict at dx, its attributes -/
 | ins (C dx:Addr) (fs:List (Str × V))
 /-- the dict of the instance at x -/
 | own (x:Addr)
 /-- the dict of an exception -/
 | xd (fs:List (Str × V))
 /-- a bound method, f of x -/
 | met (f x:Addr)
 /-- a range object lo, lo + 1, .. below hi -/
 | rng (lo hi:Int)
 /-- a thing that is known to the object (the script; a dict while a loop walks it): read, never written while it is so -/
 | frz (o:Obj) (u:HO)
 /-- a code object's table -/
 | tbl (ps:Array Value)
 /-- any other thing, by what is true of its one object (a def of one's own: SetO a S n:=HO.ext fun h => ..) -/
 | ext (φ:Heap->Prop)
abbrev Hp:=Addr->Option HO
def upd (H:Hp) (a:Addr) (o:HO):Hp:=fun b=>if b=a then some o else H b
theorem aaf {H:Hp} {a:Addr} {o:HO}:upd H a o a=some o:=by unfold upd;rw [aE9 rfl]
theorem aad {H:Hp} {a b:Addr} {o:HO} (h:b ≠ a):upd H a o b=H b:=by unfold upd;rw [aF0 h]
theorem agu {H:Hp} {a b:Addr} {o u:HO} (h:H a=some o) (h':H b=some u) (d:o ≠ u):a ≠ b:=by
 intro e;subst e;rw [h] at h';exact d (aC5 h')
theorem aar {H:Hp} {a b:Addr} {o:HO} (h:H a=some o) (h':H b=none):a ≠ b:=by
 intro e;subst e;rw [h] at h';cases h'
section
variable (P:Program) (w:World)
def ObjOk (H:Hp) (h:Heap) (a:Addr):HO->Prop
 | .lst xs=>xs.length<=sizeLine/\∃ (its:List Value) (n:Nat),Vals xs its/\h.get? a=some { cls:=.type "list",data:=.seq its.toArray n }
 | .tup xs=>xs.length<=sizeLine/\∃ its:List Value,Vals xs its/\IsTup h a its.toArray
 | .dK kvs=>kvs.length<=sizeLine/\(a == sysModules)=false/\∃ vs,KV kvs vs/\h.DictOf (aa3 P w) a vs
 | .dT kvs=>kvs.length<=sizeLine/\(a == sysModules)=false/\∃ xs:List (List Key × Addr × Value),
   Paired (fun (p:List Key × V) (q:List Key × Addr × Value)=>p.1=q.1/\H q.2.1=some (.tup (p.1.map kV))/\RelV p.2 q.2.2) kvs xs /\
   ∃ o es ep,h.get? a=some o/\o.ExactDict/\o.data=.dict es ep/\es.toList=xs.map (entryOfKey (tupleKind (aa3 P w)))/\(xs.map (·.1)).Nodup
 | .set S n=>h.SetOf (intKind P w) a S n
 | .ins C dx fs=>H dx=some (.own a)/\fs.length<=1000/\dx ≠ a/\h.get? a=some (PySem.W.instObj C dx) /\
   ∃ mA,h.Ns1 dx mA/\(∀ f,RelO (fs.lookup f) (mA f))/\PySem.Within mA (fs.map (·.1))
 | .own _=>∃ o,h.get? a=some o
 | .xd fs=>∃ mA,h.Ns1 a mA/\∀ f,RelO (fs.lookup f) (mA f)
 | .rng lo hi=>∃ t u v,h.get? a=some { cls:=.type "range",data:=.fields #[.int lo t,.int hi u,.int 1 v] }
 | .frz o u=>h.get? a=some o/\ObjOk H h a u
 | .tbl ps=>h.get? a=some { cls:=.none,data:=.fields ps }
 | .met f x=>h.get? a=some (PySem.W.methodObj (.ref f) (.ref x))
 | .ext φ => φ h/\(∃ o,h.get? a=some o)/\∀ h1 h2:Heap,φ h1->(∀ o,h1.get? a=some o->h2.get? a=some o)->φ h2
def HOk (H:Hp) (h:Heap):Prop:=∀ a o,H a=some o->ObjOk P w H h a o
end
section
variable {P:Program} {w:World} {H H':Hp} {h h':Heap} {a:Addr} {o:HO}
theorem ObjOk.lt (x:ObjOk P w H h a o):a < h.objs.size:=by
 cases o with
 | lst xs=>obtain ⟨_,_,_,_,e⟩:=x;exact aI5 e
 | tup xs=>obtain ⟨_,_,_,p⟩:=x;exact p.lt
 | dK kvs=>obtain ⟨_,_,_,_,o,_,_,e,_⟩:=x;exact aI5 e
 | dT kvs=>obtain ⟨_,_,_,_,o,_,_,e,_⟩:=x;exact aI5 e
 | set S n=>obtain ⟨o,_,_,_,e,_⟩:=x;exact aI5 e
 | ins C dx fs=>obtain ⟨_,_,_,e,_⟩:=x;exact aI5 e
 | own y=>obtain ⟨_,e⟩:=x;exact aI5 e
 | xd fs=>obtain ⟨_,⟨_,_,_,e,_⟩,_⟩:=x;exact aI5 e
 | rng lo hi=>obtain ⟨_,_,_,e⟩:=x;exact aI5 e
 | frz ob u=>obtain ⟨e,_⟩:=x;exact aI5 e
 | tbl ps=>exact aI5 (show h.get? a=some _ from x)
 | met f y=>exact aI5 (show h.get? a=some _ from x)
 | ext φ=>obtain ⟨_,⟨_,e⟩,_⟩:=x;exact aI5 e
theorem Paired.mapP {α β:Type} {F G : α->β->Prop}:∀ {c:List α} {d:List β},Paired F c d->(∀ a b,F a b->G a b)->Paired G c d
 | _,_,.nil,_ => .nil
 | _,_,.cons r t,f => .cons (f _ _ r) (Paired.mapP t f)
theorem ObjOk.stay (x:ObjOk P w H h a o) (k:∀ b u,(b=a\/H b=some (.own a))->h.get? b=some u->h'.get? b=some u)
  (i:∀ b,H b=some (.own a)->H' b=some (.own a)) (j:∀ b xs,H b=some (.tup xs)->H' b=some (.tup xs)):ObjOk P w H' h' a o:=by
 induction o with
 | lst xs=>obtain ⟨z,its,n,r,e⟩:=x;exact ⟨z,its,n,r,k _ _ (.inl rfl) e⟩
 | tup xs=>obtain ⟨z,its,r,g,e,c⟩:=x;exact ⟨z,its,r,g,k _ _ (.inl rfl) e,c⟩
 | dK kvs=>obtain ⟨z,y,vs,r,g,es,ep,e,c⟩:=x;exact ⟨z,y,vs,r,g,es,ep,k _ _ (.inl rfl) e,c⟩
 | dT kvs =>
  obtain ⟨z,y,xs,r,g,es,ep,e,c⟩:=x
  exact ⟨z,y,xs,Paired.mapP r fun p q z=>⟨z.1,j _ _ z.2.1,z.2.2⟩,g,es,ep,k _ _ (.inl rfl) e,c⟩
 | set S n=>obtain ⟨g,es,ep,t,e,c⟩:=x;exact ⟨g,es,ep,t,k _ _ (.inl rfl) e,c⟩
 | ins C dx fs =>
  obtain ⟨d,z,ne,e,mA,⟨od,es,ep,e2,c⟩,r⟩:=x
  exact ⟨i _ d,z,ne,k _ _ (.inl rfl) e,mA,⟨od,es,ep,k _ _ (.inr d) e2,c⟩,r⟩
 | own y=>obtain ⟨g,e⟩:=x;exact ⟨g,k _ _ (.inl rfl) e⟩
 | xd fs=>obtain ⟨mA,⟨od,es,ep,e,c⟩,r⟩:=x;exact ⟨mA,⟨od,es,ep,k _ _ (.inl rfl) e,c⟩,r⟩
 | rng lo hi=>obtain ⟨t,u,v,e⟩:=x;exact ⟨t,u,v,k _ _ (.inl rfl) e⟩
 | frz g u ih=>obtain ⟨e,q⟩:=x;exact ⟨k _ _ (.inl rfl) e,ih q⟩
 | tbl ps =>
  have e:h.get? a=some { cls:=.none,data:=.fields ps }:=x
  show h'.get? a=some { cls:=.none,data:=.fields ps }
  exact k a _ (.inl rfl) e
 | met f y =>
  have e:h.get? a=some (PySem.W.methodObj (.ref f) (.ref y)):=x
  show h'.get? a=some (PySem.W.methodObj (.ref f) (.ref y))
  exact k a _ (.inl rfl) e
 | ext φ=>obtain ⟨p,⟨o,e⟩,st⟩:=x;exact ⟨st _ _ p fun o q=>k _ _ (.inl rfl) q,⟨o,k _ _ (.inl rfl) e⟩,st⟩
theorem HOk.lt (x:HOk P w H h) (e:H a=some o):a < h.objs.size:=(x a o e).lt
theorem HOk.fresh (x:HOk P w H h) (e:h.objs.size<=a):H a=none:=by
 cases q:H a with
 | none=>rfl
 | some u=>exact absurd (aC4 (x.lt q) e) (aF8 _)
theorem HOk.kept (x:HOk P w H h) (k:∀ b u,h.get? b=some u->h'.get? b=some u):HOk P w H h':=fun a o e =>
 (x a o e).stay (fun b u _ q=>k b u q) (fun _ q=>q) fun _ _ q=>q
theorem HOk.laid (x:HOk P w H h) (k:∀ b u,h.get? b=some u->h'.get? b=some u) (d:h.objs.size<=a) (new:ObjOk P w (upd H a o) h' a o):HOk P w (upd H a o) h':=fun b u e=>by
 have hn:=x.fresh d
 by_cases hb:b=a
 ·subst hb;rw [aaf] at e;cases e;exact new
 ·rw [aad hb] at e
  exact (x b u e).stay (fun c v _ q=>k c v q) (fun c q=>by rw [aad (aar q hn)];exact q) fun c xs q=>by rw [aad (aar q hn)];exact q
end
def Rd (H:Hp) (a:Addr) (u:HO):Prop:=H a=some u\/∃ o,H a=some (.frz o u)
theorem Rd.of {H:Hp} {a:Addr} {u:HO} (h:H a=some u):Rd H a u:=.inl h
theorem Rd.ok {P:Program} {w:World} {H:Hp} {h:Heap} {a:Addr} {u:HO} (r:Rd H a u) (x:HOk P w H h):ObjOk P w H h a u:=by
 rcases r with r | ⟨o,r⟩
 ·exact x a u r
 ·obtain ⟨_,q⟩:=x a _ r
  exact q
def Mut:Option HO->Prop
 | some (.lst _)=>True
 | some (.dK _)=>True
 | some (.dT _)=>True
 | some (.set _ _)=>True
 | some (.ins _ _ _)=>True
 | some (.ext _)=>True
 | _=>False
section
variable {P:Program} {w:World} {H:Hp} {h h':Heap} {x e:Addr} {o':HO}
theorem HOk.write (ok:HOk P w H h) (g:Mut (H x)) (l:e=x\/H e=some (.own x)) (k:∀ b u,b ≠ e->h.get? b=some u->h'.get? b=some u) (i:∃ u,h'.get? e=some u)
  (new:ObjOk P w (upd H x o') h' x o'):HOk P w (upd H x o') h':=fun b u q=>by
 have a:∀ c y,H c=some (.own y)->c ≠ x:=fun c y r z=>by subst z;rw [r] at g;exact g
 have d:∀ c xs,H c=some (.tup xs)->c ≠ x:=fun c xs r z=>by subst z;rw [r] at g;exact g
 by_cases hb:b=x
 ·subst hb;rw [aaf] at q;cases q;exact new
 ·rw [aad hb] at q
  by_cases hbe:b=e
  ·have j:H b=some (.own x):=by
    rcases l with z | z
    ·exact absurd (hbe.trans z) hb
    ·rw [hbe];exact z
   rw [q] at j;cases j
   obtain ⟨v,m⟩:=i
   exact ⟨v,by rw [hbe];exact m⟩
  ·refine (ok b u q).stay (fun c v f r=>k c v ?_ r) (fun c r=>by rw [aad (a c b r)];exact r) fun c xs r=>by rw [aad (d c xs r)];exact r
   rcases f with rfl | f
   ·exact hbe
   ·rintro rfl
    rcases l with z | z
    ·exact a c b f z
    ·rw [f] at z;cases z;exact hb rfl
end
structure Un (fs ex:List Addr) (H H':Hp) (h h':Heap):Prop where
 keep:∀ b o,h.get? b=some o->H b=none->b ∉ fs->b ∉ ex->h'.get? b=some o
 slot:∀ b o,h.get? b=some o->H b=none->b∈fs->b ∉ ex->∃ sl,h'.get? b=some { o with slots:=sl }
 free:∀ b o,h.get? b=some o->H b=none->b ∉ ex->H' b=none
 there:∀ b o,h.get? b=some o->b ∉ ex->∃ o',h'.get? b=some o'
 tups:∀ b xs,H b=some (.tup xs)->H' b=some (.tup xs)
 frzs:∀ b o u,H b=some (.frz o u)->H' b=some (.frz o u)
 tbls:∀ b ps,H b=some (.tbl ps)->∃ more,H' b=some (.tbl (ps ++ more))
section
variable {fs fs' ex ex':List Addr} {H H1 H2:Hp} {h h1 h2 h':Heap} {a x e:Addr} {o:HO}
theorem Un.any (u:Un fs ex H H1 h h1) {b:Addr} {a:Obj} (q:h.get? b=some a) (n:H b=none) (c:b ∉ ex):∃ sl,h1.get? b=some { a with slots:=sl }:=by
 by_cases hb:b∈fs
 ·exact u.slot b a q n hb c
 ·exact ⟨a.slots,u.keep b a q n hb c⟩
theorem Un.trans (a:Un fs ex H H1 h h1) (b:Un fs ex H1 H2 h1 h2):Un fs ex H H2 h h2 where
 keep:=fun c d q n i f=>b.keep c d (a.keep c d q n i f) (a.free c d q n f) i f
 slot:=fun c d q n i f=>by
  obtain ⟨sl,g⟩:=a.slot c d q n i f
  obtain ⟨j,e2⟩:=b.slot c _ g (a.free c d q n f) i f
  exact ⟨j,e2⟩
 free:=fun c d q n f=>by
  obtain ⟨o',g⟩:=a.there c d q f
  exact b.free c o' g (a.free c d q n f) f
 there:=fun c d q f=>by
  obtain ⟨o',g⟩:=a.there c d q f
  exact b.there c o' g f
 tups:=fun c xs q=>b.tups c xs (a.tups c xs q)
 frzs:=fun c d xs q=>b.frzs c d xs (a.frzs c d xs q)
 tbls:=fun c ps q=>by
  obtain ⟨l,g⟩:=a.tbls c ps q
  obtain ⟨m,e2⟩:=b.tbls c _ g
  exact ⟨l ++ m,by rw [e2,Array.append_assoc]⟩
theorem Un.kept (k:∀ b u,h.get? b=some u->h'.get? b=some u):Un fs ex H H h h' :=
 ⟨fun b a q _ _ _=>k b a q,fun b a q _ _ _=>⟨a.slots,k b a q⟩,fun _ _ _ n _=>n,fun b a q _=>⟨a,k b a q⟩,fun _ _ q=>q,fun _ _ _ q=>q,fun _ ps q=>⟨#[],by rw [q];simp⟩⟩
theorem Un.refl:Un fs ex H H h h:=Un.kept fun _ _ q=>q
theorem Un.laid (k:∀ b u,h.get? b=some u->h'.get? b=some u) (c:h.objs.size<=a) (hn:H a=none):Un fs ex H (upd H a o) h h' where
 keep:=fun b u q _ _ _=>k b u q
 slot:=fun b u q _ _ _=>⟨u.slots,k b u q⟩
 free:=fun b u q n _=>by rw [aad (aB5 (aC4 (aI5 q) c))];exact n
 there:=fun b u q _=>⟨u,k b u q⟩
 tups:=fun b xs q=>by rw [aad (aar q hn)];exact q
 frzs:=fun b u xs q=>by rw [aad (aar q hn)];exact q
 tbls:=fun b ps q=>⟨#[],by rw [aad (aar q hn),q];simp⟩
theorem Un.write (a:Mut (H x)) (g:e=x\/H e=some (.own x)) (k:∀ b u,b ≠ e->h.get? b=some u->h'.get? b=some u) (c:∃ u,h'.get? e=some u):Un fs ex H (upd H x o) h h':=by
 have d:∀ b,H b=none->b ≠ x:=fun b n z=>by subst z;rw [n] at a;exact a
 have hb:∀ b,H b=none->b ≠ e:=fun b n z=>by
  subst z
  rcases g with r | r
  ·exact d b n r
  ·rw [n] at r;cases r
 have hm:∀ b u,H b=some u->¬ Mut (some u)->b ≠ x:=fun b u q f z=>by subst z;rw [q] at a;exact f a
 refine ⟨fun b u q n _ _=>k b u (hb b n) q,fun b u q n _ _=>⟨u.slots,k b u (hb b n) q⟩,fun b u q n _=>by rw [aad (d b n)];exact n,fun b u q _=>?_,
  fun b xs q=>by rw [aad (hm b _ q fun z=>z)];exact q,fun b u xs q=>by rw [aad (hm b _ q fun z=>z)];exact q,fun b ps q=>⟨#[],by rw [aad (hm b _ q fun z=>z),q];simp⟩⟩
 by_cases hbe:b=e
 ·subst hbe;exact c
 ·exact ⟨u,k b u hbe q⟩
theorem Un.mono (u:Un fs ex H H1 h h1) (f:∀ b∈fs,b∈fs') (d:∀ b∈ex,b∈ex'):Un fs' ex' H H1 h h1 :=
 ⟨fun b c q n hb a=>u.keep b c q n (fun z=>hb (f b z)) fun z=>a (d b z),fun _ _ q n _ a=>u.any q n fun z=>a (d _ z),fun b c q n a=>u.free b c q n fun z=>a (d b z),fun b c q a=>u.there b c q fun z=>a (d b z),u.tups,u.frzs,u.tbls⟩
end
def trk (h:Heap) (H:Hp):List Addr:=(List.range h.objs.size).filter fun a=>(H a).isSome
def hidT (h:Heap) (H:Hp):Heap:=PySem.W.hideAll h (trk h H)
theorem aqp (h:Heap) (H:Hp):(hidT h H).objs.size=h.objs.size:=PySem.W.hideAll_size _ _
theorem atc {h:Heap} {H:Hp} {b:Addr} {o:Obj} (e:h.get? b=some o) (n:H b=none):(hidT h H).get? b=some o :=
 PySem.W.hideAll_get _ e fun hm=>by
  have q:(H b).isSome=true:=(List.mem_filter.mp hm).2
  rw [n] at q;simp at q
theorem av8 {h:Heap} {H:Hp} {b:Addr} {o:Obj} (e:(hidT h H).get? b=some o):h.get? b=some o/\H b=none:=by
 have a:h.get? b=some o:=PySem.W.of_hideAll (trk h H) e
 refine ⟨a,?_⟩
 cases q:H b with
 | none=>rfl
 | some x =>
  have hm:b∈trk h H:=List.mem_filter.mpr ⟨aB8.mpr (aI5 a),by simp [q]⟩
  have z:(hidT h H).get? b=none:=PySem.W.hideAll_none (trk h H) hm
  rw [z] at e;cases e
def av9 (g h:Heap) (L:Addr):List (Addr × Obj):=(List.range h.objs.size).filterMap fun a=>if a=L\/(g.get? a).isSome=true then none else (h.get? a).map fun o=>(a,o)
def rest (g h:Heap) (L d:Addr):List (Addr × Obj):=(av9 g h L).filter fun p=>decide (p.1 ≠ d)
structure Mod (K:Frag) (mg:Str->Option Value) (base:Heap):Prop where
 kin:K.In base
 glob:base.Ns mainGlobals mg
 blt:∃ mb,base.Ns builtinsNs mb/\∀ x:Str,x ≠ "__name__"->mb x=bootBuiltins x
 nolimit:base.NoLimit
/-- the context: a def's body (or a comprehension's block) running. base: fixed through the whole law; s₀, H₀: the entry; outer: the frames whose slots others may change (a def's callers); stack: all frames that run;
  ex: iterators that were made ahead of the entry and are walked here (a comprehension's);fn: the names whose cells were made at the entry (a def: all;a comprehension's block: its own);calm: not within an except suite;pn: pins that every state bears;xe: what is wanted of an exception that leaves the code -/
structure Cx where
 prog:Program
 w:World
 K:Frag
 mg:Str->Option Value
 base:Heap
 A:Around
 N:List Str
 s₀:Shared
 H₀:Hp
 env:Env
 outer:List Env
 stack:List Env
 ex:List Addr
 fn:Str->Bool
 calm:Bool
 pn:List (Addr × Obj)
 xe:Value->Shared->Prop
def frs (l:List Env):List Addr:=l.filterMap (·.frame)
abbrev Cx.fs (X:Cx):List Addr:=frs X.outer
def Vis (sc:Scope) (x:Str):Prop:=sc.names.lookup x=some .local\/sc.names.lookup x=some .cell\/sc.names.lookup x=some .free
def Loc (sc:Scope) (x:Str):Prop:=sc.names.lookup x=some .local\/sc.names.lookup x=some .cell
def Look (env:Env) (h:Heap) (m:Str->Option Value) (x:Str) (u:Value):Prop :=
 (env.kindOf x=some .local/\m x=some u)\/((env.kindOf x=some .cell\/env.kindOf x=some .free)/\∃ c,env.cells.lookup x=some c/\h.IsCell c (some u))
structure Cx.Ok (X:Cx):Prop where
 mod:Mod X.K X.mg X.base
 kind:X.env.scope.kind=.function
 glob:X.env.globals=mainGlobals
 blt:X.env.builtins=builtinsNs
 above:X.s₀.heap.objs.size<=X.env.locals
 inj:∀ x y c,X.env.cells.lookup x=some c->X.env.cells.lookup y=some c->x=y
 has:∀ x,(X.env.kindOf x=some .cell\/X.env.kindOf x=some .free)->∃ c,X.env.cells.lookup x=some c
 cab:∀ x c,X.fn x=true->X.env.cells.lookup x=some c->X.s₀.heap.objs.size<=c
 hd:X.calm=true->X.A.handled=none
 frames:X.A.frames=some X.stack
 stk:X.stack=X.outer\/(X.stack=X.env :: X.outer/\X.env.frame=some X.env.locals)
 exf:∀ b∈X.ex,b ≠ X.env.locals/\∀ x c,X.env.cells.lookup x=some c->c ≠ b
 bs:∀ b o,X.base.get? b=some o->X.s₀.heap.get? b=some o/\X.H₀ b=none
 bsz:X.base.objs.size<=X.s₀.heap.objs.size
 noex:∀ b o,X.base.get? b=some o->b ∉ X.ex
 exfs:∀ b∈X.ex,b ∉ X.fs
 funs:X.s₀.heap.FunFrames X.base X.outer
 frf:∀ b∈X.fs,X.H₀ b=none
structure Inv (X:Cx) (pins:List (Addr × Obj)) (σ:List (Option V)) (H:Hp) (s:Shared):Prop where
 ok:X.Ok
 os:s.os=X.s₀.os
 bare:AllBare s.gens
 base:Un X.fs X.ex X.H₀ H X.s₀.heap s.heap
 loc:∃ m,s.heap.Ns X.env.locals m/\∀ (i:Nat) (x:Str) (v:V),X.N[i]?=some x->σ[i]?=some (some v)->Vis X.env.scope x->∃ u,RelV v u/\Look X.env s.heap m x u
 cell:∀ x c,X.env.cells.lookup x=some c->∃ v,s.heap.IsCell c v
 free:H X.env.locals=none
 freeC:∀ x c,X.env.cells.lookup x=some c->H c=none
 pin:∀ p∈X.pn ++ pins,s.heap.get? p.1=some p.2/\H p.1=none/\p.1 ≠ X.env.locals/\p.1 ∉ X.fs/\∀ v,p.2.data ≠ .cell v
 hok:HOk X.prog X.w H s.heap
 len : σ.length=X.N.length
section
variable {X:Cx} {pins:List (Addr × Obj)} {σ:List (Option V)} {H H':Hp} {s:Shared} {h':Heap}
theorem Cx.Ok.nofr (ok:X.Ok) {b:Addr} {o:Obj} (e:X.base.get? b=some o):b ∉ X.fs:=fun hb=>by
 have:=(ok.funs.mem hb).1
 rw [e] at this;cases this
theorem Inv.bs (I:Inv X pins σ H s):∀ b o,X.base.get? b=some o->s.heap.get? b=some o/\H b=none:=fun b o e =>
 ⟨I.base.keep b o (I.ok.bs b o e).1 (I.ok.bs b o e).2 (I.ok.nofr e) (I.ok.noex b o e),I.base.free b o (I.ok.bs b o e).1 (I.ok.bs b o e).2 (I.ok.noex b o e)⟩
theorem Inv.bk (I:Inv X pins σ H s):∀ b o,X.base.get? b=some o->s.heap.get? b=some o:=fun b o e=>(I.bs b o e).1
theorem Inv.mod (I:Inv X pins σ H s):Mod X.K X.mg X.base:=I.ok.mod
theorem Inv.kIn (I:Inv X pins σ H s):X.K.In s.heap:=I.ok.mod.kin.keeps I.bk
theorem Inv.fr (I:Inv X pins σ H s):∃ m,Fr X.base X.env.locals s.heap m :=
 let ⟨m,hn,_⟩:=I.loc
 ⟨m,hn,I.bk,aC9 I.ok.bsz I.ok.above⟩
theorem Inv.lt (I:Inv X pins σ H s):X.env.locals < s.heap.objs.size:=let ⟨_,hn,_⟩:=I.loc;hn.lt
theorem Inv.sz (I:Inv X pins σ H s):X.s₀.heap.objs.size<=s.heap.objs.size:=aC9 I.ok.above (aF9 I.lt)
theorem Inv.nofs (I:Inv X pins σ H s) {a:Addr} (h:s.heap.objs.size<=a):a ∉ X.fs:=fun hb=>by
 obtain ⟨_,o,b,_⟩:=I.ok.funs.mem hb
 exact absurd (aC4 (aI5 b) (aC9 I.sz h)) (aF8 _)
theorem Inv.cne (I:Inv X pins σ H s):∀ x c,X.env.cells.lookup x=some c->c ≠ X.env.locals:=fun x c e z=>by
 obtain ⟨v,o,d,hd⟩:=I.cell x c e
 obtain ⟨m,⟨o',es,ep,a,b,_⟩,_⟩:=I.loc
 rw [z,a] at d;cases d;rw [b] at hd;cases hd
theorem Inv.funs (I:Inv X pins σ H s):s.heap.FunFrames X.base X.outer:=by
 have all:∀ (l:List Env),(∀ b∈frs l,b∈X.fs)->X.s₀.heap.FunFrames X.base l->s.heap.FunFrames X.base l:=by
  intro l
  induction l with
  | nil=>intro _ _;trivial
  | cons env r ih =>
   intro c g
   obtain ⟨f,⟨L,o,hf,hn,d,hd⟩,h⟩:=g
   have a:L∈X.fs:=c L (by unfold frs;rw [List.filterMap_cons,hf];exact aB7)
   obtain ⟨sl,e⟩:=I.base.slot L o d (I.ok.frf L a) a fun z=>I.ok.exfs L z a
   exact ⟨f,⟨L,_,hf,hn,e,hd⟩,ih (fun b hb=>c b (by unfold frs;rw [List.filterMap_cons,hf];exact aB4 _ hb)) h⟩
 exact all X.outer (fun _ hb=>hb) I.ok.funs
theorem Inv.stack (I:Inv X pins σ H s):s.heap.FunFrames X.base X.stack:=by
 rcases I.ok.stk with e | ⟨e,hf⟩
 ·rw [e];exact I.funs
 ·rw [e]
  obtain ⟨m,hn,_⟩:=I.loc
  refine .cons (by rw [I.ok.kind];decide) hf hn ?_ I.funs
  exact Heap.get?_none_of_le (aC9 I.ok.bsz I.ok.above)
theorem Inv.stkSub (I:Inv X pins σ H s):∀ b∈frs X.stack,b∈X.env.locals :: X.fs:=fun b hb=>by
 rcases I.ok.stk with e | ⟨e,hf⟩
 ·rw [e] at hb;exact aB4 _ hb
 ·rw [e] at hb
  unfold frs at hb
  rw [List.filterMap_cons,hf] at hb
  exact hb
theorem Inv.stkFree (I:Inv X pins σ H s):∀ b∈frs X.stack,H b=none:=fun b hb=>by
 rcases aA8.mp (I.stkSub b hb) with e | hb
 ·rw [e];exact I.free
 ·obtain ⟨_,o,a,_⟩:=I.ok.funs.mem hb
  exact I.base.free b o a (I.ok.frf b hb) fun z=>I.ok.exfs b z hb
theorem Inv.step {g':Array GenState} {t':Nat} {d':Drawn} {ch:List Addr} (I:Inv X pins σ H s)
  (g:∀ b∈ch,(b∈X.ex\/X.s₀.heap.objs.size<=b)/\b ≠ X.env.locals/\(∀ x c,X.env.cells.lookup x=some c->c ≠ b)/\∀ p∈X.pn ++ pins,p.1 ≠ b)
  (keep:∀ b o,b ≠ X.env.locals->b ∉ X.fs->b ∉ ch->s.heap.get? b=some o->H b=none->h'.get? b=some o)
  (slot:∀ b o,b ≠ X.env.locals->b∈X.fs->b ∉ ch->s.heap.get? b=some o->H b=none->∃ sl,h'.get? b=some { o with slots:=sl }) (free:∀ b o,b ∉ ch->s.heap.get? b=some o->H b=none->H' b=none)
  (there:∀ b o,b ∉ ch->s.heap.get? b=some o->∃ o',h'.get? b=some o')
  (tups:∀ b xs,H b=some (.tup xs)->H' b=some (.tup xs)) (frzs:∀ b o u,H b=some (.frz o u)->H' b=some (.frz o u)) (tbls:∀ b ps,H b=some (.tbl ps)->∃ more,H' b=some (.tbl (ps ++ more)))
  (ns:∀ m,s.heap.Ns X.env.locals m->h'.Ns X.env.locals m) (hok:HOk X.prog X.w H' h') (G:AllBare g') :
  Inv X pins σ H' { s with heap:=h',gens:=g',drawn:=d',toks:=t' }:=by
 have B:∀ b o,X.s₀.heap.get? b=some o->b ≠ X.env.locals:=fun b o e=>aB5 (aC4 (aI5 e) I.ok.above)
 have y:∀ b o,X.s₀.heap.get? b=some o->b ∉ X.ex->b ∉ ch:=fun b o e a hb=>by
  rcases (g b hb).1 with z | z
  ·exact a z
  ·exact absurd (aC4 (aI5 e) z) (aF8 _)
 have h:∀ x c,X.env.cells.lookup x=some c->∀ v,s.heap.IsCell c v->h'.IsCell c v:=fun x c e v K=>by
  obtain ⟨o,A,hd⟩:=K
  have f:c ∉ ch:=fun z=>(g c z).2.2.1 x c e rfl
  by_cases hc:c∈X.fs
  ·obtain ⟨sl,q⟩:=slot c o (I.cne x c e) hc f A (I.freeC x c e)
   exact ⟨_,q,hd⟩
  ·exact ⟨o,keep c o (I.cne x c e) hc f A (I.freeC x c e),hd⟩
 refine ⟨I.ok,I.os,G,⟨fun b o e n hb a=>?_,fun b o e n hb a=>?_,fun b o e n a=>?_,fun b o e a=>?_,fun b xs e=>tups b xs (I.base.tups b xs e),fun b o xs e=>frzs b o xs (I.base.frzs b o xs e),fun b ps e=>?_⟩,?_,fun x c e=>?_,?_,fun x c e=>?_,fun p E=>?_,hok,I.len⟩
 ·exact keep b o (B b o e) hb (y b o e a) (I.base.keep b o e n hb a) (I.base.free b o e n a)
 ·obtain ⟨sl,j⟩:=I.base.slot b o e n hb a
  obtain ⟨C,e2⟩:=slot b _ (B b o e) hb (y b o e a) j (I.base.free b o e n a)
  exact ⟨C,e2⟩
 ·obtain ⟨o',j⟩:=I.base.there b o e a
  exact free b o' (y b o e a) j (I.base.free b o e n a)
 ·obtain ⟨o',j⟩:=I.base.there b o e a
  exact there b o' (y b o e a) j
 ·obtain ⟨J,j⟩:=I.base.tbls b ps e
  obtain ⟨M,e2⟩:=tbls b _ j
  exact ⟨J ++ M,by rw [e2,Array.append_assoc]⟩
 ·obtain ⟨m,hn,F⟩:=I.loc
  refine ⟨m,ns m hn,fun i x v j e2 L=>?_⟩
  obtain ⟨u,r,l⟩:=F i x v j e2 L
  refine ⟨u,r,?_⟩
  rcases l with l | ⟨k,c,e,z⟩
  ·exact .inl l
  ·exact .inr ⟨k,c,e,h x c e _ z⟩
 ·obtain ⟨v,z⟩:=I.cell x c e
  exact ⟨v,h x c e v z⟩
 ·obtain ⟨m,⟨o,_,_,A,_⟩,_⟩:=I.loc
  exact free _ o (fun z=>(g _ z).2.1 rfl) A I.free
 ·obtain ⟨v,o,A,hd⟩:=I.cell x c e
  exact free c o (fun z=>(g c z).2.2.1 x c e rfl) A (I.freeC x c e)
 ·obtain ⟨e,n,ne,D,d⟩:=I.pin p E
  have f:p.1 ∉ ch:=fun z=>(g p.1 z).2.2.2 p E rfl
  exact ⟨keep p.1 p.2 ne D f e n,free p.1 p.2 f e n,ne,D,d⟩
theorem Inv.un {t':Nat} (I:Inv X pins σ H s) (u:Un X.fs [] H H' s.heap h') (hok:HOk X.prog X.w H' h'):Inv X pins σ H' { s with heap:=h',toks:=t' }:=by
 obtain ⟨m,⟨o,es,ep,f,r⟩,_⟩:=id I.loc
 obtain ⟨sl,g⟩:=u.any f I.free (by simp)
 exact I.step (g':=s.gens) (d':=s.drawn) (ch:=[]) (fun _ z=>nomatch z) (fun b o _ hb _ e n=>u.keep b o e n hb (by simp)) (fun b o _ hb _ e n=>u.slot b o e n hb (by simp)) (fun b o _ e n=>u.free b o e n (by simp)) (fun b o _ e=>u.there b o e (by simp)) u.tups u.frzs u.tbls (fun i hm=>by
  obtain ⟨o',d,c,a,h⟩:=hm
  rw [f] at a;cases a
  exact ⟨_,d,c,g,h⟩) hok I.bare
theorem Inv.call {g':Array GenState} {t':Nat} {d':Drawn} {ch:List Addr} (I:Inv X pins σ H s) (u:Un (frs X.stack) ch H H' s.heap h') (hok:HOk X.prog X.w H' h') (l:AllBare g')
  (f:∀ b∈ch,(b∈X.ex\/X.s₀.heap.objs.size<=b)/\b ≠ X.env.locals/\(∀ x c,X.env.cells.lookup x=some c->c ≠ b)/\∀ p∈X.pn ++ pins,p.1 ≠ b) :
  Inv X pins σ H' { s with heap:=h',gens:=g',drawn:=d',toks:=t' }:=by
 obtain ⟨m,⟨o,es,ep,j,r⟩,_⟩:=id I.loc
 obtain ⟨sl,i⟩:=u.any j I.free fun z=>(f _ z).2.1 rfl
 exact I.step (ch:=ch) f (fun b o i hb a e n=>u.keep b o e n (fun z=>(aA8.mp (I.stkSub b z)).elim i hb) a) (fun b o _ _ a e n=>u.any e n a) (fun b o a e n=>u.free b o e n a) (fun b o a e=>u.there b o e a) u.tups u.frzs u.tbls (fun v hm=>by
  obtain ⟨o',h,g,d,q⟩:=hm
  rw [j] at d;cases d
  exact ⟨_,h,g,i,q⟩) hok l
theorem Inv.turned {t':Nat} {it:Addr} (I:Inv X pins σ H s) (k:∀ b o,b ≠ it->s.heap.get? b=some o->h'.get? b=some o) (hn:H it=none) (f:it ≠ X.env.locals)
  (j:it∈X.ex\/X.s₀.heap.objs.size<=it) (i:∀ x c,X.env.cells.lookup x=some c->c ≠ it) (h:∀ p∈X.pn ++ pins,p.1 ≠ it):Inv X pins σ H { s with heap:=h',toks:=t' }:=by
 have d:∀ b u,H b=some u->b ≠ it:=fun b u e z=>by rw [z,hn] at e;cases e
 refine I.step (g':=s.gens) (d':=s.drawn) (ch:=[it]) (fun b hb=>?_) (fun b o _ _ a e _=>k b o (fun z=>a (by simp [z])) e) (fun b o _ _ a e _=>⟨o.slots,k b o (fun z=>a (by simp [z])) e⟩) (fun _ _ _ _ n=>n)
  (fun b o a e=>⟨o,k b o (fun z=>a (by simp [z])) e⟩) (fun _ _ e=>e) (fun _ _ _ e=>e) (fun b ps e=>⟨#[],by rw [e];simp⟩) (fun m hm=>?_) (fun b u e=>?_) I.bare
 ·have e:b=it:=by simpa using hb
  subst e
  exact ⟨j,f,i,h⟩
 ·obtain ⟨o,es,ep,g,r⟩:=hm
  exact ⟨o,es,ep,k _ o (Ne.symm f) g,r⟩
 ·refine (I.hok b u e).stay (fun c v a q=>k c v ?_ q) (fun _ q=>q) fun _ _ q=>q
  rcases a with z | z
  ·rw [z];exact d b u e
  ·exact d c _ z
theorem Inv.tok (I:Inv X pins σ H s) (t:Nat):Inv X pins σ H { s with toks:=t }:=I.un (h':=s.heap) (t':=t) Un.refl I.hok
theorem Inv.kept {t':Nat} (I:Inv X pins σ H s) (k:∀ b u,s.heap.get? b=some u->h'.get? b=some u):Inv X pins σ H { s with heap:=h',toks:=t' }:=I.un (Un.kept k) (I.hok.kept k)
theorem Inv.laid {a:Addr} {o:HO} {t':Nat} (I:Inv X pins σ H s) (k:∀ b u,s.heap.get? b=some u->h'.get? b=some u) (c:s.heap.objs.size<=a) (new:ObjOk X.prog X.w (upd H a o) h' a o) :
  Inv X pins σ (upd H a o) { s with heap:=h',toks:=t' }:=I.un (Un.laid k c (I.hok.fresh c)) (I.hok.laid k c new)
theorem Inv.write {x e:Addr} {o:HO} {t':Nat} (I:Inv X pins σ H s) (c:Mut (H x)) (d:e=x\/H e=some (.own x)) (k:∀ b u,b ≠ e->s.heap.get? b=some u->h'.get? b=some u) (a:∃ u,h'.get? e=some u)
  (new:ObjOk X.prog X.w (upd H x o) h' x o):Inv X pins σ (upd H x o) { s with heap:=h',toks:=t' }:=I.un (Un.write c d k a) (I.hok.write c d k a new)
theorem Inv.pins_of {a:List (Addr × Obj)} (I:Inv X pins σ H s) (h:∀ p∈a,s.heap.get? p.1=some p.2/\H p.1=none/\p.1 ≠ X.env.locals/\p.1 ∉ X.fs/\∀ v,p.2.data ≠ .cell v):Inv X a σ H s :=
 ⟨I.ok,I.os,I.bare,I.base,I.loc,I.cell,I.free,I.freeC,fun p b=>(aA7.mp b).elim (fun z=>I.pin p (aC6 _ z)) (h p),I.hok,I.len⟩
theorem nodup_ix {N:List Str} (d:N.Nodup) {i j:Nat} {x:Str} (a:N[i]?=some x) (b:N[j]?=some x):i=j:=by
 obtain ⟨g,c⟩:=aA1.mp a
 obtain ⟨f,e2⟩:=aA1.mp b
 exact (List.getElem_inj d).mp (c.trans e2.symm)
theorem aj1 {M:Model} {A:Around} {E:Value->Shared->Prop} {i:Nat} {x:Str} {v:V} {u:Value} {Q:Unit->Shared->Prop} (I:Inv X pins σ H s) (hN:X.N.Nodup) (hi:X.N[i]?=some x) (C:Loc X.env.scope x) (r:RelV v u)
  (h:∀ Y,Inv X pins (σ.set i (some v)) H Y->(∃ a,Heap.SameBut a s.heap Y.heap/\(a=X.env.locals\/X.env.cells.lookup x=some a))->Q () Y) (hf:X.fn x=true\/X.env.scope.names.lookup x=some .local:=by first | exact .inl rfl | exact .inr rfl | assumption):wpAny M A (storeName X.env x u) Q E s:=by
 obtain ⟨m,hn,hl⟩:=id I.loc
 have O:(X.env.scope.kind == .class || (X.env.scope.kind == .module && X.env.locals != X.env.globals))=false:=by rw [I.ok.kind];rfl
 have G:i < σ.length:=by rw [I.len];exact (aA1.mp hi).1
 have cne:=I.cne
 have l:∀ {a:Addr} {h':Heap},(∃ o,s.heap.get? a=some o/\H a=none)->Heap.SameBut a s.heap h'->HOk X.prog X.w H h':=fun {a h'} ha f b ob e=>by
  obtain ⟨_,_,D⟩:=ha
  refine (I.hok b ob e).stay (fun c S B q=>(f.2 c ?_).trans q) (fun _ q=>q) fun _ _ q=>q
  rintro rfl
  rcases B with rfl | B
  ·rw [D] at e;cases e
  ·rw [D] at B;cases B
 rcases C with F | F
 ·refine wpAny_storeName_local F hn (fun h' a1 f=>?_) O
  obtain ⟨oL,_,_,a0,_⟩:=id hn
  refine h _ ⟨I.ok,I.os,I.bare,⟨fun b o e n hb C=>?_,fun b o e n hb C=>?_,I.base.free,fun b o e C=>?_,I.base.tups,I.base.frzs,I.base.tbls⟩,⟨_,a1,fun j y v' g e2 e3=>?_⟩,fun y c e=>?_,I.free,I.freeC,fun p W=>?_,l ⟨oL,a0,I.free⟩ f,by simpa using I.len⟩ ⟨_,f,.inl rfl⟩
  ·exact (f.2 b (aB5 (aC4 (aI5 e) I.ok.above))).trans (I.base.keep b o e n hb C)
  ·obtain ⟨sl,g⟩:=I.base.slot b o e n hb C
   exact ⟨sl,(f.2 b (aB5 (aC4 (aI5 e) I.ok.above))).trans g⟩
  ·obtain ⟨o',g⟩:=I.base.there b o e C
   exact ⟨o',(f.2 b (aB5 (aC4 (aI5 e) I.ok.above))).trans g⟩
  ·by_cases hj:j=i
   ·subst hj
    rw [hi] at g;cases g
    rw [List.getElem?_set_self G] at e2
    cases e2
    exact ⟨u,r,.inl ⟨F,by simp⟩⟩
   ·rw [List.getElem?_set_ne (Ne.symm hj)] at e2
    obtain ⟨U,Z,q⟩:=hl j y v' g e2 e3
    refine ⟨U,Z,?_⟩
    rcases q with ⟨k,e⟩ | ⟨k,c,e,z⟩
    ·refine .inl ⟨k,?_⟩
     have:y ≠ x:=fun e=>hj (nodup_ix hN g (e ▸ hi))
     simp [this,e]
    ·exact .inr ⟨k,c,e,z.sameBut f (cne y c e)⟩
  ·obtain ⟨S,z⟩:=I.cell y c e
   exact ⟨S,z.sameBut f (cne y c e)⟩
  ·obtain ⟨e,n,ne,T,d⟩:=I.pin p W
   exact ⟨(f.2 p.1 ne).trans e,n,ne,T,d⟩
 ·have J:X.fn x=true:=by
   rcases hf with z | z
   ·exact z
   ·rw [z] at F;cases F
  obtain ⟨c,B⟩:=I.ok.has x (.inl F)
  obtain ⟨S,z⟩:=I.cell x c B
  refine wpAny_storeName_cell I.ok.kind F B z (fun h' P f=>?_)
  obtain ⟨oc,L,K⟩:=id z
  refine h { s with heap:=h' } ⟨I.ok,I.os,I.bare,⟨fun b o e n hb C=>?_,fun b o e n hb C=>?_,I.base.free,fun b o e C=>?_,I.base.tups,I.base.frzs,I.base.tbls⟩,⟨m,hn.sameBut f (Ne.symm (cne x c B)),fun j y v' g e2 e3=>?_⟩,fun y R e=>?_,I.free,I.freeC,fun p W=>?_,l ⟨oc,L,I.freeC x c B⟩ f,by simpa using I.len⟩ ⟨c,f,.inr B⟩
  ·exact (f.2 b (aB5 (aC4 (aI5 e) (I.ok.cab x c J B)))).trans (I.base.keep b o e n hb C)
  ·obtain ⟨sl,g⟩:=I.base.slot b o e n hb C
   exact ⟨sl,(f.2 b (aB5 (aC4 (aI5 e) (I.ok.cab x c J B)))).trans g⟩
  ·obtain ⟨o',g⟩:=I.base.there b o e C
   exact ⟨o',(f.2 b (aB5 (aC4 (aI5 e) (I.ok.cab x c J B)))).trans g⟩
  ·by_cases hj:j=i
   ·subst hj
    rw [hi] at g;cases g
    rw [List.getElem?_set_self G] at e2
    cases e2
    exact ⟨u,r,.inr ⟨.inl F,c,B,P⟩⟩
   ·rw [List.getElem?_set_ne (Ne.symm hj)] at e2
    obtain ⟨U,Z,q⟩:=hl j y v' g e2 e3
    refine ⟨U,Z,?_⟩
    rcases q with q | ⟨k,R,e,z'⟩
    ·exact .inl q
    ·refine .inr ⟨k,R,e,z'.sameBut f ?_⟩
     rintro rfl
     exact hj (nodup_ix hN g (I.ok.inj _ _ _ e B ▸ hi))
  ·by_cases hcc:R=c
   ·subst hcc;exact ⟨_,P⟩
   ·obtain ⟨w2,z2⟩:=I.cell y R e
    exact ⟨w2,z2.sameBut f hcc⟩
  ·obtain ⟨e,n,ne,T,d⟩:=I.pin p W
   refine ⟨(f.2 p.1 ?_).trans e,n,ne,T,d⟩
   intro q
   rw [q,L] at e
   have q':oc=p.2:=aC5 e
   exact d S (by rw [← q'];exact K)
theorem alj {M:Model} {A:Around} {E:Value->Shared->Prop} {i:Nat} {x:Str} {v:V} {u:Value} {Q:Unit->Shared->Prop} (I:Inv X pins σ H s) (d:X.N.Nodup) (hi:X.N[i]?=some x) (c:Loc X.env.scope x) (r:RelV v u)
  (h:∀ a,Inv X pins (σ.set i (some v)) H a->Q () a) (hf:X.fn x=true\/X.env.scope.names.lookup x=some .local:=by first | exact .inl rfl | exact .inr rfl | assumption):wpAny M A (storeName X.env x u) Q E s :=
 aj1 I d hi c r (fun a b _=>h a b) hf
theorem Inv.call' {a:Shared} {ch:List Addr} (I:Inv X pins σ H s) (f:a.os=s.os) (u:Un (frs X.stack) ch H H' s.heap a.heap) (hok:HOk X.prog X.w H' a.heap) (g:AllBare a.gens)
  (d:∀ b∈ch,(b∈X.ex\/X.s₀.heap.objs.size<=b)/\b ≠ X.env.locals/\(∀ x c,X.env.cells.lookup x=some c->c ≠ b)/\∀ p∈X.pn ++ pins,p.1 ≠ b):Inv X pins σ H' a:=by
 obtain ⟨h',g',d',t',o'⟩:=a
 have e:o'=s.os:=f
 subst e
 exact I.call (g':=g') (t':=t') (d':=d') u hok g d
end
abbrev XK:=Value->Option Addr->Hp->Prop
abbrev St:=List (Option V)
abbrev VK:=V->Hp->Prop
abbrev TE:=St->Hp->VK->Prop
abbrev TT:=St->Hp->(Bool->Hp->Prop)->Prop
abbrev TA:=St->Hp->(List V->Hp->Prop)->Prop
structure Ends where
 nx:St->Hp->Prop
 rt:VK
 bk:St->Hp->Prop:=fun _ _=>False
 ct:St->Hp->Prop:=fun _ _=>False
abbrev TS:=Ends->St->Hp->Prop
def EP (X:Cx) (pins:List (Addr × Obj)) (σ:St) (Q:VK) (u:Value) (s':Shared):Prop:=∃ v H',Inv X pins σ H' s'/\RelV v u/\Q v H'
def TP (X:Cx) (pins:List (Addr × Obj)) (σ:St) (Q:Bool->Hp->Prop) (b:Bool) (s':Shared):Prop:=∃ H',Inv X pins σ H' s'/\Q b H'
def AP (X:Cx) (pins:List (Addr × Obj)) (σ:St) (Q:List V->Hp->Prop) (us:List Value) (s':Shared):Prop:=∃ vs H',Inv X pins σ H' s'/\Vals vs us/\Q vs H'
def SP (X:Cx) (pins:List (Addr × Obj)) (D:Ends) (f:Flow) (s':Shared):Prop :=
 match f with
 | .next=>∃ σ' H',Inv X pins σ' H' s'/\D.nx σ' H'
 | .brk=>∃ σ' H',Inv X pins σ' H' s'/\D.bk σ' H'
 | .cont=>∃ σ' H',Inv X pins σ' H' s'/\D.ct σ' H'
 | .ret u=>∃ v σ' H',Inv X pins σ' H' s'/\RelV v u/\D.rt v H'
def PE (X:Cx) (e:Expr) (t:TE):Prop :=
 ∀ (pins:List (Addr × Obj)) (s:Shared) (σ:St) (H:Hp) (Q:VK),Inv X pins σ H s->t σ H Q->wpAny (model X.prog X.w) X.A (eval e X.env) (EP X pins σ Q) X.xe s
def PT (X:Cx) (e:Expr) (t:TT):Prop :=
 ∀ (pins:List (Addr × Obj)) (s:Shared) (σ:St) (H:Hp) (Q:Bool->Hp->Prop),Inv X pins σ H s->t σ H Q->wpAny (model X.prog X.w) X.A (isTrue e X.env (eval e X.env)) (TP X pins σ Q) X.xe s
def PW (X:Cx) (e:Expr) (t:TT):Prop :=
 ∀ (whole:Sem Value) (pins:List (Addr × Obj)) (s:Shared) (σ:St) (H:Hp) (Q:Bool->Hp->Prop),Inv X pins σ H s->t σ H Q->wpAny (model X.prog X.w) X.A (isTrue e X.env whole) (TP X pins σ Q) X.xe s
theorem PW.pt {X:Cx} {e:Expr} {t:TT} (h:PW X e t):PT X e t:=h _
def PA (X:Cx) (es:List Expr) (t:TA):Prop :=
 ∀ (pos:Pos) (pins:List (Addr × Obj)) (s:Shared) (σ:St) (H:Hp) (Q:List V->Hp->Prop),Inv X pins σ H s->t σ H Q->wpAny (model X.prog X.w) X.A (spliced (backTo pos (starEach es X.env))) (AP X pins σ Q) X.xe s
def PS (X:Cx) (st:Stmt) (t:TS):Prop :=
 ∀ (pins:List (Addr × Obj)) (s:Shared) (σ:St) (H:Hp) (D:Ends),Inv X pins σ H s->t D σ H->wpAny (model X.prog X.w) X.A (exec st X.env) (SP X pins D) X.xe s
def PSs (X:Cx) (st:List Stmt) (t:TS):Prop :=
 ∀ (pins:List (Addr × Obj)) (s:Shared) (σ:St) (H:Hp) (D:Ends),Inv X pins σ H s->t D σ H->wpAny (model X.prog X.w) X.A (execs st X.env) (SP X pins D) X.xe s
theorem thn {α:Type} {t:Sem α} {Q Q' : α->Shared->Prop} {M:Model} {A:Around} {E:Value->Shared->Prop} {s:Shared} (h:wpAny M A t Q E s) (b:∀ a s,Q a s->Q' a s):wpAny M A t Q' E s:=aI9 h b fun _ _ x=>x
section
variable {X:Cx}
def tVar (i:Nat):TE:=fun σ H Q=>∃ v,σ[i]?=some (some v)/\Q v H
def tC (v:V):TE:=fun _ H Q=>Q v H
theorem ayx {i:Nat} {x:Str} {d:Pos} (n:X.N[i]?=some x) (o:Vis X.env.scope x) (hd:(x == ("__debug__" : Str))=false:=by decide) (f:(x == ("__classdict__" : Str))=false:=by decide):PE X (.Name x d) (tVar i):=by
 intro pins s σ H Q I h
 obtain ⟨v,e,h⟩:=h
 obtain ⟨m,hn,j⟩:=I.loc
 obtain ⟨u,r,l⟩:=j i x v n e o
 have fin:EP X pins σ Q u s:=⟨v,H,I,r,h⟩
 rcases l with ⟨b,hm⟩ | ⟨b,c,g,a⟩
 ·exact wpAny_Name (wpAny_loadName_local I.ok.kind b hn hm fin) hd
 ·rcases b with b | b
  ·exact wpAny_Name (wpAny_loadName_cell I.ok.kind b g a fin) hd
  ·exact wpAny_Name (wpAny_loadName_free I.ok.kind b g a fin f) hd
theorem aae {i j pos}:PE X (.Constant (.int i) j pos) (tC (.int i)):=fun _ _ _ H _ I h=>wpAny_Constant_int ⟨.int i,H,I.tok _,⟨_,rfl⟩,h⟩
theorem afi {b j pos}:PE X (.Constant (.bool b) j pos) (tC (.bl b)):=fun _ _ _ H _ I h=>Constant_bool ⟨.bl b,H,I,rfl,h⟩
theorem ads {j pos}:PE X (.Constant .none j pos) (tC .non):=fun _ _ _ H _ I h=>Constant_none ⟨.non,H,I,rfl,h⟩
def Gl (X:Cx) (x:Str):Prop:=X.env.kindOf x=some .globalImplicit
theorem ai3 {E:Value->Shared->Prop} {pins:List (Addr × Obj)} {s:Shared} {σ:St} {H:Hp} {x:Str} {u:Value} {a:Pos} {Q:Value->Shared->Prop} (I:Inv X pins σ H s) (b:Gl X x) (hm:X.mg x=some u) (h:Q u s)
  (hd:(x == ("__debug__" : Str))=false:=by decide):wpAny (model X.prog X.w) X.A (eval (.Name x a) X.env) Q E s :=
 Calls.Name_function_global I.ok.kind b (Calls.loadGlobal_global (by rw [I.ok.glob];exact I.mod.glob.keeps I.bk) hm h) hd
theorem aea {E:Value->Shared->Prop} {pins:List (Addr × Obj)} {s:Shared} {σ:St} {H:Hp} {x:Str} {u:Value} {a:Pos} {Q:Value->Shared->Prop} (I:Inv X pins σ H s) (d:Gl X x) (hm:X.mg x=none) (f:bootBuiltins x=some u) (h:Q u s)
  (hn:x ≠ "__name__":=by decide) (hd:(x == ("__debug__" : Str))=false:=by decide):wpAny (model X.prog X.w) X.A (eval (.Name x a) X.env) Q E s:=by
 obtain ⟨mb,c,b⟩:=I.mod.blt
 exact Calls.Name_function_global I.ok.kind d (Calls.loadGlobal_builtin (by rw [I.ok.glob];exact I.mod.glob.keeps I.bk) hm (by rw [I.ok.blt];exact c.keeps I.bk) ((b x hn).trans f) h) hd
theorem awa {x:Str} {v:V} {u:Value} {a:Pos} (b:Gl X x) (hm:X.mg x=some u) (r:RelV v u) (hd:(x == ("__debug__" : Str))=false:=by decide):PE X (.Name x a) (tC v) :=
 fun _ _ _ H _ I h=>ai3 I b hm ⟨v,H,I,r,h⟩ hd
theorem agv {x:Str} {v:V} {u:Value} {a:Pos} (b:Gl X x) (hm:X.mg x=none) (c:bootBuiltins x=some u) (r:RelV v u) (hn:x ≠ "__name__":=by decide) (hd:(x == ("__debug__" : Str))=false:=by decide):PE X (.Name x a) (tC v) :=
 fun _ _ _ H _ I h=>aea I b hm c ⟨v,H,I,r,h⟩ hn hd
variable {a b:Expr} {ta tb:TE} {pos:Pos}
def PC (X:Cx) (op:CmpOp) (a b:Expr) (t:TE):Prop :=
 ∀ (pins:List (Addr × Obj)) (s:Shared) (σ:St) (H:Hp) (Q:VK),Inv X pins σ H s->t σ H Q ->
  wpAny (model X.prog X.w) X.A (eval a X.env) (fun v s₁=>wpAny (model X.prog X.w) X.A (eval b X.env) (fun u s₂=>wpAny (model X.prog X.w) X.A (compareOp op v u) (EP X pins σ Q) X.xe s₂) X.xe s₁) X.xe s
def tB (t:TE):TT:=fun σ H Q=>t σ H fun x H1=>∃ c,x=.bl c/\Q c H1
theorem ayy {op:CmpOp} {t:TE} (h:PC X op a b t) (f:behindInMarks op b=false:=by first | exact nobehind _ (by decide) (by decide) | rfl):PT X (.Compare a [op] [b] pos) (tB t):=by
 intro pins s σ H Q I j
 refine wpAny_isTrue_Compare1 (thn (h pins s σ H _ I j) fun v s1 f=>thn f fun u s2 g=>thn g fun c o ⟨x,i,l,n,m⟩=>?_) f
 obtain ⟨d,rfl,q⟩:=m
 cases n
 exact aJ4 ⟨i,l,q⟩
theorem adt {e:Expr} {t:TE} (h:PE X e t) (i:∀ whole,isTrue e X.env whole=(do let v ← whole;standAt e.pos;holding [v] (truthy v)):=by intro _;rfl):PT X e (tB t):=by
 intro pins s σ H Q I b
 refine isTrue_plain (thn (h pins s σ H _ I b) fun v s1 ⟨x,a,c,g,f⟩=>?_) (i _)
 obtain ⟨d,rfl,q⟩:=f
 cases g
 exact aJ4 ⟨a,c,q⟩
variable {tA tB':TT} {rest:List Expr}
def tAnd (t u:TT):TT:=fun σ H Q=>t σ H fun c H1=>if c=true then u σ H1 Q else Q false H1
def tOr (t u:TT):TT:=fun σ H Q=>t σ H fun c H1=>if c=true then Q true H1 else u σ H1 Q
def tNot (t:TT):TT:=fun σ H Q=>t σ H fun c H1=>Q (!c) H1
theorem agw (ha:PT X a tA):PW X (.BoolOp .And [a] pos) tA:=by
 intro b pins s σ H Q I h
 refine isTrue_and (thn (ha pins s σ H Q I h) fun c s1 e=>?_)
 cases c with
 | true=>exact isTrue_and_nil e
 | false=>exact e
theorem aqq (ha:PT X a tA):PW X (.BoolOp .Or [a] pos) tA:=by
 intro b pins s σ H Q I h
 refine isTrue_or (thn (ha pins s σ H Q I h) fun c s1 e=>?_)
 cases c with
 | false=>exact isTrue_or_nil e
 | true=>exact e
theorem ah1 (ha:PT X a tA) (hb:PW X (.BoolOp .And (b :: rest) pos) tB'):PW X (.BoolOp .And (a :: b :: rest) pos) (tAnd tA tB'):=by
 intro i pins s σ H Q I h
 refine isTrue_and (thn (ha pins s σ H _ I h) fun c s1 ⟨g,d,f⟩=>?_)
 cases c with
 | true=>exact hb i pins s1 σ g Q d f
 | false=>exact ⟨g,d,f⟩
theorem avm (ha:PT X a tA) (hb:PW X (.BoolOp .Or (b :: rest) pos) tB'):PW X (.BoolOp .Or (a :: b :: rest) pos) (tOr tA tB'):=by
 intro i pins s σ H Q I h
 refine isTrue_or (thn (ha pins s σ H _ I h) fun c s1 ⟨g,d,f⟩=>?_)
 cases c with
 | true=>exact ⟨g,d,f⟩
 | false=>exact hb i pins s1 σ g Q d f
theorem aeb (ha:PT X a tA):PT X (.UnaryOp .Not a pos) (tNot tA):=by
 intro pins s σ H Q I h
 exact isTrue_not (ha pins s σ H (fun c b=>Q (!c) b) I h)
def ao9 (ta tb:TE):TE:=fun σ H Q=>ta σ H fun x H1=>∃ c,x=.bl c/\if c=true then tb σ H1 Q else Q (.bl false) H1
def tOrV (ta tb:TE):TE:=fun σ H Q=>ta σ H fun x H1=>∃ c,x=.bl c/\if c=true then Q (.bl true) H1 else tb σ H1 Q
def apa (ta:TE):TE:=fun σ H Q=>ta σ H fun x H1=>∃ c,x=.bl c/\Q (.bl (!c)) H1
theorem af7 {op} {t:TE} (h:PE X a t):PE X (.BoolOp op [a] pos) t:=fun pins s σ H Q I b=>BoolOp_one (h pins s σ H Q I b)
theorem af8 (ha:PE X a ta) (hb:PE X (.BoolOp .And (b :: rest) pos) tb):PE X (.BoolOp .And (a :: b :: rest) pos) (ao9 ta tb):=by
 intro pins s σ H Q I h
 refine BoolOp_and (thn (ha pins s σ H _ I h) fun v s1 ⟨x,g,f,i,d⟩=>?_)
 obtain ⟨c,rfl,d⟩:=d
 cases i
 refine aJ4 ?_
 cases c with
 | true=>exact hb pins s1 σ g Q f d
 | false=>exact ⟨.bl false,g,f,rfl,d⟩
theorem a01 (ha:PE X a ta) (hb:PE X (.BoolOp .Or (b :: rest) pos) tb):PE X (.BoolOp .Or (a :: b :: rest) pos) (tOrV ta tb):=by
 intro pins s σ H Q I h
 refine BoolOp_or (thn (ha pins s σ H _ I h) fun v s1 ⟨x,g,f,i,d⟩=>?_)
 obtain ⟨c,rfl,d⟩:=d
 cases i
 refine aJ4 ?_
 cases c with
 | false=>exact hb pins s1 σ g Q f d
 | true=>exact ⟨.bl true,g,f,rfl,d⟩
theorem ayz (ha:PE X a ta):PE X (.UnaryOp .Not a pos) (apa ta):=by
 intro pins s σ H Q I h
 refine UnaryOp_ (thn (ha pins s σ H _ I h) fun v s1 ⟨x,g,d,f,b⟩=>?_)
 obtain ⟨c,rfl,b⟩:=b
 cases f
 exact not_of (aJ4 ⟨.bl (!c),g,d,rfl,b⟩)
def tIf (t:TT) (ta tb:TE):TE:=fun σ H Q=>t σ H fun c H1=>if c=true then ta σ H1 Q else tb σ H1 Q
theorem atd {c:Expr} (j:PT X c tA) (ha:PE X a ta) (hb:PE X b tb):PE X (.IfExp c a b pos) (tIf tA ta tb):=by
 intro pins s σ H Q I h
 refine wpAny_IfExp (thn (j pins s σ H _ I h) fun d s1 ⟨i,f,g⟩=>?_)
 cases d with
 | true=>exact ha pins s1 σ i Q f g
 | false=>exact hb pins s1 σ i Q f g
end
def SqL (K:Frag) (H:Hp) (a:Addr) (xs:List V):Prop :=
 Rd H a (.lst xs) ∨
  ∃ (o:Obj) (its:Array Value) (n:Nat),K.lookup a=some o/\o.cls=.type "list"/\o.dict=none/\o.data=.seq its n/\its.size<=sizeLine/\Vals xs its.toList
def SqT (K:Frag) (H:Hp) (a:Addr) (xs:List V):Prop :=
 Rd H a (.tup xs) ∨
  ∃ (o:Obj) (its:Array Value) (n:Nat),K.lookup a=some o/\o.cls=.type "tuple"/\o.data=.seq its n/\its.size<=sizeLine/\Vals xs its.toList
def absV:Value->Option V
 | .none=>some .non
 | .bool b=>some (.bl b)
 | .int i _=>some (.int i)
 | .str x _=>some (.str x)
 | .bytes b _=>some (.byt b)
 | .float b _=>some (.flt b)
 | .ref a=>some (.ref a)
 | .type n=>some (.ty n)
 | _=>none
theorem RelV.abs {x:V} {u:Value} (r:RelV x u):absV u=some x:=by
 cases x with
 | non=>cases r;rfl
 | bl _=>cases r;rfl
 | int _=>obtain ⟨t,rfl⟩:=r;rfl
 | str _=>obtain ⟨t,rfl⟩:=r;rfl
 | byt _=>obtain ⟨t,rfl⟩:=r;rfl
 | flt _=>obtain ⟨t,rfl⟩:=r;rfl
 | ref _=>cases r;rfl
 | ty _=>cases r;rfl
theorem RelV.inj {x y:V} {u:Value} (r:RelV x u) (q:RelV y u):x=y:=aC5 (r.abs.symm.trans q.abs)
theorem Vals.inj:∀ {xs ys:List V} {us:List Value},Vals xs us->Vals ys us->xs=ys
 | _,_,_,.nil,.nil=>rfl
 | _,_,_,.cons r t,.cons r' t'=>by rw [r.inj r',Vals.inj t t']
section
variable {X:Cx} {pins:List (Addr × Obj)} {σ:St} {H:Hp} {s:Shared} {a:Addr} {xs ys:List V}
theorem SqL.of {K:Frag} (h:H a=some (.lst xs)):SqL K H a xs:=.inl (.inl h)
theorem SqT.of {K:Frag} (h:H a=some (.tup xs)):SqT K H a xs:=.inl (.inl h)
theorem Inv.list (I:Inv X pins σ H s) (h:SqL X.K H a xs):∃ its:List Value,Vals xs its/\PlainL s.heap a its.toArray/\xs.length<=sizeLine:=by
 rcases h with h | ⟨o,its,n,c,d,hd,b,hz,r⟩
 ·obtain ⟨z,its,n,r,e⟩:=h.ok I.hok
  exact ⟨its,r,⟨_,n,e,rfl,rfl,rfl⟩,z⟩
 ·refine ⟨its.toList,r,⟨o,n,I.kIn a o c,d,hd,by simpa using b⟩,?_⟩
  have e:=r.length
  simp only [Array.length_toList] at e
  lia
theorem Inv.tuple (I:Inv X pins σ H s) (h:SqT X.K H a xs):∃ its:List Value,Vals xs its/\IsTup s.heap a its.toArray/\xs.length<=sizeLine:=by
 rcases h with h | ⟨o,its,n,c,d,b,hz,r⟩
 ·obtain ⟨z,its,r,p⟩:=h.ok I.hok
  exact ⟨its,r,p,z⟩
 ·refine ⟨its.toList,r,⟨o,I.kIn a o c,d,n,by simpa using b⟩,?_⟩
  have e:=r.length
  simp only [Array.length_toList] at e
  lia
theorem Inv.list_inj (I:Inv X pins σ H s) (h:SqL X.K H a xs) (h':SqL X.K H a ys):xs=ys:=by
 obtain ⟨its,r,⟨o,n,e,_,_,d⟩,_⟩:=I.list h
 obtain ⟨its',c,⟨o',g,b,_,_,d'⟩,_⟩:=I.list h'
 rw [e] at b;cases b
 rw [d] at d'
 injection d' with f _
 have:its=its':=by simpa using congrArg Array.toList f
 subst this
 exact r.inj c
end
abbrev Cx.wish (X:Cx) (E:Value->Shared->Prop):Cx:={ X with xe:=E }
abbrev Cx.nox (X:Cx):Cx:=X.wish fun _ _=>False
theorem Cx.Ok.wish {X:Cx} (ok:X.Ok) (E:Value->Shared->Prop):(X.wish E).Ok :=
 ⟨ok.mod,ok.kind,ok.glob,ok.blt,ok.above,ok.inj,ok.has,ok.cab,ok.hd,ok.frames,ok.stk,ok.exf,ok.bs,ok.bsz,ok.noex,ok.exfs,ok.funs,ok.frf⟩
theorem Cx.Ok.unwish {X:Cx} {E:Value->Shared->Prop} (ok:(X.wish E).Ok):X.Ok :=
 ⟨ok.mod,ok.kind,ok.glob,ok.blt,ok.above,ok.inj,ok.has,ok.cab,ok.hd,ok.frames,ok.stk,ok.exf,ok.bs,ok.bsz,ok.noex,ok.exfs,ok.funs,ok.frf⟩
section
variable {X:Cx} {pins:List (Addr × Obj)} {σ:St} {H:Hp} {s:Shared} {E:Value->Shared->Prop}
theorem Inv.wish (I:Inv X pins σ H s) (E:Value->Shared->Prop):Inv (X.wish E) pins σ H s:=⟨I.ok.wish E,I.os,I.bare,I.base,I.loc,I.cell,I.free,I.freeC,I.pin,I.hok,I.len⟩
theorem Inv.unwish (I:Inv (X.wish E) pins σ H s):Inv X pins σ H s:=⟨I.ok.unwish,I.os,I.bare,I.base,I.loc,I.cell,I.free,I.freeC,I.pin,I.hok,I.len⟩
theorem SP.unwish {D:Ends} {f:Flow} {b:Shared} (h:SP (X.wish E) pins D f b):SP X pins D f b:=by
 cases f with
 | next=>obtain ⟨a,H',I,q⟩:=h;exact ⟨a,H',I.unwish,q⟩
 | brk=>obtain ⟨a,H',I,q⟩:=h;exact ⟨a,H',I.unwish,q⟩
 | cont=>obtain ⟨a,H',I,q⟩:=h;exact ⟨a,H',I.unwish,q⟩
 | ret u=>obtain ⟨v,a,H',I,r,q⟩:=h;exact ⟨v,a,H',I.unwish,r,q⟩
theorem PSs.nox {st:List Stmt} {t:TS} (h:PSs X.nox st t):PSs X st t:=fun pins s σ H D I a =>
 aI9 (h pins s σ H D (I.wish _) a) (fun _ _ q=>q.unwish) fun _ _ z=>False.elim z
end
section
variable {X:Cx} {st:Stmt} {rest:List Stmt} {t u:TS} {e:Expr} {te:TE} {pos:Pos}
def apb:TS:=fun D σ H=>D.nx σ H
def tSeq (t u:TS):TS:=fun D σ H=>t { D with nx:=u D } σ H
theorem aa0:PSs X [] apb:=fun _ _ σ H _ I h=>wpAny_execs_nil ⟨σ,H,I,h⟩
theorem aac (d:PS X st t) (b:PSs X rest u):PSs X (st :: rest) (tSeq t u):=by
 intro pins s σ H D I h
 refine wpAny_execs_cons (thn (d pins s σ H { D with nx:=u D } I h) fun f s1 q=>?_)
 cases f with
 | next =>
  obtain ⟨a,H',c,q⟩:=q
  exact b pins s1 a H' D c q
 | ret v=>exact q
 | brk=>exact q
 | cont=>exact q
theorem aah (a:PS X st t):PSs X [st] t:=by
 intro pins s σ H D I h
 refine wpAny_execs_cons (thn (a pins s σ H D I h) fun f s1 q=>?_)
 cases f with
 | next=>exact wpAny_execs_nil q
 | ret v=>exact q
 | brk=>exact q
 | cont=>exact q
theorem Inv.quiet {pins:List (Addr × Obj)} {σ:St} {H:Hp} {s:Shared} (I:Inv X pins σ H s):interactive X.env=false:=by simp [interactive,I.ok.kind]
def apc (te:TE):TS:=fun D σ H=>te σ H fun _ H1=>D.nx σ H1
theorem abd (f:PE X e te) (b:swapsWith e none pos.line X.env=pure false:=by rfl):PS X (.Expr e pos) (apc te):=by
 intro pins s σ H D I h
 exact wpAny_Expr_any (thn (f pins s σ H _ I h) fun v s1 ⟨x,d,c,g,a⟩=>⟨σ,d,c,a⟩) I.quiet b
def tRet (te:TE):TS:=fun D σ H=>te σ H D.rt
theorem aas (f:PE X e te):PS X (.Return (some e) pos) (tRet te):=by
 intro pins s σ H D I h
 exact wpAny_Return_some (thn (f pins s σ H _ I h) fun v s1 ⟨x,d,b,c,a⟩=>⟨x,σ,d,b,c,a⟩)
def tIfS (c:TT) (t u:TS):TS:=fun D σ H=>c σ H fun b H1=>if b=true then t D σ H1 else u D σ H1
theorem abh {c:Expr} {a b:List Stmt} {f:TT} (l:PT X c f) (ha:PSs X a t) (hb:PSs X b u):PS X (.If c a b pos) (tIfS f t u):=by
 intro pins s σ H D I h
 refine wpAny_If (thn (l pins s σ H _ I h) fun d s1 ⟨g,i,j⟩=>?_)
 cases d with
 | true=>exact ha pins s1 σ g D i j
 | false=>exact hb pins s1 σ g D i j
def ay0:TS:=fun _ _ _=>False
theorem aec:PS X st ay0:=fun _ _ _ _ _ _ h=>h.elim
end
abbrev TG:=V->St->Hp->(St->Hp->Prop)->Prop
abbrev TGs:=List V->St->Hp->(St->Hp->Prop)->Prop
def PG (X:Cx) (target:Expr) (t:TG):Prop :=
 ∀ (pins:List (Addr × Obj)) (s:Shared) (σ:St) (H:Hp) (v:V) (u:Value) (Q:St->Hp->Prop),Inv X pins σ H s->RelV v u->t v σ H Q ->
  wpAny (model X.prog X.w) X.A (assign target X.env u) (fun _ s'=>∃ σ' H',Inv X pins σ' H' s'/\Q σ' H') X.xe s
def PGs (X:Cx) (ts:List Expr) (t:TGs):Prop :=
 ∀ (pins:List (Addr × Obj)) (s:Shared) (σ:St) (H:Hp) (vs:List V) (us:List Value) (Q:St->Hp->Prop),Inv X pins σ H s->Vals vs us->t vs σ H Q ->
  wpAny (model X.prog X.w) X.A (assignInOrder ((assignEach ts X.env).map (·.2)) us) (fun _ s'=>∃ σ' H',Inv X pins σ' H' s'/\Q σ' H') X.xe s
abbrev TSet:=V->V->V->Hp->(Hp->Prop)->Prop
def PSet (X:Cx) (t:TSet):Prop :=
 ∀ (pins:List (Addr × Obj)) (s:Shared) (σ:St) (H:Hp) (o i v:V) (ov iv u:Value) (Q:Hp->Prop),Inv X pins σ H s->RelV o ov->RelV i iv->RelV v u->t o i v H Q ->
  wpAny (model X.prog X.w) X.A (setItem ov iv u) (fun _ s'=>∃ H',Inv X pins σ H' s'/\Q H') X.xe s
section
variable {X:Cx} {pos:Pos}
def abp (i:Nat):TG:=fun v σ H Q=>Q (σ.set i (some v)) H
theorem aao {i:Nat} {x:Str} (c:X.N.Nodup) (hi:X.N[i]?=some x) (b:Loc X.env.scope x) (hf:X.fn x=true\/X.env.scope.names.lookup x=some .local:=by first | exact .inl rfl | exact .inr rfl | assumption):PG X (.Name x pos) (abp i):=by
 intro pins s σ H v u Q I r h
 exact wpAny_assign_Name (alj I c hi b r (fun d a=>⟨_,H,a,h⟩) hf)
def gNil:TGs:=fun vs σ H Q=>vs=[]/\Q σ H
def avn (t:TG) (u:TGs):TGs:=fun vs σ H Q=>∃ v r,vs=v :: r/\t v σ H fun σ' H'=>u r σ' H' Q
theorem acj:PGs X [] gNil:=by
 intro pins s σ H vs us Q I r h
 obtain ⟨e,h⟩:=h
 subst e
 cases r
 exact assignInOrder_nil ⟨σ,H,I,h⟩
theorem aa4 {e:Expr} {es:List Expr} {t:TG} {u:TGs} (c:PG X e t) (b:PGs X es u)
  (d:(assignEach (e :: es) X.env).map (·.2)=assign e X.env :: (assignEach es X.env).map (·.2):=by rfl):PGs X (e :: es) (avn t u):=by
 intro pins s σ H vs us Q I r h
 obtain ⟨v,l,j,h⟩:=h
 subst j
 cases r with
 | cons r rr =>
  rw [d]
  refine assignInOrder_cons (thn (c pins s σ H _ _ _ I r h) fun _ s1 ⟨a,f,g,i⟩=>?_)
  exact b pins s1 a f _ _ Q g rr i
def gTup (K:Frag) (n:Nat) (t:TGs):TG:=fun v σ H Q=>∃ a xs,v=.ref a/\SqT K H a xs/\xs.length=n/\t xs σ H Q
theorem acv {es:List Expr} {k:Nat} {t:TGs} {n:Nat} (j:X.calm=true) (h:PGs X es t)
  (hn:(assignEach es X.env).length=n:=by rfl) (d:(assignEach es X.env).findIdx? (·.1)=none:=by rfl):PG X (.Tuple es k pos) (gTup X.K n t):=by
 intro pins s σ H v u Q I r c
 obtain ⟨a,xs,q,l,i,c⟩:=c
 subst q
 cases r
 obtain ⟨its,f,g,hz⟩:=I.tuple l
 refine assign_Tuple_tuple (I.ok.hd j) g (by simp [hn,← i,f.length]) d fun h' p=>?_
 have m:Inv X pins σ H { s with heap:=h' }:=I.kept (t':=s.toks) fun b o e=>p b o (aB5 (aI5 e)) e
 exact h pins _ σ H xs _ Q m (by simpa using f) c
def gSub (to ti:TE) (t:TSet):TG:=fun v σ H Q=>to σ H fun o H1=>ti σ H1 fun i H2=>t o i v H2 fun H3=>Q σ H3
theorem afb {o i:Expr} {to c:TE} {t:TSet} (d:PE X o to) (hi:PE X i c) (j:PSet X t)
  (ha:∀ v,assign (.Subscript o i pos) X.env v=(do
   let a ← holding [v] (eval o X.env)
   let b ← holding [v,a] (eval i X.env)
   standAt pos
   holding [v,a,b] (setItem a b v)
   release [v,a,b] []):=by intro _;rfl):PG X (.Subscript o i pos) (gSub to c t):=by
 intro pins s σ H v u Q I r h
 rw [ha]
 refine aI2 (aI7 (thn (d pins s σ H _ I h) fun a s1 ⟨x,l,n,w,p⟩=>?_))
 refine aI2 (aI7 (thn (hi pins s1 σ l _ n p) fun b s2 ⟨y,H2,g,m,z⟩=>?_))
 refine aI2 (wpAny_standAt (aI2 (aI7 (thn (j pins s2 σ H2 x y v a b u _ g w m r z) fun _ A ⟨H3,f,q⟩=>?_))))
 exact wpAny_release ⟨σ,H3,f,q⟩
def tAsg (te:TE) (g:TG):TS:=fun D σ H=>te σ H fun x H1=>g x σ H1 D.nx
theorem ab2 {tg e:Expr} {te:TE} {g:TG} (m:PE X e te) (d:PG X tg g) (b:swapsWithSole [tg] e pos.line X.env=pure false:=by rfl) (f:swappedStores [tg] e X.env=pure none:=by rfl)
  (a:(assignEach [tg] X.env).map (·.2)=[assign tg X.env]:=by rfl):PS X (.Assign [tg] e pos) (tAsg te g):=by
 intro pins s σ H D I h
 refine wpAny_Assign_stores (thn (m pins s σ H _ I h) fun v s1 ⟨x,c,i,l,j⟩=>?_) b f
 rw [a]
 exact thn (d pins s1 σ c x v _ i l j) fun _ s2 q=>q
theorem aan {i:Nat} {x:Str} {e:Expr} {te:TE} {a:Pos} (b:X.N.Nodup) (hi:X.N[i]?=some x) (j:Loc X.env.scope x) (n:PE X e te) (d:swapsWith e (some (.Name x a)) pos.line X.env=pure false:=by rfl) (hf:X.fn x=true\/X.env.scope.names.lookup x=some .local:=by first | exact .inl rfl | exact .inr rfl | assumption) :
  PS X (.Assign [.Name x a] e pos) (tAsg te (abp i)):=by
 intro pins s σ H D I h
 refine wpAny_Assign_Name (thn (n pins s σ H _ I h) fun v s1 ⟨y,f,g,m,l⟩=>?_) d
 exact alj g b hi j m (fun s2 c=>⟨_,f,c,l⟩) hf
end
section
variable {X:Cx} {pos:Pos}
def aqr (c:TT) (tb:TS):TS:=fun D σ H=>∃ W:Nat->St->Hp->Prop,(∃ m,W m σ H)/\∀ m σ H,W m σ H ->
 c σ H fun b H1=>if b=true then ∃ N:St->Hp->Prop,(∀ σ' H',N σ' H'->∃ m',m' < m/\W m' σ' H')/\tb { D with nx:=N,ct:=N,bk:=D.nx } σ H1 else D.nx σ H1
theorem alk {c:Expr} {body:List Stmt} {x:TT} {y:TS} (B:PassesOwn (model X.prog X.w) X.A X.env X.xe) (C:PT X c x) (hb:PSs X body y):PS X (.While c body [] pos) (aqr x y):=by
 intro pins s σ H D I h
 obtain ⟨W,⟨F,K⟩,i⟩:=h
 refine wpAny_While (codeAny_whileLoop (fun n J=>∃ g H',Inv X pins g H' J/\W n g H') ?_ F ⟨σ,H,I,K⟩)
 rintro n s1 ⟨d,z,G,E⟩
 refine wpAny_passesOwn B (thn (C pins s1 d z _ G (i n d z E)) fun b s2 ⟨H2,u,l⟩=>?_)
 cases b with
 | true =>
  obtain ⟨N,r,l⟩:=l
  rw [aE9 rfl]
  refine wpAny_passesOwn B (thn (hb pins s2 d H2 _ u l) fun f L j=>?_)
  cases f with
  | next =>
   obtain ⟨a,H3,m,o⟩:=j
   obtain ⟨p,hm,q⟩:=r a H3 o
   exact ⟨p,hm,a,H3,m,q⟩
  | cont =>
   obtain ⟨a,H3,m,o⟩:=j
   obtain ⟨p,hm,q⟩:=r a H3 o
   exact ⟨p,hm,a,H3,m,q⟩
  | brk=>exact j
  | ret v=>exact j
 | false =>
  rw [aF0 aA9]
  exact wpAny_execs_nil ⟨d,H2,u,l⟩
end
structure It where
 go:Nat->Hp->Prop
 yld:Nat->Hp->V->Hp->Prop
 stop:Nat->Hp->Prop
def FpOk (X:Cx) (pins:List (Addr × Obj)) (H:Hp) (b:Addr):Prop :=
 H b=none/\b ≠ X.env.locals/\b ∉ X.fs/\(b∈X.ex\/X.s₀.heap.objs.size<=b)/\(∀ x c,X.env.cells.lookup x=some c->c ≠ b)/\∀ p∈X.pn ++ pins,p.1 ≠ b
theorem Inv.fpOk {X:Cx} {pins:List (Addr × Obj)} {σ:St} {H H':Hp} {s:Shared} {b:Addr} (I:Inv X pins σ H s) (hb:s.heap.objs.size<=b) (hn:H' b=none):FpOk X pins H' b:=by
 refine ⟨hn,Nat.ne_of_gt (aC4 I.lt hb),I.nofs hb,.inr (aC9 I.sz hb),fun x c e z=>?_,fun p a z=>?_⟩
 ·obtain ⟨v,q⟩:=I.cell x c e
  exact absurd (aC4 q.lt (by rw [z];exact hb)) (aF8 _)
 ·exact absurd (aC4 (aI5 (I.pin p a).1) (by rw [z];exact hb)) (aF8 _)
structure Turn (P:Program) (w:World) (K:Frag) (tg:Expr) (J:It) (fp:List Addr) (it:Addr) (tn:Nat->Heap->Prop):Prop where
 mem:it∈fp
 obj:∀ i h,tn i h->∀ b∈fp,∃ o,h.get? b=some o/\∀ v,o.data ≠ .cell v
 keep:∀ i h h',tn i h->(∀ b∈fp,∀ o,h.get? b=some o->h'.get? b=some o)->tn i h'
 item:∀ (X:Cx),X.prog=P->X.w=w->X.K=K->X.calm=true->∀ (i:Nat) (pins:List (Addr × Obj)) (s:Shared) (σ:St) (H:Hp) (E:Value->Shared->Prop),Inv X pins σ H s->(∀ b∈fp,FpOk X pins H b)->tn i s.heap->J.go i H ->
  wpAny (model P w) X.A (pyNext (.ref it)) (fun r s1=>∃ u,r=some u /\
   wpAny (model P w) X.A (letOwnedTupleGo tg (.ref it) u) (fun _ s2=>∃ x H',Inv X pins σ H' s2/\RelV x u/\J.yld i H x H'/\tn (i+1) s2.heap/\∀ b∈fp,H' b=none) E s1) E s
 done:∀ (X:Cx),X.prog=P->X.w=w->X.K=K->X.calm=true->∀ (i:Nat) (pins:List (Addr × Obj)) (s:Shared) (σ:St) (H:Hp) (E:Value->Shared->Prop),Inv X pins σ H s->(∀ b∈fp,FpOk X pins H b)->tn i s.heap->J.stop i H ->
  wpAny (model P w) X.A (pyNext (.ref it)) (fun r s1=>r=none/\Inv X pins σ H s1) E s
 self:∀ (A:Around) (i:Nat) (s:Shared) (Q:Value->Shared->Prop) (E:Value->Shared->Prop),tn i s.heap->Q (.ref it) s->wpAny (model P w) A (pyIter (.ref it)) Q E s
abbrev TI:=St->Hp->(It->Hp->Prop)->Prop
def PIE (X:Cx) (pins:List (Addr × Obj)) (σ:St) (tg:Expr) (R:It->Hp->Prop) (itv:Value) (s2:Shared):Prop :=
 ∃ (it:Addr) (fp:List Addr) (tn:Nat->Heap->Prop) (J:It) (H':Hp),itv=.ref it/\Inv X pins σ H' s2/\Turn X.prog X.w X.K tg J fp it tn/\tn 0 s2.heap/\(∀ b∈fp,FpOk X pins H' b)/\R J H'
def PI (X:Cx) (tg iter:Expr) (wi:TI):Prop :=
 ∀ (pins:List (Addr × Obj)) (s:Shared) (σ:St) (H:Hp) (R:It->Hp->Prop),Inv X pins σ H s->wi σ H R ->
  wpAny (model X.prog X.w) X.A (eval iter X.env) (fun v s1=>wpAny (model X.prog X.w) X.A (pyIter v) (PIE X pins σ tg R) X.xe s1) X.xe s
theorem avo {M:Model} {A:Around} {E:Value->Shared->Prop} {s:Shared} {tg:Expr} {it:Addr} {u:Value} {o:Obj} {n:String} {vs:Array Value} {Q:Unit->Shared->Prop} (c:s.heap.get? it=some o) (b:o.cls=.type n) (hd:o.data=.fields vs)
  (hn:["enumerate","zip","dict_itemiterator","dict_reverseitemiterator","odict_iterator","itertools.zip_longest","itertools.pairwise"].contains n=false) (a:Q () s):wpAny M A (letOwnedTupleGo tg (.ref it) u) Q E s:=by
 unfold letOwnedTupleGo
 cases tg <;> first
  | exact aI3 a
  | (cases u <;> first
    | exact aI3 a
    | (refine aI2 (wpAny_load c ?_)
       rw [b,hd]
       show wpAny M A (if (["enumerate","zip","dict_itemiterator","dict_reverseitemiterator","odict_iterator","itertools.zip_longest","itertools.pairwise"].contains n && vs[0]? == some (rawInt _))=true then _ else _) Q E s
       rw [aF0 (by intro h;rw [hn,Bool.false_and] at h;cases h)]
       exact aI3 a))
def Itl (K:Frag) (a:Addr):It :=
 ⟨fun i H=>∃ xs x,SqL K H a xs/\xs[i]?=some x,fun i H x H'=>H'=H/\∀ xs,SqL K H a xs->xs[i]?=some x,fun i H=>∃ xs,SqL K H a xs/\xs.length<=i⟩
def Itr (lo:Int) (n:Nat):It:=⟨fun i _=>i < n,fun i H x H'=>H'=H/\x=.int (lo+i),fun i _=>n<=i⟩
theorem aqs {P:Program} {w:World} {K:Frag} {tg:Expr} (a it:Addr):Turn P w K tg (Itl K a) [it] it (fun i h=>h.IsListIter it a i) where
 mem:=by simp
 obj:=fun i h st b hb=>by
  have e:b=it:=by simpa using hb
  subst e
  obtain ⟨o,e,c,d⟩:=st
  exact ⟨o,e,fun v z=>by rw [d] at z;cases z⟩
 keep:=fun i h h' st k=>st.at fun o e=>k it (by simp) o e
 item:=by
  intro X C q l D i pins s σ H E I hf st m
  subst C q l
  obtain ⟨xs,x,f,y⟩:=m
  obtain ⟨its,r,p,hz⟩:=I.list f
  obtain ⟨u,F,M⟩:=r.get y
  obtain ⟨B,n,N,A,g,j⟩:=hf it (by simp)
  refine wpAny_pyNext_list_item st p.isList (x:=u) (by simpa using F) fun h' st' sb=>?_
  have L:Inv X pins σ H { s with heap:=h' }:=I.turned (t':=s.toks) (fun b o hb e=>(sb.2 b hb).trans e) B n A g j
  obtain ⟨o,e,c,d⟩:=id st'
  exact ⟨u,rfl,avo (s:={ s with heap:=h' }) e c d (by decide) ⟨x,H,L,M,⟨rfl,fun ys G=>by rw [I.list_inj G f];exact y⟩,st',fun b hb=>(hf b hb).1⟩⟩
 done:=by
  intro X C q l D i pins s σ H E I hf st m
  subst C q l
  obtain ⟨xs,f,y⟩:=m
  obtain ⟨its,r,p,hz⟩:=I.list f
  obtain ⟨B,n,N,A,g,j⟩:=hf it (by simp)
  have O:=r.length
  exact wpAny_pyNext_list_end (I.ok.hd D) st p.isList (by simp;lia) fun h' J=>⟨rfl,I.turned (t':=s.toks) (fun b o hb e=>J b o hb e) B n A g j⟩
 self:=fun _ _ _ _ _ st h=>wpAny_pyIter_listiter st h
theorem apd {P:Program} {w:World} {K:Frag} {tg:Expr} (it:Addr) (lo:Int) (n:Nat):Turn P w K tg (Itr lo n) [it] it (fun i h=>IsRangeIter h it (lo+(i:Nat) * 1) ((n:Int) - (i:Nat)) 1) where
 mem:=by simp
 obj:=fun i h st b hb=>by
  have e:b=it:=by simpa using hb
  subst e
  exact ⟨_,st,fun v z=>by
   have A:Data.fields _=Data.cell v:=z
   cases A⟩
 keep:=fun i h h' st k=>k it (by simp) _ st
 item:=by
  intro X q l f c i pins s σ H E I hf st g
  subst q l f
  obtain ⟨p,j,B,m,a,d⟩:=hf it (by simp)
  have W:=Walks.range (prog:=X.prog) (w:=X.w) (I.ok.hd c) it lo 1 n
  refine W.item i s _ _ g st fun v h' r C st' y=>?_
  obtain ⟨t,rfl⟩:=C
  have x:Inv X pins σ H { s with heap:=h',toks:=r }:=I.turned (fun b o hb e=>y b o (by simpa using hb) e) p j m a d
  refine ⟨_,rfl,avo (s:={ s with heap:=h',toks:=r }) (n:="range_iterator") st' rfl rfl (by decide) ⟨.int (lo+i),H,x,⟨t,?_⟩,⟨rfl,rfl⟩,st',fun b hb=>(hf b hb).1⟩⟩
  rw [Int.mul_one]
 done:=by
  intro X q l f c i pins s σ H E I hf st g
  subst q l f
  obtain ⟨p,j,B,m,a,d⟩:=hf it (by simp)
  exact wpAny_pyNext_range_end (I.ok.hd c) st (by have:n<=i:=g;lia) fun h' u=>⟨rfl,I.turned (t':=s.toks) (fun b o hb e=>u b o hb e) p j m a d⟩
 self:=fun _ _ _ _ _ st h=>wpAny_pyIter_rangeiter st h
section
variable {X:Cx} {tg:Expr}
def avp (K:Frag) (tl:TE):TI:=fun σ H R=>tl σ H fun x H1=>∃ a,x=.ref a/\(∃ xs,SqL K H1 a xs)/\R (Itl K a) H1
theorem abz {l:Expr} {tl:TE} (d:PE X l tl):PI X tg l (avp X.K tl):=by
 intro pins s σ H R I h
 refine thn (d pins s σ H _ I h) fun v s1 ⟨x,f,c,j,i⟩=>?_
 obtain ⟨a,e,⟨xs,g⟩,q⟩:=i
 subst e
 cases j
 obtain ⟨its,m,p,hz⟩:=c.list g
 refine aJ5 p.isList ?_
 refine ⟨s1.heap.objs.size,[s1.heap.objs.size],_,_,f,rfl,c.kept (t':=s1.toks) fun b o e=>aI4 _ e,aqs a _,⟨_,aI6 _ rfl,rfl,rfl⟩,fun b hb=>?_,q⟩
 have e:b=s1.heap.objs.size:=by simpa using hb
 subst e
 exact c.fpOk (aA6 _) (c.hok.fresh (aA6 _))
theorem alm {pins:List (Addr × Obj)} {σ:St} {H:Hp} {s:Shared} {R:It->Hp->Prop} {E:Value->Shared->Prop} {lo hi:Int} {t u v:Tok} {a:Nat} (I:Inv X pins σ H s) (h : -(2 ^ 62)<=lo) (g:lo < 2 ^ 62) (d : -(2 ^ 62)<=hi) (f:hi < 2 ^ 62)
  (q:R (Itr lo (hi - lo).toNat) H):wpAny (model X.prog X.w) X.A (pyIter (.ref s.heap.objs.size)) (PIE X pins σ tg R) E { s with heap:=s.heap.push { cls:=.type "range",data:=.fields #[.int lo t,.int hi u,.int 1 v] },toks:=a }:=by
 refine wpAny_pyIter_range (IsRange.new ..) (small_one h g d f) ?_
 have c:Inv X pins σ H { s with heap:=s.heap.push { cls:=.type "range",data:=.fields #[.int lo t,.int hi u,.int 1 v] },toks:=a }:=I.kept fun b o e=>aI4 _ e
 refine ⟨(s.heap.push { cls:=.type "range",data:=.fields #[.int lo t,.int hi u,.int 1 v] }).objs.size,[(s.heap.push { cls:=.type "range",data:=.fields #[.int lo t,.int hi u,.int 1 v] }).objs.size],_,_,H,rfl,
  c.kept (t':=a) fun b o e=>aI4 _ e,apd _ lo (hi - lo).toNat,?_,fun b hb=>?_,q⟩
 ·have i:lo+((0:Nat):Int) * 1=lo:=by simp
  have e2:(((hi - lo).toNat:Nat):Int) - ((0:Nat):Int)=Builtin.Range.rangeSize lo hi 1:=by rw [rangeSize_one];split <;> lia
  show IsRangeIter _ _ (lo+((0:Nat):Int) * 1) ((((hi - lo).toNat:Nat):Int) - ((0:Nat):Int)) 1
  rw [i,e2]
  exact aI6 _ rfl
 ·have e:b=(s.heap.push { cls:=.type "range",data:=.fields #[.int lo t,.int hi u,.int 1 v] }).objs.size:=by simpa using hb
  subst e
  exact c.fpOk (aA6 _) (c.hok.fresh (aA6 _))
def ape (ta:TA):TI:=fun σ H R=>ta σ H fun vs H1=>∃ j:Int,vs=[.int j]/\-(2 ^ 62)<=j/\j < 2 ^ 62/\R (Itr 0 j.toNat) H1
def avq (ta:TA):TI:=fun σ H R=>ta σ H fun vs H1=>∃ i j:Int,vs=[.int i,.int j]/\(-(2 ^ 62)<=i/\i < 2 ^ 62/\-(2 ^ 62)<=j/\j < 2 ^ 62)/\R (Itr i (j - i).toNat) H1
theorem abm {a:Expr} {d:TA} {p b:Pos} (g:Gl X "range") (hm:X.mg "range" = none) (ha:PA X [a] d) (f:starEach [a] X.env=[(false,eval a X.env)]:=by rfl):PI X tg (.Call (.Name "range" p) [a] [] b) (ape d):=by
 intro pins s σ H R I h
 refine Call_ (aea I g hm boot_range (PyProof.Rows.callWith_type1 (thn (ha b pins s σ H _ I h) fun us s1 ⟨vs,n,i,l,c⟩=>?_) f rfl))
 obtain ⟨j,e,c,m,q⟩:=c
 subst e
 cases l with
 | cons r rr =>
  cases rr
  obtain ⟨t,rfl⟩:=r
  exact call_range_1 (alm i (by lia) (by lia) c m (by simpa using q))
theorem aes {a b:Expr} {g:TA} {p d:Pos} (m:Gl X "range") (hm:X.mg "range" = none) (ha:PA X [a,b] g) (l:starEach [a,b] X.env=[(false,eval a X.env),(false,eval b X.env)]:=by rfl) (c:starEach [b] X.env=[(false,eval b X.env)]:=by rfl) :
  PI X tg (.Call (.Name "range" p) [a,b] [] d) (avq g):=by
 intro pins s σ H R I h
 refine Call_ (aea I m hm boot_range (PyProof.Rows.callWith_type1 (thn (ha d pins s σ H _ I h) fun us s1 ⟨vs,x,n,v,f⟩=>?_) (by rw [l,c]) (by rw [c];rfl)))
 obtain ⟨i,j,e,⟨f,w,u,o⟩,q⟩:=f
 subst e
 cases v with
 | cons r rr =>
  cases rr with
  | cons r' rr =>
   cases rr
   obtain ⟨t,rfl⟩:=r
   obtain ⟨t',rfl⟩:=r'
   exact call_range_2 (alm n f w u o q)
def tFor (wi:TI) (g:TG) (tb:TS):TS:=fun D σ H=>wi σ H fun J H1=>∃ W:Nat->Nat->St->Hp->Prop,(∃ m,W 0 m σ H1)/\∀ i m σ H,W i m σ H ->
 (J.stop i H/\D.nx σ H)\/(J.go i H/\∃ N:St->Hp->Prop,(∀ σ' H',N σ' H'->∃ m',m' < m/\W (i+1) m' σ' H')/\∀ x H',J.yld i H x H'->g x σ H' fun σ2 H2=>tb { D with nx:=N,ct:=N,bk:=D.nx } σ2 H2)
def af9 (fp:List Addr) (h:Heap):List (Addr × Obj):=fp.filterMap fun b=>(h.get? b).map fun o=>(b,o)
theorem adz {fp:List Addr} {h:Heap} {b:Addr} {o:Obj} (hb:b∈fp) (e:h.get? b=some o):(b,o)∈af9 fp h:=List.mem_filterMap.mpr ⟨b,hb,by rw [e];rfl⟩
theorem aqt {fp:List Addr} {h:Heap} {p:Addr × Obj} (c:p∈af9 fp h):p.1∈fp/\h.get? p.1=some p.2:=by
 obtain ⟨b,hb,e⟩:=List.mem_filterMap.mp c
 cases q:h.get? b with
 | none=>rw [q] at e;cases e
 | some o =>
  rw [q] at e
  have a:(b,o)=p:=aC5 e
  subst a
  exact ⟨hb,q⟩
theorem Inv.pinned {pins:List (Addr × Obj)} {σ:St} {H:Hp} {s:Shared} {fp:List Addr} (I:Inv X pins σ H s) (hf:∀ b∈fp,FpOk X pins H b) (c:∀ b∈fp,∃ o,s.heap.get? b=some o/\∀ v,o.data ≠ .cell v):Inv X (pins ++ af9 fp s.heap) σ H s :=
 I.pins_of fun p h=>(aA7.mp h).elim (fun z=>I.pin p (aB2 _ z)) fun z=>by
  obtain ⟨hb,e⟩:=aqt z
  obtain ⟨g,f,i,_⟩:=hf p.1 hb
  obtain ⟨o,a,d⟩:=c p.1 hb
  rw [e] at a;cases a
  exact ⟨e,g,f,i,d⟩
theorem Inv.unpinned {pins pl:List (Addr × Obj)} {σ:St} {H:Hp} {s:Shared} (I:Inv X (pins ++ pl) σ H s):Inv X pins σ H s:=I.pins_of fun p a=>I.pin p (aB2 _ (aC6 _ a))
theorem abu {l:Expr} {body:List Stmt} {wi:TI} {g:TG} {Z:TS} {Q:Pos} (F:PassesOwn (model X.prog X.w) X.A X.env X.xe) (hc:X.calm=true) (hi:PI X tg l wi) (hg:PG X tg g) (hb:PSs X body Z)
  (hs:∀ x,foldedSetIterable l X.env x=pure x:=by intro _;rfl):PS X (.For tg l body [] Q) (tFor wi g Z):=by
 intro pins s σ H D I h
 refine wpAny_For (thn (hi pins s σ H _ I h) fun v s1 h1=>thn h1 fun a0 s2 h2=>?_) hs
 obtain ⟨it,fp,tn,J,H2,e,I2,T,M,Y,W,⟨m0,w0⟩,K⟩:=h2
 subst e
 -- what stays true of the iterator's objects through the loop
 have c:∀ {H':Hp},(∀ b∈fp,H' b=none)->∀ b∈fp,FpOk X pins H' b:=fun hn b hb=>⟨hn b hb,(Y b hb).2⟩
 refine codeAny_forLoop_any (fun n s'=>∃ i p H',Inv X pins p H' s'/\tn i s'.heap/\(∀ b∈fp,H' b=none)/\W i n p H') ?_ m0 ⟨0,σ,H2,I2,M,fun b hb=>(Y b hb).1,w0⟩
 rintro n s3 ⟨i,y,H3,I3,L,G,w3⟩
 rcases K i n y H3 w3 with ⟨stop,qn⟩ | ⟨go,N,hN,step⟩
 ·refine wpAny_passesOwn F (thn (T.done X rfl rfl rfl hc i pins s3 y H3 X.xe I3 (c G) L stop) fun r s4 ⟨U,I4⟩=>?_)
  subst U
  exact wpAny_execs_nil ⟨y,H3,I4,qn⟩
 ·refine wpAny_passesOwn F (thn (T.item X rfl rfl rfl hc i pins s3 y H3 X.xe I3 (c G) L go) fun r s4 ⟨u,U,h4⟩=>?_)
  subst U
  refine wpAny_passesOwn F (thn h4 fun _ s5 ⟨x,H5,I5,r5,y5,C,S⟩=>?_)
  have R:=I5.pinned (c S) (T.obj _ _ C)
  refine wpAny_passesOwn F (thn (hg _ s5 y H5 x u _ R r5 (step x H5 y5)) fun _ s6 ⟨P,H6,I6,q6⟩=>?_)
  refine wpAny_passesOwn F (thn (hb _ s6 P H6 _ I6 q6) fun f O B=>?_)
  have j:∀ {a:St} {z:Hp},Inv X (pins ++ af9 fp s5.heap) a z O->N a z->∃ m,m < n/\∃ i p H',Inv X pins p H' O/\tn i O.heap/\(∀ b∈fp,H' b=none)/\W i m p H':=fun {a z} q E=>by
   obtain ⟨m',hm,w7⟩:=hN a z E
   refine ⟨m',hm,i+1,a,z,q.unpinned,T.keep _ _ _ C fun b hb o e=>(q.pin (b,o) (aB2 _ (aB2 _ (adz hb e)))).1,fun b hb=>?_,w7⟩
   obtain ⟨o,e,d⟩:=T.obj _ _ C b hb
   exact (q.pin (b,o) (aB2 _ (aB2 _ (adz hb e)))).2.1
  cases f with
  | next=>obtain ⟨a,z,q,E⟩:=B;exact j q E
  | cont=>obtain ⟨a,z,q,E⟩:=B;exact j q E
  | brk=>obtain ⟨a,z,q,B⟩:=B;exact ⟨a,z,q.unpinned,B⟩
  | ret v=>obtain ⟨x7,a,z,q,r7,B⟩:=B;exact ⟨x7,a,z,q.unpinned,r7,B⟩
end
theorem aqu {lo:Int} {n:Nat} {g:TG} {d:TS} {D:Ends} {σ:St} {H:Hp} (a:Nat->St->Hp->Prop) (h:a 0 σ H)
  (j:∀ i σ H,i < n->a i σ H->g (.int (lo+i)) σ H fun b H2=>d { D with nx:=a (i+1),ct:=a (i+1),bk:=D.nx } b H2) (hd:∀ σ H,a n σ H->D.nx σ H) :
  ∃ W:Nat->Nat->St->Hp->Prop,(∃ m,W 0 m σ H)/\∀ i m σ H,W i m σ H ->
   ((Itr lo n).stop i H/\D.nx σ H)\/((Itr lo n).go i H/\∃ N:St->Hp->Prop,(∀ c H',N c H'->∃ f,f < m/\W (i+1) f c H')/\∀ x H',(Itr lo n).yld i H x H'->g x σ H' fun b H2=>d { D with nx:=N,ct:=N,bk:=D.nx } b H2):=by
 refine ⟨fun i m σ H=>m=n - i/\i<=n/\a i σ H,⟨n,by simp,aF4 _,h⟩,?_⟩
 rintro i m σ H ⟨rfl,hi,p⟩
 by_cases hlt:i < n
 ·refine .inr ⟨hlt,a (i+1),fun c H' l=>⟨n - (i+1),by lia,rfl,hlt,l⟩,fun x H' y=>?_⟩
  obtain ⟨e,y⟩:=y
  subst e y
  exact j i σ _ hlt p
 ·have e:i=n:=by lia
  subst e
  exact .inl ⟨aA6 _,hd σ H p⟩
abbrev R2:=V->V->Hp->VK->Prop
def OpR (X:Cx) (f:Value->Value->Sem Value) (r:R2):Prop :=
 ∀ (pins:List (Addr × Obj)) (s:Shared) (σ:St) (H:Hp) (x y:V) (v u:Value) (Q:VK),Inv X pins σ H s->RelV x v->RelV y u->r x y H Q ->
  wpAny (model X.prog X.w) X.A (f v u) (EP X pins σ Q) X.xe s
def UnR (X:Cx) (f:Value->Sem Value) (r:V->Hp->VK->Prop):Prop :=
 ∀ (pins:List (Addr × Obj)) (s:Shared) (σ:St) (H:Hp) (x:V) (v:Value) (Q:VK),Inv X pins σ H s->RelV x v->r x H Q ->
  wpAny (model X.prog X.w) X.A (f v) (EP X pins σ Q) X.xe s
def aa5 (X:Cx) (f:Value) (r:List V->Hp->VK->Prop):Prop :=
 ∀ (pins:List (Addr × Obj)) (s:Shared) (σ:St) (H:Hp) (xs:List V) (us:List Value) (Q:VK),Inv X pins σ H s->Vals xs us->r xs H Q ->
  wpAny (model X.prog X.w) X.A (call f us) (EP X pins σ Q) X.xe s
def TruR (X:Cx) (r:V->Hp->(Bool->Hp->Prop)->Prop):Prop :=
 ∀ (pins:List (Addr × Obj)) (s:Shared) (σ:St) (H:Hp) (x:V) (v:Value) (Q:Bool->Hp->Prop),Inv X pins σ H s->RelV x v->r x H Q ->
  wpAny (model X.prog X.w) X.A (truthy v) (TP X pins σ Q) X.xe s
def tOp (r:R2) (ta tb:TE):TE:=fun σ H Q=>ta σ H fun x H1=>tb σ H1 fun y H2=>r x y H2 Q
def tUn (r:V->Hp->VK->Prop) (ta:TE):TE:=fun σ H Q=>ta σ H fun x H1=>r x H1 Q
def rI (C:Int->Int->Prop) (g:Int->Int->V):R2:=fun x y H Q=>∃ i j,x=.int i/\y=.int j/\C i j/\Q (g i j) H
def rI0 (g:Int->Int->V):R2:=fun x y H Q=>∃ i j,x=.int i/\y=.int j/\Q (g i j) H
def rU (g:Int->V):V->Hp->VK->Prop:=fun x H Q=>∃ i,x=.int i/\Q (g i) H
section
variable {X:Cx} {a b c:Expr} {ta tb tc:TE} {pos:Pos}
theorem binT (ha:PE X a ta) (hb:PE X b tb) {pins:List (Addr × Obj)} {s:Shared} {σ:St} {H:Hp} {R:V->V->Hp->Prop} (I:Inv X pins σ H s)
  (h:ta σ H fun x g=>tb σ g fun y H2=>R x y H2) {Q:Value->Shared->Prop} {f:Value->Value->Sem Value}
  (hf:∀ v u s2 x y H2,Inv X pins σ H2 s2->RelV x v->RelV y u->R x y H2->wpAny (model X.prog X.w) X.A (f v u) Q X.xe s2) :
  wpAny (model X.prog X.w) X.A (eval a X.env) (fun v c=>wpAny (model X.prog X.w) X.A (eval b X.env) (fun u d=>wpAny (model X.prog X.w) X.A (f v u) Q X.xe d) X.xe c) X.xe s:=by
 refine thn (ha pins s σ H _ I h) fun v s1 ⟨x,g,l,n,m⟩=>?_
 refine thn (hb pins s1 σ g _ l m) fun u s2 ⟨y,H2,i,j,o⟩=>?_
 exact hf v u s2 x y H2 i n j o
theorem aat {op:Operator} {r:R2} (c:OpR X (binaryOp op) r) (ha:PE X a ta) (hb:PE X b tb):PE X (.BinOp a op b pos) (tOp r ta tb):=by
 intro pins s σ H Q I h
 exact wpAny_BinOp (binT ha hb I h fun v u s2 x y H2 d f g q=>c pins s2 σ H2 x y v u Q d f g q)
theorem avr {op:UnaryOp} {r:V->Hp->VK->Prop} (c:UnR X (unaryOp op) r) (ha:PE X a ta):PE X (.UnaryOp op a pos) (tUn r ta):=by
 intro pins s σ H Q I h
 exact UnaryOp_ (thn (ha pins s σ H _ I h) fun v s1 ⟨x,g,d,f,b⟩=>c pins s1 σ g x v Q d f b)
theorem opI {f:Value->Value->Sem Value} {C:Int->Int->Prop} {g:Int->Int->Int}
  (a:∀ (i j:Int) (t u:Tok) (s:Shared) (Q:Value->Shared->Prop) (E:Value->Shared->Prop),C i j->Q (.int (g i j) s.toks) { s with toks:=s.toks+1 }->wpAny (model X.prog X.w) X.A (f (.int i t) (.int j u)) Q E s) :
  OpR X f (rI C fun i j => .int (g i j)):=by
 intro pins s σ H x y v u Q I c d h
 obtain ⟨i,j,rfl,rfl,b,q⟩:=h
 obtain ⟨t,rfl⟩:=c
 obtain ⟨t',rfl⟩:=d
 exact a i j t t' s _ _ b ⟨.int (g i j),H,I.tok _,⟨_,rfl⟩,q⟩
theorem opI0 {f:Value->Value->Sem Value} {g:Int->Int->Int}
  (a:∀ (i j:Int) (t u:Tok) (s:Shared) (Q:Value->Shared->Prop) (E:Value->Shared->Prop),Q (.int (g i j) s.toks) { s with toks:=s.toks+1 }->wpAny (model X.prog X.w) X.A (f (.int i t) (.int j u)) Q E s) :
  OpR X f (rI0 fun i j => .int (g i j)):=by
 intro pins s σ H x y v u Q I b c h
 obtain ⟨i,j,rfl,rfl,q⟩:=h
 obtain ⟨t,rfl⟩:=b
 obtain ⟨t',rfl⟩:=c
 exact a i j t t' s _ _ ⟨.int (g i j),H,I.tok _,⟨_,rfl⟩,q⟩
theorem opB0 {f:Value->Value->Sem Value} {g:Int->Int->Bool}
  (a:∀ (i j:Int) (t u:Tok) (s:Shared) (Q:Value->Shared->Prop) (E:Value->Shared->Prop),Q (.bool (g i j)) s->wpAny (model X.prog X.w) X.A (f (.int i t) (.int j u)) Q E s) :
  OpR X f (rI0 fun i j => .bl (g i j)):=by
 intro pins s σ H x y v u Q I b c h
 obtain ⟨i,j,rfl,rfl,q⟩:=h
 obtain ⟨t,rfl⟩:=b
 obtain ⟨t',rfl⟩:=c
 exact a i j t t' s _ _ ⟨.bl (g i j),H,I,rfl,q⟩
def CDiv (i j:Int):Prop:=0 < j/\j < 1073741824
def CPow (i j:Int):Prop:=0<=j/\j<=1000000/\i.natAbs < 2 ^ 64
def CMul (i j:Int):Prop:=(-(2 ^ 64) < i/\i < 2 ^ 64)\/(-(2 ^ 64) < j/\j < 2 ^ 64)
theorem CMul.ok {i j:Int} (h:CMul i j):IntMulOk i j:=by
 rcases h with ⟨b,a⟩ | ⟨b,a⟩
 ·exact .of_left (intBits_le_64 b a)
 ·exact .of_right (intBits_le_64 b a)
theorem abe:OpR X (binaryOp .Add) (rI0 fun i j => .int (i+j)):=opI0 fun _ _ _ _ _ _ _ q=>add_int q
theorem aed:OpR X (binaryOp .Sub) (rI0 fun i j => .int (i - j)):=opI0 fun _ _ _ _ _ _ _ q=>sub_int q
theorem aga:OpR X (binaryOp .Mult) (rI CMul fun i j => .int (i * j)):=opI fun _ _ _ _ _ _ _ a q=>mul_int q a.ok
theorem ai4:OpR X (binaryOp .FloorDiv) (rI CDiv fun i j => .int (i / j)):=opI fun i j _ _ _ _ _ a q=>by
 have c:(0:Int) < j:=a.1
 have b:j < 1073741824:=a.2
 exact floordiv_int (by lia) (by rw [Int.fdiv_eq_ediv_of_nonneg i (by lia)];exact q) (.inl (PyProof.noPylong_small (by lia)))
theorem aee:OpR X (binaryOp .Mod) (rI (fun _ j=>0 < j) fun i j => .int (i % j)):=opI fun i j _ _ _ _ _ a q=>by
 have b:(0:Int) < j:=a
 exact mod_int' (by lia) (by rw [Int.fmod_eq_emod_of_nonneg i (by lia)];exact q)
theorem ay1:OpR X (binaryOp .Pow) (rI CPow fun i j => .int (i ^ j.toNat)):=opI fun _ _ _ _ _ _ _ a q=>pow_int_small a.1 a.2.1 a.2.2 q
theorem unI {f:Value->Sem Value} {g:Int->Int}
  (a:∀ (i:Int) (t:Tok) (s:Shared) (Q:Value->Shared->Prop) (E:Value->Shared->Prop),Q (.int (g i) s.toks) { s with toks:=s.toks+1 }->wpAny (model X.prog X.w) X.A (f (.int i t)) Q E s) :
  UnR X f (rU fun i => .int (g i)):=by
 intro pins s σ H x v Q I b h
 obtain ⟨i,rfl,q⟩:=h
 obtain ⟨t,rfl⟩:=b
 exact a i t s _ _ ⟨.int (g i),H,I.tok _,⟨_,rfl⟩,q⟩
theorem aqv:UnR X (unaryOp .USub) (rU fun i => .int (-i)):=unI fun _ _ _ _ _ q=>neg_int q
end
def scal:V->V->Bool
 | .non,.non=>true | .non,.int _=>true | .int _,.non=>true | .non,.bl _=>true | .bl _,.non=>true | .non,.str _=>true | .str _,.non=>true
 | .int _,.int _=>true | .bl _,.bl _=>true | .str _,.str _=>true | .byt _,.byt _=>true
 | .int _,.str _=>true | .str _,.int _=>true | .bl _,.str _=>true | .str _,.bl _=>true
 | _,_=>false
def rEq:R2:=fun x y H Q=>scal x y=true/\Q (.bl (decide (x=y))) H
def rNe:R2:=fun x y H Q=>scal x y=true/\Q (.bl (!decide (x=y))) H
theorem agx {i j:Int}:decide (V.int i=V.int j)=(i == j):=by
 rw [aH2]
 simp
theorem aqw {i j:Bool}:decide (V.bl i=V.bl j)=(i == j):=by
 rw [aH2]
 simp
theorem an4 {i j:Str}:decide (V.str i=V.str j)=(i == j):=by
 rw [aH2]
 simp
theorem an5 {i j:Array UInt8}:decide (V.byt i=V.byt j)=(i.toList == j.toList):=by
 rw [aH2]
 cases i
 cases j
 simp
section
variable {X:Cx} {a b c:Expr} {ta tb tc:TE} {pos:Pos}
theorem aaw {pins:List (Addr × Obj)} {σ:St} {H:Hp} {s:Shared} {Q:VK} {k a:Bool} (I:Inv X pins σ H s) (q:Q (.bl k) H) (e:k=a):EP X pins σ Q (.bool a) s:=by
 subst e
 exact ⟨.bl k,H,I,rfl,q⟩
theorem afj:OpR X (compareOp .Eq) rEq:=by
 intro pins s σ H x y v u Q I c a h
 obtain ⟨b,q⟩:=h
 cases x with
 | non =>
  cases c
  cases y with
  | non=>cases a;exact PySem.EqNone.eq_none_none (aaw I q (by simp))
  | bl j=>cases a;exact PySem.EqNone.eq_none_bool (aaw I q (by simp))
  | int j=>obtain ⟨t',rfl⟩:=a;exact PySem.EqNone.eq_none_int (aaw I q (by simp))
  | str j=>obtain ⟨t',rfl⟩:=a;exact PySem.EqNone.eq_none_str (aaw I q (by simp))
  | _=>exact absurd (show false=true from b) aA9
 | bl i =>
  cases c
  cases y with
  | non=>cases a;exact PySem.EqNone.eq_bool_none (aaw I q (by simp))
  | bl j=>cases a;exact eq_bool (aaw I q aqw)
  | str j=>obtain ⟨t',rfl⟩:=a;exact PySem.EqMixed.eq_bool_str (aaw I q (by simp))
  | _=>exact absurd (show false=true from b) aA9
 | int i =>
  obtain ⟨t,rfl⟩:=c
  cases y with
  | non=>cases a;exact PySem.EqNone.eq_int_none (aaw I q (by simp))
  | int j=>obtain ⟨t',rfl⟩:=a;exact eq_int (aaw I q agx)
  | str j=>obtain ⟨t',rfl⟩:=a;exact PySem.EqMixed.eq_int_str (aaw I q (by simp))
  | _=>exact absurd (show false=true from b) aA9
 | str i =>
  obtain ⟨t,rfl⟩:=c
  cases y with
  | non=>cases a;exact PySem.EqNone.eq_str_none (aaw I q (by simp))
  | bl j=>cases a;exact PySem.EqMixed.eq_str_bool (aaw I q (by simp))
  | int j=>obtain ⟨t',rfl⟩:=a;exact PySem.EqMixed.eq_str_int (aaw I q (by simp))
  | str j=>obtain ⟨t',rfl⟩:=a;exact eq_str (aaw I q an4)
  | _=>exact absurd (show false=true from b) aA9
 | byt i =>
  obtain ⟨t,rfl⟩:=c
  cases y with
  | byt j=>obtain ⟨t',rfl⟩:=a;exact PySem.W.eq_bytes (aaw I q an5)
  | _=>exact absurd (show false=true from b) aA9
 | _=>cases y <;> exact absurd (show false=true from b) aA9
theorem apf:OpR X (compareOp .NotEq) rNe:=by
 intro pins s σ H x y v u Q I c a h
 obtain ⟨b,q⟩:=h
 cases x with
 | non =>
  cases c
  cases y with
  | non=>cases a;exact PySem.EqNone.ne_none_none (aaw I q (by simp))
  | bl j=>cases a;exact PySem.EqNone.ne_none_bool (aaw I q (by simp))
  | int j=>obtain ⟨t',rfl⟩:=a;exact PySem.EqNone.ne_none_int (aaw I q (by simp))
  | str j=>obtain ⟨t',rfl⟩:=a;exact PySem.EqNone.ne_none_str (aaw I q (by simp))
  | _=>exact absurd (show false=true from b) aA9
 | bl i =>
  cases c
  cases y with
  | non=>cases a;exact PySem.EqNone.ne_bool_none (aaw I q (by simp))
  | bl j=>cases a;exact ne_bool (aaw I q (congrArg not aqw))
  | str j=>obtain ⟨t',rfl⟩:=a;exact PySem.EqMixed.ne_bool_str (aaw I q (by simp))
  | _=>exact absurd (show false=true from b) aA9
 | int i =>
  obtain ⟨t,rfl⟩:=c
  cases y with
  | non=>cases a;exact PySem.EqNone.ne_int_none (aaw I q (by simp))
  | int j=>obtain ⟨t',rfl⟩:=a;exact ne_int (aaw I q (congrArg not agx))
  | str j=>obtain ⟨t',rfl⟩:=a;exact PySem.EqMixed.ne_int_str (aaw I q (by simp))
  | _=>exact absurd (show false=true from b) aA9
 | str i =>
  obtain ⟨t,rfl⟩:=c
  cases y with
  | non=>cases a;exact PySem.EqNone.ne_str_none (aaw I q (by simp))
  | bl j=>cases a;exact PySem.EqMixed.ne_str_bool (aaw I q (by simp))
  | int j=>obtain ⟨t',rfl⟩:=a;exact PySem.EqMixed.ne_str_int (aaw I q (by simp))
  | str j=>obtain ⟨t',rfl⟩:=a;exact ne_str (aaw I q (congrArg not an4))
  | _=>exact absurd (show false=true from b) aA9
 | byt i =>
  obtain ⟨t,rfl⟩:=c
  cases y with
  | byt j=>obtain ⟨t',rfl⟩:=a;exact PySem.W.ne_bytes (aaw I q (congrArg not an5))
  | _=>exact absurd (show false=true from b) aA9
 | _=>cases y <;> exact absurd (show false=true from b) aA9
theorem ak6:OpR X (compareOp .Lt) (rI0 fun i j => .bl (decide (i < j))):=opB0 fun _ _ _ _ _ _ _ q=>lt_int q
theorem avs:OpR X (compareOp .LtE) (rI0 fun i j => .bl (decide (i<=j))):=opB0 fun _ _ _ _ _ _ _ q=>le_int q
theorem apg:OpR X (compareOp .Gt) (rI0 fun i j => .bl (decide (j < i))):=opB0 fun _ _ _ _ _ _ _ q=>gt_int q
theorem a02:OpR X (compareOp .GtE) (rI0 fun i j => .bl (decide (j<=i))):=opB0 fun _ _ _ _ _ _ _ q=>ge_int q
theorem ay2:OpR X (compareOp .Is) (fun x y H Q=>y=.non/\Q (.bl (decide (x=.non))) H):=by
 intro pins s σ H x y v u Q I a b h
 obtain ⟨rfl,q⟩:=h
 cases b
 refine is_none_gen (aaw I q ?_)
 cases x <;> first
  | (cases a;rfl)
  | (obtain ⟨t,rfl⟩:=a;rfl)
theorem awb:OpR X (compareOp .IsNot) (fun x y H Q=>y=.non/\Q (.bl (!decide (x=.non))) H):=by
 intro pins s σ H x y v u Q I a b h
 obtain ⟨rfl,q⟩:=h
 cases b
 refine isnot_none_gen (aaw I q ?_)
 cases x <;> first
  | (cases a;rfl)
  | (obtain ⟨t,rfl⟩:=a;rfl)
theorem aaz (b:Expr) {op:CmpOp} (h:op ≠ .In:=by decide) (a:op ≠ .NotIn:=by decide):behindInMarks op b=false:=by
 have c:(op == CmpOp.In)=false:=by cases op <;> first | rfl | exact absurd rfl h
 have e2:(op == CmpOp.NotIn)=false:=by cases op <;> first | rfl | exact absurd rfl a
 cases b <;> simp [behindInMarks,c,e2]
theorem ac5 {op:CmpOp} {r:R2} (c:OpR X (compareOp op) r) (ha:PE X a ta) (hb:PE X b tb) (hm:behindInMarks op b=false):PE X (.Compare a [op] [b] pos) (tOp r ta tb):=by
 intro pins s σ H Q I h
 exact wpAny_Compare1 (binT ha hb I h fun v u s2 x y H2 d f g q=>c pins s2 σ H2 x y v u Q d f g q) hm
def aph (t:TE):TT:=fun σ H Q=>t σ H fun x H'=>∃ k,x=.bl k/\Q k H'
theorem aa1 {op:CmpOp} {r:R2} (d:OpR X (compareOp op) r) (ha:PE X a ta) (hb:PE X b tb) (hm:behindInMarks op b=false):PT X (.Compare a [op] [b] pos) (aph (tOp r ta tb)):=by
 intro pins s σ H Q I h
 refine wpAny_isTrue_Compare1 (thn (ha pins s σ H _ I h) fun v s1 ⟨x,j,m,p,n⟩=>thn (hb pins s1 σ j _ m n) fun u s2 ⟨y,H2,i,l,q⟩ =>
  thn (d pins s2 σ H2 x y v u _ i p l q) fun c w ⟨z,H3,g,f,k,e,o⟩=>?_) hm
 subst e
 cases f
 exact aJ4 ⟨H3,g,o⟩
def aln (r r':R2) (ta tb tc:TE):TE:=fun σ H Q=>ta σ H fun x H1=>tb σ H1 fun y H2=>r x y H2 fun z H3=>∃ k,z=.bl k /\
 (if k=true then tc σ H3 fun w' H4=>r' y w' H4 Q else Q (.bl false) H3)
theorem ate {op f:CmpOp} {r m:R2} (n:OpR X (compareOp op) r) (g:OpR X (compareOp f) m) (ha:PE X a ta) (hb:PE X b tb) (q:PE X c tc)
  (hm:lastMarks [op,f] [b,c]=false:=by with_unfolding_all rfl):PE X (.Compare a [op,f] [b,c] pos) (aln r m ta tb tc):=by
 intro pins s σ H Q I h
 refine Compare_chain (thn (ha pins s σ H _ I h) fun v s1 ⟨x,A,D,L,K⟩=>chain_link (thn (hb pins s1 σ A _ D K) fun u s2 ⟨y,H2,w,j,N⟩ =>
  thn (n pins s2 σ H2 x y v u _ w L j N) fun d C ⟨z,H3,i,o,k,e,l⟩=>?_)) hm
 subst e
 cases o
 refine aJ4 ?_
 cases k with
 | false=>exact ite_ff ⟨.bl false,H3,i,rfl,l⟩
 | true=>exact ite_tt (chain_last (thn (q pins C σ H3 _ i l) fun B F ⟨M,J,p,G,E⟩=>g pins F σ J y M u B Q p j G E))
def TruV (K:Frag) (x:V) (H:Hp) (k:Bool):Prop :=
 match x with
 | .non=>k=false
 | .bl b=>k=b
 | .int i=>k=(i != 0)
 | .str y=>y.length<=sizeLine/\k=((y.length:Int) != 0)
 | .byt y=>y.size<=sizeLine/\k=((y.size:Int) != 0)
 | .ref p=>(∃ xs,SqL K H p xs/\k = !xs.isEmpty)\/(∃ xs,SqT K H p xs/\k = !xs.isEmpty)\/∃ kvs,H p=some (.dK kvs)/\k = !kvs.isEmpty
 | _=>False
theorem api {κ:Type} {kvs:List (κ × V)} {vs:List (κ × Value)} (r:KV kvs vs):(!vs.isEmpty) = !kvs.isEmpty:=by
 cases r <;> rfl
theorem ah2 {xs:List V} {its:List Value} (r:Vals xs its):(!its.toArray.isEmpty) = !xs.isEmpty:=by
 cases r <;> simp
theorem agb:(sizeLine:Nat) < 2 ^ 63:=by rw [sizeLine_eq];decide
theorem ay3:TruR X (fun x H Q=>∃ k,TruV X.K x H k/\Q k H):=by
 intro pins s σ H x v Q I d h
 obtain ⟨k,e,q⟩:=h
 have l:=agb
 have n:sizeLine=16777216:=sizeLine_eq
 cases x with
 | non =>
  cases d
  have a:k=false:=e
  subst a
  exact truthy_none ⟨H,I,q⟩
 | bl b =>
  cases d
  have a:k=b:=e
  subst a
  exact aJ4 ⟨H,I,q⟩
 | int i =>
  obtain ⟨t,rfl⟩:=d
  have a:k=(i != 0):=e
  subst a
  exact PySem.P.truthy_int ⟨H,I,q⟩
 | str y =>
  obtain ⟨t,rfl⟩:=d
  obtain ⟨g,a⟩:y.length<=sizeLine/\k=((y.length:Int) != 0):=e
  subst a
  exact PySem.P.truthy_str (by lia) ⟨H,I.tok _,q⟩
 | byt y =>
  obtain ⟨t,rfl⟩:=d
  obtain ⟨g,a⟩:y.size<=sizeLine/\k=((y.size:Int) != 0):=e
  subst a
  exact PySem.W.truthy_bytes (by lia) ⟨H,I.tok _,q⟩
 | ref p =>
  cases d
  have a:(∃ xs,SqL X.K H p xs/\k = !xs.isEmpty)\/(∃ xs,SqT X.K H p xs/\k = !xs.isEmpty)\/∃ kvs,H p=some (.dK kvs)/\k = !kvs.isEmpty:=e
  rcases a with ⟨xs,f,a⟩ | ⟨xs,f,a⟩ | ⟨kvs,f,a⟩
  ·subst a
   obtain ⟨its,r,pl,hz⟩:=I.list f
   have c:=r.length
   exact wpAny_truthy_list pl.isList (by simp only [aB1];lia) ⟨H,I.tok _,by rw [ah2 r];exact q⟩
  ·subst a
   obtain ⟨its,r,pl,hz⟩:=I.tuple f
   have c:=r.length
   exact truthy_tuple pl (by simp only [aB1];lia) ⟨H,I.tok _,by rw [ah2 r];exact q⟩
  ·subst a
   obtain ⟨hz,j,vs,r,m⟩:kvs.length<=sizeLine/\(p == sysModules)=false/\∃ vs,KV kvs vs/\s.heap.DictOf (aa3 X.prog X.w) p vs:=I.hok p _ f
   have c:kvs.length=vs.length:=Paired.length r
   exact wpAny_truthy_dict j m (by lia) ⟨H,I.tok _,by rw [api r];exact q⟩
 | _=>exact (show False from e).elim
theorem atf (ha:PE X a ta) (g:∀ whole,isTrue a X.env whole=(do let v ← whole;standAt a.pos;holding [v] (truthy v))) :
  PT X a (fun σ H Q=>ta σ H fun x H'=>∃ k,TruV X.K x H' k/\Q k H'):=by
 intro pins s σ H Q I h
 exact isTrue_plain (thn (ha pins s σ H _ I h) fun v s1 ⟨x,b,c,f,d⟩=>ay3 pins s1 σ b x v Q c f d) (g _)
theorem acf {x:V} {us:List Value} (r:Vals [x] us):∃ u,us=[u]/\RelV x u:=by
 cases r with
 | cons r1 r2=>cases r2;exact ⟨_,rfl,r1⟩
theorem apj {x y:V} {us:List Value} (r:Vals [x,y] us):∃ u a,us=[u,a]/\RelV x u/\RelV y a:=by
 cases r with
 | cons r1 r2 =>
  cases r2 with
  | cons r3 r4=>cases r4;exact ⟨_,_,rfl,r1,r3⟩
theorem aqx (a:X.calm=true):aa5 X (.builtin "max") (fun xs H Q=>∃ i j,xs=[.int i,.int j]/\Q (.int (if j > i then j else i)) H):=by
 intro pins s σ H xs us Q I r h
 obtain ⟨i,j,rfl,q⟩:=h
 obtain ⟨u,c,rfl,⟨t,rfl⟩,⟨t',rfl⟩⟩:=apj r
 refine max_two_ints (I.ok.hd a) fun h' b k=>⟨_,H,I.kept k,?_,q⟩
 by_cases hj:j > i
 ·rw [aE9 hj,aE9 hj];exact ⟨_,rfl⟩
 ·rw [aF0 hj,aF0 hj];exact ⟨_,rfl⟩
theorem aqy (a:X.calm=true):aa5 X (.builtin "min") (fun xs H Q=>∃ i j,xs=[.int i,.int j]/\Q (.int (if j < i then j else i)) H):=by
 intro pins s σ H xs us Q I r h
 obtain ⟨i,j,rfl,q⟩:=h
 obtain ⟨u,c,rfl,⟨t,rfl⟩,⟨t',rfl⟩⟩:=apj r
 refine min_two_ints (I.ok.hd a) fun h' b k=>⟨_,H,I.kept k,?_,q⟩
 by_cases hj:j < i
 ·rw [aE9 hj,aE9 hj];exact ⟨_,rfl⟩
 ·rw [aF0 hj,aF0 hj];exact ⟨_,rfl⟩
theorem aqz:aa5 X (.type "int") (fun xs H Q=>(∃ i,xs=[.int i]/\Q (.int i) H)\/∃ k,xs=[.bl k]/\Q (.int (if k then 1 else 0)) H):=by
 intro pins s σ H xs us Q I r h
 rcases h with ⟨i,rfl,q⟩ | ⟨k,rfl,q⟩
 ·obtain ⟨u,rfl,t,rfl⟩:=acf r
  exact call_int_int ⟨.int i,H,I,⟨_,rfl⟩,q⟩
 ·obtain ⟨u,rfl,a⟩:=acf r
  cases a
  exact call_int_bool ⟨.int (if k then 1 else 0),H,I.tok _,⟨_,rfl⟩,q⟩
end
structure ObjM (h:Heap) (x dx C:Addr) (mA:Str->Option Value):Prop where
 obj:h.get? x=some (PySem.W.instObj C dx)
 ns:h.Ns1 dx mA
 ne:dx ≠ x
theorem aq0 {h:Heap} {dx:Addr} {mA:Str->Option Value} (n:h.Ns1 dx mA):∃ od,h.get? dx=some od/\∀ name,PySem.W.lookIn name od=some (mA name):=by
 obtain ⟨o,es,ep,c,hd,d,_,hm⟩:=n
 refine ⟨o,c,fun name=>?_⟩
 have e:=hm name
 unfold nsFind findBy at e
 rw [← Array.find?_toList] at e
 unfold PySem.W.lookIn
 rw [hd]
 dsimp only
 split
 ·rename_i y q
  rw [q] at e
  exact congrArg some e
 ·rename_i q
  rw [q] at e
  have a:es.toList.any (·.refKey)=false:=by
   rw [List.any_eq_false]
   intro y f
   obtain ⟨z,t,b⟩:=d y (Array.mem_toList_iff.mp f)
   simp [DictEntry.refKey,b]
  have g:¬ es.toList.any (·.refKey)=true:=by rw [a];exact aA9
  rw [aF0 g]
  exact congrArg some e
theorem ObjM.look {h:Heap} {x dx C:Addr} {mA:Str->Option Value} (I:ObjM h x dx C mA):∃ od,PySem.W.InstAt h x (PySem.W.instObj C dx) C (some od)/\∀ name,PySem.W.lookIn name od=some (mA name) :=
 let ⟨od,a,b⟩:=aq0 I.ns
 ⟨od,⟨I.obj,rfl,rfl,a⟩,b⟩
section
variable {prog:Program} {w:World} {A:Around} {E:Value->Shared->Prop} {s:Shared} {K:Frag} {x dx C f:Addr} {mA:Str->Option Value} {name:Str} {v:Value}
theorem awc {a:Bool} {Q:Value->Shared->Prop} (X:K.In s.heap) (I:ObjM s.heap x dx C mA) (d:PySem.W.plainGet K C name=true) (hh:PySem.W.hasDictIn K C=true)
  (ha:PySem.W.findIn K (.ref C) name=some none) (f:mA name=some v) (b:PySem.W.handedIn v=true) (h:Q v { s with toks:=s.toks+1 }) :
  wpAny (model prog w) A (getAttr (.ref x) name a) Q E s:=by
 obtain ⟨od,J,c⟩:=I.look
 exact PySem.W.get_value X J (PySem.W.plainGet_of d).1 (PySem.W.findObj_own hh ha rfl (by rw [c,f])) b h
theorem atg {pl:Sem Bool} {Q:Value × List Value->Shared->Prop} (X:K.In s.heap) (I:ObjM s.heap x dx C mA) (a:PySem.W.plainGet K C name=true)
  (hf:PySem.W.findIn K (.ref C) name=some (some (.ref f))) (b:PySem.W.isFn K (.ref f)=true) (d:mA name=none) (h:Q (.ref f,[.ref x]) s) :
  wpAny (model prog w) A (getMethod (.ref x) name pl) Q E s:=by
 obtain ⟨od,J,c⟩:=I.look
 exact PySem.W.method_fn X J (PySem.W.plainGet_of a).1 (PySem.W.plainGet_of a).2 hf (aF7.mp b) (by show (PySem.W.lookIn name od).map (·.isSome)=some false;rw [c,d];rfl) h
theorem awd {ns:List Str} {Q:Unit->Shared->Prop} (X:K.In s.heap) (I:ObjM s.heap x dx C mA)
  (o:PySem.W.findIn K (.ref C) "__setattr__" = some (some (.builtin "object.__setattr__"))) (z:PySem.W.plainOver K C=true) (m:PySem.W.takerIn K C name=some none) (hh:PySem.W.hasDictIn K C=true)
  (q:PySem.Within mA ns) (hsz:ns.length<=sizeLine)
  (h:∀ h',ObjM h' x dx C (fun y=>if y=name then some v else mA y)->Heap.SameBut dx s.heap h'->Q () { s with heap:=h',toks:=s.toks+2 }) :
  wpAny (model prog w) A (setAttr (.ref x) name v) Q E s:=by
 obtain ⟨od,J,B⟩:=I.look
 refine PySem.W.set_plain X J o (PySem.W.osa_open (s:={ s with toks:=s.toks+1 }) (r:=none) X J z m fun b=>?_)
 obtain ⟨D,n,j⟩:=PySem.W.any_some hh
 have u:s.heap.get? x=some ⟨.ref C,some dx,.plain,#[]⟩:=I.obj
 refine aI2 (aI3 (aI2 (aI2 (wpAny_loadPart u (aI2 (PySem.W.Looks.here (s:={ s with toks:=s.toks+1 }) (PySem.W.looks_clsIn X n) ?_))))))
 rw [j]
 refine aI3 (a:=some dx) (aI2 (aI3 (aI2 ?_)))
 refine wpAny_nsSet1 (s:={ s with toks:=s.toks+1 }) I.ns fun h' d c=>?_
 obtain ⟨oD,p,l,f,i,g⟩:=d.count (PySem.Within.cons name v q)
 refine aI2 (wpAny_lookBehind f (by rw [i];exact pastItsLine_dict (aC9 g (by rw [aE1];lia))) ?_)
 exact aI3 (h _ ⟨(c.2 _ (Ne.symm I.ne)).trans I.obj,d,I.ne⟩ c)
theorem ath {R:Result->Shared->Prop} {vs:List Value} {a:List (Str × Value)} (X:K.In s.heap) (hm:PySem.W.makesIn K C=true)
  (hi:PySem.W.findIn K (.ref C) "__init__" = some (some (.ref f))) (hf:PySem.W.typeIn K (.ref f)=some (.type "function"))
  (h:codeAny (model prog w) (A.under (.builtin "type.__call__" ⟨.ref C :: vs,a⟩)) (.call (.ref f) ⟨.ref (s.heap.objs.size+1) :: vs,a⟩) (PySem.W.InitBack (s.heap.objs.size+1) R)
   { s with heap:=(s.heap.push PySem.W.emptyDict).push (PySem.W.instObj C s.heap.objs.size) }) :
  codeAny (model prog w) A (.call (.ref C) ⟨vs,a⟩) R s:=by
 obtain ⟨hh,g,d,t,os⟩:=s
 exact PySem.W.make_core (PySem.W.makes_of X hm) (PySem.W.looks_findIn X hi) (fun self=>PySem.W.bind_fn X self hf) (.inl rfl) h
end
def putF (f:Str) (v:V):List (Str × V)->List (Str × V)
 | []=>[(f,v)]
 | (g,x) :: r=>if g=f then (g,v) :: r else (g,x) :: putF f v r
theorem ahg (f g:Str) (v:V):∀ fs:List (Str × V),(putF f v fs).lookup g=if g=f then some v else fs.lookup g
 | []=>by
  show List.lookup g [(f,v)]=_
  by_cases h:g=f
  ·have hb:(g == f)=true:=aF7.mpr h
   simp only [List.lookup,hb,aE9 h]
  ·have hb:(g == f)=false:=beq_eq_false_iff_ne.mpr h
   simp only [List.lookup,hb,aF0 h]
 | (k,x) :: r=>by
  have a:=ahg f g v r
  rw [show putF f v ((k,x) :: r)=(if k=f then (k,v) :: r else (k,x) :: putF f v r) from rfl]
  by_cases hk:k=f
  ·rw [aE9 hk]
   by_cases h:g=k
   ·have hb:(g == k)=true:=aF7.mpr h
    simp only [List.lookup,hb,aE9 (h.trans hk)]
   ·have hb:(g == k)=false:=beq_eq_false_iff_ne.mpr h
    simp only [List.lookup,hb,aF0 (fun e:g=f=>h (e.trans hk.symm))]
  ·rw [aF0 hk]
   by_cases h:g=k
   ·have hb:(g == k)=true:=aF7.mpr h
    simp only [List.lookup,hb,aF0 (fun e:g=f=>hk (h.symm.trans e))]
   ·have hb:(g == k)=false:=beq_eq_false_iff_ne.mpr h
    simp only [List.lookup,hb]
    exact a
theorem agc (f:Str) (v:V):∀ fs:List (Str × V),f∈(putF f v fs).map (·.1)/\∀ g,g∈fs.map (·.1)->g∈(putF f v fs).map (·.1)
 | []=>⟨by simp [putF],fun g h=>by simp at h⟩
 | (k,x) :: r=>by
  obtain ⟨a,b⟩:=agc f v r
  rw [show putF f v ((k,x) :: r)=(if k=f then (k,v) :: r else (k,x) :: putF f v r) from rfl]
  by_cases hk:k=f
  ·rw [aE9 hk]
   subst hk
   exact ⟨by simp,fun g h=>by simpa using h⟩
  ·rw [aF0 hk]
   refine ⟨?_,fun g h=>?_⟩
   ·rw [aD0]
    exact aB4 _ a
   ·rw [aD0] at h ⊢
    rcases aA8.mp h with e | e
    ·exact aA8.mpr (.inl e)
    ·exact aB4 _ (b g e)
theorem ahh (f:Str) (v:V):∀ fs:List (Str × V),(putF f v fs).length<=fs.length+1
 | []=>by simp [putF]
 | (k,x) :: r=>by
  have a:=ahh f v r
  rw [show putF f v ((k,x) :: r)=(if k=f then (k,v) :: r else (k,x) :: putF f v r) from rfl]
  by_cases hk:k=f
  ·rw [aE9 hk,aE1,aE1];lia
  ·rw [aF0 hk,aE1,aE1];lia
theorem RelO.some_of {v:V} {o:Option Value} (r:RelO (some v) o):∃ u,o=some u/\RelV v u:=by
 cases o with
 | none=>exact (show False from r).elim
 | some u=>exact ⟨u,rfl,r⟩
theorem RelO.none_of {o:Option Value} (r:RelO none o):o=none:=by
 cases o with
 | none=>rfl
 | some u=>exact (show False from r).elim
theorem aq1 {v:V} {u:Value} (r:RelV v u):PySem.W.handedIn u=true:=by
 cases v with
 | non=>cases (show u=Value.none from r);rfl
 | bl b=>cases (show u=Value.bool b from r);rfl
 | int i=>obtain ⟨t,e⟩:=(show ∃ t,u=Value.int i t from r);cases e;rfl
 | str x=>obtain ⟨t,e⟩:=(show ∃ t,u=Value.str x t from r);cases e;rfl
 | byt b=>obtain ⟨t,e⟩:=(show ∃ t,u=Value.bytes b t from r);cases e;rfl
 | flt b=>obtain ⟨t,e⟩:=(show ∃ t,u=Value.float b t from r);cases e;rfl
 | ref a=>cases (show u=Value.ref a from r);rfl
 | ty n=>cases (show u=Value.type n from r);rfl
section
variable {P:Program} {w:World} {H H':Hp} {h h':Heap} {a C dx:Addr} {fs fs':List (Str × V)}
theorem agy (hok:HOk P w H h) (e:H a=some (.ins C dx fs)):∃ mA,ObjM h a dx C mA/\(∀ f,RelO (fs.lookup f) (mA f))/\PySem.Within mA (fs.map (·.1))/\fs.length<=1000/\H dx=some (.own a):=by
 obtain ⟨d,z,ne,b,mA,n,r,q⟩:=(show ObjOk P w H h a (.ins C dx fs) from hok a _ e)
 exact ⟨mA,⟨b,n,ne⟩,r,q,z,d⟩
end
structure Cls (K:Frag) (C:Addr):Prop where
 pg:PySem.W.plainGet K C Str.empty=true
 hd:PySem.W.hasDictIn K C=true
 po:PySem.W.plainOver K C=true
 sa:PySem.W.findIn K (.ref C) "__setattr__" = some (some (.builtin "object.__setattr__"))
theorem Cls.get {K:Frag} {C:Addr} (c:Cls K C) (f:Str):PySem.W.plainGet K C f=true:=c.pg
def NoAttr (K:Frag) (C:Addr) (f:Str):Prop:=PySem.W.findIn K (.ref C) f=some none
theorem NoAttr.taker {K:Frag} {C:Addr} {f:Str} (n:NoAttr K C f):PySem.W.takerIn K C f=some none:=by
 unfold PySem.W.takerIn
 rw [show PySem.W.findIn K (.ref C) f=some none from n]
 rfl
structure Meth (K:Frag) (C:Addr) (m:Str) (f:Addr):Prop where
 at_:PySem.W.findIn K (.ref C) m=some (some (.ref f))
 fn:PySem.W.isFn K (.ref f)=true
 kp:keepIn K (.ref f)=true
section
variable {X:Cx} {pins:List (Addr × Obj)} {σ:St} {H:Hp} {s:Shared} {a C dx:Addr} {fs:List (Str × V)} {f:Str} {v:V} {A:Around} {E:Value->Shared->Prop}
theorem apk {b:Bool} {Q:Value->Shared->Prop} (I:Inv X pins σ H s) (e:H a=some (.ins C dx fs)) (c:Cls X.K C) (n:NoAttr X.K C f) (l:fs.lookup f=some v)
  (h:∀ u g,Inv X pins σ H g->RelV v u->Q u g):wpAny (model X.prog X.w) A (getAttr (.ref a) f b) Q E s:=by
 obtain ⟨mA,O,r,_,_,_⟩:=agy I.hok e
 obtain ⟨u,i,d⟩:=RelO.some_of (v:=v) (o:=mA f) (by rw [← l];exact r f)
 exact awc I.kIn O (c.get f) c.hd n i (aq1 d) (h u _ (I.tok _) d)
theorem ah3 {m:Str} {g:Addr} {pl:Sem Bool} {Q:Value × List Value->Shared->Prop} (I:Inv X pins σ H s) (e:H a=some (.ins C dx fs)) (c:Cls X.K C) (k:Meth X.K C m g) (l:fs.lookup m=none)
  (h:Q (.ref g,[.ref a]) s):wpAny (model X.prog X.w) A (getMethod (.ref a) m pl) Q E s:=by
 obtain ⟨mA,O,r,_,_,_⟩:=agy I.hok e
 have hn:mA m=none:=RelO.none_of (by rw [← l];exact r m)
 exact atg I.kIn O (c.get m) k.at_ k.fn hn h
theorem apl {y:V} {u:Value} {Q:Unit->Shared->Prop} (I:Inv X pins σ H s) (e:H a=some (.ins C dx fs)) (c:Cls X.K C) (n:NoAttr X.K C f) (B:fs.length < 1000) (p:RelV y u)
  (h:∀ l,Inv X pins σ (upd H a (.ins C dx (putF f y fs))) l->Q () l):wpAny (model X.prog X.w) A (setAttr (.ref a) f u) Q E s:=by
 obtain ⟨mA,O,r,j,_,i⟩:=agy I.hok e
 have hz:(fs.map (·.1)).length<=sizeLine:=by rw [aA3,sizeLine_eq];lia
 refine awd I.kIn O c.sa c.po n.taker c.hd j hz fun h' d sb=>h _ ?_
 have hd:∃ o,h'.get? dx=some o:=let ⟨o,_,_,v,_⟩:=d.ns;⟨o,v⟩
 refine I.write (x:=a) (e:=dx) (by rw [e];exact True.intro) (.inr i) (fun b q hb z=>(sb.2 b hb).trans z) hd ?_
 refine ⟨by rw [aad O.ne];exact i,?_,O.ne,d.obj,_,d.ns,fun g=>?_,fun g m=>?_⟩
 ·have:=ahh f y fs;lia
 ·show RelO ((putF f y fs).lookup g) (if g=f then some u else mA g)
  rw [ahg]
  by_cases q:g=f
  ·rw [aE9 q,aE9 q];exact p
  ·rw [aF0 q,aF0 q];exact r g
 ·by_cases q:g=f
  ·rw [q];exact (agc f y fs).1
  ·refine (agc f y fs).2 g (j g fun z=>m ?_)
   show (if g=f then some u else mA g)=none
   rw [aF0 q];exact z
theorem Inv.made (I:Inv X pins σ H s):Inv X pins σ (upd (upd H s.heap.objs.size (.own (s.heap.objs.size+1))) (s.heap.objs.size+1) (.ins C s.heap.objs.size []))
  { s with heap:=(s.heap.push PySem.W.emptyDict).push (PySem.W.instObj C s.heap.objs.size) }:=by
 have c:(s.heap.push PySem.W.emptyDict).get? s.heap.objs.size=some PySem.W.emptyDict:=aI6 s.heap rfl
 have e2:((s.heap.push PySem.W.emptyDict).push (PySem.W.instObj C s.heap.objs.size)).get? (s.heap.objs.size+1)=some (PySem.W.instObj C s.heap.objs.size):=by
  have:=aI6 (s.heap.push PySem.W.emptyDict) (o:=PySem.W.instObj C s.heap.objs.size) rfl
  rwa [aJ2] at this
 have g:(s.heap.push PySem.W.emptyDict).Ns s.heap.objs.size (fun _=>none):=⟨PySem.W.emptyDict,#[],_,c,rfl,(fun e h=>absurd h (by simp)),fun _=>rfl⟩
 have f:=I.laid (a:=s.heap.objs.size) (o:=.own (s.heap.objs.size+1)) (h':=s.heap.push PySem.W.emptyDict) (t':=s.toks) (fun b u q=>aI4 _ q) (aA6 _) ⟨_,c⟩
 refine f.laid (a:=s.heap.objs.size+1) (o:=.ins C s.heap.objs.size []) (t':=s.toks) (fun b u q=>aI4 _ q) (Nat.le_of_eq (aJ2 _ _)) ?_
 have ne:s.heap.objs.size ≠ s.heap.objs.size+1:=aB5 (aI0 _)
 refine ⟨by rw [aad ne,aaf],aF4 _,ne,e2,fun _=>none,(Heap.Ns1.of_empty g).at fun o q=>aI4 _ q,fun _=>True.intro,fun y d=>absurd rfl d⟩
theorem awe {prog:Program} {w:World} {env:Env} {e:Expr} {f:Str} {b:Pos} {s:Shared} {Q:Value->Shared->Prop} (hb:attributeBase e f env (eval e env)=eval e env)
  (h:wpAny (model prog w) A (eval e env) (fun o a=>wpAny (model prog w) A (getAttr o f true) Q E a) E s):wpAny (model prog w) A (eval (.Attribute e f b) env) Q E s :=
 Attribute_any_ h (by rw [arm_eval_Attribute,hb])
end
def tFld (K:Frag) (ta:TE) (f:Str):TE:=fun σ H Q=>ta σ H fun x H1=>∃ a C dx fs v,x=.ref a/\H1 a=some (.ins C dx fs)/\Cls K C/\NoAttr K C f/\fs.lookup f=some v/\Q v H1
def sFld (K:Frag) (ta tv:TE) (f:Str):TS:=fun D σ H=>tv σ H fun y H1=>ta σ H1 fun x H2=>∃ a C dx fs,x=.ref a/\H2 a=some (.ins C dx fs)/\Cls K C/\NoAttr K C f/\fs.length < 1000 /\
 D.nx σ (upd H2 a (.ins C dx (putF f y fs)))
section
variable {X:Cx} {o e value:Expr} {f:Str} {pos pos' tpos:Pos} {ta tv:TE}
theorem aef (o:PE X e ta) (hb:attributeBase e f X.env (eval e X.env)=eval e X.env):PE X (.Attribute e f pos) (tFld X.K ta f):=by
 intro pins s σ H Q I h
 refine awe hb (thn (o pins s σ H _ I h) fun u s1 ⟨x,g,j,d,a,C,dx,fs,v,ex,i,c,n,l,q⟩=>?_)
 subst ex
 obtain rfl:u=Value.ref a:=d
 exact apk j i c n l fun p s2 b m=>⟨v,g,b,m,q⟩
theorem aq2 (ha:PE X o ta) (z:PE X value tv) (g:swapsWith value (some (.Attribute o f pos')) pos.line X.env=pure false):PS X (.Assign [.Attribute o f pos'] value pos) (sFld X.K ta tv f):=by
 intro pins s σ H D I h
 refine plainObj_wpAny_Assign_Attribute (thn (z pins s σ H _ I h) fun u s1 ⟨y,j,p,r,q⟩=>thn (ha pins s1 σ j _ p q) fun v s2 ⟨x,H2,d,i,a,C,dx,fs,ex,m,c,n,l,w⟩=>?_) g
 subst ex
 obtain rfl:v=Value.ref a:=i
 exact apl d m c n l r fun A b=>⟨σ,_,b,w⟩
end
section
variable {X:Cx} {pins:List (Addr × Obj)} {σ:St} {H:Hp} {s:Shared} {A:Around} {E:Value->Shared->Prop} {Q:Value->Shared->Prop} {c:Value} {b:Bool}
inductive TyOf (K:Frag) (H:Hp):V->Value->Prop where
 | non:TyOf K H .non (.type "NoneType")
 | bl (x:Bool):TyOf K H (.bl x) (.type "bool")
 | int (i:Int):TyOf K H (.int i) (.type "int")
 | str (x:Str):TyOf K H (.str x) (.type "str")
 | flt (x:UInt64):TyOf K H (.flt x) (.type "float")
 | lst {a:Addr} {xs:List V} (e:H a=some (.lst xs)):TyOf K H (.ref a) (.type "list")
 | frz {a:Addr} {o:Obj} {xs:List V} (e:H a=some (.frz o (.lst xs))):TyOf K H (.ref a) (.type "list")
 | tup {a:Addr} {xs:List V} (e:H a=some (.tup xs)):TyOf K H (.ref a) (.type "tuple")
 | dK {a:Addr} {kvs:List (Key × V)} (e:H a=some (.dK kvs)):TyOf K H (.ref a) (.type "dict")
 | dT {a:Addr} {kvs:List (List Key × V)} (e:H a=some (.dT kvs)):TyOf K H (.ref a) (.type "dict")
 | ins {a C dx:Addr} {fs:List (Str × V)} (e:H a=some (.ins C dx fs)) (cl:Cls K C) (ha:PySem.W.findIn K (.ref C) "__class__" = some (some (.builtin "object.__class__")))
   (hn:PySem.W.specialIn K (.builtin "object.__class__") "__get__" = some (some (.builtin "getset_descriptor.__get__"))) (htk:PySem.W.takesIn K (.builtin "object.__class__")=some true)
   (hm:mroIn K C (.type "object")=some true):TyOf K H (.ref a) (.ref C)
theorem aq3 {x:V} {u t:Value} (I:Inv X pins σ H s) (d:RelV x u) (ty:TyOf X.K H x t) (e:kitOne X.K t c=some b) (h:∀ j,Q (.bool b) { s with toks:=j }) :
  wpAny (model X.prog X.w) A (call (.builtin "isinstance") [u,c]) Q E s:=by
 cases ty with
 | non=>cases (show u=Value.none from d);exact PySem.W.kia_one PySem.W.kitx_none I.kIn True.intro e (fun z=>nomatch z) h
 | bl y=>cases (show u=Value.bool y from d);exact PySem.W.kia_one PySem.W.kitx_bool I.kIn True.intro e (fun z=>nomatch z) h
 | int i=>obtain ⟨t,q⟩:=(show ∃ t,u=Value.int i t from d);cases q;exact PySem.W.kia_one PySem.W.kitx_int I.kIn True.intro e (fun z=>nomatch z) h
 | str y=>obtain ⟨t,q⟩:=(show ∃ t,u=Value.str y t from d);cases q;exact PySem.W.kia_one PySem.W.kitx_str I.kIn True.intro e (fun z=>nomatch z) h
 | flt y=>obtain ⟨t,q⟩:=(show ∃ t,u=Value.float y t from d);cases q;exact PySem.W.kia_one PySem.W.kitx_float I.kIn True.intro e (fun z=>nomatch z) h
 | @lst a xs ea =>
  cases (show u=Value.ref a from d)
  obtain ⟨_,_,n,_,f⟩:=(show ObjOk X.prog X.w H s.heap a (.lst xs) from I.hok a _ ea)
  exact PySem.W.kia_one PySem.W.kitx_list I.kIn ⟨_,f,rfl⟩ e (fun z=>nomatch z) h
 | @frz a ob xs ea =>
  cases (show u=Value.ref a from d)
  obtain ⟨_,_,_,n,_,f⟩:=(show ObjOk X.prog X.w H s.heap a (.frz ob (.lst xs)) from I.hok a _ ea)
  exact PySem.W.kia_one PySem.W.kitx_list I.kIn ⟨_,f,rfl⟩ e (fun z=>nomatch z) h
 | @tup a xs ea =>
  cases (show u=Value.ref a from d)
  obtain ⟨_,_,_,p⟩:=(show ObjOk X.prog X.w H s.heap a (.tup xs) from I.hok a _ ea)
  obtain ⟨o,f,g,_⟩:=p
  exact PySem.W.kia_one PySem.W.kitx_tuple I.kIn ⟨o,f,g⟩ e (fun z=>nomatch z) h
 | @dK a kvs ea =>
  cases (show u=Value.ref a from d)
  obtain ⟨_,_,vs,_,p⟩:=(show ObjOk X.prog X.w H s.heap a (.dK kvs) from I.hok a _ ea)
  obtain ⟨o,es,ep,f,g,_⟩:=p
  exact PySem.W.kia_one PySem.W.kitx_dict I.kIn ⟨o,f,g.1⟩ e (fun z=>nomatch z) h
 | @dT a kvs ea =>
  cases (show u=Value.ref a from d)
  obtain ⟨_,_,xs,_,o,es,ep,f,g,_⟩:=(show ObjOk X.prog X.w H s.heap a (.dT kvs) from I.hok a _ ea)
  exact PySem.W.kia_one PySem.W.kitx_dict I.kIn ⟨o,f,g.1⟩ e (fun z=>nomatch z) h
 | @ins a C dx fs ea cl ha hn htk hm =>
  cases (show u=Value.ref a from d)
  obtain ⟨mA,O,_⟩:=agy I.hok ea
  obtain ⟨od,J,_⟩:=O.look
  exact PySem.W.kia_one (PySem.W.kitx_own (cl.get _) cl.hd ha hn htk hm) I.kIn J e (fun z=>nomatch z) h
end
structure Room (k:Nat) (A:Around):Prop where
 hd:A.handled=none
 dp:A.depth+3 * k+5 < recursionLimit
 un:A.units+16 * k+200 < cLine
theorem Room.mono {j k:Nat} {A:Around} (r:Room k A) (h:j<=k):Room j A:=⟨r.hd,by have:=r.dp;lia,by have:=r.un;lia⟩
theorem Room.deeper {k:Nat} {A:Around} (r:Room (k+1) A) (env:Env):Room k (A.deeper env) :=
 ⟨r.hd,by have:=r.dp;show A.depth+1+3 * k+5 < _;lia,by have:=r.un;show A.units+3+16 * k+200 < _;lia⟩
theorem Room.in1 {k:Nat} {A:Around} (r:Room (k+1) A):Room k A.in1 :=
 ⟨r.hd,by have:=r.dp;show A.depth+3 * k+5 < _;lia,by have:=r.un;show A.units+1+16 * k+200 < _;lia⟩
theorem apm {A:Around} {C:Addr} {us:List Value} {a:List (Str × Value)}:(A.under (.builtin "type.__call__" ⟨.ref C :: us,a⟩)).depth=A.depth+1:=by
 first | rfl | simp [Around.under,Code.weight,Code.isCreation,Code.isGuard,Code.isCaller,Code.frames,Code.isFrame,guardIds]
theorem apn {A:Around} {C:Addr} {us:List Value} {a:List (Str × Value)}:(A.under (.builtin "type.__call__" ⟨.ref C :: us,a⟩)).units=A.units+1:=by
 first | rfl | simp [Around.under,Code.cUnits,Code.frames,Code.isFrame]
theorem Room.make {k:Nat} {A:Around} (r:Room (k+1) A) (C:Addr) (us:List Value) (a:List (Str × Value)):Room k (A.under (.builtin "type.__call__" ⟨.ref C :: us,a⟩)) :=
 ⟨r.hd,by have:=r.dp;rw [apm];lia,by have:=r.un;rw [apn];lia⟩
theorem Room.depth {k:Nat} {A:Around} (r:Room k A):A.depth < recursionLimit:=by have:=r.dp;lia
theorem Room.units {k:Nat} {A:Around} (r:Room k A):A.units+64 < cLine:=by have:=r.un;lia
theorem Room.units0 {k:Nat} {A:Around} (r:Room k A):A.units < cLine:=by have:=r.un;lia
def tNil:TA:=fun _ H Q=>Q [] H
def aa2 (ta:TE) (tr:TA):TA:=fun σ H Q=>ta σ H fun x H1=>tr σ H1 fun xs H2=>Q (x :: xs) H2
section
variable {X:Cx} {e:Expr} {es:List Expr} {te:TE} {t:TA} {pos:Pos}
theorem aab:PA X [] tNil:=fun _ _ _ _ H Q I h=>Calls.spliced_nil ⟨[],H,I,.nil,h⟩
theorem aaa (ha:PE X e te) (l:PA X es t) (c:starEach (e :: es) X.env=(false,eval e X.env) :: starEach es X.env:=by rfl):PA X (e :: es) (aa2 te t):=by
 intro a pins s σ H Q I h
 rw [c]
 show wpAny _ _ (spliced ((false,eval e X.env) :: backTo a (starEach es X.env))) _ _ s
 refine Calls.spliced_cons (thn (ha pins s σ H _ I h) fun u s1 ⟨x,d,g,j,i⟩=>?_)
 exact thn (l a pins s1 σ d _ g i) fun us s2 ⟨xs,H2,b,f,m⟩=>⟨x :: xs,H2,b,.cons j f,m⟩
def tTup (t:TA):TE:=fun σ H Q=>t σ H fun xs H1=>xs.length<=sizeLine/\∀ p,H1 p=none->Q (.ref p) (upd H1 p (.tup xs))
def tLst (t:TA):TE:=fun σ H Q=>t σ H fun xs H1=>xs.length<=sizeLine/\∀ p,H1 p=none->Q (.ref p) (upd H1 p (.lst xs))
theorem aa6 {x1} (h:PA X es t):PE X (.Tuple es x1 pos) (tTup t):=by
 intro pins s σ H Q I d
 refine wpAny_Tuple_spliced (thn (h pos pins s σ H _ I d) fun us s1 ⟨xs,a,c,r,z,q⟩=>⟨by rw [← r.length];exact z,?_⟩)
 have hf:a s1.heap.objs.size=none:=c.hok.fresh (aA6 _)
 refine ⟨.ref s1.heap.objs.size,upd a s1.heap.objs.size (.tup xs),c.laid (t':=s1.toks) (fun b u e=>aI4 _ e) (aA6 _) ?_,rfl,q _ hf⟩
 exact ⟨z,us,r,⟨_,aI6 _ rfl,rfl,_,rfl⟩⟩
theorem aay (h:PA X es t):PE X (.List es pos) (tLst t):=by
 intro pins s σ H Q I d
 refine wpAny_List_spliced (thn (h pos pins s σ H _ I d) fun us s1 ⟨xs,a,c,r,z,q⟩=>⟨by rw [← r.length];exact z,?_⟩)
 have hf:a s1.heap.objs.size=none:=c.hok.fresh (aA6 _)
 refine ⟨.ref s1.heap.objs.size,upd a s1.heap.objs.size (.lst xs),c.laid (t':=s1.toks) (fun b u e=>aI4 _ e) (aA6 _) ?_,rfl,q _ hf⟩
 exact ⟨z,us,0,r,aI6 _ rfl⟩
end
abbrev Sp:=List V->Hp->VK->XK->Prop
abbrev CXT:=List Env->Hp->Shared->XK->Value->Shared->Prop
structure Env0 (P:Program) (w:World) (K:Frag) (mg:Str->Option Value) (base:Heap) (A:Around) (outer:List Env) (s:Shared) (H:Hp):Prop where
 frames:A.frames=some outer
 mod:Mod K mg base
 bs:∀ b o,base.get? b=some o->s.heap.get? b=some o/\H b=none
 bsz:base.objs.size<=s.heap.objs.size
 funs:s.heap.FunFrames base outer
 frf:∀ b∈frs outer,H b=none
 hok:HOk P w H s.heap
 bare:AllBare s.gens
def CE (outer:List Env) (P:Program) (w:World) (H:Hp) (s:Shared) (Q:VK) (u:Value) (s':Shared):Prop :=
 ∃ v H',s'.os=s.os/\AllBare s'.gens/\Un (frs outer) [] H H' s.heap s'.heap/\HOk P w H' s'.heap/\RelV v u/\Q v H'
def CR (CX:CXT) (outer:List Env) (P:Program) (w:World) (H:Hp) (s:Shared) (Q:VK) (E:XK) (r:Result) (s':Shared):Prop :=
 match r with
 | .ok (.ret u)=>CE outer P w H s Q u s'
 | .ok _=>False
 | .error e=>CX outer H s E e s'
structure FnOk (P:Program) (w:World) (K:Frag) (mg:Str->Option Value) (base:Heap) (CX:CXT) (k:Nat) (f:Addr) (fd:FuncData) (ps:List Str) (sp:Sp):Prop where
 len:∀ vs H Q E,sp vs H Q E->vs.length=ps.length
 run:∀ (A:Around) (outer:List Env) (s:Shared) (H:Hp) (args:Args) (us:List Value) (vs:List V) (Q:VK) (E:XK),Room k A->Env0 P w K mg base A outer s H->BindsTo s fd args (ps.zip us)->Vals vs us->sp vs H Q E ->
  codeAny (model P w) A (.call (.ref f) args) (CR CX outer P w H s Q E) s
theorem FnOk.mono {P:Program} {w:World} {K:Frag} {mg:Str->Option Value} {base:Heap} {CX:CXT} {j k:Nat} {f:Addr} {fd:FuncData} {ps:List Str} {sp:Sp} (F:FnOk P w K mg base CX j f fd ps sp) (h:j<=k) :
  FnOk P w K mg base CX k f fd ps sp:=⟨F.len,fun A outer s H args us vs Q E a=>F.run A outer s H args us vs Q E (a.mono h)⟩
theorem FnOk.imp {P:Program} {w:World} {K:Frag} {mg:Str->Option Value} {base:Heap} {CX:CXT} {k:Nat} {f:Addr} {fd:FuncData} {ps:List Str} {sp a:Sp} (F:FnOk P w K mg base CX k f fd ps sp)
  (h:∀ vs H Q E,a vs H Q E->sp vs H Q E):FnOk P w K mg base CX k f fd ps a :=
 ⟨fun vs H Q E q=>F.len vs H Q E (h _ _ _ _ q),fun A outer s H args us vs Q E c d hb g b=>F.run A outer s H args us vs Q E c d hb g (h _ _ _ _ b)⟩
theorem Env0.make {P:Program} {w:World} {K:Frag} {mg:Str->Option Value} {base:Heap} {A:Around} {outer:List Env} {s:Shared} {H:Hp} (e:Env0 P w K mg base A outer s H) (C:Addr) (us:List Value) (a:List (Str × Value)) :
  Env0 P w K mg base (A.under (.builtin "type.__call__" ⟨.ref C :: us,a⟩)) outer s H:=⟨by first | exact e.frames | (simpa [Around.under,Code.envs,Code.isFrame,pushEnvs] using e.frames),e.mod,e.bs,e.bsz,e.funs,e.frf,e.hok,e.bare⟩
theorem Env0.in1 {P:Program} {w:World} {K:Frag} {mg:Str->Option Value} {base:Heap} {A:Around} {outer:List Env} {s:Shared} {H:Hp} (e:Env0 P w K mg base A outer s H) :
  Env0 P w K mg base A.in1 outer s H:=⟨e.frames,e.mod,e.bs,e.bsz,e.funs,e.frf,e.hok,e.bare⟩
section
variable {X:Cx} {pins:List (Addr × Obj)} {σ:St} {H:Hp} {s s':Shared}
theorem Inv.env0 (I:Inv X pins σ H s):Env0 X.prog X.w X.K X.mg X.base X.A X.stack s H :=
 ⟨I.ok.frames,I.ok.mod,I.bs,aC9 I.ok.bsz I.sz,I.stack,I.stkFree,I.hok,I.bare⟩
theorem Inv.after {Q:VK} {u:Value} (I:Inv X pins σ H s) (h:CE X.stack X.prog X.w H s Q u s'):EP X pins σ Q u s':=by
 obtain ⟨v,H',os,bare,un,hok,r,q⟩:=h
 obtain ⟨hh,g,d,t,os'⟩:=s'
 obtain rfl:os'=s.os:=os
 exact ⟨v,H',I.call (h':=hh) (g':=g) (d':=d) (t':=t) (ch:=[]) un hok bare (fun b z=>absurd z (by simp)),r,q⟩
end
def abq (sp:Sp) (dvs:List V) (E:XK) (t:TA):TE:=fun σ H Q=>t σ H fun vs H1=>sp (vs ++ dvs) H1 Q E
def afk (C:Addr) (m:Str) (sp:Sp) (dvs:List V) (E:XK) (ta:TE) (t:TA):TE:=fun σ H Q=>ta σ H fun x H1=>∃ a dx fs,x=.ref a/\H1 a=some (.ins C dx fs)/\fs.lookup m=none /\
 t σ H1 fun vs H2=>sp (x :: (vs ++ dvs)) H2 Q E
def apo (C:Addr) (sp:Sp) (dvs:List V) (E:XK) (t:TA):TE:=fun σ H Q=>t σ H fun vs H1=>∀ x dx,H1 x=none->H1 dx=none->dx ≠ x ->
 sp (.ref x :: (vs ++ dvs)) (upd (upd H1 dx (.own x)) x (.ins C dx [])) (fun v H2=>v=.non/\Q (.ref x) H2) E
def Binds (K:Frag) (fd:FuncData) (ps:List Str) (ds:List Value):Prop :=
 ∀ (s:Shared) (us:List Value),K.In s.heap->(us ++ ds).length=ps.length->BindsTo s fd ⟨us,[]⟩ (ps.zip (us ++ ds))
theorem Binds.all {K:Frag} {fd:FuncData} {ps:List Str} (h:∀ us:List Value,us.length=ps.length->bindArgs fd ⟨us,[]⟩=pure (ps.zip us)):Binds K fd ps []:=fun s us _ a=>by
 rw [aE5] at a ⊢
 exact .of_eq (h us a)
def aeg (CX:CXT) (X:Cx) (E:XK):Prop:=∀ (pins:List (Addr × Obj)) (σ:St) (H:Hp) (s:Shared) (e:Value) (s':Shared),Inv X pins σ H s->CX X.stack H s E e s'->X.xe e s'
section
variable {X:Cx} {CX:CXT} {k:Nat} {f C:Addr} {fd:FuncData} {ps:List Str} {sp:Sp} {dvs:List V} {ds:List Value} {E:XK} {x m:Str} {p pos apos:Pos} {e o:Expr} {es:List Expr} {ta:TE} {t:TA}
theorem alo {pins:List (Addr × Obj)} {σ:St} {H:Hp} {s:Shared} {Q:VK} {us:List Value} {vs:List V} (F:FnOk X.prog X.w X.K X.mg X.base CX k f fd ps sp) (i:Room k X.A) (hb:Binds X.K fd ps ds) (hd:Vals dvs ds) (d:aeg CX X E)
  (I:Inv X pins σ H s) (r:Vals vs us) (h:sp (vs ++ dvs) H Q E):wpAny (model X.prog X.w) X.A (call (.ref f) us) (EP X pins σ Q) X.xe s:=by
 have b:Vals (vs ++ dvs) (us ++ ds):=r.append hd
 have c:(us ++ ds).length=ps.length:=by rw [← b.length];exact F.len _ _ _ _ h
 refine wpAny_call (codeAny_mono (F.run X.A X.stack s H ⟨us,[]⟩ (us ++ ds) (vs ++ dvs) Q E i I.env0 (hb s us I.kIn c) b h) fun r g a=>?_)
 cases r with
 | error e=>exact d pins σ H s e g I a
 | ok fl =>
  cases fl with
  | ret u=>exact I.after a
  | next=>exact False.elim a
  | brk=>exact False.elim a
  | cont=>exact False.elim a
theorem awf (F:FnOk X.prog X.w X.K X.mg X.base CX k f fd ps sp) (j:Room k X.A) (g:Gl X x) (hm:X.mg x=some (.ref f)) (d:keepIn X.K (.ref f)=true) (hb:Binds X.K fd ps ds) (hd:Vals dvs ds) (i:aeg CX X E)
  (ha:PA X (e :: es) t) (a:(x == ("__debug__" : Str))=false:=by decide) (l:starEach (e :: es) X.env=(false,eval e X.env) :: starEach es X.env:=by rfl) (b:(backTo pos (starEach es X.env)).any (·.1)=false:=by rfl) :
  PE X (.Call (.Name x p) (e :: es) [] pos) (abq sp dvs E t):=by
 intro pins s σ H Q I h
 refine wpAny_Call_Name_kw (ai3 I g hm ?_ a)
 refine PySem.W.callWith_K (h₀:=X.base) I.ok.mod.kin d (thn (ha pos pins s σ H _ I h) fun us s1 ⟨vs,m,c,r,q⟩=>⟨c.kIn,?_⟩) l b
 exact alo F j hb hd i c r q
theorem awg {pl:Sem Bool} (D:PE X o ta) (c:Cls X.K C) (hm:Meth X.K C m f) (F:FnOk X.prog X.w X.K X.mg X.base CX k f fd ps sp) (z:Room k X.A) (hb:Binds X.K fd ps ds) (hd:Vals dvs ds) (y:aeg CX X E) (ha:PA X (e :: es) t)
  (d:starEach (e :: es) X.env=(false,eval e X.env) :: starEach es X.env:=by rfl) (b:(backTo pos (starEach es X.env)).any (·.1)=false:=by rfl)
  (j:eval (.Call (.Attribute o m apos) (e :: es) [] pos) X.env=(do
   let ov ← eval o X.env
   standAt apos.atName
   let (f,first) ← holding [ov] (getMethod ov m pl)
   callWith pos f first (backTo pos (starEach (e :: es) X.env)) (backToKw pos (keywordEach [] X.env))):=by rfl) :
  PE X (.Call (.Attribute o m apos) (e :: es) [] pos) (afk C m sp dvs E ta t):=by
 intro pins s σ H Q I h
 refine PySem.W.methodCall_KW (pl:=pl) (thn (D pins s σ H _ I h) fun u s1 ⟨x,p,i,n,a,dx,fs,ex,v,l,q⟩=>?_) j
 subst ex
 obtain rfl:u=Value.ref a:=n
 refine ah3 i v c hm l ?_
 refine PySem.W.callWith_K (first:=[.ref a]) (h₀:=X.base) I.ok.mod.kin hm.kp (thn (ha pos pins s1 σ p _ i q) fun us s2 ⟨vs,H2,g,r,B⟩=>⟨g.kIn,?_⟩) d b
 exact alo (us:=.ref a :: us) (vs:=.ref a :: vs) F z hb hd y g (.cons rfl r) B
theorem ati {pl:Sem Bool} (p:PE X o ta) (c:Cls X.K C) (hm:Meth X.K C m f) (F:FnOk X.prog X.w X.K X.mg X.base CX k f fd ps sp) (n:Room k X.A) (hb:Binds X.K fd ps ds) (hd:Vals dvs ds) (j:aeg CX X E)
  (d:eval (.Call (.Attribute o m apos) [] [] pos) X.env=(do
   let ov ← eval o X.env
   standAt apos.atName
   let (f,first) ← holding [ov] (getMethod ov m pl)
   callWith pos f first (backTo pos (starEach [] X.env)) (backToKw pos (keywordEach [] X.env))):=by rfl) :
  PE X (.Call (.Attribute o m apos) [] [] pos) (afk C m sp dvs E ta tNil):=by
 intro pins s σ H Q I h
 refine PySem.W.methodCall_KW (pl:=pl) (thn (p pins s σ H _ I h) fun u s1 ⟨x,r,b,g,a,dx,fs,ex,i,l,q⟩=>?_) d
 subst ex
 obtain rfl:u=Value.ref a:=g
 refine ah3 b i c hm l ?_
 exact PySem.W.callWith_K0 (first:=[.ref a]) b.kIn hm.kp (alo (us:=[.ref a]) (vs:=[.ref a]) F n hb hd j b (.cons rfl .nil) q)
structure Mk (K:Frag) (C f:Addr):Prop where
 makes:PySem.W.makesIn K C=true
 init:PySem.W.findIn K (.ref C) "__init__" = some (some (.ref f))
 fn:PySem.W.isFn K (.ref f)=true
 kp:keepIn K (.ref C)=true
theorem atj {pins:List (Addr × Obj)} {σ:St} {H:Hp} {s:Shared} {Q:VK} {us:List Value} {vs:List V} (M:Mk X.K C f) (F:FnOk X.prog X.w X.K X.mg X.base CX k f fd ps sp) (p:Room (k+1) X.A) (hb:Binds X.K fd ps ds) (hd:Vals dvs ds)
  (l:aeg CX X E) (I:Inv X pins σ H s) (r:Vals vs us)
  (h:∀ x dx,H x=none->H dx=none->dx ≠ x->sp (.ref x :: (vs ++ dvs)) (upd (upd H dx (.own x)) x (.ins C dx [])) (fun v H2=>v=.non/\Q (.ref x) H2) E) :
  wpAny (model X.prog X.w) X.A (call (.ref C) us) (EP X pins σ Q) X.xe s:=by
 have d:=h (s.heap.objs.size+1) s.heap.objs.size (I.hok.fresh (Nat.le_succ _)) (I.hok.fresh (aA6 _)) (aB5 (aI0 _))
 have b:=Inv.made (C:=C) I
 have c:Vals (V.ref (s.heap.objs.size+1) :: (vs ++ dvs)) (Value.ref (s.heap.objs.size+1) :: (us ++ ds)):=.cons rfl (r.append hd)
 have g:(Value.ref (s.heap.objs.size+1) :: us ++ ds).length=ps.length:=by
  have e:=c.length
  rw [F.len _ _ _ _ d] at e
  exact e.symm
 refine wpAny_call (ath (f:=f) I.kIn M.makes M.init (aF7.mp M.fn) (codeAny_mono (F.run _ X.stack _ _ ⟨Value.ref (s.heap.objs.size+1) :: us,[]⟩ (Value.ref (s.heap.objs.size+1) :: (us ++ ds)) _ _ E (p.make C us [])
  (b.env0.make C us []) (hb _ (Value.ref (s.heap.objs.size+1) :: us) b.kIn g) c d) fun r m a=>?_))
 cases r with
 | error e=>exact l pins σ _ _ e m b a
 | ok fl =>
  cases fl with
  | ret u =>
   obtain ⟨v,H',i,j,o,n⟩:=b.after a
   subst o
   exact ⟨j,⟨V.ref (s.heap.objs.size+1),H',i,rfl,n⟩⟩
  | next=>exact False.elim a
  | brk=>exact False.elim a
  | cont=>exact False.elim a
theorem awh (M:Mk X.K C f) (F:FnOk X.prog X.w X.K X.mg X.base CX k f fd ps sp) (i:Room (k+1) X.A) (d:Gl X x) (hm:X.mg x=some (.ref C)) (hb:Binds X.K fd ps ds) (hd:Vals dvs ds) (g:aeg CX X E)
  (ha:PA X (e :: es) t) (a:(x == ("__debug__" : Str))=false:=by decide) (j:starEach (e :: es) X.env=(false,eval e X.env) :: starEach es X.env:=by rfl) (b:(backTo pos (starEach es X.env)).any (·.1)=false:=by rfl) :
  PE X (.Call (.Name x p) (e :: es) [] pos) (apo C sp dvs E t):=by
 intro pins s σ H Q I h
 refine wpAny_Call_Name_kw (ai3 I d hm ?_ a)
 refine PySem.W.callWith_K (h₀:=X.base) I.ok.mod.kin M.kp (thn (ha pos pins s σ H _ I h) fun us s1 ⟨vs,l,c,r,q⟩=>⟨c.kIn,?_⟩) j b
 exact atj M F i hb hd g c r q
end
section
variable {X:Cx} {CX:CXT} {k:Nat} {f C:Addr} {fd:FuncData} {ps ks:List Str} {sp:Sp} {E:XK} {x m:Str} {p pos apos kpos:Pos} {e o:Expr} {es:List Expr} {kws:List Keyword} {te ta:TE} {t tk:TA} {nm:Option Str}
variable {g:List Value->List Value->List Value} {gV:List V->List V->List V}
end
structure FnScope (N P:List Str) (sc:Scope):Prop where
 kind:sc.kind=.function
 co:sc.isCoroutine=false
 gen:sc.isGenerator=false
 nd:N.Nodup
 pre:N.take P.length=P
 par:∀ x∈P,sc.names.lookup x=some .local\/sc.names.lookup x=some .cell
 nofree:∀ y∈sc.names,y.2 ≠ .free
theorem aj2 {kindOf:Str->Option NameKind} {x:Str}:∀ {binds:List (Str × Value)} {m:Str->Option Value},(∀ v,(x,v) ∉ binds)->bindL kindOf binds m x=m x
 | [],_,_=>rfl
 | (n,v) :: r,m,h=>by
  unfold bindL
  rw [aj2 fun w a=>h w (aB4 _ a)]
  split
  ·have:x ≠ n:=by rintro rfl;exact h v aB7
   simp [this]
  ·rfl
theorem aj3 {kindOf:Str->Option NameKind} {x:Str}:∀ {binds:List (Str × Value)} {m:Str->Option Value},(∀ v,(x,v) ∉ binds)->bindC kindOf binds m x=m x
 | [],_,_=>rfl
 | (n,v) :: r,m,h=>by
  unfold bindC
  rw [aj3 fun w a=>h w (aB4 _ a)]
  split
  ·rfl
  ·have:x ≠ n:=by rintro rfl;exact h v aB7
   simp [this]
theorem aj4 {kindOf:Str->Option NameKind} {x:Str} {v:Value}:∀ {P:List Str} {vs:List Value} {i:Nat} {m:Str->Option Value},P.Nodup->P[i]?=some x->vs[i]?=some v->kindOf x=some .local ->
  bindL kindOf (P.zip vs) m x=some v
 | [],_,_,_,_,h,_,_=>by simp at h
 | _ :: _,[],_,_,_,_,h,_=>by simp at h
 | p :: P,w :: vs,0,m,nd,h1,h2,hk=>by
  simp at h1 h2;subst h1;subst h2
  show bindL kindOf ((p,w) :: P.zip vs) m p=_
  unfold bindL
  rw [aj2 fun v a=>(aH8.mp nd).1 (List.of_mem_zip a).1,aE9 hk]
  simp
 | p :: P,w :: vs,i+1,m,nd,h1,h2,hk=>by
  show bindL kindOf ((p,w) :: P.zip vs) m x=_
  unfold bindL
  exact aj4 (i:=i) (aH8.mp nd).2 (by simpa using h1) (by simpa using h2) hk
theorem aj5 {kindOf:Str->Option NameKind} {x:Str} {v:Value}:∀ {P:List Str} {vs:List Value} {i:Nat} {m:Str->Option Value},P.Nodup->P[i]?=some x->vs[i]?=some v->kindOf x ≠ some .local ->
  bindC kindOf (P.zip vs) m x=some v
 | [],_,_,_,_,h,_,_=>by simp at h
 | _ :: _,[],_,_,_,_,h,_=>by simp at h
 | p :: P,w :: vs,0,m,nd,h1,h2,hk=>by
  simp at h1 h2;subst h1;subst h2
  show bindC kindOf ((p,w) :: P.zip vs) m p=_
  unfold bindC
  rw [aj3 fun v a=>(aH8.mp nd).1 (List.of_mem_zip a).1,aF0 hk]
  simp
 | p :: P,w :: vs,i+1,m,nd,h1,h2,hk=>by
  show bindC kindOf ((p,w) :: P.zip vs) m x=_
  unfold bindC
  exact aj5 (i:=i) (aH8.mp nd).2 (by simpa using h1) (by simpa using h2) hk
def start (N:List Str) (vs:List V):St:=vs.map some ++ List.replicate (N.length - vs.length) none
def cxOf (CX:CXT) (P:Program) (w:World) (K:Frag) (mg:Str->Option Value) (base:Heap) (N:List Str) (qual:Str) (scope:Scope) (f:Addr) (cd:Value) (A:Around) (outer:List Env) (s:Shared) (H:Hp) (E:XK):Cx where
 prog:=P
 w:=w
 K:=K
 mg:=mg
 base:=base
 A:=A.deeper (envOfC qual scope s.heap.objs.size f cd)
 N:=N
 s₀:=s
 H₀:=H
 env:=envOfC qual scope s.heap.objs.size f cd
 outer:=outer
 stack:=envOfC qual scope s.heap.objs.size f cd :: outer
 ex:=[]
 calm:=true
 fn:=fun _=>true
 pn:=[]
 xe:=fun e s'=>wpAny (model P w) (A.deeper (envOfC qual scope s.heap.objs.size f cd)) (leaving (envOfC qual scope s.heap.objs.size f cd) e) (fun _ s''=>CX outer H s E e s'') (fun e' s''=>CX outer H s E e' s'') s'
theorem alp {sc:Scope} {n:Nat} {x:Str} (h:sc.names.lookup x=some .cell):∃ c,(cellsFrom n sc.names []).lookup x=some c:=by
 have q:=PySem.W.cellsFrom_some sc.names n [] (.inl h)
 exact Option.isSome_iff_exists.mp q
theorem aq4 {CX:CXT} {P:Program} {w:World} {K:Frag} {mg:Str->Option Value} {base:Heap} {N ps:List Str} {qual:Str} {scope:Scope} {f:Addr} {C:Value} {A:Around} {outer:List Env} {s s1:Shared} {H:Hp} {E:XK} {us:List Value} {vs:List V}
  (S:FnScope N ps scope) (hd:A.handled=none) (g:Env0 P w K mg base A outer s H) (L:vs.length=ps.length) (r:Vals vs us)
  (x:InCallC s s.heap.objs.size (bindL (envOfC qual scope s.heap.objs.size f C).kindOf (ps.zip us) fun _=>none) (cellsFrom (s.heap.objs.size+1) scope.names []) (bindC (envOfC qual scope s.heap.objs.size f C).kindOf (ps.zip us) fun _=>none) s1) :
  Inv (cxOf CX P w K mg base N qual scope f C A outer s H E) [] (start N vs) H s1:=by
 have I:ps.length<=N.length:=by have:=congrArg List.length S.pre;rw [aG4] at this;lia
 obtain ⟨B,M,rfl,D⟩:=x.done
 have l:∀ b:Addr,b ∉ (cxOf CX P w K mg base N qual scope f C A outer s H E).ex:=fun b z=>absurd (show b∈([]:List Addr) from z) (by simp)
 refine ⟨⟨g.mod,S.kind,rfl,rfl,aA6 _,fun y z c B d=>?_,fun y j=>?_,fun y c _ h=>?_,fun _=>hd,Around.frames_deeper g.frames,.inr ⟨rfl,rfl⟩,fun b z=>absurd z (l b),g.bs,g.bsz,fun b _ _=>l b,fun b z=>absurd z (l b),g.funs,g.frf⟩,
  rfl,g.bare,Un.kept D,⟨_,x.toInCall.ns,fun i y v B d J=>?_⟩,fun y c h=>⟨_,x.cell y c h⟩,g.hok.fresh (aA6 _),fun y c h=>?_,fun p o=>absurd (show p∈([]:List (Addr × Obj)) from o) (by simp),g.hok.kept D,?_⟩
 ·exact name_of_addr x.apart (PySem.mem_of_lookup B) (PySem.mem_of_lookup d)
 ·have j:scope.names.lookup y=some .cell\/scope.names.lookup y=some .free:=j
  rcases j with j | j
  ·exact alp j
  ·exact absurd rfl (S.nofree _ (PySem.mem_of_lookup j))
 ·exact aF9 (x.above y c (PySem.mem_of_lookup h))
 ·have hi:i < vs.length:=by
   unfold start at d
   by_cases hi:i < vs.length
   ·exact hi
   ·rw [aC7 (by simpa using hi)] at d
    rw [aH1] at d
    split at d <;> cases d
  have ha:vs[i]?=some v:=by
   unfold start at d
   rw [aC2 (by simpa using hi),aA5] at d
   cases e:vs[i]? with
   | none=>rw [e] at d;cases d
   | some a=>rw [e] at d;cases d;rfl
  obtain ⟨u,F,G⟩:=r.get ha
  have o:ps[i]?=some y:=by
   rw [← S.pre,aG9 (by lia)];exact B
  have m:ps.Nodup:=by rw [← S.pre];exact S.nd.sublist (List.take_sublist _ _)
  refine ⟨u,G,?_⟩
  rcases S.par y (aA2 o) with k | k
  ·exact .inl ⟨k,aj4 m o F k⟩
  ·obtain ⟨c,e⟩:=alp (n:=s.heap.objs.size+1) k
   refine .inr ⟨.inl k,c,e,?_⟩
   have q:=x.cell y c e
   rw [aj5 m o F (by show scope.names.lookup y ≠ _;rw [k];decide)] at q
   exact q
 ·exact g.hok.fresh (aF9 (x.above y c (PySem.mem_of_lookup h)))
 ·unfold start
  show _=N.length
  rw [aB0,aA3,List.length_replicate]
  lia
theorem a03 {CX:CXT} {P:Program} {w:World} {K:Frag} {mg:Str->Option Value} {base:Heap} {k:Nat} {f:Addr} {name qual:Str} {a:Arguments} {body:List Stmt} {scope:Scope} {D kV doc pm cdv ct oc:Value} {an od:Option Addr}
  {osl:Array (Option Value)} {N ps:List Str} {sp:Sp} (T:K.lookup f=some ⟨oc,od,.func (fnOf name qual a body scope D kV doc pm an cdv ct),osl⟩) (B:codeIn K cdv qual=true) (S:FnScope N ps scope)
  (len:∀ vs H Q E,sp vs H Q E->vs.length=ps.length)
  (d:∀ (A:Around) (outer:List Env) (s:Shared) (H:Hp) (vs:List V) (Q:VK) (E:XK),Room k (A.deeper (envOfC qual scope s.heap.objs.size f cdv))->sp vs H Q E ->
   ∃ t,PSs (cxOf CX P w K mg base N qual scope f cdv A outer s H E) body t/\t { nx:=fun _ H'=>Q .non H',rt:=Q } (start N vs) H) :
  FnOk P w K mg base CX (k+1) f (fnOf name qual a body scope D kV doc pm an cdv ct) ps sp:=by
 refine ⟨len,fun A outer s H args us vs Q E z i hb r j=>?_⟩
 have G:=len _ _ _ _ j
 have C:K.In s.heap:=i.mod.kin.keeps fun b o e=>(i.bs b o e).1
 have l:s.heap.NoLimit:=i.mod.nolimit.keeps fun b o e=>(i.bs b o e).1
 have g:∀ y∈ps.zip us,scope.names.lookup y.1=some .local\/(scope.names.lookup y.1=some .cell/\((cellsFrom (s.heap.objs.size+1) scope.names []).lookup y.1).isSome=true):=fun ⟨n,v⟩ L=>by
  rcases S.par n (List.of_mem_zip L).1 with q | q
  ·exact .inl q
  ·exact .inr ⟨q,PySem.W.cellsFrom_some _ _ _ (.inl q)⟩
 refine codeAny_call_function z.depth (C _ _ T) rfl S.co S.gen rfl (PySem.W.codeRec_of C B) (hb _ _ _ _ ?_)
 refine wpAny_newFunctionEnv_cells S.kind g fun env M s1 x=>?_
 subst M
 refine ⟨l.keeps x.toInCall.keep,codeAny_func ?_⟩
 obtain ⟨t,F,R⟩:=d A outer s H vs Q E (z.deeper _) j
 have I:Inv (cxOf CX P w K mg base N qual scope f cdv A outer s H E) [] (start N vs) H s1:=aq4 S z.hd i G r x
 refine aI9 (F [] s1 (start N vs) H _ I R) (fun O p h=>?_) fun e p h=>h
 have fin:∀ {c:St} {H':Hp} {v:V} {u:Value},Inv (cxOf CX P w K mg base N qual scope f cdv A outer s H E) [] c H' p->RelV v u->Q v H'->CE outer P w H s Q u p :=
  fun {c H' v u} J m q=>⟨v,H',J.os,J.bare,J.base,J.hok,m,q⟩
 cases O with
 | ret u =>
  obtain ⟨v,c,H',J,m,q⟩:=h
  exact fin J m q
 | next =>
  obtain ⟨c,H',J,q⟩:=h
  exact fin (v:=V.non) (u:=Value.none) J rfl q
 | brk =>
  obtain ⟨_,_,_,q⟩:=h
  exact False.elim q
 | cont =>
  obtain ⟨_,_,_,q⟩:=h
  exact False.elim q
section
variable {X:Cx} {x:Str} {p pos:Pos} {e:Expr} {es:List Expr} {t:TA} {id T:String} {r:List V->Hp->VK->Prop}
def tCB (r:List V->Hp->VK->Prop) (t:TA):TE:=fun σ H Q=>t σ H fun vs H1=>r vs H1 Q
theorem aak (c:aa5 X (.builtin id) r) (f:Gl X x) (hm:X.mg x=none) (m:bootBuiltins x=some (.builtin id)) (ha:PA X (e :: es) t) (hn:x ≠ "__name__":=by decide) (a:(x == ("__debug__" : Str))=false:=by decide)
  (l:starEach (e :: es) X.env=(false,eval e X.env) :: starEach es X.env:=by rfl) (b:(backTo pos (starEach es X.env)).any (·.1)=false:=by rfl):PE X (.Call (.Name x p) (e :: es) [] pos) (tCB r t):=by
 intro pins s σ H Q I h
 refine wpAny_Call_Name_kw (aea I f hm m ?_ hn a)
 exact PyProof.Rows.callWith_builtin1 (thn (ha pos pins s σ H _ I h) fun us s1 ⟨vs,d,g,j,i⟩=>c pins s1 σ d vs us Q g j i) l b
theorem acm (c:aa5 X (.type T) r) (f:Gl X x) (hm:X.mg x=none) (m:bootBuiltins x=some (.type T)) (ha:PA X (e :: es) t) (hn:x ≠ "__name__":=by decide) (a:(x == ("__debug__" : Str))=false:=by decide)
  (l:starEach (e :: es) X.env=(false,eval e X.env) :: starEach es X.env:=by rfl) (b:(backTo pos (starEach es X.env)).any (·.1)=false:=by rfl):PE X (.Call (.Name x p) (e :: es) [] pos) (tCB r t):=by
 intro pins s σ H Q I h
 refine wpAny_Call_Name_kw (aea I f hm m ?_ hn a)
 exact PyProof.Rows.callWith_type1 (thn (ha pos pins s σ H _ I h) fun us s1 ⟨vs,d,g,j,i⟩=>c pins s1 σ d vs us Q g j i) l b
end
end L2
namespace HT
open PySem PyProof.Rows
def lexLt:List Int->List Int->Bool
 | [],[]=>false
 | [],_ :: _=>true
 | _ :: _,[]=>false
 | x :: xs,y :: ys=>if x=y then lexLt xs ys else decide (x < y)
theorem ad0 (x y:Int) (xs ys:List Int):lexLt (x :: xs) (y :: ys)=if x=y then lexLt xs ys else decide (x < y):=rfl
theorem akp:lexLt [] []=false:=rfl
theorem ai5 (y:Int) (ys:List Int):lexLt [] (y :: ys)=true:=rfl
theorem ai6 (x:Int) (xs:List Int):lexLt (x :: xs) []=false:=rfl
theorem atk (A:Around) (s:Shared) (a:Int) (t:Tok) (c:Int) (u:Tok):∃ e,SeqAt.EqAt A s (.int a t) (.int c u) e/\(e=true ↔ a=c) :=
 ⟨(a == c),SeqAt.EqAt.int_int a t c u,by simp⟩
theorem atl (A:Around) (s:Shared) (a:Int) (t:Tok) (c:Int) (u:Tok) (prog:Program) (w:World) (E:Value->Shared->Prop) (Q:Value->Shared->Prop) (h:Q (.bool (decide (a < c))) s) :
  wpAny (model prog w) A (richCompare .Lt (.int a t) (.int c u)) Q E s :=
 (PyProof.Rows.lt_int h:wpAny (model prog w) A (compareOp .Lt (.int a t) (.int c u)) Q E s)
section
open PySem.SeqAt
open PySem.AutoSeq1 (wpAny_loadPart')
open PySem.MeetsSeq PySem.MeetsSeq2 PySem.MeetsSeq3
theorem akq (l b:Addr) (items f:Array Value) (n O:Nat) (dd I:Option Addr) (sl H:Array (Option Value)) (ns D:List Int) (hi:IntsAre items.toList ns) (L:IntsAre f.toList D) :
  Meets (Builtin.«tuple.__lt__» ⟨[.ref l,.ref b],[]⟩)
   (fun _ R s=>s.heap.get? l=some { cls:=.type "tuple",dict:=dd,data:=.seq items n,slots:=sl }/\s.heap.get? b=some { cls:=.type "tuple",dict:=I,data:=.seq f O,slots:=H } /\
    R (.ok (.ret (.bool (lexLt ns D)))) s) :=
 .of_wp fun prog w A R s h=>by
  obtain ⟨F,g,d,C,os⟩:=s;obtain ⟨N,hb,h⟩:=h
  have X:=AutoSeq1.sub_tuple_tuple
  have U:items.size=ns.length:=by rw [← hi.length];simp
  have T:f.size=D.length:=by rw [← L.length];simp
  wp_walk using wpAny_loadPart' N,wpAny_loadPart' hb,wpAny_forIn_list _ (fun rest b G=>b.1=none/\G=⟨F,g,d,C,os⟩/\∃ (vs E:List Value) (m j:List Int),rest=vs.zip E /\
   IntsAre vs m/\IntsAre E j/\m.length+f.size=j.length+items.size/\R (.ok (.ret (.bool (lexLt m j)))) ⟨F,g,d,C,os⟩) _
  case turn =>
   rintro ⟨y,x⟩ rest b G ⟨z,rfl,vs,E,m,j,hz,B,o,i,p⟩
   cases B with
   | nil=>rw [List.zip_nil_left] at hz;cases hz
   | cons a t hvi' =>
    cases o with
    | nil=>rw [List.zip_nil_right] at hz;cases hz
    | cons c u hwi' =>
     rw [List.zip_cons_cons] at hz
     injection hz with J v
     injection J with P Q
     subst P Q
     rw [ad0] at p
     simp only [aE1] at i
     obtain ⟨e,S,r⟩:=atk A.in1 ⟨F,g,d,C,os⟩ a t c u
     refine aI2 (S prog w _ _ ?_)
     cases e with
     | true =>
      rw [aE9 (r.mp rfl)] at p
      wp_walk
      exact ⟨rfl,rfl,_,_,_,_,v,hvi',hwi',by lia,p⟩
     | false =>
      rw [aF0 (fun q=>absurd (r.mpr q) aA9)] at p
      have K:=atl A.in1 ⟨F,g,d,C,os⟩ a t c u prog w
      wp_walk using K
      exact ⟨_,rfl,by simpa using p⟩
  case fin =>
   rintro ⟨b1,W⟩ G ⟨z,rfl,vs,E,m,j,hz,B,o,i,p⟩
   simp only at z
   subst z
   have M:lexLt m j=decide (items.size < f.size):=by
    cases B with
    | nil =>
     cases o with
     | nil =>
      simp only [aI1] at i
      rw [akp]
      exact (aD5 (by lia)).symm
     | cons c u hw =>
      simp only [aI1,aE1] at i
      rw [ai5]
      exact (aD6 (by lia)).symm
    | cons a t M =>
     cases o with
     | nil =>
      simp only [aI1,aE1] at i
      rw [ai6]
      exact (aD5 (by lia)).symm
     | cons c u hw =>
      rw [List.zip_cons_cons] at hz
      cases hz
   rw [M] at p
   wp_walk
   exact ⟨_,rfl,by simpa [Builtin.Tuple.tupleCompareSizes] using p⟩
  case h =>
   exact ⟨rfl,rfl,items.toList,f.toList,ns,D,rfl,hi,L,by lia,h⟩
end
section
variable {prog:Program} {w:World} {A:Around} {E:Value->Shared->Prop} {s:Shared}
theorem lt_tupInts {l b:Addr} {items a:Array Value} {ns f:List Int} {Q:Value->Shared->Prop} (r:IsTup s.heap l items) (hb:IsTup s.heap b a) (hi:IntsAre items.toList ns) (y:IntsAre a.toList f)
  (u:A.units < cLine) (h:Q (.bool (lexLt ns f)) s):wpAny (model prog w) A (compareOp .Lt (.ref l) (.ref b)) Q E s:=by
 obtain ⟨⟨cls,dd,data,sl⟩,o,p,n,hd⟩:=id r
 obtain ⟨⟨q,m,i,j⟩,g,c,v,d⟩:=id hb
 simp only at p hd c d
 subst p hd c d
 exact richCompare_meets_room (op:=.Lt) ⟨_,o,rfl⟩ ⟨_,g,rfl⟩ PySem.F.slot_tuple_lt PySem.F.entry_tuple_lt (PySem.F.args_tuple_lt_2 _ _) (akq l b items a n v dd m sl j ns f hi y)
  ⟨o,g,show Value.bool (lexLt ns f) ≠ Value.notImplemented/\Q (.bool (lexLt ns f)) s from ⟨(fun x=>nomatch x),h⟩⟩ u
end
end HT
namespace L2
open PySem PySem.Spec PyProof.Rows
abbrev TO:=St->Hp->(Option Int->Hp->Prop)->Prop
theorem ab3 {ns:List Int}:∀ {us:List Value},Vals (ns.map V.int) us->IntsAre us ns:=by
 induction ns with
 | nil=>intro us r;rw [List.map_nil] at r;cases r;exact .nil
 | cons n ns ih =>
  intro us r
  rw [aD0] at r
  cases r with
  | cons r1 r2 =>
   obtain ⟨t,e⟩:=r1
   subst e
   exact .cons n t (ih r2)
section
variable {X:Cx} {e:Expr} {te:TE} {lo hi:Option Expr} {tl th:TO} {pos p2:Pos}
def SlR (X:Cx) (r:V->Option Int->Option Int->Hp->VK->Prop):Prop :=
 ∀ (pins:List (Addr × Obj)) (s:Shared) (σ:St) (H:Hp) (x:V) (v vl vu:Value) (lo hi:Option Int) (sl:Addr) (Q:VK),Inv X pins σ H s->RelV x v->s.heap.IsSliceOf sl vl vu .none->IsPart vl lo->IsPart vu hi->r x lo hi H Q ->
  ∃ T id,typeLookup (.type T) "__getitem__" = pure (some (.builtin id))/\s.TypeIs v T/\wpAny (model X.prog X.w) X.A (getItem v (.ref sl)) (EP X pins σ Q) X.xe s
def rLtT (K:Frag):R2:=fun x y H Q=>∃ a b ns ms,x=.ref a/\y=.ref b/\SqT K H a (ns.map V.int)/\SqT K H b (ms.map V.int)/\Q (.bl (HT.lexLt ns ms)) H
theorem ay4 (f:X.A.units < cLine):OpR X (compareOp .Lt) (rLtT X.K):=by
 intro pins s σ H x y v u Q I j m h
 obtain ⟨a,b,ns,d,rfl,rfl,ha,hb,q⟩:=h
 cases j
 cases m
 obtain ⟨its,o,g,_⟩:=I.tuple ha
 obtain ⟨c,l,p2,_⟩:=I.tuple hb
 have n:IntsAre its.toArray.toList ns:=ab3 o
 have i:IntsAre c.toArray.toList d:=ab3 l
 exact HT.lt_tupInts g p2 n i f ⟨.bl (HT.lexLt ns d),H,I,rfl,q⟩
end
def ixN (n:Nat) (i:Int):Option Nat:=if 0<=i then (if i < n then some i.toNat else none) else if -(n:Int)<=i then some (i+n).toNat else none
def atI {α:Type} (xs:List α) (i:Int):Option α:=(ixN xs.length i).bind fun j=>xs[j]?
theorem an6 {n:Nat} {i:Int} {j:Nat} (h:ixN n i=some j):seqIndex? i n=some j/\j < n/\-(n:Int)<=i/\i < n:=by
 unfold ixN at h
 by_cases h0:0<=i
 ·rw [aE9 h0] at h
  by_cases h1:i < n
  ·rw [aE9 h1] at h
   have e:i.toNat=j:=aC5 h
   exact ⟨by rw [seqIndex_of h0 h1,e],by lia,by lia,h1⟩
  ·rw [aF0 h1] at h;cases h
 ·rw [aF0 h0] at h
  by_cases h1 : -(n:Int)<=i
  ·rw [aE9 h1] at h
   have e:(i+n).toNat=j:=aC5 h
   exact ⟨by rw [seqIndex_neg (by lia) h1,e],by lia,h1,by lia⟩
  ·rw [aF0 h1] at h;cases h
theorem an7 {α:Type} {xs:List α} {i:Int} {v : α} (h:atI xs i=some v):∃ j,seqIndex? i xs.length=some j/\xs[j]?=some v/\j < xs.length/\-(xs.length:Int)<=i/\i < xs.length:=by
 unfold atI at h
 cases e:ixN xs.length i with
 | none=>rw [e] at h;cases h
 | some j =>
  rw [e] at h
  obtain ⟨c,a,b,d⟩:=an6 e
  exact ⟨j,c,h,a,b,d⟩
theorem ad3 {α:Type} {xs:List α} {j:Nat} {v : α} (h:xs[j]?=some v):atI xs (j:Int)=some v:=by
 have a:j < xs.length:=(aA1.mp h).1
 have e:ixN xs.length (j:Int)=some j:=by
  unfold ixN
  rw [aE9 (by lia),aE9 (by lia)];simp
 unfold atI;rw [e];exact h
def awi (b:Expr):Prop:=∀ o i,subscripted b false o i=operate [o,i] (getItem o i)
def IxR (X:Cx) (r:R2):Prop :=
 ∀ (value slice:Expr) (pins:List (Addr × Obj)) (s:Shared) (σ:St) (H:Hp) (x y:V) (v u:Value) (Q:VK),Inv X pins σ H s->RelV x v->RelV y u->r x y H Q ->
  subscripted slice false v u=operate [v,u] (getItem v u)->wpAny (model X.prog X.w) X.A (subscriptTail value slice v u) (EP X pins σ Q) X.xe s
def MtR (X:Cx) (id:String) (r:V->List V->Hp->VK->Prop):Prop :=
 ∀ (pins:List (Addr × Obj)) (s:Shared) (σ:St) (H:Hp) (x:V) (xs:List V) (v:Value) (us:List Value) (Q:VK),Inv X pins σ H s->RelV x v->Vals xs us->r x xs H Q ->
  wpAny (model X.prog X.w) X.A (call (.builtin id) (v :: us)) (EP X pins σ Q) X.xe s
section
variable {X:Cx} {a b:Expr} {ta tb:TE} {pos:Pos}
theorem IxR.or {r g:R2} (h:IxR X r) (h':IxR X g):IxR X (fun x y H Q=>r x y H Q\/g x y H Q):=by
 intro a b pins s σ H x y v u Q I d f q c
 rcases q with q | q
 ·exact h a b pins s σ H x y v u Q I d f q c
 ·exact h' a b pins s σ H x y v u Q I d f q c
theorem aal {r:R2} (i:IxR X r) (ha:PE X a ta) (hb:PE X b tb) (d:awi b):PE X (.Subscript a b pos) (tOp r ta tb):=by
 intro pins s σ H Q I h
 exact Subscript_ (binT ha hb I h fun v u s2 x y H2 c f g q=>i a b pins s2 σ H2 x y v u Q c f g q (d _ _))
def rIxL (K:Frag):R2:=fun x y H Q=>∃ p xs i v,x=.ref p/\y=.int i/\SqL K H p xs/\atI xs i=some v/\Q v H
def rIxT (K:Frag):R2:=fun x y H Q=>∃ p xs i v,x=.ref p/\y=.int i/\SqT K H p xs/\atI xs i=some v/\Q v H
theorem ix_list:IxR X (rIxL X.K):=by
 intro b c pins s σ H x y v u Q I A C h l
 obtain ⟨p,xs,i,z,rfl,rfl,B,F,q⟩:=h
 cases A
 obtain ⟨t,rfl⟩:=C
 obtain ⟨its,r,pl,hz⟩:=I.list B
 obtain ⟨j,a,o,G,m,D⟩:=an7 F
 obtain ⟨w,g,f⟩:=r.get o
 have n:=r.length
 have hn:=agb
 have fin:EP X pins σ Q w s:=⟨z,H,I,f,q⟩
 by_cases h0:0<=i
 ·have d:i.toNat=j:=by
   rw [seqIndex_of h0 D] at a
   exact aC5 a
  exact item_listR pl.isList h0 (by lia) (by rw [d];simpa using g) fin l
 ·have d:(i+(its.toArray.size:Int)).toNat=j:=by
   rw [seqIndex_neg (by lia) m] at a
   rw [aB1,← n]
   exact aC5 a
  exact subscriptTail_builtinR (x:=w) pl.isList.typeIs slot_list_getitem.lookup
   (wpAny_getItem_list_neg (Q:=fun r E=>r=w/\EP X pins σ Q r E) pl.isList (by lia) (by rw [aB1] <;> lia) (by lia) (by rw [d];simpa using g) ⟨rfl,fin⟩) l
theorem ay5:IxR X (rIxT X.K):=by
 intro a b pins s σ H x y v u Q I n A h l
 obtain ⟨p,xs,i,z,rfl,rfl,o,C,q⟩:=h
 cases n
 obtain ⟨t,rfl⟩:=A
 obtain ⟨its,r,pl,hz⟩:=I.tuple o
 obtain ⟨j,m,g,D,E,F⟩:=an7 C
 obtain ⟨w,d,c⟩:=r.get g
 have f:=r.length
 have hn:=agb
 have fin:EP X pins σ Q w s:=⟨z,H,I,c,q⟩
 exact subscriptTail_builtinR (x:=w) pl.typeIs slot_tuple_getitem.lookup
  (getItem_tuple (j:=j) (Q:=fun r B=>r=w/\EP X pins σ Q r B) pl (by lia) (by lia) (by rw [aB1,← f];exact m) (by simpa using d) ⟨rfl,fin⟩) l
theorem apq (its:List Value) (n j:Nat) (u:Value):Obj.mapSeq (·.setIfInBounds j u) { cls:=.type "list",data:=.seq its.toArray n }={ cls:=.type "list",data:=.seq (its.set j u).toArray n }:=by
 simp [Obj.mapSeq]
theorem Inv.lst {pins:List (Addr × Obj)} {σ:St} {H:Hp} {s:Shared} {p:Addr} {xs:List V} (I:Inv X pins σ H s) (h:H p=some (.lst xs)) :
  ∃ (its:List Value) (n:Nat),Vals xs its/\s.heap.get? p=some { cls:=.type "list",data:=.seq its.toArray n }/\xs.length<=sizeLine:=by
 obtain ⟨z,its,n,r,e⟩:=I.hok p _ h
 exact ⟨its,n,r,e,z⟩
theorem Inv.lstUpd {pins:List (Addr × Obj)} {σ:St} {H:Hp} {s:Shared} {p:Addr} {xs ys:List V} {its its':List Value} {n a:Nat} {f:Obj->Obj} (I:Inv X pins σ H s) (h:H p=some (.lst xs))
  (c:s.heap.get? p=some { cls:=.type "list",data:=.seq its.toArray n }) (hf:f { cls:=.type "list",data:=.seq its.toArray n }={ cls:=.type "list",data:=.seq its'.toArray a }) (r:Vals ys its') (hz:ys.length<=sizeLine) (t:Nat) :
  Inv X pins σ (upd H p (.lst ys)) { s with heap:=s.heap.update p f,toks:=t }:=by
 have e:(s.heap.update p f).get? p=some { cls:=.type "list",data:=.seq its'.toArray a }:=by
  rw [Heap.get?_update_self f c (by rw [hf] <;> rfl),hf]
 refine I.write (x:=p) (e:=p) (by rw [h];trivial) (.inl rfl) (fun b u hb q=>(Heap.get?_update_other _ _ (Ne.symm hb)).trans q) ⟨_,e⟩ ?_
 exact ⟨hz,its',a,r,e⟩
def apr:V->V->V->Hp->(Hp->Prop)->Prop:=fun o i v H Q=>∃ p xs k j,o=.ref p/\i=.int k/\H p=some (.lst xs)/\ixN xs.length k=some j/\Q (upd H p (.lst (xs.set j v)))
theorem adh:PSet X apr:=by
 intro pins s σ H o i v C B u Q I z w y h
 obtain ⟨p,xs,k,j,rfl,rfl,m,x,q⟩:=h
 cases z
 obtain ⟨t,rfl⟩:=w
 obtain ⟨its,n,r,b,hz⟩:=I.lst m
 obtain ⟨a,A,g,l⟩:=an6 x
 have d:=r.length
 have hn:=agb
 have f:Inv X pins σ (upd H p (.lst (xs.set j v))) { s with heap:=s.heap.update p (Obj.mapSeq (·.setIfInBounds j u)) } :=
  I.lstUpd m b (apq its n j u) (r.set y j) (by rw [List.length_set];exact hz) s.toks
 by_cases h0:0<=k
 ·have c:k.toNat=j:=by
   rw [seqIndex_of h0 l] at a
   exact aC5 a
  exact PySem.W.ki_setAt b h0 (by lia) (by rw [aB1,← d];exact l) (by rw [c];exact ⟨_,f,q⟩)
 ·have c:(k+(its.toArray.size:Int)).toNat=j:=by
   rw [seqIndex_neg (by lia) g] at a
   rw [aB1,← d]
   exact aC5 a
  exact PySem.W.ki_setBack b (by lia) (by rw [aB1,← d];exact g) (by lia) (by rw [c];exact ⟨_,f,q⟩)
theorem alq:aa5 X (.builtin "len") (fun xs H Q=>∃ p ys,xs=[.ref p]/\(SqL X.K H p ys\/SqT X.K H p ys)/\Q (.int ys.length) H):=by
 intro pins s σ H xs us Q I r h
 obtain ⟨p,ys,rfl,b,q⟩:=h
 obtain ⟨u,rfl,d⟩:=acf r
 cases d
 have hn:=agb
 rcases b with b | b
 ·obtain ⟨its,c,pl,hz⟩:=I.list b
  have a:=c.length
  exact Calls.call_len_list pl.isList (by simp only [aB1] <;> lia) ⟨.int ys.length,H,I.tok _,⟨s.toks+1,by rw [aB1,a]⟩,q⟩
 ·obtain ⟨its,c,pl,hz⟩:=I.tuple b
  have a:=c.length
  exact len_tuple pl (by simp only [aB1] <;> lia) ⟨.int ys.length,H,I.tok _,⟨s.toks+1,by rw [aB1,a]⟩,q⟩
theorem alr:aa5 X (.type "list") (fun xs H Q=>∃ p ys,xs=[.ref p]/\(SqL X.K H p ys\/SqT X.K H p ys)/\∀ l,H l=none->Q (.ref l) (upd H l (.lst ys))):=by
 intro pins s σ H xs us Q I r h
 obtain ⟨p,ys,rfl,f,q⟩:=h
 obtain ⟨u,rfl,j⟩:=acf r
 cases j
 have fin:∀ (its:List Value),Vals ys its->ys.length<=sizeLine->∀ (h':Heap) (c:Nat),(∀ b o',s.heap.get? b=some o'->h'.get? b=some o') ->
   h'.get? s.heap.objs.size=some { cls:=.type "list",dict:=none,data:=.seq its.toArray c,slots:=#[] }->EP X pins σ Q (.ref s.heap.objs.size) { s with heap:=h' }:=fun its a hz h' c kp e =>
  ⟨.ref s.heap.objs.size,_,I.laid (t':=s.toks) kp (aA6 _) (show ObjOk X.prog X.w _ h' _ (.lst ys) from ⟨hz,its,c,a,e⟩),rfl,q _ (I.hok.fresh (aA6 _))⟩
 rcases f with f | f
 ·obtain ⟨its,a,pl,hz⟩:=I.list f
  have d:=a.length
  obtain ⟨o,g,i,n,hd⟩:=pl.isList
  exact call_list_seq p (.inl rfl) g i hd (fun h' c kp e=>fin its a hz h' c kp e) (by simp only [aB1] <;> lia)
 ·obtain ⟨its,a,pl,hz⟩:=I.tuple f
  have d:=a.length
  obtain ⟨o,g,i,n,hd⟩:=pl
  exact call_list_seq p (.inr rfl) g i hd (fun h' c kp e=>fin its a hz h' c kp e) (by simp only [aB1] <;> lia)
def tyV (K:Frag) (T:String) (x:V) (H:Hp):Prop:=match x with
 | .str _=>T = "str"
 | .int _=>T = "int"
 | .ref p=>(T = "list"/\∃ xs,SqL K H p xs)\/(T = "tuple"/\∃ o,K.lookup p=some o/\o.cls=.type "tuple"/\o.dict=none) ∨
   (T = "dict"/\((∃ kvs,H p=some (.dK kvs))\/∃ kvs,H p=some (.dT kvs)))\/(T = "set"/\∃ S n,H p=some (.set S n))
 | _=>False
theorem aq5 {pins:List (Addr × Obj)} {σ:St} {H:Hp} {s:Shared} {T:String} {x:V} {v:Value} (I:Inv X pins σ H s) (r:RelV x v) (ty:tyV X.K T x H) :
  s.TypeIs v T/\∀ a,v=.ref a->∃ d,s.heap.get? a=some d/\d.dict=none:=by
 cases x with
 | str z =>
  obtain ⟨t,rfl⟩:=r
  cases (show T = "str" from ty)
  exact ⟨typeIs_str s z t,fun _ e=>nomatch e⟩
 | int i =>
  obtain ⟨t,rfl⟩:=r
  cases (show T = "int" from ty)
  exact ⟨typeIs_int s i t,fun _ e=>nomatch e⟩
 | ref p =>
  cases r
  rcases ty with ⟨rfl,xs,g⟩ | ⟨rfl,o,b,f,hd⟩ | ⟨rfl,b⟩ | ⟨rfl,S,n,b⟩
  ·obtain ⟨its,_,pl,_⟩:=I.list g
   refine ⟨pl.isList.typeIs,fun a e=>?_⟩
   cases e
   obtain ⟨o,n,e,c,hd,_⟩:=pl
   exact ⟨o,e,hd⟩
  ·refine ⟨⟨o,I.kIn p o b,f⟩,fun a e=>?_⟩
   cases e
   exact ⟨o,I.kIn _ o b,hd⟩
  ·have z:∃ o,s.heap.get? p=some o/\o.ExactDict:=by
    rcases b with ⟨kvs,b⟩ | ⟨kvs,b⟩
    ·obtain ⟨_,_,_,_,o,_,_,e,ex,_⟩:=I.hok p _ b
     exact ⟨o,e,ex⟩
    ·obtain ⟨_,_,_,_,o,_,_,e,ex,_⟩:=I.hok p _ b
     exact ⟨o,e,ex⟩
   obtain ⟨o,e,ex⟩:=z
   refine ⟨⟨o,e,ex.1⟩,fun a e2=>?_⟩
   cases e2
   exact ⟨o,e,ex.2.1⟩
  ·obtain ⟨o,_,_,_,e,ex,_⟩:=I.hok p _ b
   refine ⟨⟨o,e,ex.1⟩,fun a e2=>?_⟩
   cases e2
   exact ⟨o,e,ex.2.1⟩
 | _=>exact False.elim ty
def tBM0 (K:Frag) (T:String) (r:V->List V->Hp->VK->Prop) (to:TE):TE:=fun σ H Q=>to σ H fun x H1=>tyV K T x H1/\r x [] H1 Q
def tBM (K:Frag) (T:String) (r:V->List V->Hp->VK->Prop) (to:TE) (t:TA):TE:=fun σ H Q=>to σ H fun x H1=>tyV K T x H1/\t σ H1 fun xs H2=>r x xs H2 Q
variable {o e:Expr} {es:List Expr} {to:TE} {t:TA} {name:Str} {apos cpos:Pos} {T id:String} {r:V->List V->Hp->VK->Prop}
theorem ay6 (l:PlainAttrs T) (slot:Slot T name id) (c:typeOf (.builtin id)=pure (.type "method_descriptor")) (hm:MtR X id r) (g:PE X o to)
  (b:attributeBase o name X.env (eval o X.env)=eval o X.env:=by rfl) (a:(apos.endLine == cpos.line)=true:=by rfl):PE X (.Call (.Attribute o name apos) [] [] cpos) (tBM0 X.K T r to):=by
 intro pins s σ H Q I h
 refine wpAny_Call_method0_late b a (thn (g pins s σ H _ I h) fun v s1 ⟨x,m,d,f,ty,n⟩=>?_)
 obtain ⟨j,i⟩:=aq5 d f ty
 exact ⟨T,id,l,slot,c,j,i,Calls.callWith_builtin rfl (PySem.evalArgs_none (hm pins s1 σ m x [] v [] Q d f .nil n))⟩
theorem acq (w:PlainAttrs T) (slot:Slot T name id) (g:typeOf (.builtin id)=pure (.type "method_descriptor")) (hm:MtR X id r) (m:PE X o to) (ha:PA X (e :: es) t)
  (d:attributeBase o name X.env (eval o X.env)=eval o X.env:=by rfl)
  (f:((backTo cpos (starEach (e :: es) X.env)).all (fun x => !x.1) && (backToKw cpos (keywordEach [] X.env)).all (fun x=>x.1.isSome)
   && decide ((e :: es).length+([]:List Keyword).length+(if ([]:List Keyword).isEmpty then 0 else 1) < 30))=true:=by rfl)
  (c:(apos.endLine == cpos.line)=true:=by rfl) (u:starEach (e :: es) X.env=(false,eval e X.env) :: starEach es X.env:=by rfl) (b:(backTo cpos (starEach es X.env)).any (·.1)=false:=by rfl) :
  PE X (.Call (.Attribute o name apos) (e :: es) [] cpos) (tBM X.K T r to t):=by
 intro pins s σ H Q I h
 refine wpAny_Call_method_late d f c rfl (thn (m pins s σ H _ I h) fun v s1 ⟨x,y,i,l,ty,A⟩=>?_)
 obtain ⟨q,p⟩:=aq5 i l ty
 refine ⟨T,id,w,slot,g,q,p,?_⟩
 have j:=ha cpos pins s1 σ y _ i A
 rw [u] at j ⊢
 refine Calls.callWith_builtin (by show (false || (backTo cpos (starEach es X.env)).any (·.1))=false;rw [b] <;> rfl) (Calls.evalArgs_plain ?_)
 exact thn j fun us s2 ⟨vs,H2,n,z,B⟩=>hm pins s2 σ H2 x vs v us Q n l z B
/- xs.append(e), list.index on a module's tuple .. are MtR facts of 06m -/
end
def MtM (X:Cx) (id:String) (r:V->List V->Hp->VK->Prop):Prop :=
 ∀ (pins:List (Addr × Obj)) (s:Shared) (σ:St) (H:Hp) (x:V) (xs:List V) (v:Value) (us:List Value) (Q:VK),Inv X pins σ H s->RelV x v->Vals xs us->r x xs H Q ->
  wpAny (model X.prog X.w) X.A (call (.builtin id) (v :: us)) (EP X pins σ Q) X.xe s
theorem Vals.one:∀ {x:V} {us:List Value},Vals [x] us->∃ u,us=[u]/\RelV x u
 | _,_,.cons r .nil=>⟨_,rfl,r⟩
theorem Vals.eraseIdx:∀ {xs:List V} {us:List Value} (i:Nat),Vals xs us->Vals (xs.eraseIdx i) (us.eraseIdx i)
 | _,_,_,.nil => .nil
 | _,_,0,.cons _ t=>t
 | _,_,i+1,.cons r t => .cons r (Vals.eraseIdx i t)
theorem Vals.rep {xs:List V} {us:List Value} (h:Vals xs us):∀ k:Nat,Vals (List.replicate k xs).flatten (List.replicate k us).flatten
 | 0 => .nil
 | k+1=>by
  rw [aG7,aG7,List.flatten_cons,List.flatten_cons]
  exact Vals.append h (Vals.rep h k)
theorem aj6 {α:Type}:∀ (l:List α) (i:Nat),(l.eraseIdx i).length<=l.length
 | [],_=>aA6 _
 | _ :: _,0=>Nat.le_succ _
 | _ :: r,i+1=>Nat.succ_le_succ (aj6 r i)
theorem aj7 (its:List Value):∀ (k:Nat) (a:List Value),
  List.foldl (fun c b=>c ++ b) a.toArray (List.replicate k its.toArray)=(a ++ (List.replicate k its).flatten).toArray
 | 0,a=>by simp
 | k+1,a=>by
  have e:a.toArray ++ its.toArray=(a ++ its).toArray:=by simp
  have e2:(a ++ its) ++ (List.replicate k its).flatten=a ++ (List.replicate (k+1) its).flatten:=by
   rw [aG7,List.flatten_cons,aB3]
  rw [← e2,← aj7 its k (a ++ its),← e,aG7,List.foldl_cons]
section
variable {X:Cx} {pins:List (Addr × Obj)} {σ:St} {H:Hp} {s:Shared} {l b:Addr} {xs ys zs:List V}
theorem Inv.lset {its its':List Value} {n:Nat} {f:Array Value->Array Value} {t':Nat} (I:Inv X pins σ H s) (b:H l=some (.lst xs))
  (e:s.heap.get? l=some { cls:=.type "list",data:=.seq its.toArray n }) (hf:f its.toArray=its'.toArray) (c:Vals ys its') (hz:ys.length<=sizeLine) :
  Inv X pins σ (upd H l (.lst ys)) { s with heap:=s.heap.update l (Obj.mapSeq f),toks:=t' }:=by
 have q:=PySem.IsL.update e f
 rw [hf] at q
 refine I.write (x:=l) (e:=l) (by rw [b];exact trivial) (.inl rfl) (fun d u hb a=>(Heap.get?_update_other s.heap (Obj.mapSeq f) (Ne.symm hb)).trans a) ⟨_,q⟩ ?_
 exact ⟨hz,its',_,c,q⟩
theorem Inv.lnew {its:List Value} {t':Nat} (I:Inv X pins σ H s) (a:Vals ys its) (hz:ys.length<=sizeLine) :
  Inv X pins σ (upd H s.heap.objs.size (.lst ys)) { s with heap:=s.heap.push { cls:=.type "list",data:=.seq its.toArray },toks:=t' } :=
 I.laid (fun _ _ q=>aI4 _ q) (aA6 _) ⟨hz,its,0,a,aI6 _ rfl⟩
theorem Inv.fresh (I:Inv X pins σ H s):H s.heap.objs.size=none:=I.hok.fresh (aA6 _)
theorem Inv.lstM (I:Inv X pins σ H s) (a:H l=some (.lst xs)):xs.length<=sizeLine/\∃ (its:List Value) (n:Nat),Vals xs its/\xs.length=its.length/\s.heap.get? l=some { cls:=.type "list",data:=.seq its.toArray n }:=by
 obtain ⟨z,its,n,r,e⟩:=I.hok l _ a
 exact ⟨z,its,n,r,r.length,e⟩
theorem als {n:Nat} (h:n<=sizeLine):Builtin.List.listTooLong n=false:=by
 unfold Builtin.List.listTooLong
 exact aD5 (by lia)
end
section
variable {X:Cx}
def ad4:V->List V->Hp->VK->Prop:=fun x vs H Q=>∃ l xs y,x=.ref l/\vs=[y]/\H l=some (.lst xs)/\xs.length < sizeLine/\Q .non (upd H l (.lst (xs ++ [y])))
theorem abv:MtM X "list.append" ad4:=by
 intro pins s σ H x vs v us Q I b c h
 obtain ⟨l,xs,y,rfl,rfl,a,hz,q⟩:=h
 cases b
 obtain ⟨u,rfl,d⟩:=c.one
 obtain ⟨z,its,n,r,f,e⟩:=I.lstM a
 refine call_meets F.slot_list_append ⟨_,e,rfl⟩ F.entry_list_append (F.args_list_append_2 _ _) (PySem.list_append l its.toArray n u (by rw [aB1];lia)) ⟨e,?_⟩
 refine ⟨.non,_,I.lset (its':=its ++ [u]) a e (by simp) (r.append (.cons d .nil)) ?_,rfl,q⟩
 rw [aB0,List.length_singleton]
 lia
def ai7:V->List V->Hp->VK->Prop:=fun x vs H Q=>∃ l b xs zs,x=.ref l/\vs=[.ref b]/\H l=some (.lst xs)/\H b=some (.lst zs)/\xs.length+zs.length<=sizeLine/\Q .non (upd H l (.lst (xs ++ zs)))
theorem aq6:MtM X "list.extend" ai7:=by
 intro pins s σ H x vs v us Q I i o h
 obtain ⟨l,b,xs,A,rfl,rfl,d,m,hz,q⟩:=h
 cases i
 obtain ⟨u,rfl,p⟩:=o.one
 cases p
 obtain ⟨z,its,n,r,y,e⟩:=I.lstM d
 obtain ⟨w,a,f,j,g,e2⟩:=I.lstM m
 have hsz:its.toArray.size+a.toArray.size<=sizeLine:=by rw [aB1,aB1];lia
 have c:¬ (!its.toArray.isEmpty && Builtin.List.listTooLong (its.toArray.size+a.toArray.size))=true:=by
  rw [als hsz,Bool.and_false]
  exact aA9
 refine call_meets F.slot_list_extend ⟨_,e,rfl⟩ F.entry_list_extend (F.args_list_extend_2 _ _)
  (AutoSeq1.list_extend_list_list_0 l its.toArray n b a.toArray f c (by rw [aB1];lia) (by lia)) ⟨e,e2,?_⟩
 refine ⟨.non,_,I.lset (its':=its ++ a) d e (by simp) (r.append j) ?_,rfl,q⟩
 rw [aB0]
 lia
def alt:V->List V->Hp->VK->Prop:=fun x vs H Q=>∃ l xs i k y,x=.ref l/\vs=[.int i]/\H l=some (.lst xs)/\-(2 ^ 63)<=i/\i < 2 ^ 63/\seqIndex? i xs.length=some k/\xs[k]?=some y/\Q y (upd H l (.lst (xs.eraseIdx k)))
theorem atm:MtM X "list.pop" alt:=by
 intro pins s σ H x vs v us Q I m p h
 obtain ⟨l,xs,i,k,y,rfl,rfl,b,g,f,c,j,q⟩:=h
 cases m
 obtain ⟨u,rfl,A⟩:=p.one
 obtain ⟨t,rfl⟩:=A
 obtain ⟨z,its,n,r,d,e⟩:=I.lstM b
 obtain ⟨w,o,a⟩:=r.get j
 refine call_meets F.slot_list_pop ⟨_,e,rfl⟩ F.entry_list_pop (F.args_list_pop_2 _ _)
  (MeetsSeq.list_pop_at l its.toArray n i t k w (fitsIndex_both g f) (by rw [aB1,← d];exact c) (by rw [← aD4];exact o) (by rw [aB1];lia)) ⟨e,?_⟩
 refine ⟨y,_,I.lset (its':=its.eraseIdx k) b e ?_ (r.eraseIdx k) ?_,a,q⟩
 ·show its.toArray.eraseIdxIfInBounds k=(its.eraseIdx k).toArray
  rw [List.eraseIdxIfInBounds_toArray]
 ·have:=aj6 xs k
  lia
def rCat:R2:=fun x y H Q=>∃ l b xs zs,x=.ref l/\y=.ref b/\H l=some (.lst xs)/\H b=some (.lst zs)/\xs.length+zs.length<=sizeLine/\∀ p,H p=none->Q (.ref p) (upd H p (.lst (xs ++ zs)))
theorem ah4:OpR X (binaryOp .Add) rCat:=by
 intro pins s σ H x y v u Q I d m h
 obtain ⟨l,b,xs,w,rfl,rfl,g,j,hz,q⟩:=h
 cases d
 cases m
 obtain ⟨z,its,n,r,p,e⟩:=I.lstM g
 obtain ⟨o,a,A,f,c,e2⟩:=I.lstM j
 refine PySem.P.add_list e e2 ?_ (by rw [aB1,aB1];lia)
 have i:its.toArray ++ a.toArray=(its ++ a).toArray:=by simp
 rw [i]
 exact ⟨.ref _,_,I.lnew (t':=s.toks) (r.append f) (by rw [aB0];lia),rfl,q _ I.fresh⟩
def rRep:R2:=fun x y H Q=>∃ l k xs,x=.ref l/\y=.int k/\H l=some (.lst xs)/\-(2 ^ 63)<=k/\k < 2 ^ 63/\xs.length * k.toNat<=sizeLine /\
 ∀ p,H p=none->Q (.ref p) (upd H p (.lst (List.replicate k.toNat xs).flatten))
theorem an8 {α:Type} (xs:List α) (k:Nat):(List.replicate k xs).flatten.length=k * xs.length:=by
 induction k with
 | zero=>simp
 | succ k ih=>rw [aG7,List.flatten_cons,aB0,ih,Nat.succ_mul,Nat.add_comm]
theorem ay7:OpR X (binaryOp .Mult) rRep:=by
 intro pins s σ H x y v u Q I A C h
 obtain ⟨l,k,xs,rfl,rfl,B,w,p,hz,q⟩:=h
 cases A
 obtain ⟨t,rfl⟩:=C
 obtain ⟨z,its,n,r,o,e⟩:=I.lstM B
 have c:its.toArray.size * k.toNat<=sizeLine:=by rw [aB1,← o];exact hz
 have d:¬ its.toArray.size * k.toNat > (2 ^ 63 - 1) / 8:=by
  have:(sizeLine:Nat)<=(2 ^ 63 - 1) / 8:=by decide
  lia
 have g:¬ (!Builtin.List.listFitsIndex k)=true:=by
  rw [fitsIndex_both w p]
  exact aA9
 have b:¬ Builtin.List.listTooLong (its.toArray.size * k.toNat)=true:=by
  rw [als c]
  exact aA9
 have f:List.foldl (fun j i=>j ++ i) #[] (List.replicate (if its.toArray.isEmpty=true then 0 else k.toNat) its.toArray)=(List.replicate k.toNat its).flatten.toArray:=by
  have D:∀ m:Nat,List.foldl (fun j i=>j ++ i) #[] (List.replicate m its.toArray)=(List.replicate m its).flatten.toArray:=fun m=>by
   have:=aj7 its m []
   rw [aE6] at this
   exact this
  rw [D]
  cases its with
  | nil=>simp
  | cons a r'=>rw [aF0 (by simp)]
 refine wpAny_binaryOp_repeat_ref (T:="list") (U:="int") (by decide) ⟨_,e,rfl⟩ (fun E=>typeIs_int E k t) noFill_list_mul F.fills_int_mul F.slot_int_rmul repeat_list F.slot_int_index.lookup
  (call_meets F.slot_int_rmul (typeIs_int s k t) F.entry_int_rmul (F.args_int_rmul_2 _ _) (int___rmul___int_list k t l its.toArray n)
   ⟨e,rfl,⟨_,e,rfl⟩,call_meets F.slot_list_mul ⟨_,e,rfl⟩ F.entry_list_mul (F.args_list_mul_2 _ _) (AutoListH.list___mul___list_int_3 l its.toArray n k t g d b) ⟨e,?_⟩⟩)
 rw [f]
 exact ⟨.ref _,_,I.lnew (t':=s.toks) (r.rep k.toNat) (by rw [an8,Nat.mul_comm];exact hz),rfl,q _ I.fresh⟩
end
section
variable {prog:Program} {w:World} {A:Around} {E:Value->Shared->Prop} {s:Shared}
end
section
variable {X:Cx}
end
section
variable {κ:Type} [DecidableEq κ]
def valV (kvs:List (κ × V)) (k : κ):Option V:=(kvs.find? fun kv=>decide (kv.1=k)).map (·.2)
def putK (kvs:List (κ × V)) (k : κ) (v:V):List (κ × V) :=
 if (kvs.any fun kv=>decide (kv.1=k))=true then kvs.map (fun kv=>if kv.1=k then (kv.1,v) else kv) else kvs ++ [(k,v)]
def avt (kvs:List (κ × V)) (k : κ):List (κ × V):=kvs.filter fun kv=>decide (kv.1 ≠ k)
theorem afl {p : κ × V} {r:List (κ × V)} {k : κ} (e:p.1=k):valV (p :: r) k=some p.2:=by simp [valV,List.find?_cons,e]
theorem afm {p : κ × V} {r:List (κ × V)} {k : κ} (e:¬ p.1=k):valV (p :: r) k=valV r k:=by simp [valV,List.find?_cons,e]
theorem alu (k : κ):∀ kvs:List (κ × V),(kvs.any fun a=>decide (a.1=k))=(valV kvs k).isSome
 | []=>rfl
 | p :: r=>by
  rw [List.any_cons]
  by_cases e:p.1=k
  ·simp only [afl e,aD6 e,Bool.true_or,Option.isSome_some]
  ·rw [afm e,aD5 e,Bool.false_or];exact alu k r
theorem ae6 (kvs:List (κ × V)) (k : κ) (v:V):(putK kvs k v).length<=kvs.length+1:=by
 unfold putK
 split
 ·rw [aA3];lia
 ·rw [aB0,aE1,aI1];lia
theorem RelO.isSome_eq {o:Option V} {u:Option Value} (r:RelO o u):o.isSome=u.isSome:=by
 cases o with
 | none=>cases u with
  | none=>rfl
  | some _=>exact (show False from r).elim
 | some _=>cases u with
  | none=>exact (show False from r).elim
  | some _=>rfl
theorem RelO.getD {o:Option V} {u:Option Value} {d:V} {d':Value} (r:RelO o u) (a:RelV d d'):RelV (o.getD d) (u.getD d'):=by
 cases o with
 | none=>cases u with
  | none=>exact a
  | some _=>exact (show False from r).elim
 | some _=>cases u with
  | none=>exact (show False from r).elim
  | some _=>exact r
theorem KV.val {kvs:List (κ × V)} {vs:List (κ × Value)} (r:KV kvs vs) (k : κ):RelO (valV kvs k) (valueAt vs k):=by
 unfold KV at r
 induction r with
 | nil=>exact True.intro
 | @cons p q ps qs h t ih =>
  obtain ⟨c,d⟩:=h
  by_cases e:p.1=k
  ·have a:q.1=k:=c.symm.trans e
   have b:valueAt (q :: qs) k=some q.2:=by simp [valueAt,List.find?_cons,a]
   rw [afl e,b];exact d
  ·have a:¬ q.1=k:=fun z=>e (c.trans z)
   have b:valueAt (q :: qs) k=valueAt qs k:=by simp [valueAt,List.find?_cons,a]
   rw [afm e,b];exact ih
theorem KV.any {kvs:List (κ × V)} {vs:List (κ × Value)} (r:KV kvs vs) (k : κ):(kvs.any fun a=>decide (a.1=k))=vs.any fun a=>decide (a.1=k):=by
 unfold KV at r
 induction r with
 | nil=>rfl
 | cons h t ih=>rw [List.any_cons,List.any_cons,ih,h.1]
theorem KV.repl {kvs:List (κ × V)} {vs:List (κ × Value)} (r:KV kvs vs) (k : κ) {y:V} {u:Value} (d:RelV y u) :
  KV (kvs.map fun a=>if a.1=k then (a.1,y) else a) (vs.map fun a=>if a.1=k then (a.1,u) else a):=by
 unfold KV at r ⊢
 induction r with
 | nil=>exact .nil
 | @cons p q ps qs h t ih =>
  rw [aD0,aD0]
  refine .cons ?_ ih
  obtain ⟨b,c⟩:=h
  by_cases e:p.1=k
  ·rw [aE9 e,aE9 (b.symm.trans e)];exact ⟨b,d⟩
  ·rw [aF0 e,aF0 (fun z=>e (b.trans z))];exact ⟨b,c⟩
theorem KV.put {kvs:List (κ × V)} {vs:List (κ × Value)} (r:KV kvs vs) (k : κ) {y:V} {u:Value} (a:RelV y u):KV (putK kvs k y) (stored vs k u):=by
 unfold putK stored
 rw [r.any k]
 by_cases e:(vs.any fun b=>decide (b.1=k))=true
 ·rw [aE9 e,aE9 e];exact r.repl k a
 ·rw [aF0 e,aF0 e];exact Paired.snoc r ⟨rfl,a⟩
theorem KV.drop {kvs:List (κ × V)} {vs:List (κ × Value)} (r:KV kvs vs) (k : κ):KV (avt kvs k) (without vs k):=by
 unfold KV at r ⊢
 unfold avt without
 induction r with
 | nil=>exact .nil
 | @cons p q ps qs h t ih =>
  obtain ⟨c,d⟩:=h
  rw [List.filter_cons,List.filter_cons]
  by_cases e:p.1=k
  ·have a:¬ decide (p.1 ≠ k)=true:=by simp [e]
   have b:¬ decide (q.1 ≠ k)=true:=by simp [c.symm.trans e]
   rw [aF0 a,aF0 b];exact ih
  ·have f:¬ q.1=k:=fun z=>e (c.trans z)
   have a:decide (p.1 ≠ k)=true:=by simp [e]
   have b:decide (q.1 ≠ k)=true:=by simp [f]
   rw [aE9 a,aE9 b];exact .cons ⟨c,d⟩ ih
theorem KV.length {kvs:List (κ × V)} {vs:List (κ × Value)} (r:KV kvs vs):kvs.length=vs.length:=Paired.length r
end
theorem agz {P:Program} {w:World} {k:Key} {u:Value} (r:RelV (kV k) u):(aa3 P w).is k u=true:=by
 cases k with
 | inl i=>obtain ⟨t,e⟩:=(show ∃ t,u=Value.int i t from r);subst e;exact ahf P w i t
 | inr x=>obtain ⟨t,e⟩:=(show ∃ t,u=Value.str x t from r);subst e;exact anq P w x t
theorem aj8 {P:Program} {w:World}:∀ {a:List Key} {us:List Value},Vals (a.map kV) us->ItemsAre (aa3 P w) a us
 | [],_,r=>by rw [List.map_nil] at r;cases r;exact .nil
 | k :: a,_,r=>by
  rw [aD0] at r
  cases r with
  | cons h t=>exact .cons (agz h) (aj8 t)
abbrev KT (H:Hp):List (List Key × V)->List (List Key × Addr × Value)->Prop:=Paired fun p q=>p.1=q.1/\H q.2.1=some (.tup (p.1.map kV))/\RelV p.2 q.2.2
theorem KT.val {H:Hp} {kvs:List (List Key × V)} {xs:List (List Key × Addr × Value)} (r:KT H kvs xs) (k:List Key):RelO (valV kvs k) ((atKey xs k).map (·.2)):=by
 induction r with
 | nil=>exact True.intro
 | @cons p q ps qs h t ih =>
  obtain ⟨c,_,d⟩:=h
  by_cases e:p.1=k
  ·have a:q.1=k:=c.symm.trans e
   have b:atKey (q :: qs) k=some q.2:=by simp [atKey,List.find?_cons,a]
   rw [afl e,b];exact d
  ·have a:¬ q.1=k:=fun z=>e (c.trans z)
   have b:atKey (q :: qs) k=atKey qs k:=by simp [atKey,List.find?_cons,a]
   rw [afm e,b];exact ih
theorem KT.repl {H:Hp} {kvs:List (List Key × V)} {xs:List (List Key × Addr × Value)} (r:KT H kvs xs) (k:List Key) {y:V} {u:Value} (f:RelV y u) :
  KT H (kvs.map fun b=>if b.1=k then (b.1,y) else b) (xs.map (putAt k u)):=by
 induction r with
 | nil=>exact .nil
 | @cons p q ps qs h t ih =>
  rw [aD0,aD0]
  refine .cons ?_ ih
  obtain ⟨a,c,d⟩:=h
  unfold putAt
  by_cases e:p.1=k
  ·rw [aE9 e,aE9 (a.symm.trans e)];exact ⟨a,c,f⟩
  ·rw [aF0 e,aF0 (fun z=>e (a.trans z))];exact ⟨a,c,d⟩
theorem KT.put {H:Hp} {kvs:List (List Key × V)} {xs:List (List Key × Addr × Value)} (r:KT H kvs xs) (k:List Key) {b:Addr} {y:V} {u:Value} (hb:H b=some (.tup (k.map kV))) (a:RelV y u) :
  KT H (putK kvs k y) (storedH xs k b u):=by
 have e:(kvs.any fun c=>decide (c.1=k))=(atKey xs k).isSome:=by
  rw [alu,(r.val k).isSome_eq,Option.isSome_map]
 unfold putK storedH
 rw [e]
 by_cases q:(atKey xs k).isSome=true
 ·rw [aE9 q,aE9 q];exact r.repl k a
 ·rw [aF0 q,aF0 q];exact Paired.snoc r ⟨rfl,hb,a⟩
theorem KT.keeps {H H':Hp} {kvs:List (List Key × V)} {xs:List (List Key × Addr × Value)} (r:KT H kvs xs) (a:∀ b ys,H b=some (.tup ys)->H' b=some (.tup ys)):KT H' kvs xs :=
 Paired.mapP r fun _ _ z=>⟨z.1,a _ _ z.2.1,z.2.2⟩
section
variable {P:Program} {w:World} {H:Hp} {h:Heap} {a:Addr}
theorem avu {u:HO} (ok:HOk P w H h) (e:Rd H a u):ObjOk P w H h a u:=e.ok ok
theorem afn {kvs:List (Key × V)} (ok:HOk P w H h) (e:Rd H a (.dK kvs)):kvs.length<=sizeLine/\(a == sysModules)=false/\∃ vs,KV kvs vs/\h.DictOf (aa3 P w) a vs :=
 show ObjOk P w H h a (.dK kvs) from avu ok e
theorem ak7 {kvs:List (Key × V)} (ok:HOk P w H h) (e:H a=some (.dK kvs)):kvs.length<=sizeLine/\(a == sysModules)=false/\∃ vs,KV kvs vs/\h.DictOf (aa3 P w) a vs:=afn ok (.inl e)
theorem afc {b:List Key} (ok:HOk P w H h) (e:H a=some (.tup (b.map kV))):(tupleKind (aa3 P w)).is h b a:=by
 obtain ⟨_,its,r,o,d,c,n,f⟩:=(show ObjOk P w H h a (.tup (b.map kV)) from ok a _ e)
 exact ⟨o,its.toArray,n,d,c,f,by simpa using aj8 r⟩
theorem ag0 {kvs:List (List Key × V)} (ok:HOk P w H h) (e:Rd H a (.dT kvs)):kvs.length<=sizeLine/\(a == sysModules)=false /\
  ∃ xs,KT H kvs xs/\h.DictOfH (tupleKind (aa3 P w)) a xs:=by
 obtain ⟨z,y,xs,r,o,es,ep,g,f,c,d,i⟩:=(show ObjOk P w H h a (.dT kvs) from avu ok e)
 refine ⟨z,y,xs,r,o,es,ep,g,f,c,d,fun x b=>?_,i⟩
 have all:∀ {l:List (List Key × V)} {m:List (List Key × Addr × Value)},KT H l m->∀ x∈m,(tupleKind (aa3 P w)).is h x.1 x.2.1:=by
  intro l m q
  induction q with
  | nil=>intro x b;exact nomatch b
  | @cons p q ps qs hq t ih =>
   intro x b
   rcases aA8.mp b with e | b
   ·subst e
    exact afc ok (by rw [← hq.1];exact hq.2.1)
   ·exact ih x b
 exact all r x b
theorem ah5 {kvs:List (List Key × V)} (ok:HOk P w H h) (e:H a=some (.dT kvs)):kvs.length<=sizeLine/\(a == sysModules)=false /\
  ∃ xs,KT H kvs xs/\h.DictOfH (tupleKind (aa3 P w)) a xs:=ag0 ok (.inl e)
end
def DGet (H:Hp) (a:Addr) (y:V) (r:Option V):Prop :=
 (∃ kvs k,Rd H a (.dK kvs)/\y=kV k/\r=valV kvs k)\/∃ kvs k b,Rd H a (.dT kvs)/\y=.ref b/\H b=some (.tup (k.map kV))/\r=valV kvs k
def DPut (H:Hp) (a:Addr) (y v:V) (H':Hp):Prop :=
 (∃ kvs k,H a=some (.dK kvs)/\y=kV k/\kvs.length < sizeLine/\H'=upd H a (.dK (putK kvs k v))) ∨
 ∃ kvs k b,H a=some (.dT kvs)/\y=.ref b/\H b=some (.tup (k.map kV))/\kvs.length < sizeLine/\H'=upd H a (.dT (putK kvs k v))
theorem DGet.k {H:Hp} {a:Addr} {kvs:List (Key × V)} {k:Key} (e:H a=some (.dK kvs)):DGet H a (kV k) (valV kvs k):=.inl ⟨kvs,k,.inl e,rfl,rfl⟩
theorem DGet.t {H:Hp} {a b:Addr} {kvs:List (List Key × V)} {k:List Key} (e:H a=some (.dT kvs)) (c:H b=some (.tup (k.map kV))):DGet H a (.ref b) (valV kvs k):=.inr ⟨kvs,k,b,.inl e,rfl,c,rfl⟩
theorem DPut.k {H:Hp} {a:Addr} {kvs:List (Key × V)} {k:Key} {v:V} (e:H a=some (.dK kvs)) (b:kvs.length < sizeLine):DPut H a (kV k) v (upd H a (.dK (putK kvs k v))):=.inl ⟨kvs,k,e,rfl,b,rfl⟩
theorem DPut.t {H:Hp} {a b:Addr} {kvs:List (List Key × V)} {k:List Key} {v:V} (e:H a=some (.dT kvs)) (d:H b=some (.tup (k.map kV))) (c:kvs.length < sizeLine) :
  DPut H a (.ref b) v (upd H a (.dT (putK kvs k v))):=.inr ⟨kvs,k,b,e,rfl,d,c,rfl⟩
section
variable {X:Cx} {pins:List (Addr × Obj)} {σ:St} {H:Hp} {s:Shared} {a:Addr} {y v:V} {u r:Value} {o:Option V} {A:Around} {E:Value->Shared->Prop}
theorem Inv.big (I:Inv X pins σ H s):sysModules < s.heap.objs.size:=by
 have h:mainGlobals < s.heap.objs.size:=(I.mod.glob.keeps I.bk).lt
 exact Nat.lt_trans (by decide) h
theorem aq7 {Q:Value->Shared->Prop} (r:A.units+1 < cLine) (I:Inv X pins σ H s) (g:DGet H a y (some v)) (n:RelV y u) (h:∀ f q,Inv X pins σ H q->RelV v f->Q f q) :
  wpAny (model X.prog X.w) A (getItem (.ref a) u) Q E s:=by
 rcases g with ⟨kvs,k,e,i,l⟩ | ⟨kvs,k,b,e,i,x,l⟩
 ·subst i
  obtain ⟨z,hd,vs,c,dd⟩:=afn I.hok e
  obtain ⟨f,j,d⟩:=RelO.some_of (v:=v) (o:=valueAt vs k) (by rw [l];exact c.val k)
  exact wpAny_getItem_of (agz n) dd.mapOf j (h f _ (I.tok _) d)
 ·subst i
  cases (show u=Value.ref b from n)
  obtain ⟨z,hd,xs,c,dd⟩:=ag0 I.hok e
  obtain ⟨f,j,d⟩:=RelO.some_of (v:=v) (o:=(atKey xs k).map (·.2)) (by rw [l];exact c.val k)
  obtain ⟨p,B,m⟩:=Option.map_eq_some_iff.mp j
  refine wpAny_getItem_heap (tupleKind_room_in1 r) (afc I.hok x) dd B ?_
  rw [m]
  exact h f _ (I.tok _) d
theorem awj {Q:Value->Shared->Prop} (j:A.units+1 < cLine) (I:Inv X pins σ H s) (g:DGet H a y o) (f:RelV y u) (h:∀ i,Inv X pins σ H i->Q (.bool (!o.isSome)) i) :
  wpAny (model X.prog X.w) A (compareOp .NotIn u (.ref a)) Q E s:=by
 rcases g with ⟨kvs,k,e,d,l⟩ | ⟨kvs,k,b,e,d,m,l⟩
 ·subst d
  obtain ⟨z,hd,vs,c,dd⟩:=afn I.hok e
  refine wpAny_notIn_of (agz f) hd dd.mapOf ?_
  rw [← (c.val k).isSome_eq,← l]
  exact h _ (I.tok _)
 ·subst d
  cases (show u=Value.ref b from f)
  obtain ⟨z,hd,xs,c,dd⟩:=ag0 I.hok e
  refine wpAny_notIn_heap (tupleKind_room_in1 j) (afc I.hok m) hd dd ?_
  have q:=(c.val k).isSome_eq
  rw [Option.isSome_map] at q
  rw [← q,← l]
  exact h _ (I.tok _)
theorem ag1 {h':Heap} {t':Nat} {c:HO} (I:Inv X pins σ H s) (f:Mut (H a)) (d:Heap.SameBut a s.heap h') (g:∃ q,h'.get? a=some q) (new:ObjOk X.prog X.w (upd H a c) h' a c) :
  Inv X pins σ (upd H a c) { s with heap:=h',toks:=t' } :=
 I.write (x:=a) (e:=a) f (.inl rfl) (fun b q hb z=>(d.2 b hb).trans z) g new
theorem aq8 {P:Program} {w:World} {H':Hp} {h':Heap} {kvs:List (Key × V)} {vs:List (Key × Value)} (z:kvs.length<=sizeLine) (hd:(a == sysModules)=false) (b:KV kvs vs) (dd:h'.DictOf (aa3 P w) a vs) :
  ObjOk P w H' h' a (.dK kvs):=⟨z,hd,vs,b,dd⟩
theorem aq9 {H':Hp} {Q:Unit->Shared->Prop} (J:A.units+1 < cLine) (I:Inv X pins σ H s) (g:DPut H a y v H') (C:RelV y u) (B:RelV v r) (h:∀ D,Inv X pins σ H' D->Q () D) :
  wpAny (model X.prog X.w) A (setItem (.ref a) u r) Q E s:=by
 rcases g with ⟨kvs,k,e,o,l,m⟩ | ⟨kvs,k,b,e,o,x,l,m⟩
 ·subst o m
  obtain ⟨z,hd,vs,d,dd⟩:=ak7 I.hok e
  have hz:vs.length<=sizeLine:=by rw [← d.length];exact z
  have j:(putK kvs k v).length<=sizeLine:=by have:=ae6 kvs k v;lia
  refine wpAny_setItem_pairs (hsz:=hz) (agz C) dd fun h' f n=>h _ ?_
  have M:∃ q,h'.get? a=some q:=let ⟨q,_,_,i,_⟩:=f;⟨q,i⟩
  exact ag1 I (by rw [e];exact True.intro) n M (aq8 j hd (d.put k B) f)
 ·subst o m
  cases (show u=Value.ref b from C)
  obtain ⟨z,hd,xs,d,dd⟩:=ah5 I.hok e
  have hz:xs.length<=sizeLine:=by rw [← Paired.length d];exact z
  have j:(putK kvs k v).length<=sizeLine:=by have:=ae6 kvs k v;lia
  refine wpAny_setItem_heap (hsz:=hz) (tupleKind_room_in1 J) (afc I.hok x) dd fun h' f n=>h _ ?_
  obtain ⟨q,es,ep,i,K,F,G,_,L⟩:=f
  refine ag1 I (by rw [e];exact True.intro) n ⟨q,i⟩ ⟨j,hd,_,(d.put k x B).keeps fun c ys p=>?_,q,es,ep,i,K,F,G,L⟩
  rw [aad (agu p e (fun z=>nomatch z))]
  exact p
end
section
variable {X:Cx} {pins:List (Addr × Obj)} {σ:St} {H:Hp} {s:Shared} {a:Addr} {kvs:List (Key × V)} {k:Key} {u:Value} {A:Around} {E:Value->Shared->Prop}
theorem a04 {Q:Value->Shared->Prop} (I:Inv X pins σ H s) (e:Rd H a (.dK kvs)) (h:∀ t c,Inv X pins σ H c->Q (.int kvs.length t) c):wpAny (model X.prog X.w) A (call (.builtin "len") [.ref a]) Q E s:=by
 obtain ⟨z,hd,vs,b,dd⟩:=afn I.hok e
 refine call_len_dict hd dd (by rw [← b.length];rw [sizeLine_eq] at z;lia) ?_
 rw [← b.length]
 exact h _ _ (I.tok _)
end
def NoSl (i:Expr):Prop:=∀ ov iv,subscripted i false ov iv=operate [ov,iv] (getItem ov iv)
theorem awk {prog:Program} {w:World} {A:Around} {E:Value->Shared->Prop} {s:Shared} {env:Env} {b a:Expr} {m:Pos} {T id:String} {Q:Value->Shared->Prop}
  (p:typeLookup (.type T) "__getitem__" = pure (some (.builtin id))) (q:NoSl a)
  (h:wpAny (model prog w) A (eval b env) (fun o g=>wpAny (model prog w) A (eval a env) (fun i c=>c.TypeIs o T/\wpAny (model prog w) A (getItem o i) Q E c) E g) E s) :
  wpAny (model prog w) A (eval (.Subscript b a m) env) Q E s:=by
 refine Subscript_ (aI9 h (fun o g l=>aI9 l (fun i c d=>?_) fun _ _ x=>x) fun _ _ x=>x)
 obtain ⟨n,d⟩:=d
 unfold subscriptTail
 refine aI2 ?_
 rw [getitemInPython_of_ne n.not_modules]
 refine aI2 (wpAny_specialOf n p ?_)
 have fin:wpAny (model prog w) A (subscripted a false o i) (fun r f=>wpAny (model prog w) A (letTemporaryGo b o r >>= fun _=>pure r) Q E f) E c:=by
  rw [q o i]
  exact wpAny_operating (aI9 d (fun r f j=>aI2 (wpAny_letTemporaryGo (aI3 j))) fun _ _ x=>x)
 first
  | exact aI3 (aI2 fin)
  | exact aI2 (aI3 (aI2 fin))
  | exact aI2 fin
theorem anr {X:Cx} {pins:List (Addr × Obj)} {σ:St} {H:Hp} {s:Shared} {a:Addr} {y:V} {o:Option V} (I:Inv X pins σ H s) (g:DGet H a y o):s.TypeIs (.ref a) "dict":=by
 rcases g with ⟨kvs,k,e,_,_⟩ | ⟨kvs,k,b,e,_,_,_⟩
 ·obtain ⟨_,_,vs,_,dd⟩:=afn I.hok e
  exact dd.typeIs
 ·obtain ⟨_,_,xs,_,dd⟩:=ag0 I.hok e
  exact dd.typeIs
def ak8 (td ty:TE):TE:=fun σ H Q=>td σ H fun x H1=>ty σ H1 fun y H2=>∃ a v,x=.ref a/\DGet H2 a y (some v)/\Q v H2
def ag2 (ty td:TE):TE:=fun σ H Q=>ty σ H fun y H1=>td σ H1 fun x H2=>∃ a o,x=.ref a/\DGet H2 a y o/\Q (.bl (!o.isSome)) H2
def ah6 (td ty tv:TE):TS:=fun D σ H=>tv σ H fun v H1=>td σ H1 fun x H2=>ty σ H2 fun y H3=>∃ a H4,x=.ref a/\DPut H3 a y v H4/\D.nx σ H4
section
variable {X:Cx} {o i e value:Expr} {pos pos' tpos:Pos} {td ty tv:TE}
theorem ai8 (j:X.A.units+1 < cLine) (d:PE X o td) (hi:PE X i ty) (l:NoSl i):PE X (.Subscript o i pos) (ak8 td ty):=by
 intro pins s σ H Q I h
 refine awk PySem.F.slot_dict_getitem.lookup l (thn (d pins s σ H _ I h) fun u s1 ⟨x,n,p,m,r⟩=>thn (hi pins s1 σ n _ p r) fun z s2 ⟨y,H2,c,q,a,v,ex,g,w⟩=>?_)
 subst ex
 obtain rfl:u=Value.ref a:=m
 exact ⟨anr c g,aq7 j c g q fun B C f b=>⟨v,H2,f,b,w⟩⟩
theorem ara (d:X.A.units+1 < cLine) (hi:PE X i ty) (b:PE X o td):PC X .NotIn i o (ag2 ty td):=by
 intro pins s σ H Q I h
 refine thn (hi pins s σ H _ I h) fun v s1 ⟨y,l,m,n,q⟩=>thn (b pins s1 σ l _ m q) fun u s2 ⟨x,H2,f,j,a,p,ex,g,r⟩=>?_
 subst ex
 obtain rfl:u=Value.ref a:=j
 exact awj d f g n fun w c=>⟨.bl (!p.isSome),H2,c,rfl,r⟩
theorem ag3 (f:X.A.units+1 < cLine) (b:PE X o td) (hi:PE X i ty) (F:PE X value tv) (l:swapsWith value (some (.Subscript o i pos')) pos.line X.env=pure false) :
  PS X (.Assign [.Subscript o i pos'] value pos) (ah6 td ty tv):=by
 intro pins s σ H D I h
 refine wpAny_Assign_Subscript (thn (F pins s σ H _ I h) fun r s1 ⟨v,n,q,p,B⟩=>thn (b pins s1 σ n _ q B) fun u s2 ⟨x,H2,j,m,E⟩=>thn (hi pins s2 σ H2 _ j E) fun G J ⟨y,H3,d,w,a,z,ex,g,C⟩=>?_) l
 subst ex
 obtain rfl:u=Value.ref a:=m
 exact aq9 f d g w p fun K c=>⟨σ,z,c,C⟩
end
theorem atn {P:Program} {w:World} {H:Hp} (h:Heap) (hb:sysModules < h.objs.size):ObjOk P w H (h.push { cls:=.type "dict",data:=.dict #[] }) h.objs.size (.dK []) :=
 ⟨aF4 _,beq_eq_false_iff_ne.mpr (Ne.symm (aB5 hb)),[],.nil,Heap.DictOf.new h⟩
theorem ato {P:Program} {w:World} {H:Hp} (h:Heap) (hb:sysModules < h.objs.size):ObjOk P w H (h.push { cls:=.type "dict",data:=.dict #[] }) h.objs.size (.dT []) :=
 ⟨aF4 _,beq_eq_false_iff_ne.mpr (Ne.symm (aB5 hb)),[],.nil,_,#[],0,aI6 _ rfl,⟨rfl,rfl,rfl⟩,rfl,rfl,List.nodup_nil⟩
def alv:TE:=fun _ H Q=>∀ p,H p=none->Q (.ref p) (upd H p (.dT []))
section
variable {X:Cx} {pos:Pos}
theorem alw:PE X (.Dict [] [] pos) alv:=fun pins s σ H Q I h =>
 wpAny_Dict_empty ⟨.ref s.heap.objs.size,_,I.laid (a:=s.heap.objs.size) (o:=.dT []) (t':=s.toks) (fun _ _ q=>aI4 _ q) (aA6 _) (ato s.heap I.big),rfl,h _ (I.hok.fresh (aA6 _))⟩
end
def alx:List (TE × TE)->St->Hp->(List (V × V)->Hp->Prop)->Prop
 | [],_,H,Q=>Q [] H
 | (tk,tv) :: r,σ,H,Q=>tk σ H fun x H1=>tv σ H1 fun y H2=>alx r σ H2 fun ps H3=>Q ((x,y) :: ps) H3
abbrev VV:List (V × V)->List (Value × Value)->Prop:=Paired fun p q=>RelV p.1 q.1/\RelV p.2 q.2
def PPs (X:Cx) (pos:Pos) (keys:List (Option Expr)) (values:List Expr) (trs:List (TE × TE)):Prop :=
 ∀ (pins:List (Addr × Obj)) (s:Shared) (σ:St) (H:Hp) (Q:List (V × V)->Hp->Prop),Inv X pins σ H s->alx trs σ H Q ->
  wpAny (model X.prog X.w) X.A (evalPairs (pairTrees keys values X.env pos)) (fun vs s'=>∃ ps H',Inv X pins σ H' s'/\VV ps vs/\Q ps H') X.xe s
theorem awl {X:Cx} {a:Pos}:PPs X a [] [] []:=fun pins s σ H Q I h=>pairTrees_nil_walk ⟨[],H,I,.nil,h⟩
theorem atp {X:Cx} {b:Pos} {k v:Expr} {g:List (Option Expr)} {vs:List Expr} {f d:TE} {a:List (TE × TE)} (i:PE X k f) (A:PE X v d) (w:PPs X b g vs a) :
  PPs X b (some k :: g) (v :: vs) ((f,d) :: a):=fun pins s σ H Q I h =>
 pairTrees_cons_walk (thn (i pins s σ H _ I h) fun u s1 ⟨x,n,o,m,q⟩=>thn (A pins s1 σ n _ o q) fun D s2 ⟨y,H2,l,p,z⟩ =>
  thn (w pins s2 σ H2 _ l z) fun B C ⟨ps,H3,j,c,r⟩=>⟨(x,y) :: ps,H3,j,.cons ⟨m,p⟩ c,r⟩)
def afd (kvs more:List (Key × V)):List (Key × V):=more.foldl (fun acc kv=>putK acc kv.1 kv.2) kvs
theorem KV.merge:∀ {more:List (Key × V)} {rs:List (Key × Value)} {kvs:List (Key × V)} {vs:List (Key × Value)},KV more rs->KV kvs vs->KV (afd kvs more) (merged vs rs):=by
 intro more rs kvs vs r
 unfold KV at r
 induction r generalizing kvs vs with
 | nil=>intro q;exact q
 | @cons p q ps qs h t ih =>
  intro a
  have e:KV (putK kvs p.1 p.2) (stored vs q.1 q.2):=by
   have:=a.put p.1 h.2
   rw [← h.1];exact this
  exact ih e
theorem afz:∀ (more kvs:List (Key × V)),(afd kvs more).length<=kvs.length+more.length
 | [],kvs=>by show kvs.length<=kvs.length+0;lia
 | p :: r,kvs=>by
  have b:=afz r (putK kvs p.1 p.2)
  have a:=ae6 kvs p.1 p.2
  show (afd (putK kvs p.1 p.2) r).length<=_
  rw [aE1];lia
theorem ah7 {P:Program} {w:World}:∀ {kvs:List (Key × V)} {d:List (Value × Value)},VV (kvs.map fun f=>(kV f.1,f.2)) d->∃ rs,Carries (aa3 P w) d rs/\KV kvs rs
 | [],_,r=>by rw [List.map_nil] at r;cases r;exact ⟨[],True.intro,.nil⟩
 | p :: kvs,_,r=>by
  rw [aD0] at r
  cases r with
  | @cons a b as bs h t =>
   obtain ⟨rs,c,q⟩:=ah7 (P:=P) (w:=w) t
   obtain ⟨b1,g⟩:=b
   exact ⟨(p.1,g) :: rs,⟨agz h.1,rfl,c⟩,.cons ⟨rfl,h.2⟩ q⟩
def avv (trs:List (TE × TE)):TE:=fun σ H Q=>∀ p,H p=none->alx trs σ (upd H p (.dK [])) fun ps H2=>H2 p=some (.dK [])/\∃ kvs:List (Key × V),ps=kvs.map (fun kv=>(kV kv.1,kv.2))/\kvs.length<=15/\Q (.ref p) (upd H2 p (.dK (afd [] kvs)))
theorem awm {X:Cx} {i:Pos} {keys:List (Option Expr)} {b:List Expr} {d:List (TE × TE)} (h:PPs X i keys b d) (g:keys.all (·.isSome)=true) (n:keys.length=b.length) (r:keys ≠ [])
  (l:keys.length<=15):PE X (.Dict keys b i) (avv d):=by
 intro pins s σ H Q I q
 have hn:=I.hok.fresh (aA6 s.heap.objs.size)
 have y:=I.laid (a:=s.heap.objs.size) (o:=.dK []) (h':=s.heap.push { cls:=.type "dict",data:=.dict #[] }) (t':=s.toks) (fun _ _ q=>aI4 _ q) (aA6 _) (atn s.heap I.big)
 refine wpAny_Dict_walk (knd:=aa3 X.prog X.w) g n r l (thn (h pins _ σ _ _ y (q _ hn)) fun E s2 ⟨ps,H2,m,j,e,kvs,ep,F,C⟩=>?_)
 subst ep
 obtain ⟨rs,c,p⟩:=ah7 (P:=X.prog) (w:=X.w) j
 obtain ⟨z,hd,x,B,dd⟩:=ak7 m.hok e
 cases B
 refine ⟨rs,c,dd,fun h' f v=>⟨.ref s.heap.objs.size,_,?_,rfl,C⟩⟩
 have hz:(afd [] kvs).length<=sizeLine:=by
  have u:=afz kvs []
  rw [aI1] at u
  rw [sizeLine_eq];lia
 have D:∃ q,h'.get? s.heap.objs.size=some q:=let ⟨q,_,_,A,_⟩:=f;⟨q,A⟩
 exact ag1 m (by rw [e];exact True.intro) v D (aq8 hz hd (p.merge .nil) f)
structure M1 (X:Cx) (o:Expr) (m:Str) (apos:Pos) (e:Expr) (cpos:Pos):Prop where
 base:attributeBase o m X.env (eval o X.env)=eval o X.env
 few:((backTo cpos (starEach [e] X.env)).all (fun x => !x.1) && (backToKw cpos (keywordEach [] X.env)).all (fun x=>x.1.isSome)
  && decide (([e]:List Expr).length+([]:List Keyword).length+(if ([]:List Keyword).isEmpty then 0 else 1) < 30))=true
 line:(apos.endLine == cpos.line)=true
 trees:backTo cpos (starEach [e] X.env)=[(false,eval e X.env)]
def IsD (H:Hp) (a:Addr):Prop:=(∃ kvs,Rd H a (.dK kvs))\/∃ kvs,Rd H a (.dT kvs)
theorem arb {X:Cx} {pins:List (Addr × Obj)} {σ:St} {H:Hp} {s:Shared} {a:Addr} (I:Inv X pins σ H s) (d:IsD H a) :
  s.TypeIs (.ref a) "dict"/\(∀ b,Value.ref a=.ref b->∃ c,s.heap.get? b=some c/\c.dict=none)/\(a == sysModules)=false:=by
 rcases d with ⟨kvs,e⟩ | ⟨kvs,e⟩
 ·obtain ⟨_,hd,vs,_,dd⟩:=afn I.hok e
  refine ⟨dd.typeIs,fun b q=>?_,hd⟩
  cases q
  obtain ⟨c,_,_,g,f,_⟩:=dd
  exact ⟨c,g,f.2.1⟩
 ·obtain ⟨_,hd,xs,_,dd⟩:=ag0 I.hok e
  refine ⟨dd.typeIs,fun b q=>?_,hd⟩
  cases q
  obtain ⟨c,_,_,g,f,_⟩:=dd
  exact ⟨c,g,f.2.1⟩
section
variable {X:Cx} {pins:List (Addr × Obj)} {σ:St} {H:Hp} {s:Shared} {a:Addr} {y d:V} {u r:Value} {o:Option V} {A:Around} {E:Value->Shared->Prop}
theorem ay8 {Q:Value->Shared->Prop} (m:A.units+1 < cLine) (I:Inv X pins σ H s) (g:DGet H a y o) (i:RelV y u) (h:∀ f j,Inv X pins σ H j->RelV (o.getD .non) f->Q f j) :
  wpAny (model X.prog X.w) A (call (.builtin "dict.get") [.ref a,u]) Q E s:=by
 rcases g with ⟨kvs,k,e,d,l⟩ | ⟨kvs,k,b,e,d,n,l⟩
 ·subst d
  obtain ⟨z,hd,vs,c,dd⟩:=afn I.hok e
  refine call_meetsIn PySem.F.slot_dict_get dd.typeIs PySem.F.entry_dict_get (PySem.F.args_dict_get_2 _ _) (meets_dict_get (aa3 X.prog X.w) a (agz i) hd) ⟨_,dd.mapOf,h _ _ (I.tok _) ?_⟩
  rw [l]
  exact (c.val k).getD rfl
 ·subst d
  cases (show u=Value.ref b from i)
  obtain ⟨z,hd,xs,c,dd⟩:=ag0 I.hok e
  refine call_meetsIn PySem.F.slot_dict_get dd.typeIs PySem.F.entry_dict_get (PySem.F.args_dict_get_2 _ _) (meetsH_dict_get (tupleKind (aa3 X.prog X.w)) a b hd) ⟨tupleKind_room_in1 m,k,xs,afc I.hok n,dd,h _ _ (I.tok _) ?_⟩
  rw [l]
  exact (c.val k).getD rfl
end
def aly (td ty:TE):TE:=fun σ H Q=>td σ H fun x H1=>∃ a,x=.ref a/\IsD H1 a/\ty σ H1 fun y H2=>∃ o,DGet H2 a y o/\Q (o.getD .non) H2
section
variable {X:Cx} {o e f:Expr} {apos cpos:Pos} {td ty tx:TE}
theorem atq (j:X.A.units+1 < cLine) (f:PE X o td) (B:PE X e ty) (m:M1 X o "get" apos e cpos):PE X (.Call (.Attribute o "get" apos) [e] [] cpos) (aly td ty):=by
 intro pins s σ H Q I h
 refine wpAny_Call_method m.base m.few m.line PySem.F.plainAttrs_dict PySem.F.slot_dict_get PySem.F.type_dict_get (thn (f pins s σ H _ I h) fun u s1 ⟨x,q,c,p,a,ex,d,w⟩=>?_)
 subst ex
 obtain rfl:u=Value.ref a:=p
 obtain ⟨n,v,_⟩:=arb c d
 refine ⟨n,v,?_⟩
 rw [m.trees]
 refine Calls.callWith_builtin rfl (Calls.evalArgs_plain (Calls.spliced_cons (thn (B pins s1 σ q _ c w) fun C s2 ⟨y,H2,l,r,G,g,z⟩=>Calls.spliced_nil ?_)))
 exact ay8 j l g r fun D E i b=>⟨_,H2,i,b,z⟩
end
section
variable {X:Cx} {pins:List (Addr × Obj)} {σ:St} {H:Hp} {s:Shared} {a:Addr} {kvs:List (Key × V)} {A:Around} {E:Value->Shared->Prop}
end
section
variable {X:Cx} {pins:List (Addr × Obj)} {σ:St} {H:Hp} {s:Shared} {a:Addr} {y:V} {u:Value} {A:Around} {E:Value->Shared->Prop}
end
end L2
namespace Att
open PySem PySem.W PySem.Calls PyProof.Rows
theorem ah8 {P:Params} {h:Heap}:∀ (ns:List Int) (vs:List Value),WellAll P h vs (ns.map WData.int)->IntsAre vs ns:=by
 intro ns
 induction ns with
 | nil =>
  intro vs w
  rw [List.map_nil] at w
  cases w
  exact .nil
 | cons n ns ih =>
  intro vs w
  rw [aD0] at w
  cases w with
  | cons a b =>
   cases a
   exact .cons _ _ (ih _ b)
theorem arc {l:OpenLaw} {n:Nat} (hn:l.most=some n) {P:Params} {h:Heap} {args:List WData} {vals:List Value}
  (b:l.row.toRowW.claim.pre args=true) (i:WellAll P h vals args) :
  ∃ a vs ns,vals=[Value.ref a]/\args=[WData.list (ns.map WData.int)]/\h.get? a=some { cls:=.type "list",data:=.seq vs.toArray }/\IntsAre vs ns/\ns.length<=n:=by
 have j:WShape.hasAll [] args [.list .int]=true:=(pre_splitW b).1
 have m:l.pre.holds [] { args:=args }=true:=(pre_splitW b).2
 obtain ⟨d,r,rfl,s,p⟩:=hasAllW_cons j
 obtain rfl:=hasAllW_nil p
 obtain ⟨xs,rfl,o⟩:=hasW_list s
 obtain ⟨ns,rfl⟩:=items_int o
 have c:ns.length<=n:=by
  unfold OpenLaw.pre at m
  have f:(WTm.not (.lt (.lit (.int (n:Int))) (.len (.arg 0)))).holds [] { args:=[.list (ns.map .int)] }=true:=by
   have f:=(holds_andW m).1
   rw [hn] at f
   exact f
  have g:=condW_of f (w_not (w_lt w_lit (w_len_list (w_arg rfl))))
  rw [aA3] at g
  refine Nat.le_of_not_lt fun q=>?_
  have u:(n:Int) < ((ns.length:Nat):Int):=by lia
  first
   | (rw [aD6 u] at g;exact absurd g (by decide))
   | (simp at g;lia)
 cases i with
 | cons w1 w2 =>
  cases w2
  cases w1 with
  | list ho hall=>exact ⟨_,_,ns,rfl,rfl,ho,ah8 ns _ hall,c⟩
theorem ard (l:OpenLaw) (args:List WData):l.row.toRowW.claim.post args (.bool true) args=true :=
 postW_of (r:=l.row.toRowW) (X:=(true == true))
  (show WShape.has [] (.bool true) .bool=true by first | rfl | decide | simp [WShape.has,WShape.arms,WShape.armsAll])
  (show (WTm.eq .res (.lit (.bool true))).value [] { args:=args,res:=some (.bool true),after:=args }=some (.bool (true == true)) from w_eq_bool (w_res rfl) w_lit) rfl
theorem attach_call {l:OpenLaw} {n:Nat} {q:Program} {c:List Str} {B:(Str->Option Value)->Heap->Prop} {C:World->Heap->Prop} {d:DefRec}
  (hn:l.most=some n) (u:d.params.defaults=[])
  (call:∀ (w:World) (s₀ b:Shared) (mg mb:Str->Option Value) (i:Addr) (o:Obj) (pm p doc:Value) (a:Addr) (vs:List Value) (ns:List Int),
   Ground q c [] B w s₀ mg mb b.heap->C w b.heap ->
   b.heap.get? i=some o->o.data=.func (docDef d.name d.params d.body d.scope pm p doc)->b.heap.CodeRec p d.name->mg d.name=some (.ref i) ->
   b.heap.get? a=some { cls:=.type "list",data:=.seq vs.toArray }->IntsAre vs ns->ns.length<=n->b.gens = #[] ->
   codeAny (model l.prog w) callerA (.call (.ref i) ⟨[.ref a],[]⟩) (fun r s=>r=.ok (.ret (.bool true))/\OldK b.heap s.heap/\s.os=b.os/\AllBare s.gens) b) :
  WalkO q c B C l.row.toRowW d [] (fun f vs=>PySem.call f vs):=by
 intro w s₀ b mg mb G Y i o pm p doc M kV E hd y A x K args vals as h z D v J
 obtain rfl:M=.none:=Dflts.none A u
 obtain rfl:kV=.none:=Dflts.noKw A
 obtain ⟨a,vs,ns,rfl,rfl,m,g,j⟩:=arc hn h v
 refine enter_call (codeAny_mono (call w s₀ b mg mb i o pm p doc a vs ns G Y E (fd_plain hd) y x m g j K) fun r s L=>?_)
 obtain ⟨rfl,I,F,H⟩:=L
 exact ⟨.inl ⟨.bool true,.bool true,[],rfl,fun _=>rfl,.bool true,ard l _,fun _=>⟨List.Pairwise.nil,fun _ hm=>(nomatch hm)⟩⟩,I,F,H⟩
section
variable {prog:Program} {w:World} {A:Around} {E:Value->Shared->Prop} {s:Shared} {K:Frag}
end
end Att
namespace L2
open PySem PySem.Spec PyProof.Rows
theorem aj9:∀ {vs:List Value} {ns:List Int},IntsAre vs ns->Vals (ns.map V.int) vs
 | _,_,.nil => .nil
 | _,_,.cons n t h => .cons ⟨t,rfl⟩ (aj9 h)
def Only (H:Hp):Prop:=∀ b,H b=none\/∃ o xs,H b=some (.frz o (.lst xs))
theorem atr {P:Program} {w:World} {K:Frag} {mg mb:Str->Option Value} {CX:CXT} {k:Nat} {I a:Addr} {fd:FuncData} {x:Str} {sp:Sp} {c:Shared} {vs:List Value} {ns:List Int}
  (O:K.In c.heap) (y:c.heap.Ns mainGlobals mg) (hb:c.heap.Ns builtinsNs mb) (M:∀ x:Str,x ≠ "__name__"->mb x=bootBuiltins x) (p:c.heap.NoLimit) (hg:c.gens = #[])
  (ha:c.heap.get? a=some { cls:=.type "list",data:=.seq vs.toArray }) (hi:IntsAre vs ns) (N:ns.length<=sizeLine) (hr:Room k callerA)
  (F:∀ base:Heap,K.In base->base.Ns mainGlobals mg->FnOk P w K mg base CX k I fd [x] sp) (l:∀ (s:Shared) (u:Value),BindsTo s fd ⟨[u],[]⟩ [(x,u)])
  (L:∀ H:Hp,Only H->SqL K H a (ns.map V.int)->sp [.ref a] H (fun v _=>v=.bl true) fun _ _ _=>False)
  (J:∀ H e g,CX [] H c (fun _ _ _=>False) e g->False) :
  codeAny (model P w) callerA (.call (.ref I) ⟨[.ref a],[]⟩) (fun r g=>r=.ok (.ret (.bool true))/\OldK c.heap g.heap/\g.os=c.os/\AllBare g.gens) c:=by
 have Q:=aj9 hi
 have B:=hi.length
 -- from an abstract heap in which nothing but the script may be tracked
 have j:∀ H:Hp,Only H->SqL K H a (ns.map V.int)->HOk P w H c.heap->(∀ b,H b ≠ none->b=a)->(H a ≠ none->K.lookup a=none) ->
   codeAny (model P w) callerA (.call (.ref I) ⟨[.ref a],[]⟩) (fun r g=>r=.ok (.ret (.bool true))/\OldK c.heap g.heap/\g.os=c.os/\AllBare g.gens) c:=by
  intro H S W hok R hK
  have f:∀ {b:Addr} {o:Obj},c.heap.get? b=some o->H b=none->(hidT c.heap H).get? b=some o:=fun e n=>atc e n
  have G:∀ {b:Addr} {o:Obj} {es:Array DictEntry} {ep:Nat},c.heap.get? b=some o->o.data=.dict es ep->H b=none:=fun {b o es ep} e d=>by
   cases q:H b with
   | none=>rfl
   | some u =>
    have E:b=a:=R b (by rw [q];simp)
    subst E
    rw [ha] at e;cases e
    have d':Data.seq vs.toArray _=Data.dict es ep:=d
    cases d'
  have i:∀ {b:Addr} {m:Str->Option Value},c.heap.Ns b m->(hidT c.heap H).Ns b m:=fun {b m} ⟨o,es,ep,e,d,r⟩=>⟨o,es,ep,f e (G e d),d,r⟩
  have A:K.In (hidT c.heap H):=fun b o e=>f (O b o e) (by
   cases q:H b with
   | none=>rfl
   | some u =>
    have E:b=a:=R b (by rw [q];simp)
    subst E
    rw [hK (by rw [q];simp)] at e;cases e)
  have Z:Mod K mg (hidT c.heap H):=⟨A,i y,⟨mb,i hb,M⟩,let ⟨mc,h1,h2⟩:=p;⟨mc,i h1,h2⟩⟩
  have X:Env0 P w K mg (hidT c.heap H) callerA [] c H:=⟨rfl,Z,fun b o e=>av8 e,Nat.le_of_eq (aqp _ _),trivial,fun b hb=>absurd (show b∈([]:List Addr) from hb) (by simp),hok,.of_eq hg⟩
  refine codeAny_mono ((F _ A (i y)).run callerA [] c H ⟨[.ref a],[]⟩ [.ref a] [.ref a] _ _ hr X (l c (.ref a)) (.cons rfl .nil) (L H S W)) fun r g h=>?_
  cases r with
  | error e=>exact (J H e g h).elim
  | ok fl =>
   cases fl with
   | next=>exact False.elim h
   | brk=>exact False.elim h
   | cont=>exact False.elim h
   | ret u =>
    obtain ⟨v,H',os,bare,un,C,r',q⟩:=h
    have Y:v=.bl true:=q
    subst Y
    obtain rfl:u=Value.bool true:=r'
    refine ⟨rfl,OldK.of_keep fun b o e=>?_,os,bare⟩
    cases q:H b with
    | none=>exact un.keep b o e q (by intro z;exact absurd (show b∈([]:List Addr) from z) (by simp)) (by simp)
    | some u =>
     rcases S b with z | ⟨ob,xs,z⟩
     ·rw [q] at z;cases z
     ·have U:=un.frzs b ob _ z
      obtain ⟨T,_⟩:=hok b _ z
      obtain ⟨e2,_⟩:=C b _ U
      rw [e] at T;cases T
      exact e2
 cases hk:K.lookup a with
 | some o =>
  -- the script is one of the module's own objects
  have e:=O a o hk
  rw [ha] at e
  cases e
  refine j (fun _=>none) (fun _ => .inl rfl) (.inr ⟨_,vs.toArray,_,hk,rfl,rfl,rfl,by rw [aB1,B];exact N,by simpa using Q⟩) (fun b u z=>by have D:(none:Option HO)=some u:=z;cases D) (fun b z=>absurd rfl z) fun z=>absurd rfl z
 | none =>
  refine j (fun b=>if b=a then some (.frz { cls:=.type "list",data:=.seq vs.toArray } (.lst (ns.map V.int))) else none) (fun b=>?_) (.inl (.inr ⟨{ cls:=.type "list",data:=.seq vs.toArray },aE9 rfl⟩)) (fun b u z=>?_) (fun b z=>?_) fun _=>hk
  ·by_cases hb:b=a
   ·exact .inr ⟨_,_,aE9 hb⟩
   ·exact .inl (aF0 hb)
  ·by_cases hb:b=a
   ·have D:=(aE9 hb).symm.trans z
    cases D
    subst hb
    exact ⟨ha,by rw [aA3];exact N,vs,_,Q,ha⟩
   ·have D:=(aF0 hb).symm.trans z
    cases D
  ·by_cases hb:b=a
   ·exact hb
   ·exact absurd (aF0 hb) z
abbrev KOf {K:Frag} {h:Heap} (_:K.In h):Frag:=K
theorem walk_of {l:PySem.W.OpenLaw} {n k:Nat} {q:Program} {i:List Str} {O:(Str->Option Value)->Heap->Prop} {I:World->Heap->Prop} {d:DefRec} {K:Params->Frag} {CX:World->CXT} {sp:World->Sp} {x:Str}
  (hn:l.most=some n) (B:n<=sizeLine) (z:d.params.defaults=[]) (P:Room k callerA)
  (R:∀ (w:World) (h:Heap),I w h->(K w.params).In h)
  (F:∀ (w:World) (mg:Str->Option Value) (r:Addr) (h:Heap),(K w.params).In h->h.Ns mainGlobals mg->mg d.name=some (.ref r) ->
   ∃ fd:FuncData,(∀ (s:Shared) (u:Value),BindsTo s fd ⟨[u],[]⟩ [(x,u)]) /\
    ∀ base:Heap,(K w.params).In base->base.Ns mainGlobals mg->FnOk l.prog w (K w.params) mg base (CX w) k r fd [x] (sp w))
  (D:∀ (w:World) (H:Hp) (a:Addr) (ns:List Int),ns.length<=n->Only H->SqL (K w.params) H a (ns.map V.int)->sp w [.ref a] H (fun v _=>v=.bl true) fun _ _ _=>False)
  (y:∀ (w:World) (H:Hp) (s:Shared) (e:Value) (C:Shared),CX w [] H s (fun _ _ _=>False) e C->False) :
  PySem.W.WalkO q i O I l.row.toRowW d [] (fun f vs=>PySem.call f vs):=by
 refine Att.attach_call hn z fun w s₀ m mg mb r o pm U doc a vs ns G Y S hd Q A p j c J=>?_
 have E:=R w _ Y
 obtain ⟨fd,hb,M⟩:=F w mg r _ E G.T.g A
 exact atr E G.T.g G.T.b G.T.builtins G.T.nolimit J p j (aC9 c B) P M hb (fun H N L=>D w H a ns c N L) fun H e C=>y w H m e C
end L2
/- THE LAST THEOREM (shape; LID, My.* are yours):
  My.Adr: a structure of the addresses that your layer names (classes,functions);My.Txt K t: a structure (Prop) of the equations over K;
  My.txt_mk:{K} {implicit addresses ..} (e1:nsIn K mainGlobals "law" = some (some (.ref f))) (e2:K.lookup f=some ⟨oc,od,.func (fnOf "law" "law" params body scope dV kV doc pm an cdv ct),sl⟩) (e3:codeIn K cdv "law" = true) .. : ∃ t,My.Txt K t
set_option maxRecDepth 100000 in
set_option maxHeartbeats 0 in
theorem PySem.Challenge.cw_LID_holds : PySem.Challenge.rw_LID.Holds := by
 w_on;o_law;k_head;(case hw=>w_witness2)
 k_fill
 refine L2.walk_of (l:=PySem.Challenge.rw_LID) (n:=63) (k:=40) (x:="script") (CX:=fun w => ..) (sp:=fun _=>My.sp_law) rfl (by decide) rfl ⟨rfl,by decide,by decide⟩ (fun w h Y=>PySem.W.kIn_of Y) ?F ?S ?C
 case F =>
  intro w mg fa h KX G hmg
  have T:∃ t,My.Txt (L2.KOf KX) t:=by
   dsimp only [L2.KOf]                          -- K must stand as «<heap const> w.params» for k_is
   refine' My.txt_mk ?e1 ?e2 ?e3 ..
   (case e1=>PySem.W.k_is)                    -- in the order: a name -> its address -> its object -> its parts
   (case e2=>PySem.W.k_is)
   ..
  obtain ⟨t,T⟩:=T
  have e0:=hmg.symm.trans (mg_of KX G T.law)
  cases e0                                       -- fa is the law's own address
  exact ⟨_,fun s u => .of_eq rfl,fun base kb nb=>My.law_fn T kb nb⟩     -- if «.of_eq rfl» comes too early: refine' ⟨_,?b,fun base kb nb=>My.law_fn T kb nb⟩;exact fun s u => .of_eq rfl
 case S=>exact fun w H a ns hl hO hS => ..
 case C=>exact ..
(the tactic k_is has no namespace: write k_is) -/
namespace L2
open PySem PySem.Spec PyProof.Rows
def adi (s:Stmt) (j:Nat):Stmt:=match s with
 | .ClassDef _ _ _ body _ _ _ _ _ _ _=>body.getD j (.Pass ⟨0,0,0,0⟩)
 | _ => .Pass ⟨0,0,0,0⟩
def abk (s:Stmt):Arguments:=match s with
 | .FunctionDef _ a _ _ _ _ _ _ _ _=>a
 | _=>{ posonlyargs:=[],args:=[],vararg:=none,kwonlyargs:=[],kw_defaults:=[],kwarg:=none,defaults:=[] }
def abf (s:Stmt):List Stmt:=match s with
 | .FunctionDef _ _ b _ _ _ _ _ _ _=>b
 | _=>[]
def aai (s:Stmt):Scope:=match s with
 | .FunctionDef _ _ _ _ _ _ sc _ _ _=>sc
 | _=>{ kind:=.function,names:=[],isGenerator:=false,isCoroutine:=false }
abbrev CX0:CXT:=fun _ _ _ _ _ _=>False
abbrev E0:XK:=fun _ _ _=>False
theorem ak9 {X:Cx}:aeg CX0 X E0:=fun _ _ _ _ _ _ _ h=>h.elim
structure Fun (K:Frag) (x qual:Str) (st:Stmt) (f:Addr) (fd:FuncData):Prop where
 ex:∃ (oc:Value) (od:Option Addr) (kV doc pm:Value) (an:Option Addr) (cdv ct:Value) (osl:Array (Option Value)),
  fd=fnOf x qual (abk st) (abf st) (aai st) .none kV doc pm an cdv ct/\K.lookup f=some ⟨oc,od,.func fd,osl⟩/\codeIn K cdv qual=true
 kp:keepIn K (.ref f)=true
section
variable {P:Program} {w:World} {K:Frag} {mg:Str->Option Value} {base:Heap}
theorem Fun.ok {x qual:Str} {st:Stmt} {f:Addr} {fd:FuncData} {N ps:List Str} {k:Nat} {sp:Sp} (F:Fun K x qual st f fd) (S:FnScope N ps (aai st)) (len:∀ vs H Q E,sp vs H Q E->vs.length=ps.length)
  (a:∀ (cdv:Value) (A:Around) (outer:List Env) (s:Shared) (H:Hp) (vs:List V) (Q:VK) (E:XK),Room k (A.deeper (envOfC qual (aai st) s.heap.objs.size f cdv))->sp vs H Q E ->
   ∃ t,PSs (cxOf CX0 P w K mg base N qual (aai st) f cdv A outer s H E).nox (abf st) t/\t { nx:=fun _ H'=>Q .non H',rt:=Q } (start N vs) H):FnOk P w K mg base CX0 (k+1) f fd ps sp:=by
 obtain ⟨oc,od,kV,doc,pm,an,cdv,ct,osl,rfl,g,c⟩:=F.ex
 refine a03 g c S len fun A outer s H vs Q E d b=>?_
 obtain ⟨t,h,q⟩:=a cdv A outer s H vs Q E d b
 exact ⟨t,h.nox,q⟩
theorem Fun.binds {x qual:Str} {st:Stmt} {f:Addr} {fd:FuncData} {ps:List Str} (F:Fun K x qual st f fd)
  (h:∀ (kV doc pm:Value) (an:Option Addr) (cdv ct:Value) (us:List Value),us.length=ps.length->bindArgs (fnOf x qual (abk st) (abf st) (aai st) .none kV doc pm an cdv ct) ⟨us,[]⟩=pure (ps.zip us)):Binds K fd ps []:=by
 obtain ⟨oc,od,kV,doc,pm,an,cdv,ct,osl,rfl,b,a⟩:=F.ex
 exact .all (h kV doc pm an cdv ct)
theorem arf {x qual:Str} {st:Stmt} {f:Addr} {oc:Value} {od an:Option Addr} {osl:Array (Option Value)} {kV doc pm cdv ct:Value} (l:K.lookup f=some ⟨oc,od,.func (fnOf x qual (abk st) (abf st) (aai st) .none kV doc pm an cdv ct),osl⟩)
  (c:codeIn K cdv qual=true) (k:keepIn K (.ref f)=true):Fun K x qual st f (fnOf x qual (abk st) (abf st) (aai st) .none kV doc pm an cdv ct):=⟨⟨oc,od,kV,doc,pm,an,cdv,ct,osl,rfl,l,c⟩,k⟩
end
theorem ado {A:Around} {k:Nat} (a:Room k A):A.units+1 < cLine:=Nat.lt_of_le_of_lt (Nat.add_le_add_left (by decide:1<=64) _) a.units
theorem aet {n:Nat} (h:n<=1000):n < sizeLine:=Nat.lt_of_le_of_lt h (by decide)
section
variable {X:Cx}
theorem pv (i:Nat) {x:Str} {a:Pos} (c:X.N[i]?=some x:=by rfl) (d:Vis X.env.scope x:=by first | exact Or.inl rfl | exact Or.inr (Or.inl rfl) | exact Or.inr (Or.inr rfl)) (hd:(x == ("__debug__" : Str))=false:=by decide)
  (b:(x == ("__classdict__" : Str))=false:=by decide):PE X (.Name x a) (tVar i):=ayx c d hd b
end
theorem iteF {A B:Prop} (h:B):if false=true then A else B:=by
 rw [aF0 aA9]
 exact h
theorem iteT {A B:Prop} (h:A):if true=true then A else B:=by
 rw [aE9 rfl]
 exact h
def Same (H H':Hp):Prop:=∀ b o,H b=some o->H' b=some o
theorem Same.refl (H:Hp):Same H H:=fun _ _ h=>h
theorem Same.trans {H d H2:Hp} (a:Same H d) (b:Same d H2):Same H H2:=fun c o h=>b c o (a c o h)
theorem Same.free {H H':Hp} (e:Same H H') {l:Addr} (h:H' l=Option.none):H l=Option.none:=by
 cases q:H l with
 | none=>rfl
 | some o =>
  rw [e l o q] at h
  cases h
theorem Same.seq {K:Frag} {H H':Hp} {a:Addr} {xs:List V} (e:Same H H') (h:SqL K H a xs):SqL K H' a xs:=by
 rcases h with (h | ⟨o,h⟩) | h
 ·exact .inl (.inl (e _ _ h))
 ·exact .inl (.inr ⟨o,e _ _ h⟩)
 ·exact .inr h
section
variable {X:Cx}
theorem arh:aa5 X (.builtin "len") (fun xs H Q=>∃ a kvs,xs=[V.ref a]/\H a=some (.dK kvs)/\Q (.int kvs.length) H):=by
 intro pins s σ H xs us Q I r h
 obtain ⟨a,kvs,rfl,ha,q⟩:=h
 obtain ⟨u,rfl,c⟩:=acf r
 cases c
 exact a04 I (.inl ha) fun t d b=>⟨.int kvs.length,H,b,⟨t,rfl⟩,q⟩
end
section
variable {κ:Type} [DecidableEq κ]
end
def clos (env:Env):List (Str × NameKind)->List (Str × Addr)->List (Str × Addr)
 | [],cs=>cs
 | (n,k) :: r,cs=>if k == NameKind.free then (match env.cells.lookup n with | some a=>clos env r ((n,a) :: cs) | none=>clos env r cs) else clos env r cs
theorem ah9 {env:Env} {sc:Scope} (h:∀ n,(n,NameKind.free)∈sc.names->∃ a,env.cells.lookup n=some a):closureFor sc env=pure (clos env sc.names []):=by
 have all:∀ (l:List (Str × NameKind)) (cs:List (Str × Addr)),(∀ n,(n,NameKind.free)∈l->∃ a,env.cells.lookup n=some a) ->
   (forIn l cs fun (x:Str × NameKind) (cs:List (Str × Addr))=>match x with | (name,kind)=>if kind == NameKind.free then (do let a ← cellOf env name;pure (ForInStep.yield ((name,a) :: cs))) else pure (ForInStep.yield cs))=(pure (clos env l cs):Sem _):=by
  intro l
  induction l with
  | nil=>intro cs _;rfl
  | cons p r ih =>
   intro cs c
   obtain ⟨n,k⟩:=p
   rw [List.forIn_cons]
   unfold clos
   dsimp only
   cases hk:(k == NameKind.free) with
   | false =>
    simp only [Bool.false_eq_true,if_false,pure_bind]
    exact ih cs fun m hm=>c m (aB4 _ hm)
   | true =>
    have f:k=NameKind.free:=by simpa using hk
    subst f
    obtain ⟨a,ha⟩:=c n aB7
    have d:cellOf env n=pure a:=by unfold cellOf;rw [ha]
    simp only [if_true,d,pure_bind,ha]
    exact ih _ fun m hm=>c m (aB4 _ hm)
 have e:=all sc.names [] h
 unfold closureFor
 refine Eq.trans (b:=(pure (clos env sc.names []):Sem _) >>= fun cs=>pure cs) ?_ (pure_bind _ _)
 exact congrArg (fun z:Sem (List (Str × Addr))=>z >>= fun cs=>pure cs) e
theorem aeu {env:Env} {x:Str} {c:Addr}:∀ {l:List (Str × NameKind)} {cs:List (Str × Addr)},(clos env l cs).lookup x=some c->env.cells.lookup x=some c\/cs.lookup x=some c
 | [],cs,h => .inr h
 | (n,k) :: r,cs,h=>by
  unfold clos at h
  by_cases hk:(k == NameKind.free)=true
  ·rw [aE9 hk] at h
   cases ha:env.cells.lookup n with
   | none=>rw [ha] at h;exact aeu h
   | some a =>
    rw [ha] at h
    rcases aeu h with e | e
    ·exact .inl e
    ·rw [aG3] at e
     cases hx:(x == n) with
     | true =>
      rw [hx] at e
      have:x=n:=by simpa using hx
      subst this
      cases e
      exact .inl ha
     | false=>rw [hx] at e;exact .inr e
  ·rw [aF0 hk] at h
   exact aeu h
theorem aev {env:Env} {x:Str}:∀ {l:List (Str × NameKind)} {cs:List (Str × Addr)},(∃ c,cs.lookup x=some c)->∃ c,(clos env l cs).lookup x=some c
 | [],cs,h=>h
 | (n,k) :: r,cs,h=>by
  unfold clos
  by_cases hk:(k == NameKind.free)=true
  ·rw [aE9 hk]
   cases ha:env.cells.lookup n with
   | none=>exact aev h
   | some a =>
    refine aev ?_
    rw [aG3]
    cases hx:(x == n) with
    | true=>exact ⟨_,rfl⟩
    | false=>exact h
  ·rw [aF0 hk]
   exact aev h
theorem aeh {env:Env} {x:Str} (h:∃ a,env.cells.lookup x=some a):∀ {l:List (Str × NameKind)} {cs:List (Str × Addr)},(x,NameKind.free)∈l->∃ c,(clos env l cs).lookup x=some c
 | [],_,hm=>absurd hm (by simp)
 | (n,k) :: r,cs,hm=>by
  rcases aA8.mp hm with e | hm
  ·cases e
   obtain ⟨a,ha⟩:=h
   unfold clos
   rw [aE9 (by rfl),ha]
   refine aev ⟨a,?_⟩
   rw [aG3]
   simp
  ·unfold clos
   by_cases hk:(k == NameKind.free)=true
   ·rw [aE9 hk]
    cases ha:env.cells.lookup n with
    | none=>exact aeh h hm
    | some a=>exact aeh h hm
   ·rw [aF0 hk]
    exact aeh h hm
theorem agd {env:Env} {x:Str}:∀ {names:List (Str × NameKind)},(∀ y∈names,y.2 ≠ .cell) ->
  ((names.map fun (n,k)=>if (k == NameKind.free && env.scope.kind == .function && env.kindOf n == some .cell) then (n,NameKind.cell) else (n,k)).lookup x=some .cell ∨
   (names.map fun (n,k)=>if (k == NameKind.free && env.scope.kind == .function && env.kindOf n == some .cell) then (n,NameKind.cell) else (n,k)).lookup x=some .free)->names.lookup x=some .free
 | [],_,h=>by rcases h with h | h <;> simp at h
 | (n,k) :: r,hc,h=>by
  have a:=@agd env x r fun y b=>hc y (aB4 _ b)
  rw [aG3]
  simp only [aD0] at h
  by_cases hq:(k == NameKind.free && env.scope.kind == .function && env.kindOf n == some .cell)=true
  ·rw [aE9 hq] at h
   have c:k=NameKind.free:=by
    have:=hq;simp only [aG5] at this;simpa using this.1.1
   subst c
   cases hx:(x == n) with
   | true=>rfl
   | false=>simp only [aG3,hx] at h;exact a h
  ·rw [aF0 hq] at h
   cases hx:(x == n) with
   | true =>
    simp only [aG3,hx] at h
    rcases h with h | h
    ·cases h;exact absurd rfl (hc (n,NameKind.cell) aB7)
    ·exact h
   | false=>simp only [aG3,hx] at h;exact a h
theorem aew {env:Env} {x:Str}:∀ {names:List (Str × NameKind)},names.lookup x=some .free ->
  ((names.map fun (n,k)=>if (k == NameKind.free && env.scope.kind == .function && env.kindOf n == some .cell) then (n,NameKind.cell) else (n,k)).lookup x=some .cell ∨
   (names.map fun (n,k)=>if (k == NameKind.free && env.scope.kind == .function && env.kindOf n == some .cell) then (n,NameKind.cell) else (n,k)).lookup x=some .free)
 | [],h=>by simp at h
 | (n,k) :: r,h=>by
  have a:=@aew env x r
  rw [aG3] at h
  simp only [aD0]
  by_cases hq:(k == NameKind.free && env.scope.kind == .function && env.kindOf n == some .cell)=true
  ·rw [aE9 hq]
   cases hx:(x == n) with
   | true=>left;simp [aG3,hx]
   | false=>rw [hx] at h;simp only [aG3,hx];exact a h
  ·rw [aF0 hq]
   cases hx:(x == n) with
   | true=>rw [hx] at h;right;simp only [aG3,hx];exact h
   | false=>rw [hx] at h;simp only [aG3,hx];exact a h
def Cx.comp (X:Cx) (N:List Str) (sc:Scope) (C:Addr) (s0:Shared) (H0:Hp) (ex:List Addr):Cx where
 prog:=X.prog
 w:=X.w
 K:=X.K
 mg:=X.mg
 base:=X.base
 A:=X.A
 N:=N
 s₀:=s0
 H₀:=H0
 env:=compEnvC sc (clos X.env sc.names []) C X.env
 outer:=X.stack
 stack:=X.stack
 ex:=ex
 fn:=fun _=>false
 calm:=X.calm
 pn:=[]
 xe:=fun _ _=>False
def pick (src:List (Option Nat)) (σ:St):St:=src.map fun o=>match o with | some j=>(σ[j]?).getD none | none=>none
structure LcOk (X:Cx) (N:List Str) (sc:Scope) (src:List (Option Nat)):Prop where
 kind:sc.kind=.function
 nocell:∀ y∈sc.names,y.2 ≠ .cell
 own:∀ y∈sc.names,y.2=.local->sc.names.lookup y.1=some .local
 outs:∀ y∈sc.names,y.2=.free->X.env.kindOf y.1=some .cell\/X.env.kindOf y.1=some .free
 len:src.length=N.length
 from':∀ (i j:Nat),src[i]?=some (some j)->∃ x,N[i]?=some x/\X.N[j]?=some x/\sc.names.lookup x=some .free
theorem LcOk.clo {X:Cx} {N:List Str} {sc:Scope} {src:List (Option Nat)} (L:LcOk X N sc src) (ok:X.Ok):closureFor sc X.env=pure (clos X.env sc.names []) :=
 ah9 fun n hn=>ok.has n (L.outs (n,.free) hn rfl)
theorem ats {X:Cx} {pins:List (Addr × Obj)} {σ:St} {H:Hp} {s:Shared} {N:List Str} {sc:Scope} {src:List (Option Nat)} {fp:List Addr} {n:Heap} {t':Nat}
  (L:LcOk X N sc src) (I:Inv X pins σ H s) (hf:∀ b∈fp,FpOk X pins H b) (d:∀ b∈fp,b < s.heap.objs.size)
  (hn:n.Ns s.heap.objs.size fun _=>none) (f:∀ b o,s.heap.get? b=some o->n.get? b=some o) :
  Inv (X.comp N sc s.heap.objs.size s H fp) [] (pick src σ) H { s with heap:=n,toks:=t' }:=by
 have look:∀ {x c},(clos X.env sc.names []).lookup x=some c->X.env.cells.lookup x=some c:=fun {x c} e=>by
  rcases aeu e with z | z
  ·exact z
  ·simp at z
 refine ⟨⟨I.ok.mod,L.kind,I.ok.glob,I.ok.blt,aA6 _,fun x y c w e2=>?_,fun x J=>?_,fun x c z _=>?_,I.ok.hd,I.ok.frames,.inl rfl,fun b hb=>⟨?_,fun x c e=>?_⟩,I.bs,aC9 I.ok.bsz I.sz,fun b o e hb=>?_,fun b hb z=>?_,I.stack,I.stkFree⟩,
  rfl,I.bare,Un.kept f,⟨_,hn,fun i x v w e2 P=>?_⟩,fun x c e=>?_,I.hok.fresh (aA6 _),fun x c e=>I.freeC x c (look e),fun p K=>?_,I.hok.kept f,?_⟩
 ·exact I.ok.inj x y c (look w) (look e2)
 ·have q:=agd (env:=X.env) (x:=x) L.nocell J
  exact aeh (I.ok.has x (L.outs (x,.free) (PySem.mem_of_lookup q) rfl)) (PySem.mem_of_lookup q)
 ·exact Bool.noConfusion z
 ·exact aB5 (d b hb)
 ·exact (hf b hb).2.2.2.2.1 x c (look e)
 ·rcases (hf b hb).2.2.2.1 with z | z
  ·exact I.ok.noex b o e z
  ·exact absurd (aC4 (aI5 e) (aC9 I.ok.bsz z)) (aF8 _)
 ·rcases aA8.mp (I.stkSub b z) with q | q
  ·exact (hf b hb).2.1 q
  ·exact (hf b hb).2.2.1 q
 ·unfold pick at e2
  rw [aA5] at e2
  cases q:src[i]? with
  | none=>rw [q] at e2;cases e2
  | some o =>
   rw [q] at e2
   cases o with
   | none=>cases e2
   | some j =>
    obtain ⟨y,C,G,h⟩:=L.from' i j q
    have A:N[i]?=some x:=w
    rw [A] at C
    cases C
    have M : σ[j]?=some (some v):=by
     cases q2 : σ[j]? with
     | none=>simp [q2] at e2
     | some z=>simp [q2] at e2;rw [e2]
    have d:=L.outs (x,.free) (PySem.mem_of_lookup h) rfl
    have g:Vis X.env.scope x:=by
     rcases d with z | z
     ·exact .inr (.inl z)
     ·exact .inr (.inr z)
    obtain ⟨m,_,F⟩:=I.loc
    obtain ⟨u,r,l⟩:=F j x v G M g
    refine ⟨u,r,.inr ⟨?_,?_⟩⟩
    ·exact aew (env:=X.env) h
    ·rcases l with ⟨z,_⟩ | ⟨_,c,B,oc,a,hd⟩
     ·rcases d with E | E <;> (rw [E] at z;cases z)
     ·obtain ⟨O,D⟩:=aeh (env:=X.env) ⟨c,B⟩ (PySem.mem_of_lookup h) (cs:=[])
      have:=look D
      rw [B] at this;cases this
      exact ⟨c,D,oc,f c oc a,hd⟩
 ·obtain ⟨v,oc,a,hd⟩:=I.cell x c (look e)
  exact ⟨v,oc,f c oc a,hd⟩
 ·exact absurd (show p∈([]:List (Addr × Obj)) from K) (by simp)
 ·show (pick src σ).length=N.length
  unfold pick
  rw [aA3]
  exact L.len
def PIf (X:Cx) (ifs:List Expr) (t:TT):Prop :=
 ∀ (pins:List (Addr × Obj)) (s:Shared) (σ:St) (H:Hp) (Q:Bool->Hp->Prop),Inv X pins σ H s->t σ H Q ->
  wpAny (model X.prog X.w) X.A (forIn ifs true fun c r=>if r=true then do let ok ← isTrue c X.env (eval c X.env);pure (ForInStep.yield ok) else pure (ForInStep.yield r)) (TP X pins σ Q) X.xe s
def tYes:TT:=fun _ H Q=>Q true H
theorem ab9 {X:Cx}:PIf X [] tYes:=fun _ _ _ H _ I h=>wpAny_tests_nil ⟨H,I,h⟩
theorem awn {X:Cx} {c:Expr} {t:TT} (h:PT X c t):PIf X [c] t:=fun pins s σ H Q I q=>wpAny_tests_one (h pins s σ H Q I q)
abbrev LW:=Nat->Nat->List V->St->Hp->Prop
def age (J:It) (g:TG) (tif:TT) (te:TE) (acc:Addr) (Qd:List V->Hp->Prop) (W:LW):Prop:=∀ (i m:Nat) (ys:List V) (σ:St) (H:Hp),W i m ys σ H->H acc=some (.lst ys)/\((J.stop i H/\Qd ys H)\/(J.go i H /\
 ∃ Nx:List V->St->Hp->Prop,(∀ ys' σ' H',Nx ys' σ' H'->∃ m',m' < m/\W (i+1) m' ys' σ' H')/\∀ x H2,J.yld i H x H2 ->
 g x σ H2 fun σ3 H3=>tif σ3 H3 fun b H4=>if b=true then te σ3 H4 fun y H5=>H5 acc=some (.lst ys)/\ys.length < sizeLine/\Nx (ys ++ [y]) σ3 (upd H5 acc (.lst (ys ++ [y]))) else Nx ys σ3 H4))
theorem ari {X:Cx} {tg v D:Expr} {C:List Expr} {sc:Scope} {O:Pos} {J:It} {fp:List Addr} {it:Addr} {tn:Nat->Heap->Prop} {g:TG} {P:TT} {te:TE} {a:Addr} {Qd:List V->Hp->Prop} {W:LW} {R:Result->Shared->Prop}
  (T:Turn X.prog X.w X.K tg J fp it tn) (hc:X.calm=true) (l:∀ e s,¬ X.xe e s) (hg:PG X tg g) (a1:PIf X C P) (he:PE X D te)
  (F:age J g P te a Qd W) (hR:∀ ys σ H s,Inv X [] σ H s->Qd ys H->R (.ok .next) s)
  {i m:Nat} {ys:List V} {σ:St} {H:Hp} {s:Shared} (I:Inv X [] σ H s) (st:tn i s.heap) (hf:∀ b∈fp,FpOk X [] H b) (w:W i m ys σ H) :
  codeAny (model X.prog X.w) X.A (.compLoop (.ListComp D [⟨tg,v,C,0⟩] sc O) 0 (.ref it) (.ref a) X.env) R s:=by
 have c:∀ {H':Hp},(∀ b∈fp,H' b=none)->∀ b∈fp,FpOk X [] H' b:=fun hn b hb=>⟨hn b hb,(hf b hb).2⟩
 refine codeAny_loop rfl (fun n j=>∃ i ys h H',Inv X [] h H' j/\tn i j.heap/\(∀ b∈fp,H' b=none)/\W i n ys h H') ?_ m ⟨i,ys,σ,H,I,st,fun b hb=>(hf b hb).1,w⟩
 rintro n s1 ⟨i,ys,f,U,I1,L,M,w1⟩
 show wpAny _ X.A ((compTurn (.ListComp D [⟨tg,v,C,0⟩] sc O) 0 (.ref it) (.ref a) X.env).onRaise (fun x=>do noteFrame x X.env;theTreesLotGoes x)) _ _ s1
 refine wpAny_noted ?_
 rw [compTurn_list]
 refine aI2 (wpAny_standAt (aI2 ?_))
 obtain ⟨a3,⟨stop,qd⟩ | ⟨go,Nx,S,step⟩⟩:=F i n ys f U w1
 ·refine thn (T.done X rfl rfl rfl hc i [] s1 f U _ I1 (c M) L stop) fun r s2 ⟨hr,I2⟩=>?_
  subst hr
  exact aI3 (hR ys f U s2 I2 qd)
 ·refine thn (T.item X rfl rfl rfl hc i [] s1 f U _ I1 (c M) L go) fun r s2 ⟨u,hr,h2⟩=>?_
  subst hr
  refine aI2 (thn h2 fun _ s3 ⟨x,H3,I3,r3,y3,E,a0⟩=>?_)
  have a2:=I3.pinned (c a0) (T.obj _ _ E)
  refine aI2 (aI9 (hg _ s3 f H3 x u _ a2 r3 (step x H3 y3)) (fun _ s4 ⟨B,H4,I4,q4⟩=>?_) fun e j z=>(l e j z).elim)
  have q:∀ {p:St} {Q:Hp} {G:Shared} {zs:List V},Inv X ([] ++ af9 fp s3.heap) p Q G->(∃ Z,Z < n/\W (i+1) Z zs p Q)->∃ m,m < n/\∃ i ys h H',Inv X [] h H' G/\tn i G.heap/\(∀ b∈fp,H' b=none)/\W i m ys h H':=fun {p Q G zs} N w7=>by
   obtain ⟨Z,hm,w7⟩:=w7
   refine ⟨Z,hm,i+1,zs,p,Q,N.unpinned,T.keep _ _ _ E fun b hb o e=>(N.pin (b,o) (aB2 _ (aB2 _ (adz hb e)))).1,fun b hb=>?_,w7⟩
   obtain ⟨o,e,d⟩:=T.obj _ _ E b hb
   exact (N.pin (b,o) (aB2 _ (aB2 _ (adz hb e)))).2.1
  refine aI2 (aI9 (a1 _ s4 B H4 _ I4 q4) (fun b s5 ⟨H5,I5,Y⟩=>?_) fun e j z=>(l e j z).elim)
  cases b with
  | false =>
   rw [aF0 aA9] at Y
   exact aI3 ⟨rfl,q I5 (S _ _ _ Y)⟩
  | true =>
   rw [aE9 rfl] at Y
   refine aI2 (aI2 (aI9 (he _ s5 B H5 _ I5 Y) (fun yv s6 ⟨y,H6,I6,r6,a6,l6,w6⟩=>?_) fun e j z=>(l e j z).elim))
   have ap:=abv (X:=X) _ s6 B H6 (.ref a) [y] (.ref a) [yv] (fun _ H'=>H'=upd H6 a (.lst (ys ++ [y]))) I6 rfl (.cons r6 .nil) ⟨a,ys,y,rfl,rfl,a6,l6,rfl⟩
   refine aI2 (aI9 ap (fun _ G ⟨v7,Q,N,_,e7⟩=>?_) fun e j z=>(l e j z).elim)
   subst e7
   exact aI3 (aI3 ⟨rfl,q N (S _ _ _ w6)⟩)
def tLC (src:List (Option Nat)) (wi:TI) (g:TG) (tif:TT) (te:TE):TE:=fun σ H Q=>wi σ H fun J H1=>∀ acc,H1 acc=none->∃ W:LW,(∃ m,W 0 m [] (pick src σ) (upd H1 acc (.lst [])))/\age J g tif te acc (fun _ H'=>Q (.ref acc) H') W
section
variable {X:Cx} {N:List Str} {tg iter elt:Expr} {ifs:List Expr} {sc:Scope} {src:List (Option Nat)} {wi:TI} {g:TG} {tif:TT} {te:TE} {pos:Pos}
theorem awo (U:X.calm=true) (L:LcOk X N sc src) (hg:∀ C s0 B ex,PG (X.comp N sc C s0 B ex) tg g) (R:∀ C s0 B ex,PIf (X.comp N sc C s0 B ex) ifs tif) (he:∀ C s0 B ex,PE (X.comp N sc C s0 B ex) elt te)
  {pins:List (Addr × Obj)} {d:Shared} {σ:St} {H3:Hp} {Q:VK} (l:Inv X pins σ H3 d) {it a:Addr} {fp:List Addr} {J:It} {tn:Nat->Heap->Prop} (T:Turn X.prog X.w X.K tg J fp it tn) (F:tn 0 d.heap) (i:∀ b∈fp,FpOk X pins H3 b)
  {W:LW} {Y:Nat} (w0:W 0 Y [] (pick src σ) H3) (u:age J g tif te a (fun _ H'=>Q (.ref a) H') W) (use:Option (Value->Sem Unit)) (P:Value->Shared->Prop)
  (hP:∀ C H' f m,Inv X pins σ H' f->Q (.ref a) H'->f.heap.Ns C m->H' C=none->C ≠ X.env.locals->(C∈X.ex\/X.s₀.heap.objs.size<=C)->(∀ x c,X.env.cells.lookup x=some c->c ≠ C)->(∀ p∈X.pn ++ pins,p.1 ≠ C) ->
   compPost (model X.prog X.w) X.A X.xe use P (.ref a) C (.ok .next) f) :
  wpAny (model X.prog X.w) X.A (newFunctionEnv sc X.env.globals (clos X.env sc.names []) [] X.env.qual none .none (some X.env)) (fun h q =>
    codeAny (model X.prog X.w) X.A (.compStart (.ListComp elt [⟨tg,iter,ifs,0⟩] sc pos) 0 (.ref it) (.ref a) { h with scope:=relabel sc X.env }) (compPost (model X.prog X.w) X.A X.xe use P (.ref a) h.locals) q) X.xe d:=by
 refine wpAny_newFunctionEnv L.nocell (by intro y hy;simp at hy) (fun O E r=>?_) L.kind
 have I:∀ b∈fp,b < d.heap.objs.size:=fun b hb=>by
  obtain ⟨o,M,_⟩:=T.obj _ _ F b hb
  exact aI5 M
 have n:∀ b o,d.heap.get? b=some o->O.get? b=some o:=fun b o e=>r.extBut b o (aB5 (aI5 e)) (aI4 _ e)
 have G:=ats (t':=d.toks+([]:List (Str × Value)).length) L l i I (by simpa using E) n
 have s:tn 0 O:=T.keep _ _ _ F fun b _ o e=>n b o e
 have S:∀ b∈fp,FpOk (X.comp N sc d.heap.objs.size d H3 fp) [] H3 b:=fun b hb =>
  ⟨(i b hb).1,(G.ok.exf b hb).1,G.ok.exfs b hb,.inl hb,(G.ok.exf b hb).2,fun p H=>absurd (show p∈([]:List (Addr × Obj)) from H) (by simp)⟩
 have fin:∀ (ys:List V) D H' f,Inv (X.comp N sc d.heap.objs.size d H3 fp) [] D H' f->Q (.ref a) H'->compPost (model X.prog X.w) X.A X.xe use P (.ref a) d.heap.objs.size (.ok .next) f:=fun ys D H' f j Z=>by
  have Jo:Inv X pins σ H' f:=l.call' (ch:=fp) j.os j.base j.hok j.bare fun b hb=>⟨(i b hb).2.2.2.1,(i b hb).2.1,(i b hb).2.2.2.2.1,(i b hb).2.2.2.2.2⟩
  obtain ⟨m,hn,_⟩:=j.loc
  refine hP _ H' f m Jo Z hn j.free (Nat.ne_of_gt l.lt) (.inr l.sz) (fun x c e z=>?_) fun p H z=>?_
  ·obtain ⟨v,o,M,_⟩:=l.cell x c e
   exact absurd (aI5 M) (by rw [z];exact aF8 _)
  ·exact absurd (aI5 (l.pin p H).1) (by rw [z];exact aF8 _)
 have loop:codeAny (model X.prog X.w) X.A (.compLoop (.ListComp elt [⟨tg,iter,ifs,0⟩] sc pos) 0 (.ref it) (.ref a) (X.comp N sc d.heap.objs.size d H3 fp).env)
   (compPost (model X.prog X.w) X.A X.xe use P (.ref a) d.heap.objs.size) { d with heap:=O,toks:=d.toks+([]:List (Str × Value)).length } :=
  ari (X:=X.comp N sc d.heap.objs.size d H3 fp) T U (fun _ _ z=>z) (hg _ _ _ _) (R _ _ _ _) (he _ _ _ _) u fin G s S w0
 exact codeAny_compStart_list loop (T.self _ 0 _ _ _ s loop)
theorem alz (B:X.calm=true) (L:LcOk X N sc src) (hi:PI X tg iter wi) (G:∀ C s0 a ex,PG (X.comp N sc C s0 a ex) tg g) (l:∀ C s0 a ex,PIf (X.comp N sc C s0 a ex) ifs tif) (R:∀ C s0 a ex,PE (X.comp N sc C s0 a ex) elt te)
  {pins:List (Addr × Obj)} {s:Shared} {σ:St} {H:Hp} {Q:VK} (I:Inv X pins σ H s) (h:tLC src wi g tif te σ H Q) (use:Option (Value->Sem Unit)) (P:Value->Shared->Prop)
  (S:∀ j C H' n m,Inv X pins σ H' n->Q (.ref j) H'->n.heap.Ns C m->H' C=none->C ≠ X.env.locals->(C∈X.ex\/X.s₀.heap.objs.size<=C)->(∀ x c,X.env.cells.lookup x=some c->c ≠ C)->(∀ p∈X.pn ++ pins,p.1 ≠ C) ->
   compPost (model X.prog X.w) X.A X.xe use P (.ref j) C (.ok .next) n)
  (F:∀ x,foldedSetIterable iter X.env x=pure x) :
  wpAny (model X.prog X.w) X.A (comprehension (.ListComp elt [⟨tg,iter,ifs,0⟩] sc pos) sc X.env (firstIterPos [⟨tg,iter,ifs,0⟩] pos) (newList []) false (eval iter X.env) use) P X.xe s:=by
 refine wpAny_comprehension_free rfl F (L.clo I.ok) L.kind L.own (thn (hi pins s σ H _ I h) fun v s1 E=>thn E fun K s2 D=>?_)
 obtain ⟨it,fp,tn,J,H2,e,r,T,d,y,M⟩:=D
 subst e
 have f:H2 s2.heap.objs.size=none:=r.hok.fresh (aA6 _)
 obtain ⟨W,⟨U,O⟩,i⟩:=M s2.heap.objs.size f
 have q:∀ b∈fp,b < s2.heap.objs.size:=fun b hb=>by
  obtain ⟨o,z,_⟩:=T.obj _ _ d b hb
  exact aI5 z
 refine aJ0 ?_
 refine awo B L G l R (H3:=upd H2 s2.heap.objs.size (.lst [])) ?_ T ?_ ?_ O i use P (S _)
 ·exact r.laid (t':=s2.toks) (fun b u e=>aI4 _ e) (aA6 _) ⟨aF4 _,[],0,.nil,aI6 _ rfl⟩
 ·exact T.keep _ _ _ d fun b _ o e=>aI4 _ e
 ·exact fun b hb=>⟨by rw [aad (aB5 (q b hb))];exact (y b hb).1,(y b hb).2⟩
theorem adp (i:X.calm=true) (L:LcOk X N sc src) (hi:PI X tg iter wi) (p:∀ C s0 a ex,PG (X.comp N sc C s0 a ex) tg g) (c:∀ C s0 a ex,PIf (X.comp N sc C s0 a ex) ifs tif) (w:∀ C s0 a ex,PE (X.comp N sc C s0 a ex) elt te)
  (l:∀ x,foldedSetIterable iter X.env x=pure x:=by intro _;rfl):PE X (.ListComp elt [⟨tg,iter,ifs,0⟩] sc pos) (tLC src wi g tif te):=by
 intro pins s σ H Q I h
 rw [eval_ListComp]
 refine alz i L hi p c w I h none _ (fun f C H' v m J q hn j n r d u=>?_) l
 refine ⟨m,hn,fun h' sb=>⟨.ref f,H',?_,rfl,q⟩⟩
 exact J.turned (t':=v.toks) (fun b o hb e=>sb.extBut b o hb e) j n r d u
end
section
variable {X:Cx} {N:List Str} {tg iter elt:Expr} {ifs:List Expr} {sc:Scope} {src:List (Option Nat)} {wi:TI} {g:TG} {tif:TT} {te:TE} {pos spos px:Pos}
theorem al0 {i:Nat} {x:Str} (F:X.N.Nodup) (u:X.N[i]?=some x) (O:Loc X.env.scope x) (B:X.calm=true) (L:LcOk X N sc src) (hi:PI X tg iter wi) (K:∀ C s0 c ex,PG (X.comp N sc C s0 c ex) tg g)
  (r:∀ C s0 c ex,PIf (X.comp N sc C s0 c ex) ifs tif) (R:∀ C s0 c ex,PE (X.comp N sc C s0 c ex) elt te)
  (j:swapsWith (.ListComp elt [⟨tg,iter,ifs,0⟩] sc pos) (some (.Name x px)) spos.line X.env=pure true:=by rfl)
  (hf:X.fn x=true\/X.env.scope.names.lookup x=some .local:=by first | exact .inl rfl | exact .inr rfl | assumption)
  (G:∀ x,foldedSetIterable iter X.env x=pure x:=by intro _;rfl):PS X (.Assign [.Name x px] (.ListComp elt [⟨tg,iter,ifs,0⟩] sc pos) spos) (tAsg (tLC src wi g tif te) (abp i)):=by
 intro pins s σ H D I h
 rw [exec_Assign_Name_used _ _ _ _ j]
 refine aI2 (wpAny_standAt (aI2 ?_))
 show wpAny _ X.A (do let _ ← comprehension (.ListComp elt [⟨tg,iter,ifs,0⟩] sc pos) sc X.env _ (newList []) false (eval iter X.env) (some (assign (.Name x px) X.env))) _ _ s
 refine aI2 (aI9 (alz B L hi K r R I h (some (assign (.Name x px) X.env)) (fun _ w=>SP X pins D .next w) (fun f C H' w m J q hn E y p d P=>?_) G) (fun _ w M=>aI3 (aI3 M)) fun _ _ e=>e)
 show wpAny _ X.A (assign (.Name x px) X.env (.ref f)) _ _ _
 refine wpAny_assign_Name (aj1 J F u O (v:=.ref f) rfl (fun s2 Q ⟨a,sb,ha⟩=>?_) hf)
 have l:C ≠ a:=by
  rcases ha with z | z
  ·rw [z];exact y
  ·exact (d x a z).symm
 refine ⟨m,hn.sameBut sb l,fun h' n=>⟨_,H',?_,q⟩⟩
 exact Q.turned (t':=s2.toks) (fun b o hb e=>n.extBut b o hb e) E y p d P
end
section
variable {g:TG} {tif:TT} {te:TE} {acc:Addr} {Qd:List V->Hp->Prop} {σ0:St} {H0:Hp}
theorem att {lo:Int} {n:Nat} (c:Nat->List V->St->Hp->Prop) (h:c 0 [] σ0 H0) (ha:∀ i ys σ H,c i ys σ H->H acc=some (.lst ys))
  (l:∀ i ys σ H,i < n->c i ys σ H->g (.int (lo+i)) σ H fun a H3=>tif a H3 fun b d=>if b=true then te a d fun y f=>f acc=some (.lst ys)/\ys.length < sizeLine/\c (i+1) (ys ++ [y]) a (upd f acc (.lst (ys ++ [y]))) else c (i+1) ys a d)
  (hd:∀ ys σ H,c n ys σ H->Qd ys H):∃ W:LW,(∃ m,W 0 m [] σ0 H0)/\age (Itr lo n) g tif te acc Qd W:=by
 refine ⟨fun i m ys σ H=>m=n - i/\i<=n/\c i ys σ H,⟨n,by simp,aF4 _,h⟩,?_⟩
 rintro i m ys σ H ⟨rfl,hi,p⟩
 refine ⟨ha i ys σ H p,?_⟩
 by_cases hlt:i < n
 ·refine .inr ⟨hlt,c (i+1),fun j q H' o=>⟨n - (i+1),by lia,rfl,hlt,o⟩,fun x H' y=>?_⟩
  obtain ⟨e,y⟩:=y
  subst e y
  exact l i ys σ _ hlt p
 ·have e:i=n:=by lia
  subst e
  exact .inl ⟨aA6 _,hd ys σ H p⟩
end
section
variable {X:Cx} {N:List Str} {t1 i1 t2 i2 elt:Expr} {f1 f2:List Expr} {sc:Scope} {src:List (Option Nat)} {wi wi2:TI} {g g2:TG} {tif tif2:TT} {te:TE} {pos:Pos}
end
def rLen (K:Frag):List V->Hp->VK->Prop:=fun xs H Q=>∃ p ys,xs=[.ref p]/\(SqL K H p ys\/SqT K H p ys)/\Q (.int ys.length) H
theorem abt {X:Cx}:aa5 X (.builtin "len") (rLen X.K):=alq
def ala:List V->Hp->VK->Prop:=fun xs H Q=>∃ i j,xs=[.int i,.int j]/\Q (.int (if j > i then j else i)) H
def alb:List V->Hp->VK->Prop:=fun xs H Q=>∃ i j,xs=[.int i,.int j]/\Q (.int (if j < i then j else i)) H
theorem acg {X:Cx} (a:X.calm=true):aa5 X (.builtin "max") ala:=aqx a
theorem ach {X:Cx} (a:X.calm=true):aa5 X (.builtin "min") alb:=aqy a
def alc:List V->Hp->VK->Prop:=fun xs H Q=>(∃ i,xs=[.int i]/\Q (.int i) H)\/∃ k,xs=[.bl k]/\Q (.int (if k then 1 else 0)) H
theorem aia {X:Cx}:aa5 X (.type "int") alc:=aqz
section
variable {σ:St} {H:Hp} {D:Ends} {K:Frag}
theorem ay9 {t u:TS} (h:t { D with nx:=u D } σ H):tSeq t u D σ H:=h
theorem aza {te:TE} {g:TG} (h:te σ H fun x a=>g x σ a D.nx):tAsg te g D σ H:=h
theorem azb {te:TE} (h:te σ H D.rt):tRet te D σ H:=h
theorem awp {te:TE} (h:te σ H fun _ a=>D.nx σ a):apc te D σ H:=h
theorem awq (h:D.nx σ H):apb D σ H:=h
theorem azc {c:TT} {t u:TS} (h:c σ H fun b a=>if b=true then t D σ a else u D σ a):tIfS c t u D σ H:=h
theorem ai9 {i:Nat} {v:V} {Q:St->Hp->Prop} (h:Q (σ.set i (some v)) H):abp i v σ H Q:=h
theorem awr {to a:TE} {t:TSet} {v:V} {Q:St->Hp->Prop} (h:to σ H fun o b=>a σ b fun i H2=>t o i v H2 fun H3=>Q σ H3):gSub to a t v σ H Q:=h
theorem arj {i:Nat} {v:V} {Q:VK} (a : σ[i]?=some (some v)) (h:Q v H):tVar i σ H Q:=⟨v,a,h⟩
theorem go_c {v:V} {Q:VK} (h:Q v H):tC v σ H Q:=h
theorem a05 {r:R2} {a b:TE} {Q:VK} (h:a σ H fun x c=>b σ c fun y H2=>r x y H2 Q):tOp r a b σ H Q:=h
theorem aws {t:TE} {Q:Bool->Hp->Prop} (h:t σ H fun x H'=>∃ k,x=.bl k/\Q k H'):aph t σ H Q:=h
theorem a06 {k:Bool} {Q:Bool->Prop} (h:Q k):∃ a,V.bl k=.bl a/\Q a:=⟨k,rfl,h⟩
theorem azd {t u:TT} {Q:Bool->Hp->Prop} (h:t σ H fun c a=>if c=true then u σ a Q else Q false a):tAnd t u σ H Q:=h
theorem aja {a:TE} {tr:TA} {Q:List V->Hp->Prop} (h:a σ H fun x b=>tr σ b fun xs H2=>Q (x :: xs) H2):aa2 a tr σ H Q:=h
theorem agf {Q:List V->Hp->Prop} (h:Q [] H):tNil σ H Q:=h
theorem aze {t:TA} {Q:VK} (h:t σ H fun xs a=>xs.length<=sizeLine/\∀ p,a p=none->Q (.ref p) (upd a p (.tup xs))):tTup t σ H Q:=h
theorem ark {t:TA} {Q:VK} (h:t σ H fun xs a=>xs.length<=sizeLine/\∀ p,a p=none->Q (.ref p) (upd a p (.lst xs))):tLst t σ H Q:=h
theorem a07 {r:List V->Hp->VK->Prop} {t:TA} {Q:VK} (h:t σ H fun vs a=>r vs a Q):tCB r t σ H Q:=h
theorem awt {sp:Sp} {E:XK} {t:TA} {Q:VK} (h:t σ H fun vs a=>sp vs a Q E):abq sp [] E t σ H Q:=by
 unfold abq
 simp only [aE5]
 exact h
theorem go_I {C:Int->Int->Prop} {g:Int->Int->V} {i j:Int} {Q:VK} (a:C i j) (h:Q (g i j) H):rI C g (.int i) (.int j) H Q:=⟨i,j,rfl,rfl,a,h⟩
theorem a08 {g:Int->Int->V} {i j:Int} {Q:VK} (h:Q (g i j) H):rI0 g (.int i) (.int j) H Q:=⟨i,j,rfl,rfl,h⟩
theorem arl {i j:Int} {Q:VK} (h:Q (.bl (decide (i=j))) H):rEq (.int i) (.int j) H Q:=by
 have e:decide (V.int i=V.int j)=decide (i=j):=by rw [agx];exact Bool.beq_eq_decide_eq i j
 exact ⟨rfl,by rw [e];exact h⟩
theorem azf {i j:Int} {Q:VK} (h:Q (.bl (!decide (i=j))) H):rNe (.int i) (.int j) H Q:=by
 have e:decide (V.int i=V.int j)=decide (i=j):=by rw [agx];exact Bool.beq_eq_decide_eq i j
 exact ⟨rfl,by rw [e];exact h⟩
theorem azg {a:Addr} {xs:List V} {i:Int} {v:V} {Q:VK} (ha:H a=some (.lst xs)) (b:atI xs i=some v) (h:Q v H):rIxL K (.ref a) (.int i) H Q:=⟨a,xs,i,v,rfl,rfl,SqL.of ha,b,h⟩
theorem azh {a:Addr} {xs:List V} {i:Int} {v:V} {Q:VK} (ha:H a=some (.tup xs)) (b:atI xs i=some v) (h:Q v H):rIxT K (.ref a) (.int i) H Q:=⟨a,xs,i,v,rfl,rfl,SqT.of ha,b,h⟩
theorem an9 {a:Addr} {xs:List V} {k:Int} {j:Nat} {v:V} {Q:Hp->Prop} (ha:H a=some (.lst xs)) (b:ixN xs.length k=some j) (h:Q (upd H a (.lst (xs.set j v)))):apr (.ref a) (.int k) v H Q:=⟨a,xs,k,j,rfl,rfl,ha,b,h⟩
theorem aex {a:Addr} {xs:List V} {y:V} {Q:VK} (ha:H a=some (.lst xs)) (b:xs.length < sizeLine) (h:Q .non (upd H a (.lst (xs ++ [y])))):ad4 (.ref a) [y] H Q:=⟨a,xs,y,rfl,rfl,ha,b,h⟩
theorem arm {a b:Addr} {xs c:List V} {Q:VK} (ha:H a=some (.lst xs)) (hb:H b=some (.lst c)) (d:xs.length+c.length<=sizeLine) (h:Q .non (upd H a (.lst (xs ++ c)))):ai7 (.ref a) [.ref b] H Q:=⟨a,b,xs,c,rfl,rfl,ha,hb,d,h⟩
theorem azi {r:V->List V->Hp->VK->Prop} {to:TE} {t:TA} {Q:VK} (h:to σ H fun x a=>tyV K "list" x a/\t σ a fun xs H2=>r x xs H2 Q):tBM K "list" r to t σ H Q:=h
theorem azj {a b:Addr} {xs c:List V} {Q:VK} (ha:H a=some (.lst xs)) (hb:H b=some (.lst c)) (d:xs.length+c.length<=sizeLine) (h:∀ p,H p=none->Q (.ref p) (upd H p (.lst (xs ++ c)))):rCat (.ref a) (.ref b) H Q:=⟨a,b,xs,c,rfl,rfl,ha,hb,d,h⟩
theorem aoa {a:Addr} {xs:List V} {Q:VK} (ha:H a=some (.lst xs)) (h:Q (.int xs.length) H):rLen K [.ref a] H Q:=⟨a,xs,rfl,.inl (SqL.of ha),h⟩
theorem awu {a:Addr} {xs:List V} {Q:VK} (ha:H a=some (.tup xs)) (h:Q (.int xs.length) H):rLen K [.ref a] H Q:=⟨a,xs,rfl,.inr (SqT.of ha),h⟩
theorem aob {i j:Int} {Q:VK} (h:Q (.int (if j > i then j else i)) H):ala [.int i,.int j] H Q:=⟨i,j,rfl,h⟩
theorem aoc {i j:Int} {Q:VK} (h:Q (.int (if j < i then j else i)) H):alb [.int i,.int j] H Q:=⟨i,j,rfl,h⟩
theorem aod {k:Bool} {Q:VK} (h:Q (.int (if k then 1 else 0)) H):alc [.bl k] H Q:=.inr ⟨k,rfl,h⟩
theorem ajb {c:Prop} [Decidable c] {A B:Prop} (a:c) (h:A):if decide c=true then A else B:=by rw [aD6 a];exact iteT h
theorem ajc {c:Prop} [Decidable c] {A B:Prop} (a:¬ c) (h:B):if decide c=true then A else B:=by rw [aD5 a];exact iteF h
theorem adu {c:Prop} [Decidable c] {A B:Prop} (b:c->A) (a:¬ c->B):if decide c=true then A else B:=by
 by_cases hc:c
 ·exact ajb hc (b hc)
 ·exact ajc hc (a hc)
theorem awv {c:Prop} [Decidable c] {A B:Prop} (b:¬ c->A) (a:c->B):if (!decide c)=true then A else B:=by
 by_cases hc:c
 ·rw [aD6 hc];exact iteF (a hc)
 ·rw [aD5 hc];exact iteT (b hc)
theorem at0 {x:V} {xs:List V}:atI (x :: xs) 0=some x:=ad3 (j:=0) rfl
theorem at1 {x y:V} {xs:List V}:atI (x :: y :: xs) 1=some y:=ad3 (j:=1) rfl
theorem at2 {x y z:V} {xs:List V}:atI (x :: y :: z :: xs) 2=some z:=ad3 (j:=2) rfl
theorem ixN0 {n:Nat}:ixN (n+1) 0=some 0:=by unfold ixN;rw [aE9 (by decide),aE9 (by lia)];rfl
theorem ixN1 {n:Nat}:ixN (n+2) 1=some 1:=by unfold ixN;rw [aE9 (by decide),aE9 (by lia)];rfl
theorem ixN2 {n:Nat}:ixN (n+3) 2=some 2:=by unfold ixN;rw [aE9 (by decide),aE9 (by lia)];rfl
end
structure CallOk (P:Program) (w:World) (K:Frag) (mg:Str->Option Value) (base:Heap) (x:Str) (k:Nat) (ps:List Str) (sp:Sp) (f:Addr) (fd:FuncData):Prop where
 ok:FnOk P w K mg base CX0 k f fd ps sp
 mgx:mg x=some (.ref f)
 kp:keepIn K (.ref f)=true
 bd:Binds K fd ps []
def Can (P:Program) (w:World) (K:Frag) (mg:Str->Option Value) (base:Heap) (x:Str) (k:Nat) (ps:List Str) (sp:Sp):Prop:=∃ f fd,CallOk P w K mg base x k ps sp f fd
structure DefAt (K:Frag) (mg:Str->Option Value) (x:Str) (st:Stmt) (ps:List Str) (f:Addr) (fd:FuncData):Prop where
 fn:Fun K x x st f fd
 mgx:mg x=some (.ref f)
 bd:Binds K fd ps []
theorem DefAt.can {P:Program} {w:World} {K:Frag} {mg:Str->Option Value} {base:Heap} {x:Str} {st:Stmt} {k:Nat} {ps:List Str} {sp:Sp} {f:Addr} {fd:FuncData} (D:DefAt K mg x st ps f fd) (ok:FnOk P w K mg base CX0 k f fd ps sp):Can P w K mg base x k ps sp :=
 ⟨f,fd,ok,D.mgx,D.fn.kp,D.bd⟩
section
variable {X:Cx} {k j:Nat} {ps:List Str} {sp:Sp} {x:Str} {p pos:Pos} {e:Expr} {es:List Expr} {t:TA}
theorem aag (F:Can X.prog X.w X.K X.mg X.base x k ps sp) (c:Room j X.A) (ha:PA X (e :: es) t) (h:k<=j:=by decide) (d:Gl X x:=by rfl) (a:(x == ("__debug__" : Str))=false:=by decide)
  (g:starEach (e :: es) X.env=(false,eval e X.env) :: starEach es X.env:=by rfl) (b:(backTo pos (starEach es X.env)).any (·.1)=false:=by rfl) :
  PE X (.Call (.Name x p) (e :: es) [] pos) (abq sp [] E0 t):=by
 obtain ⟨f,fd,C⟩:=F
 exact awf C.ok (c.mono h) d C.mgx C.kp C.bd .nil ak9 ha a g b
end
theorem ab0 {X:Cx} {N:List Str} {sc:Scope} {src:List (Option Nat)} (h:sc.kind=.function) (g:sc.names.all (fun y=>y.2 != .cell)=true) (b:sc.names.all (fun y=>y.2 != .local || sc.names.lookup y.1 == some .local)=true)
  (c:sc.names.all (fun y=>y.2 != .free || X.env.kindOf y.1 == some .cell || X.env.kindOf y.1 == some .free)=true) (f:src.length=N.length)
  (d:(List.range src.length).all (fun i=>match src[i]? with | some (some j)=>(match N[i]?,X.N[j]? with | some x,some y=>x == y && sc.names.lookup x == some .free | _,_=>false) | _=>true)=true):LcOk X N sc src:=by
 refine ⟨h,fun y a e=>?_,fun y a e=>?_,fun y a e=>?_,f,fun i j e=>?_⟩
 ·have:=aE8.mp g y a
  rw [e] at this
  exact absurd this (by decide)
 ·have:=aE8.mp b y a
  rw [e] at this
  simpa using this
 ·have:=aE8.mp c y a
  rw [e] at this
  simpa using this
 ·have hi:i < src.length:=(aA1.mp e).1
  have:=aE8.mp d i (aB8.mpr hi)
  rw [e] at this
  dsimp only at this
  cases h7:N[i]? with
  | none=>rw [h7] at this;cases this
  | some x =>
   cases h8:X.N[j]? with
   | none=>rw [h7,h8] at this;cases this
   | some y =>
    rw [h7,h8] at this
    simp only [aG5] at this
    have l:x=y:=by simpa using this.1
    subst l
    exact ⟨x,rfl,rfl,by simpa using this.2⟩
section
variable {σ:St} {H:Hp} {D:Ends} {K:Frag}
def ForW (J:It) (g:TG) (tb:TS) (D:Ends) (σ:St) (H1:Hp):Prop:=∃ W:Nat->Nat->St->Hp->Prop,(∃ m,W 0 m σ H1)/\∀ i m σ H,W i m σ H ->
 (J.stop i H/\D.nx σ H)\/(J.go i H/\∃ N:St->Hp->Prop,(∀ σ' H',N σ' H'->∃ m',m' < m/\W (i+1) m' σ' H')/\∀ x H',J.yld i H x H'->g x σ H' fun σ2 H2=>tb { D with nx:=N,ct:=N,bk:=D.nx } σ2 H2)
theorem azk {b:TI} {g:TG} {a:TS} (h:b σ H fun J c=>ForW J g a D σ c):tFor b g a D σ H:=h
def LcW (J:It) (g:TG) (tif:TT) (te:TE) (σ0:St) (Q:VK) (H1:Hp):Prop:=∀ acc,H1 acc=none->∃ W:LW,(∃ m,W 0 m [] σ0 (upd H1 acc (.lst [])))/\age J g tif te acc (fun _ H'=>Q (.ref acc) H') W
theorem a09 {src:List (Option Nat)} {b:TI} {g:TG} {a:TT} {te:TE} {Q:VK} (h:b σ H fun J c=>LcW J g a te (pick src σ) Q c):tLC src b g a te σ H Q:=h
def avw (R:It->Hp->Prop):List V->Hp->Prop:=fun vs H1=>∃ j:Int,vs=[.int j]/\-(2 ^ 62)<=j/\j < 2 ^ 62/\R (Itr 0 j.toNat) H1
theorem atu {a:TA} {R:It->Hp->Prop} (h:a σ H (avw R)):ape a σ H R:=h
theorem aoe {R:It->Hp->Prop} {j:Int} (b:0<=j) (a:j < 2 ^ 62) (h:R (Itr 0 j.toNat) H):avw R [.int j] H:=⟨j,rfl,by lia,a,h⟩
theorem azl {a:Addr} {xs:List V} {i:Int} {v:V} {Q:VK} (ha:SqL K H a xs) (b:atI xs i=some v) (h:Q v H):rIxL K (.ref a) (.int i) H Q:=⟨a,xs,i,v,rfl,rfl,ha,b,h⟩
theorem aof {a:Addr} {xs:List V} {Q:VK} (ha:SqL K H a xs) (h:Q (.int xs.length) H):rLen K [.ref a] H Q:=⟨a,xs,rfl,.inl ha,h⟩
theorem azm {a:Addr} {xs:List V} {R:Prop} (ha:H a=some (.lst xs)) (h:R):tyV K "list" (.ref a) H/\R:=⟨.inl ⟨rfl,_,SqL.of ha⟩,h⟩
theorem al1 {Q:Bool->Hp->Prop} (h:Q true H):tYes σ H Q:=h
theorem atv {a:Addr} {xs:List V} {i:Int} {k:Nat} {y:V} {Q:VK} (ha:H a=some (.lst xs)) (d : -(2 ^ 63)<=i) (b:i < 2 ^ 63) (c:seqIndex? i xs.length=some k) (f:xs[k]?=some y) (h:Q y (upd H a (.lst (xs.eraseIdx k)))):alt (.ref a) [.int i] H Q :=
 ⟨a,xs,i,k,y,rfl,rfl,ha,d,b,c,f,h⟩
end
end L2
namespace L2
open PySem
theorem aca:bootBuiltins "len" = some (.builtin "len"):=by decide +kernel
theorem acb:bootBuiltins "max" = some (.builtin "max"):=by decide +kernel
theorem adv:bootBuiltins "min" = some (.builtin "min"):=by decide +kernel
theorem arn:bootBuiltins "sum" = some (.builtin "sum"):=by decide +kernel
theorem ac6:bootBuiltins "sorted" = some (.builtin "sorted"):=by decide +kernel
theorem acy:bootBuiltins "isinstance" = some (.builtin "isinstance"):=by decide +kernel
theorem aro:bootBuiltins "all" = some (.builtin "all"):=by decide +kernel
theorem al2:bootBuiltins "int" = some (.type "int"):=by decide +kernel
theorem ad5:bootBuiltins "list" = some (.type "list"):=by decide +kernel
theorem aww:bootBuiltins "dict" = some (.type "dict"):=by decide +kernel
theorem atw:bootBuiltins "tuple" = some (.type "tuple"):=by decide +kernel
theorem awx:bootBuiltins "bool" = some (.type "bool"):=by decide +kernel
end L2
namespace TS
open PySem PyProof.Rows
def ajd:Bool->Keyed->Array Keyed->Nat->Nat->Nat->StateT SortSt Sem (Option Nat):=sortPriv% PySem.Builtin.gallop
def atx:Array Keyed->Array Keyed->StateT SortSt Sem (Array Keyed):=sortPriv% PySem.Builtin.mergeLo
def aty:Array Keyed->Array Keyed->StateT SortSt Sem (Array Keyed):=sortPriv% PySem.Builtin.mergeHi
def al3:Nat->StateT SortSt Sem Bool:=sortPriv% PySem.Builtin.mergeAt
def awy:Nat->Nat->StateT SortSt Sem (Option Nat):=sortPriv% PySem.Builtin.countRun
def atz:Nat->Nat->Nat->StateT SortSt Sem Bool:=sortPriv% PySem.Builtin.binarySort
def a1c:StateT SortSt Sem Unit:=sortPriv% PySem.Builtin.sortRuns
structure Cmp (M:Model) (A:Around) (E:Value->Shared->Prop) (s:Shared) (κ:SortKind) (S:Keyed->Prop) (R:Keyed->Keyed->Bool):Prop where
 ask:∀ x y,S x->S y->∀ (Q:Option Bool->SortSt->Prop) (st:SortSt),kindOf st = κ->Q (some (R x y)) st->wpS M A E s (lt' x y) Q st
 asy:∀ x y,S x->S y->R x y=true->R y x=false
 tr:∀ x y z,S x->S y->S z->R y x=false->R z y=false->R z x=false
section
variable {M:Model} {A:Around} {E:Value->Shared->Prop} {s:Shared} {κ:SortKind} {S:Keyed->Prop} {R:Keyed->Keyed->Bool}
theorem aav {arr:Array Keyed} {i:Nat} {x:Keyed} {Q:Keyed->SortSt->Prop} {st:SortSt} (a:arr[i]?=some x) (h:Q x st):wpS M A E s (elem' arr i) Q st:=by
 rw [elem'_eq,a]
 exact wpS_pure h
theorem adj {x:String} {Q:Unit->SortSt->Prop} {st:SortSt} (h:Q () st):wpS M A E s (liftM (PySem.rule x):StateT SortSt Sem Unit) Q st :=
 wpS_lift (wpAny_rule ⟨rfl,h⟩)
def bey (left:Bool) (key:Keyed) (arr:Array Keyed) (base i:Nat):StateT SortSt Sem (Option Bool):=do
 let x ← elem' arr (base+i)
 if left=true then lt' x key else do
  let r ← lt' key x
  pure (Option.map (fun b => !b) r)
theorem aka {left:Bool} {p:Keyed} {arr:Array Keyed} {base n a:Nat} {B:Nat->Bool}
  (hb:∀ i,i < n->∀ (Q:Option Bool->SortSt->Prop) (st:SortSt),kindOf st = κ->Q (some (B i)) st->wpS M A E s (bey left p arr base i) Q st)
  (mono:∀ i j,i < j->j < n->B j=true->B i=true) (hh:a < n) {Q:Option Nat->SortSt->Prop} {st:SortSt} (x:kindOf st = κ)
  (h:∀ k,k<=n->(∀ i,i < k->B i=true)->(∀ i,k<=i->i < n->B i=false)->Q (some k) st):wpS M A E s (ajd left p arr base n a) Q st:=by
 have c:∀ i j,i < j->j < n->B i=false->B j=false:=fun i j y K hi=>by
  cases e:B j with
  | false=>rfl
  | true=>rw [mono i j y K e] at hi;cases hi
 -- the last loop
 have last:∀ (lo hi:Nat) (F:Option (Option Nat) × Nat × Nat->StateT SortSt Sem (Option Nat)),lo<=hi->hi<=n->(∀ i,i < lo->B i=true)->(∀ i,hi<=i->i < n->B i=false) ->
   (∀ lo hi,F (none,lo,hi)=pure (some hi)) ->
   wpS M A E s (forIn [:n] ((none,lo,hi):Option (Option Nat) × Nat × Nat) (fun (_:Nat) z=>if z.2.1 ≥ z.2.2 then pure (ForInStep.done (none,z.2.1,z.2.2)) else bey left p arr base (z.2.1+(z.2.2 - z.2.1) / 2) >>= fun r=>match r with
    | some more=>if more=true then pure (ForInStep.yield (none,z.2.1+(z.2.2 - z.2.1) / 2+1,z.2.2)) else pure (ForInStep.yield (none,z.2.1,z.2.1+(z.2.2 - z.2.1) / 2))
    | _=>pure (ForInStep.done (some none,z.2.1,z.2.2))) >>= F) Q st:=by
  intro lo hi F J I G H D
  refine wpS_bind (wpS_forRange (fun t z st'=>st'=st/\z.1=none/\z.2.1<=z.2.2/\z.2.2<=n/\z.2.2 - z.2.1+t<=n/\(∀ i,i < z.2.1->B i=true)/\(∀ i,z.2.2<=i->i < n->B i=false)) ?_ ?_ ⟨rfl,rfl,J,I,by dsimp only;lia,G,H⟩)
  ·rintro t ⟨o,l,u⟩ st' _ C ⟨rfl,e,q,d,b,g,w⟩
   dsimp only at e q d b g w ⊢
   subst e
   by_cases hlu:l ≥ u
   ·rw [aE9 hlu]
    have:l=u:=by lia
    subst this
    exact wpS_pure (by dsimp only;rw [D];exact wpS_pure (h l d g w))
   ·rw [aF0 hlu]
    have hm:l+(u - l) / 2 < u:=by lia
    refine wpS_bind (hb _ (by lia) _ _ x ?_)
    dsimp only
    cases e:B (l+(u - l) / 2) with
    | true =>
     rw [aE9 rfl]
     refine wpS_pure ⟨rfl,rfl,by dsimp only;lia,d,by dsimp only;lia,fun i hi=>?_,w⟩
     dsimp only at hi
     by_cases hi2:i=l+(u - l) / 2
     ·rw [hi2];exact e
     ·exact mono i _ (by lia) (by lia) e
    | false =>
     rw [aF0 (by simp)]
     refine wpS_pure ⟨rfl,rfl,by dsimp only;lia,by dsimp only;lia,by dsimp only;lia,g,fun i hi hn=>?_⟩
     dsimp only at hi
     by_cases hi2:i=l+(u - l) / 2
     ·rw [hi2];exact e
     ·exact c _ i (by lia) hn e
  ·rintro ⟨o,l,u⟩ st' ⟨rfl,e,q,d,b,g,w⟩
   dsimp only at e q d b g w ⊢
   subst e
   have : l = u := by have:n ≤ max 0 n := by lia
                      lia
   subst this
   rw [D]
   exact wpS_pure (h l d g w)
 refine wpS_bind (f:=fun L=>_) (m:=bey left p arr base a) (hb a hh _ st x ?_)
 dsimp only
 cases e0:B a with
 | true =>
  rw [aE9 rfl]
  refine wpS_bind ?_
  refine wpS_forRange (fun t (z:Option (Option Nat) × Nat × Nat) st'=>st'=st/\z.1=none/\z.2.1 < z.2.2/\a+z.2.1 < n/\B (a+z.2.1)=true/\t+1<=z.2.2) ?_ ?_ ⟨rfl,rfl,by decide,by dsimp only;lia,e0,Nat.le_refl _⟩
  ·rintro t ⟨o,l,u⟩ st' _ C ⟨rfl,e,q,d,b,g⟩
   dsimp only at e q d b g ⊢
   subst e
   by_cases hu:u ≥ n - a
   ·rw [aE9 hu]
    refine wpS_pure ?_
    dsimp only
    refine last _ _ _ (by lia) (by lia) (fun i hi=>?_) (fun i hi hn=>by lia) (fun _ _=>rfl)
    by_cases hi2:i=a+l
    ·rw [hi2];exact b
    ·exact mono i _ (by lia) d b
   ·rw [aF0 hu]
    refine wpS_bind (m:=bey left p arr base (a+u)) (hb _ (by lia) _ _ x ?_)
    dsimp only
    cases e1:B (a+u) with
    | true =>
     rw [aF0 (by decide)]
     exact wpS_pure ⟨rfl,rfl,by dsimp only;lia,by dsimp only;lia,e1,by dsimp only;lia⟩
    | false =>
     rw [aE9 (by decide)]
     refine wpS_pure ?_
     dsimp only
     refine last _ _ _ (by lia) (by lia) (fun i hi=>?_) (fun i hi hn=>?_) (fun _ _=>rfl)
     ·by_cases hi2:i=a+l
      ·rw [hi2];exact b
      ·exact mono i _ (by lia) d b
     ·by_cases hi2:i=a+u
      ·rw [hi2];exact e1
      ·exact c _ i (by lia) hn e1
  ·rintro ⟨o,l,u⟩ st' ⟨rfl,e,q,d,b,g⟩
   dsimp only at e q d b g ⊢
   subst e
   dsimp only
   refine last _ _ _ (by lia) (by lia) (fun i hi=>?_) (fun i hi hn=>by lia) (fun _ _=>rfl)
   by_cases hi2:i=a+l
   ·rw [hi2];exact b
   ·exact mono i _ (by lia) d b
 | false =>
  rw [aF0 (by decide)]
  refine wpS_bind ?_
  refine wpS_forRange (fun t (z:Option (Option Nat) × Nat × Nat) st'=>st'=st/\z.1=none/\z.2.1 < z.2.2/\z.2.1<=a/\B (a - z.2.1)=false/\t+1<=z.2.2) ?_ ?_ ⟨rfl,rfl,by decide,aF4 _,e0,aA6 _⟩
  ·rintro t ⟨o,l,u⟩ st' _ C ⟨rfl,e,q,d,b,g⟩
   dsimp only at e q d b g ⊢
   subst e
   have v:∀ i,a - l<=i->i < n->B i=false:=fun i hi hn=>by
    by_cases hi2:i=a - l
    ·rw [hi2];exact b
    ·exact c _ i (by lia) hn b
   by_cases hu:u ≥ a+1
   ·rw [aE9 hu]
    refine wpS_pure ?_
    dsimp only
    exact last _ _ _ (by lia) (by lia) (fun i hi=>by lia) v (fun _ _=>rfl)
   ·rw [aF0 hu]
    refine wpS_bind (m:=bey left p arr base (a - u)) (hb _ (by lia) _ _ x ?_)
    dsimp only
    cases e1:B (a - u) with
    | true =>
     rw [aE9 rfl]
     refine wpS_pure ?_
     dsimp only
     refine last _ _ _ (by lia) (by lia) (fun i hi=>?_) v (fun _ _=>rfl)
     by_cases hi2:i=a - u
     ·rw [hi2];exact e1
     ·exact mono i _ (by lia) (by lia) e1
    | false =>
     rw [aF0 (by decide)]
     exact wpS_pure ⟨rfl,rfl,by dsimp only;lia,by dsimp only;lia,e1,by dsimp only;lia⟩
  ·rintro ⟨o,l,u⟩ st' ⟨rfl,e,q,d,b,g⟩
   dsimp only at e q d b g ⊢
   subst e
   dsimp only
   refine last _ _ _ (by lia) (by lia) (fun i hi=>by lia) (fun i hi hn=>?_) (fun _ _=>rfl)
   by_cases hi2:i=a - l
   ·rw [hi2];exact b
   ·exact c _ i (by lia) hn b
end
def Srt (R:Keyed->Keyed->Bool) (l:List Keyed):Prop:=l.Pairwise fun x y=>R y x=false
structure Mid (R:Keyed->Keyed->Bool) (L out a b:List Keyed):Prop where
 perm:(out ++ a ++ b).Perm L
 so:Srt R out
 le:∀ x∈out,∀ y∈a ++ b,R y x=false
 sa:Srt R a
 sb:Srt R b
section
variable {R:Keyed->Keyed->Bool} {L out a b p:List Keyed}
theorem Mid.takeA (m:Mid R L out (p ++ a) b) (h:∀ x∈p,∀ y∈b,R y x=false):Mid R L (out ++ p) a b:=by
 have sp:=aC8.mp m.sa
 refine ⟨by have:=m.perm;rw [← aB3] at this;exact this,aC8.mpr ⟨m.so,sp.1,fun x d y c=>m.le x d y (aC6 _ (aC6 _ c))⟩,fun x d y c=>?_,sp.2.1,m.sb⟩
 rcases aA7.mp d with d | d
 ·refine m.le x d y ?_
  rcases aA7.mp c with c | c
  ·exact aC6 _ (aB2 _ c)
  ·exact aB2 _ c
 ·rcases aA7.mp c with c | c
  ·exact sp.2.2 x d y c
  ·exact h x d y c
theorem Mid.takeB (m:Mid R L out a (p ++ b)) (h:∀ x∈p,∀ y∈a,R y x=false):Mid R L (out ++ p) a b:=by
 have sp:=aC8.mp m.sb
 refine ⟨List.Perm.trans ?_ m.perm,aC8.mpr ⟨m.so,sp.1,fun x d y c=>m.le x d y (aB2 _ (aC6 _ c))⟩,fun x d y c=>?_,m.sa,sp.2.1⟩
 ·rw [← aB3 (out ++ a) p b]
  refine List.Perm.append_right b ?_
  rw [aB3,aB3]
  exact List.Perm.append_left out List.perm_append_comm
 ·rcases aA7.mp d with d | d
  ·refine m.le x d y ?_
   rcases aA7.mp c with c | c
   ·exact aC6 _ c
   ·exact aB2 _ (aB2 _ c)
  ·rcases aA7.mp c with c | c
   ·exact h x d y c
   ·exact sp.2.2 x d y c
theorem Mid.done (m:Mid R L out a b) (h:a=[]\/b=[]):(out ++ a ++ b).Perm L/\Srt R (out ++ a ++ b):=by
 refine ⟨m.perm,?_⟩
 rw [aB3]
 refine aC8.mpr ⟨m.so,?_,m.le⟩
 rcases h with h | h
 ·subst h;exact m.sb
 ·subst h;rw [aE5];exact m.sa
theorem Mid.last (m:Mid R L out a b) (h:∀ y∈b,∀ x∈a,R x y=false):(out ++ b ++ a).Perm L/\Srt R (out ++ b ++ a):=by
 refine ⟨List.Perm.trans ?_ m.perm,?_⟩
 ·rw [aB3,aB3]
  exact List.Perm.append_left out List.perm_append_comm
 ·rw [aB3]
  refine aC8.mpr ⟨m.so,aC8.mpr ⟨m.sb,m.sa,h⟩,fun x d y c=>m.le x d y ?_⟩
  rcases aA7.mp c with c | c
  ·exact aB2 _ c
  ·exact aC6 _ c
end
structure Eqv (st st':SortSt):Prop where
 k:kindOf st'=kindOf st
 a:arrOf st'=arrOf st
 p:pendingOf st'=pendingOf st
 f:failedOf st'=failedOf st
theorem Eqv.refl (st:SortSt):Eqv st st:=⟨rfl,rfl,rfl,rfl⟩
theorem Eqv.trans {a b c:SortSt} (h:Eqv a b) (g:Eqv b c):Eqv a c:=⟨g.k.trans h.k,g.a.trans h.a,g.p.trans h.p,g.f.trans h.f⟩
theorem ag4 (a:Array Keyed) (i:Nat):(a.extract i a.size).toList=a.toList.drop i:=by
 rw [Array.toList_extract];simp only [List.extract_eq_take_drop];exact aE7 (by simp)
theorem aje (a:Array Keyed) (i k:Nat):(a.extract i (i+k)).toList=(a.toList.drop i).take k:=by
 rw [Array.toList_extract];simp [List.extract]
theorem abn {a:Array Keyed} {i:Nat} (h:i < a.size):a.toList.drop i=a[i] :: a.toList.drop (i+1):=by
 rw [List.drop_eq_getElem_cons (by simpa using h)];simp
section
variable {M:Model} {A:Around} {E:Value->Shared->Prop} {s:Shared} {κ:SortKind} {S:Keyed->Prop} {R:Keyed->Keyed->Bool}
theorem Cmp.irr {x:Keyed} (C:Cmp M A E s κ S R) (a:S x):R x x=false:=by
 cases e:R x x with
 | false=>rfl
 | true=>have:=C.asy x x a a e;rw [e] at this;cases this
theorem agg (C:Cmp M A E s κ S R) {b:Keyed} {arr:Array Keyed} {base n g:Nat} (f:S b) (O:∀ x∈arr.toList,S x) (hn:base+n<=arr.size) (I:Srt R ((arr.toList.drop base).take n)) (hh:g < n)
  {Q:Option Nat->SortSt->Prop} {st:SortSt} (G:kindOf st = κ)
  (h:∀ k,k<=n->(∀ x∈(arr.toList.drop base).take k,R b x=false)->(∀ x∈((arr.toList.drop base).take n).drop k,R b x=true)->Q (some k) st) :
  wpS M A E s (ajd false b arr base n g) Q st:=by
 have a:∀ i,i < n->∃ x,arr[base+i]?=some x/\S x/\((arr.toList.drop base).take n)[i]?=some x:=fun i hi=>by
  have o:base+i < arr.size:=by lia
  refine ⟨arr[base+i],aA4 o,O _ (by simp),?_⟩
  rw [aG9 hi,aH7]
  simp [o]
 have l:∀ i j x y,i < j->j < n->arr[base+i]?=some x->arr[base+j]?=some y->R y x=false:=fun i j x y m q ex N=>by
  obtain ⟨X,c,_,e2⟩:=a i (by lia)
  obtain ⟨W,F,_,z⟩:=a j q
  rw [ex] at c;cases c
  rw [N] at F;cases F
  obtain ⟨T,e2⟩:=aA1.mp e2
  obtain ⟨K,z⟩:=aA1.mp z
  have:=aG1.mp I i j T K m
  rw [e2,z] at this
  exact this
 refine aka (κ:=κ) (B:=fun i=>match arr[base+i]? with | some x => !(R b x) | none=>false) (fun i hi Q' st' u D=>?_) (fun i j m q p=>?_) hh G fun k r J H=>h k r (fun x w=>?_) fun x w=>?_
 ·obtain ⟨x,c,v,_⟩:=a i hi
  unfold bey
  refine wpS_bind (aav c ?_)
  rw [aF0 (by decide)]
  refine wpS_bind (C.ask _ _ f v _ _ u ?_)
  refine wpS_pure ?_
  simp only [c] at D
  exact D
 ·obtain ⟨x,c,v,_⟩:=a i (by lia)
  obtain ⟨y,e2,P,_⟩:=a j q
  simp only [c,e2] at p ⊢
  have U:=l i j x y m q c e2
  have L:R b y=false:=by simpa using p
  have:=C.tr x y b v P f U L
  simp [this]
 ·obtain ⟨i,hi,e⟩:=List.getElem_of_mem w
  have d:i < k:=by rw [aG4] at hi;lia
  obtain ⟨y,c,_,e2⟩:=a i (by lia)
  have hb:=J i d
  simp only [c] at hb
  have ex:x=y:=by
   have:((arr.toList.drop base).take k)[i]?=some x:=by rw [aA0 hi,e]
   rw [aG9 d] at this
   rw [aG9 (by lia)] at e2
   rw [this] at e2;exact aC5 e2
  subst ex
  simpa using hb
 ·obtain ⟨i,hi,e⟩:=List.getElem_of_mem w
  have d:k+i < n:=by rw [List.length_drop,aG4] at hi;lia
  obtain ⟨y,c,_,e2⟩:=a (k+i) d
  have hb:=H (k+i) (by lia) d
  simp only [c] at hb
  have ex:x=y:=by
   have:(((arr.toList.drop base).take n).drop k)[i]?=some x:=by rw [aA0 hi,e]
   rw [aH7] at this
   rw [this] at e2;exact aC5 e2
  subst ex
  simpa using hb
theorem ahn (C:Cmp M A E s κ S R) {b:Keyed} {arr:Array Keyed} {base n g:Nat} (f:S b) (N:∀ x∈arr.toList,S x) (hn:base+n<=arr.size) (I:Srt R ((arr.toList.drop base).take n)) (hh:g < n)
  {Q:Option Nat->SortSt->Prop} {st:SortSt} (G:kindOf st = κ)
  (h:∀ k,k<=n->(∀ x∈(arr.toList.drop base).take k,R x b=true)->(∀ x∈((arr.toList.drop base).take n).drop k,R x b=false)->Q (some k) st) :
  wpS M A E s (ajd true b arr base n g) Q st:=by
 have a:∀ i,i < n->∃ x,arr[base+i]?=some x/\S x/\((arr.toList.drop base).take n)[i]?=some x:=fun i hi=>by
  have p:base+i < arr.size:=by lia
  refine ⟨arr[base+i],aA4 p,N _ (by simp),?_⟩
  rw [aG9 hi,aH7]
  simp [p]
 have l:∀ i j x y,i < j->j < n->arr[base+i]?=some x->arr[base+j]?=some y->R y x=false:=fun i j x y m q ex L=>by
  obtain ⟨W,c,_,e2⟩:=a i (by lia)
  obtain ⟨U,F,_,z⟩:=a j q
  rw [ex] at c;cases c
  rw [L] at F;cases F
  obtain ⟨P,e2⟩:=aA1.mp e2
  obtain ⟨K,z⟩:=aA1.mp z
  have:=aG1.mp I i j P K m
  rw [e2,z] at this
  exact this
 refine aka (κ:=κ) (B:=fun i=>match arr[base+i]? with | some x=>R x b | none=>false) (fun i hi Q' st' u D=>?_) (fun i j m q o=>?_) hh G fun k r J H=>h k r (fun x w=>?_) fun x w=>?_
 ·obtain ⟨x,c,v,_⟩:=a i hi
  unfold bey
  refine wpS_bind (aav c ?_)
  rw [aE9 rfl]
  simp only [c] at D
  exact C.ask _ _ v f _ _ u D
 ·obtain ⟨x,c,v,_⟩:=a i (by lia)
  obtain ⟨y,e2,O,_⟩:=a j q
  simp only [c,e2] at o ⊢
  have T:=l i j x y m q c e2
  cases e:R x b with
  | true=>rfl
  | false =>
   have:=C.tr b x y f v O e T
   rw [this] at o;cases o
 ·obtain ⟨i,hi,e⟩:=List.getElem_of_mem w
  have d:i < k:=by rw [aG4] at hi;lia
  obtain ⟨y,c,_,e2⟩:=a i (by lia)
  have hb:=J i d
  simp only [c] at hb
  have ex:x=y:=by
   have:((arr.toList.drop base).take k)[i]?=some x:=by rw [aA0 hi,e]
   rw [aG9 d] at this
   rw [aG9 (by lia)] at e2
   rw [this] at e2;exact aC5 e2
  subst ex
  exact hb
 ·obtain ⟨i,hi,e⟩:=List.getElem_of_mem w
  have d:k+i < n:=by rw [List.length_drop,aG4] at hi;lia
  obtain ⟨y,c,_,e2⟩:=a (k+i) d
  have hb:=H (k+i) (by lia) d
  simp only [c] at hb
  have ex:x=y:=by
   have:(((arr.toList.drop base).take n).drop k)[i]?=some x:=by rw [aA0 hi,e]
   rw [aH7] at this
   rw [this] at e2;exact aC5 e2
  subst ex
  exact hb
end
section
variable {M:Model} {A:Around} {E:Value->Shared->Prop} {s:Shared} {κ:SortKind} {S:Keyed->Prop} {R:Keyed->Keyed->Bool}
structure Two (S:Keyed->Prop) (R:Keyed->Keyed->Bool) (a b:Array Keyed):Prop where
 ha:∀ x∈a.toList,S x
 hb:∀ x∈b.toList,S x
 sa:Srt R a.toList
 sb:Srt R b.toList
 a0:0 < a.size
 b0:0 < b.size
 first:∀ x∈a.toList,∀ y,b[0]?=some y->R x y=false
 last:∀ y∈b.toList,∀ x,a[a.size - 1]?=some x->R x y=false
def Fin2 (R:Keyed->Keyed->Bool) (a b m:Array Keyed):Prop:=m.toList.Perm (a.toList ++ b.toList)/\Srt R m.toList
structure Lo (S:Keyed->Prop) (R:Keyed->Keyed->Bool) (a b out:Array Keyed) (ia ib:Nat):Prop where
 mid:Mid R (a.toList ++ b.toList) out.toList (a.toList.drop ia) (b.toList.drop ib)
 ia:ia<=a.size
 ib:ib<=b.size
theorem Lo.len {a b out:Array Keyed} {ia ib:Nat} (l:Lo S R a b out ia ib):out.size+(a.size - ia)+(b.size - ib)=a.size+b.size:=by
 have:=l.mid.perm.length_eq
 simp at this
 lia
theorem Lo.doneA {a b out:Array Keyed} {ia ib:Nat} (l:Lo S R a b out ia ib) (h:ib=b.size\/ia=a.size):Fin2 R a b (out ++ a.extract ia ++ b.extract ib):=by
 have:=l.mid.done (by
  rcases h with h | h
  ·right;rw [h];simp
  ·left;rw [h];simp)
 unfold Fin2
 rw [aG0,aG0,ag4,ag4]
 exact this
theorem arp {a:Array Keyed} {i:Nat} (h:i+1=a.size):a.toList.drop i=[a[a.size - 1]'(by lia)]:=by
 have hi:i < a.size:=by lia
 rw [abn hi]
 have:i=a.size - 1:=by lia
 subst this
 have e:a.toList.drop (a.size - 1+1)=[]:=by
  apply List.drop_eq_nil_of_le
  simp;lia
 rw [e]
theorem Lo.lastA {a b out:Array Keyed} {ia ib:Nat} (T:Two S R a b) (l:Lo S R a b out ia ib) (h:ia+1=a.size):Fin2 R a b (out ++ b.extract ib ++ a.extract ia):=by
 have:=l.mid.last (by
  intro y d x c
  rw [arp h] at c
  have ex:x=a[a.size - 1]'(by lia):=by simpa using c
  refine T.last y (aC3 d) x ?_
  rw [ex]
  exact aA4 _)
 unfold Fin2
 rw [aG0,aG0,ag4,ag4]
 exact this
theorem aei {x:Keyed} {l:List Keyed} (C:Cmp M A E s κ S R) (h:Srt R (x :: l)) (b:S x):∀ y∈x :: l,R y x=false:=by
 intro y a
 rcases aA8.mp a with e | a
 ·rw [e];exact C.irr b
 ·exact (List.pairwise_cons.mp h).1 y a
theorem Lo.pushB {a b out:Array Keyed} {ia ib:Nat} (C:Cmp M A E s κ S R) (T:Two S R a b) (l:Lo S R a b out ia ib) (hb:ib < b.size) (h:∀ x∈a.toList.drop ia,R x b[ib]=false):Lo S R a b (out.push b[ib]) ia (ib+1):=by
 refine ⟨?_,l.ia,hb⟩
 have m:=l.mid
 rw [abn hb] at m
 rw [Array.toList_push]
 exact m.takeB (p:=[b[ib]]) (fun x d y c=>by
  have:x=b[ib]:=by simpa using d
  rw [this];exact h y c)
theorem Lo.pushA {a b out:Array Keyed} {ia ib:Nat} (l:Lo S R a b out ia ib) (ha:ia < a.size) (h:∀ y∈b.toList.drop ib,R y a[ia]=false):Lo S R a b (out.push a[ia]) (ia+1) ib:=by
 refine ⟨?_,ha,l.ib⟩
 have m:=l.mid
 rw [abn ha] at m
 rw [Array.toList_push]
 exact m.takeA (p:=[a[ia]]) (fun x d y c=>by
  have:x=a[ia]:=by simpa using d
  rw [this];exact h y c)
theorem Lo.runA {a b out:Array Keyed} {ia ib k:Nat} (l:Lo S R a b out ia ib) (d:ia+k<=a.size) (h:∀ x∈(a.toList.drop ia).take k,∀ y∈b.toList.drop ib,R y x=false):Lo S R a b (out ++ a.extract ia (ia+k)) (ia+k) ib:=by
 refine ⟨?_,d,l.ib⟩
 have m:=l.mid
 rw [← aC0 k (a.toList.drop ia)] at m
 rw [aG0,aje]
 have c:=m.takeA h
 rw [List.drop_drop] at c
 exact c
theorem Lo.runB {a b out:Array Keyed} {ia ib k:Nat} (l:Lo S R a b out ia ib) (d:ib+k<=b.size) (h:∀ x∈(b.toList.drop ib).take k,∀ y∈a.toList.drop ia,R y x=false):Lo S R a b (out ++ b.extract ib (ib+k)) ia (ib+k):=by
 refine ⟨?_,l.ia,d⟩
 have m:=l.mid
 rw [← aC0 k (b.toList.drop ib)] at m
 rw [aG0,aje]
 have c:=m.takeB h
 rw [List.drop_drop] at c
 exact c
theorem acn {l:List Keyed} {i:Nat} (h:Srt R l):Srt R (l.drop i):=List.Pairwise.sublist (List.drop_sublist i l) h
theorem jpn {α β:Type} {prog : β->StateT SortSt Sem α} {P : β->Prop} {Q : α->SortSt->Prop} {st:SortSt} {G:Prop} (use:(∀ m,P m->wpS M A E s (prog m) Q st)->G) (a:∀ m,P m->wpS M A E s (prog m) Q st):G:=use a
theorem jpn2 {α:Type} {prog:Array Keyed->Nat->StateT SortSt Sem α} {P:Array Keyed->Nat->Prop} {Q : α->SortSt->Prop} {st:SortSt} {G:Prop} (use:(∀ o i,P o i->wpS M A E s (prog o i) Q st)->G) (a:∀ o i,P o i->wpS M A E s (prog o i) Q st):G:=use a
section
variable {ρ β γ δ ε ζ η:Type}
@[elab_as_elim] theorem un5 {J : β->γ->δ->ε->Prop} {G:Option ρ × β × γ × δ × ε->Prop} (z:Option ρ × β × γ × δ × ε) (h:z.1=none/\J z.2.1 z.2.2.1 z.2.2.2.1 z.2.2.2.2) (k:∀ x y u v,J x y u v->G (none,x,y,u,v)):G z:=by
 have e:z=(none,z.2.1,z.2.2.1,z.2.2.2.1,z.2.2.2.2):=by rw [← h.1]
 rw [e];exact k _ _ _ _ h.2
@[elab_as_elim] theorem un6 {J : β->γ->δ->ε->ζ->Prop} {G:Option ρ × β × γ × δ × ε × ζ->Prop} (z:Option ρ × β × γ × δ × ε × ζ) (h:z.1=none/\J z.2.1 z.2.2.1 z.2.2.2.1 z.2.2.2.2.1 z.2.2.2.2.2) (k:∀ x y u v a,J x y u v a->G (none,x,y,u,v,a)):G z:=by
 have e:z=(none,z.2.1,z.2.2.1,z.2.2.2.1,z.2.2.2.2.1,z.2.2.2.2.2):=by rw [← h.1]
 rw [e];exact k _ _ _ _ _ h.2
@[elab_as_elim] theorem un7 {J : β->γ->δ->ε->ζ->η->Prop} {G:Option ρ × β × γ × δ × ε × ζ × η->Prop} (z:Option ρ × β × γ × δ × ε × ζ × η) (h:z.1=none/\J z.2.1 z.2.2.1 z.2.2.2.1 z.2.2.2.2.1 z.2.2.2.2.2.1 z.2.2.2.2.2.2) (k:∀ x y u v a b,J x y u v a b->G (none,x,y,u,v,a,b)):G z:=by
 have e:z=(none,z.2.1,z.2.2.1,z.2.2.2.1,z.2.2.2.2.1,z.2.2.2.2.2.1,z.2.2.2.2.2.2):=by rw [← h.1]
 rw [e];exact k _ _ _ _ _ _ h.2
@[elab_as_elim] theorem unR {κ:Type} {F : ρ->Prop} {J : κ->Prop} {G:Option ρ × κ->Prop} (z:Option ρ × κ) (h:(∃ r,z.1=some r/\F r)\/(z.1=none/\J z.2)) (a:∀ r x,F r->G (some r,x)) (b:z.1=none/\J z.2->G z):G z:=by
 rcases h with ⟨r,e,c⟩ | h
 ·have e:z=(some r,z.2):=by rw [← e]
  rw [e];exact a _ _ c
 ·exact b h
end
theorem aaq {c:Prop} [Decidable c] {α:Type} {a b:StateT SortSt Sem α} {Q : α->SortSt->Prop} {st:SortSt} (f:c->wpS M A E s a Q st) (d:¬ c->wpS M A E s b Q st):wpS M A E s (if c then a else b) Q st:=by
 by_cases h:c
 ·rw [aE9 h];exact f h
 ·rw [aF0 h];exact d h
theorem aps (C:Cmp M A E s κ S R) {a b:Array Keyed} (T:Two S R a b) {Q:Array Keyed->SortSt->Prop} {st:SortSt} (hk:kindOf st = κ)
  (h:∀ m st',Eqv st st'->Fin2 R a b m->Q m st'):wpS M A E s (atx a b) Q st:=by
 have N:∀ i (h:i < a.size),S a[i]:=fun i h=>T.ha _ (by simp)
 have L:∀ i (h:i < b.size),S b[i]:=fun i h=>T.hb _ (by simp)
 have b0:=T.b0
 have a0:=T.a0
 refine wpS_bind (adj ?_)
 refine wpS_bind (aav (x:=b[0]'b0) (aA4 b0) ?_)
 have l1:Lo S R a b #[b[0]'b0] 0 1:=by
  have l0:Lo S R a b #[] 0 0:=⟨⟨by simp,List.Pairwise.nil,fun x w=>by simp at w,T.sa,T.sb⟩,aF4 _,aF4 _⟩
  exact l0.pushB C T b0 fun x w=>T.first x (by simpa using w) _ (aA4 b0)
 refine aaq (fun e1=>wpS_pure (h _ _ (Eqv.refl _) (l1.doneA (.inl (aF7.mp e1))))) (fun e1=>?_)
 refine aaq (fun e2=>wpS_pure (h _ _ (Eqv.refl _) (l1.lastA T (aF7.mp e2)))) (fun e2=>?_)
 replace e1:1 ≠ b.size:=fun q=>e1 (aF7.mpr q)
 replace e2:0+1 ≠ a.size:=fun q=>e2 (aF7.mpr q)
 refine wpS_bind (wpS_get ?_)
 refine wpS_bind (wpS_mono (Q:=fun (z:Option (Array Keyed) × Array Keyed × Nat × Nat × Nat) st'=>Eqv st st'/\∃ r,z.1=some r/\Fin2 R a b r) ?_ ?_)
 ·refine wpS_forRange (fun t (z:Option (Array Keyed) × Array Keyed × Nat × Nat × Nat) st'=>Eqv st st'/\z.1=none/\Lo S R a b z.2.1 z.2.2.1 z.2.2.2.1/\z.2.2.1+1 < a.size/\z.2.2.2.1 < b.size/\t+1<=z.2.1.size) ?_ ?_ ⟨Eqv.refl _,rfl,l1,by dsimp only;lia,by dsimp only;lia,by simp⟩
  ·intro t z a7 _ ht n
   have q1:=n.1
   refine un5 (J:=fun out ia ib _=>Lo S R a b out ia ib/\ia+1 < a.size/\ib < b.size/\t+1<=out.size) z n.2 fun out ia ib mg v=>?_
   dsimp only
   refine wpS_bind (wpS_mono (Q:=fun (z:Option (Array Keyed) × Array Keyed × Nat × Nat × Nat × Nat) st'=>Eqv st st'/\((∃ r,z.1=some r/\Fin2 R a b r)\/(z.1=none/\Lo S R a b z.2.1 z.2.2.1 z.2.2.2.1/\z.2.2.1+1 < a.size/\z.2.2.2.1 < b.size/\t+2<=z.2.1.size))) ?_ ?_)
   ·refine wpS_forRange (fun i (z:Option (Array Keyed) × Array Keyed × Nat × Nat × Nat × Nat) st'=>Eqv st st'/\z.1=none/\Lo S R a b z.2.1 z.2.2.1 z.2.2.2.1/\z.2.2.1+1 < a.size/\z.2.2.2.1 < b.size/\t+1+min i 1<=z.2.1.size) ?_ ?_ ⟨q1,rfl,v.1,v.2.1,v.2.2.1,v.2.2.2⟩
    ·intro i z o _ hi n
     have q:=n.1
     refine un6 (J:=fun out ia ib _ _=>Lo S R a b out ia ib/\ia+1 < a.size/\ib < b.size/\t+1+min i 1<=out.size) z n.2 fun out ia ib ac bc v=>?_
     have l:=v.1
     have I:=v.2.1
     have d:=v.2.2.1
     have hsz:=v.2.2.2
     have g:ia < a.size:=Nat.lt_of_succ_lt I
     refine wpS_bind (aav (x:=b[ib]) (aA4 d) ?_)
     refine wpS_bind (aav (x:=a[ia]) (aA4 g) ?_)
     refine wpS_bind (C.ask _ _ (L ib d) (N ia g) _ _ (q.k.trans hk) ?_)
     dsimp only
     refine aaq (fun er=>?_) (fun er=>?_)
     ·refine wpS_bind (aav (x:=b[ib]) (aA4 d) ?_)
      have F:Lo S R a b (out.push b[ib]) ia (ib+1):=l.pushB C T d fun x w=>by
       rw [abn g] at w
       have hd:Srt R (a[ia] :: a.toList.drop (ia+1)):=by rw [← abn g];exact acn T.sa
       have sx:S x:=T.ha x (aC3 (i:=ia) (by rw [abn g];exact w))
       exact C.tr _ _ _ (L ib d) (N ia g) sx (C.asy _ _ (L ib d) (N ia g) er) (aei C hd (N ia g) x w)
      refine aaq (fun D=>wpS_pure ⟨q,.inl ⟨_,rfl,F.doneA (.inl (aF7.mp D))⟩⟩) (fun D=>?_)
      have hf:ib+1 < b.size/\t+2<=(out.push b[ib]).size:=by
       have a2:ib+1 ≠ b.size:=fun q=>D (aF7.mpr q)
       rw [aH3];lia
      refine aaq (fun _=>wpS_pure ⟨q,.inr ⟨rfl,F,I,hf⟩⟩) (fun _=>wpS_pure ⟨q,rfl,F,I,hf.1,aC9 (by lia) hf.2⟩)
     ·refine wpS_bind (aav (x:=a[ia]) (aA4 g) ?_)
      have F:Lo S R a b (out.push a[ia]) (ia+1) ib:=l.pushA g fun y H=>by
       rw [abn d] at H
       have hd:Srt R (b[ib] :: b.toList.drop (ib+1)):=by rw [← abn d];exact acn T.sb
       have Z:S y:=T.hb y (aC3 (i:=ib) (by rw [abn d];exact H))
       exact C.tr _ _ _ (N ia g) (L ib d) Z (eq_false_of_ne_true er) (aei C hd (L ib d) y H)
      refine aaq (fun D=>wpS_pure ⟨q,.inl ⟨_,rfl,F.lastA T (aF7.mp D)⟩⟩) (fun D=>?_)
      have hf:ia+1+1 < a.size/\ib < b.size/\t+2<=(out.push a[ia]).size:=by
       have a2:ia+1+1 ≠ a.size:=fun q=>D (aF7.mpr q)
       rw [aH3];lia
      refine aaq (fun _=>wpS_pure ⟨q,.inr ⟨rfl,F,hf⟩⟩) (fun _=>wpS_pure ⟨q,rfl,F,hf.1,d,aC9 (by lia) hf.2.2⟩)
    ·exact fun z o n=>⟨n.1,.inr ⟨n.2.1,n.2.2.1,n.2.2.2.1,n.2.2.2.2.1,aC9 (by lia) n.2.2.2.2.2⟩⟩
   ·intro z o n
    have W:=n.1
    refine unR (J:=fun y:Array Keyed × Nat × Nat × Nat × Nat=>Lo S R a b y.1 y.2.1 y.2.2.1/\y.2.1+1 < a.size/\y.2.2.1 < b.size/\t+2<=y.1.size) z n.2 (fun r x hr=>wpS_pure ⟨W,r,rfl,hr⟩) fun Y=>?_
    refine un6 (J:=fun out ia ib _ _=>Lo S R a b out ia ib/\ia+1 < a.size/\ib < b.size/\t+2<=out.size) z Y fun out ia ib ac bc v=>?_
    dsimp only
    refine wpS_bind (adj ?_)
    refine wpS_bind (wpS_mono (Q:=fun (z:Option (Array Keyed) × Array Keyed × Nat × Nat × Nat × Nat × Nat) st'=>Eqv st st'/\((∃ r,z.1=some r/\Fin2 R a b r)\/(z.1=none/\Lo S R a b z.2.1 z.2.2.1 z.2.2.2.1/\z.2.2.1+1 < a.size/\z.2.2.2.1 < b.size/\t+2<=z.2.1.size))) ?_ ?_)
    ·refine wpS_forRange (fun i (z:Option (Array Keyed) × Array Keyed × Nat × Nat × Nat × Nat × Nat) st'=>Eqv st st'/\z.1=none/\Lo S R a b z.2.1 z.2.2.1 z.2.2.2.1/\z.2.2.1+1 < a.size/\z.2.2.2.1 < b.size/\t+2<=z.2.1.size) ?_ (fun z o n=>⟨n.1,.inr n.2⟩) ⟨W,rfl,v⟩
     intro i z o _ hi n
     have q:=n.1
     refine un7 (J:=fun out ia ib _ _ _=>Lo S R a b out ia ib/\ia+1 < a.size/\ib < b.size/\t+2<=out.size) z n.2 fun out ia ib mg ac bc v=>?_
     have l:=v.1
     have I:=v.2.1
     have d:=v.2.2.1
     have hsz:=v.2.2.2
     dsimp only
     refine' jpn (M:=M) (A:=A) (E:=E) (s:=s) (st:=o) (β:=Nat) (P:=fun _=>True) (prog:=?prog) (fun U=>?use) (fun a9 _=>?pf)
     case use =>
      refine aaq (fun hm=>?_) (fun hm=>?_)
      ·generalize mg - 1=m
       exact U m trivial
      ·exact U mg trivial
     refine wpS_bind (wpS_mono (Q:=fun _ O=>Eqv o O) (wpS_modify ⟨rfl,rfl,rfl,rfl⟩) fun _ O K=>?_)
     replace K:=q.trans K
     refine wpS_bind (aav (x:=b[ib]) (aA4 d) ?_)
     refine wpS_bind (agg C (L ib d) T.ha (by lia) (by rw [aE7 (by simp)];exact acn T.sa) (by lia) (K.k.trans hk) fun k a6 h1 h2=>?_)
     rw [aE7 (by simp),List.drop_drop] at h2
     dsimp only
     refine' jpn2 (M:=M) (A:=A) (E:=E) (s:=s) (st:=O) (P:=fun j c=>Lo S R a b j c ib/\c+1 < a.size/\(∀ x∈a.toList.drop c,R x b[ib]=false)/\t+2<=j.size) (prog:=?prog2) (fun U=>?use2) (fun j c h5=>?pf2)
     case use2 =>
      have u:∀ x∈a.toList.drop (ia+k),R x b[ib]=false:=fun x w=>C.asy _ _ (L ib d) (T.ha x (aC3 w)) (h2 x w)
      refine aaq (fun k0=>?_) (fun k0=>?_)
      ·have F:Lo S R a b (out ++ a.extract ia (ia+k)) (ia+k) ib:=l.runA (by lia) fun x w y H=>by
        rw [abn d] at H
        have hd:Srt R (b[ib] :: b.toList.drop (ib+1)):=by rw [← abn d];exact acn T.sb
        have Z:S y:=T.hb y (aC3 (i:=ib) (by rw [abn d];exact H))
        exact C.tr _ _ _ (T.ha x (aC3 (aB9 w))) (L ib d) Z (h1 x w) (aei C hd (L ib d) y H)
       refine aaq (fun D=>wpS_pure ⟨K,.inl ⟨_,rfl,F.lastA T (aF7.mp D)⟩⟩) (fun D=>?_)
       refine aaq (fun e4=>wpS_pure ⟨K,.inl ⟨_,rfl,F.doneA (.inr (aF7.mp e4))⟩⟩) (fun e4=>?_)
       have X:Lo S R a b (out ++ a.extract ia (ia+k)) (ia+k) ib/\ia+k+1 < a.size/\(∀ x∈a.toList.drop (ia+k),R x b[ib]=false)/\t+2<=(out ++ a.extract ia (ia+k)).size:=by
        have a2:ia+k+1 ≠ a.size:=fun q=>D (aF7.mpr q)
        have a5:ia+k ≠ a.size:=fun q=>e4 (aF7.mpr q)
        exact ⟨F,by lia,u,by rw [Array.size_append];lia⟩
       revert X
       clear D e4 F u
       generalize out ++ a.extract ia (ia+k)=j
       generalize ia+k=c
       intro X
       exact U j c X
      ·have:k=0:=by lia
       rw [this] at u
       exact U out ia ⟨l,I,u,hsz⟩
     have l3:=h5.1
     have a1:=h5.2.1
     have a3:=h5.2.2.1
     have a4:=h5.2.2.2
     have f:c < a.size:=Nat.lt_of_succ_lt a1
     refine wpS_bind (aav (x:=b[ib]) (aA4 d) ?_)
     have l4:=l3.pushB C T d a3
     refine aaq (fun e5=>wpS_pure ⟨K,.inl ⟨_,rfl,l4.doneA (.inl (aF7.mp e5))⟩⟩) (fun e5=>?_)
     replace e5:ib+1 ≠ b.size:=fun q=>e5 (aF7.mpr q)
     refine wpS_bind (aav (x:=a[c]) (aA4 f) ?_)
     refine wpS_bind (ahn C (N c f) T.hb (by lia) (by rw [aE7 (by simp)];exact acn T.sb) (by lia) (K.k.trans hk) fun G b2 h3 h4=>?_)
     rw [aE7 (by simp),List.drop_drop] at h4
     dsimp only
     refine' jpn2 (M:=M) (A:=A) (E:=E) (s:=s) (st:=O) (P:=fun p B=>Lo S R a b p c B/\B < b.size/\(∀ y∈b.toList.drop B,R y a[c]=false)/\t+2<=p.size) (prog:=?prog3) (fun U=>?use3) (fun p B h6=>?pf3)
     case use3 =>
      refine aaq (fun k0=>?_) (fun k0=>?_)
      ·have hd:Srt R (a[c] :: a.toList.drop (c+1)):=by rw [← abn f];exact acn T.sa
       have l5:Lo S R a b (j.push b[ib] ++ b.extract (ib+1) (ib+1+G)) c (ib+1+G):=l4.runB (by lia) fun x w y H=>by
        rw [abn f] at H
        have Z:S y:=T.ha y (aC3 (i:=c) (by rw [abn f];exact H))
        have sx:S x:=T.hb x (aC3 (aB9 w))
        exact C.tr _ _ _ sx (N c f) Z (C.asy _ _ sx (N c f) (h3 x w)) (aei C hd (N c f) y H)
       refine aaq (fun e6=>wpS_pure ⟨K,.inl ⟨_,rfl,l5.doneA (.inl (aF7.mp e6))⟩⟩) (fun e6=>?_)
       have X:Lo S R a b (j.push b[ib] ++ b.extract (ib+1) (ib+1+G)) c (ib+1+G)/\ib+1+G < b.size/\(∀ y∈b.toList.drop (ib+1+G),R y a[c]=false)/\t+2<=(j.push b[ib] ++ b.extract (ib+1) (ib+1+G)).size:=by
        have b1:ib+1+G ≠ b.size:=fun q=>e6 (aF7.mpr q)
        exact ⟨l5,by lia,h4,by rw [Array.size_append,aH3];lia⟩
       revert X
       clear e6 l5 hd
       generalize j.push b[ib] ++ b.extract (ib+1) (ib+1+G)=p
       generalize ib+1+G=B
       intro X
       exact U p B X
      ·have:G=0:=by lia
       rw [this] at h4
       exact U (j.push b[ib]) (ib+1) ⟨l4,by lia,h4,by rw [aH3];lia⟩
     refine wpS_bind (aav (x:=a[c]) (aA4 f) ?_)
     have l7:=h6.1.pushA f h6.2.2.1
     refine aaq (fun e7=>wpS_pure ⟨K,.inl ⟨_,rfl,l7.lastA T (aF7.mp e7)⟩⟩) (fun e7=>?_)
     have hf:c+1+1 < a.size/\B < b.size/\t+2<=(p.push a[c]).size:=by
      have a8:c+1+1 ≠ a.size:=fun q=>e7 (aF7.mpr q)
      have h7:=h6.2.2.2
      exact ⟨by lia,h6.2.1,by rw [aH3];lia⟩
     exact aaq (fun _=>wpS_pure ⟨K,.inr ⟨rfl,l7,hf⟩⟩) (fun _=>wpS_pure ⟨K,rfl,l7,hf⟩)
    ·intro z o n
     have W:=n.1
     refine unR (J:=fun y:Array Keyed × Nat × Nat × Nat × Nat × Nat=>Lo S R a b y.1 y.2.1 y.2.2.1/\y.2.1+1 < a.size/\y.2.2.1 < b.size/\t+2<=y.1.size) z n.2 (fun r x hr=>wpS_pure ⟨W,r,rfl,hr⟩) fun Y=>?_
     refine un7 (J:=fun out ia ib _ _ _=>Lo S R a b out ia ib/\ia+1 < a.size/\ib < b.size/\t+2<=out.size) z Y fun out ia ib mg ac bc v=>?_
     dsimp only
     refine wpS_bind (wpS_modify ?_)
     exact wpS_pure ⟨W.trans ⟨rfl,rfl,rfl,rfl⟩,rfl,v⟩
  ·intro z o n
   exfalso
   have h1:=n.2.2.1.len
   have h2:=n.2.2.2
   have:a.size+b.size<=max 0 (a.size+b.size):=by lia
   lia
 ·intro z o n
  have W:=n.1
  exact unR (J:=fun _=>False) z (.inl n.2) (fun r x hr=>wpS_pure (h r o W hr)) fun Y=>Y.2.elim
end
structure MidH (R:Keyed->Keyed->Bool) (L a b tl:List Keyed):Prop where
 perm:(a ++ b ++ tl).Perm L
 so:Srt R tl
 le:∀ x∈a ++ b,∀ y∈tl,R y x=false
 sa:Srt R a
 sb:Srt R b
section
variable {R:Keyed->Keyed->Bool} {L tl a b p:List Keyed}
theorem MidH.takeA (m:MidH R L (a ++ p) b tl) (h:∀ x∈b,∀ y∈p,R y x=false):MidH R L a b (p ++ tl):=by
 have sp:=aC8.mp m.sa
 refine ⟨List.Perm.trans ?_ m.perm,aC8.mpr ⟨sp.2.1,m.so,fun x c y d=>m.le x (aC6 _ (aB2 _ c)) y d⟩,fun x c y d=>?_,sp.1,m.sb⟩
 ·rw [← aB3,aB3 a p b,aB3 a b p]
  exact List.Perm.append_right tl (List.Perm.append_left a List.perm_append_comm)
 ·rcases aA7.mp d with d | d
  ·rcases aA7.mp c with c | c
   ·exact sp.2.2 x c y d
   ·exact h x c y d
  ·refine m.le x ?_ y d
   rcases aA7.mp c with c | c
   ·exact aC6 _ (aC6 _ c)
   ·exact aB2 _ c
theorem MidH.takeB (m:MidH R L a (b ++ p) tl) (h:∀ x∈a,∀ y∈p,R y x=false):MidH R L a b (p ++ tl):=by
 have sp:=aC8.mp m.sb
 refine ⟨by have:=m.perm;simp only [aB3] at this ⊢;exact this,aC8.mpr ⟨sp.2.1,m.so,fun x c y d=>m.le x (aB2 _ (aB2 _ c)) y d⟩,fun x c y d=>?_,m.sa,sp.1⟩
 rcases aA7.mp d with d | d
 ·rcases aA7.mp c with c | c
  ·exact h x c y d
  ·exact sp.2.2 x c y d
 ·refine m.le x ?_ y d
  rcases aA7.mp c with c | c
  ·exact aC6 _ c
  ·exact aB2 _ (aC6 _ c)
theorem MidH.done (m:MidH R L a b tl) (h:a=[]\/b=[]):(a ++ b ++ tl).Perm L/\Srt R (a ++ b ++ tl):=by
 refine ⟨m.perm,aC8.mpr ⟨?_,m.so,m.le⟩⟩
 rcases h with h | h
 ·subst h;exact m.sb
 ·subst h;rw [aE5];exact m.sa
theorem MidH.first (m:MidH R L a b tl) (h:∀ y∈b,∀ x∈a,R x y=false):(b ++ a ++ tl).Perm L/\Srt R (b ++ a ++ tl):=by
 refine ⟨List.Perm.trans (List.Perm.append_right tl List.perm_append_comm) m.perm,aC8.mpr ⟨aC8.mpr ⟨m.sb,m.sa,h⟩,m.so,fun x c y d=>m.le x ?_ y d⟩⟩
 rcases aA7.mp c with c | c
 ·exact aB2 _ c
 ·exact aC6 _ c
end
theorem acd {a:Array Keyed} {i:Nat} (c:0 < i) (h:i<=a.size):a.toList.take i=a.toList.take (i - 1) ++ [a[i - 1]'(by lia)]:=by
 obtain ⟨j,rfl⟩:∃ j,i=j+1:=⟨i - 1,by lia⟩
 rw [List.take_succ]
 have b:j < a.size:=by lia
 simp [b]
theorem ald (a:Array Keyed) (k:Nat):(a.extract 0 k).toList=a.toList.take k:=by
 rw [Array.toList_extract];simp [List.extract]
theorem al4 (a:Array Keyed) (k n:Nat):(a.extract k n).toList=(a.toList.take n).drop k:=by
 rw [Array.toList_extract];simp [List.extract,List.drop_take]
section
variable {M:Model} {A:Around} {E:Value->Shared->Prop} {s:Shared} {κ:SortKind} {S:Keyed->Prop} {R:Keyed->Keyed->Bool}
structure Hi (S:Keyed->Prop) (R:Keyed->Keyed->Bool) (a b out:Array Keyed) (na nb:Nat):Prop where
 mid:MidH R (a.toList ++ b.toList) (a.toList.take na) (b.toList.take nb) out.toList.reverse
 na:na<=a.size
 nb:nb<=b.size
theorem Hi.len {a b out:Array Keyed} {na nb:Nat} (l:Hi S R a b out na nb):out.size+na+nb=a.size+b.size:=by
 have:=l.mid.perm.length_eq
 have d:=l.na
 have c:=l.nb
 simp at this
 lia
theorem Hi.doneA {a b out:Array Keyed} {na nb:Nat} (l:Hi S R a b out na nb) (h:na=0\/nb=0):Fin2 R a b (a.extract 0 na ++ b.extract 0 nb ++ out.reverse):=by
 have:=l.mid.done (by
  rcases h with h | h
  ·left;rw [h];simp
  ·right;rw [h];simp)
 unfold Fin2
 rw [aG0,aG0,ald,ald,Array.toList_reverse]
 exact this
theorem Hi.firstB {a b out:Array Keyed} {na nb:Nat} (T:Two S R a b) (l:Hi S R a b out na nb) (h:nb=1):Fin2 R a b (b.extract 0 nb ++ a.extract 0 na ++ out.reverse):=by
 subst h
 have:=l.mid.first (by
  intro y c x d
  rw [acd (by decide) l.nb] at c
  have f:y=b[0]'T.b0:=by simpa using c
  exact T.first x (aB9 d) y (by rw [f];exact aA4 _))
 unfold Fin2
 rw [aG0,aG0,ald,ald,Array.toList_reverse]
 exact this
theorem ab5 {l:List Keyed} {i:Nat} (h:Srt R l):Srt R (l.take i):=List.Pairwise.sublist (List.take_sublist i l) h
theorem adw {x:Keyed} {l:List Keyed} (C:Cmp M A E s κ S R) (h:Srt R (l ++ [x])) (b:S x):∀ y∈l ++ [x],R x y=false:=by
 intro y a
 rcases aA7.mp a with a | a
 ·exact (aC8.mp h).2.2 y a x (by simp)
 ·have:y=x:=by simpa using a
  rw [this];exact C.irr b
theorem Hi.pushA {a b out:Array Keyed} {na nb:Nat} (l:Hi S R a b out na nb) (c:0 < na) (h:∀ x∈b.toList.take nb,R (a[na - 1]'(by have:=l.na;lia)) x=false):Hi S R a b (out.push (a[na - 1]'(by have:=l.na;lia))) (na - 1) nb:=by
 refine ⟨?_,by have:=l.na;lia,l.nb⟩
 have m:=l.mid
 rw [acd c l.na] at m
 rw [Array.toList_push,List.reverse_append]
 exact m.takeA (p:=[_]) (fun x f y d=>by
  rw [aC1.mp d];exact h x f)
theorem Hi.pushB {a b out:Array Keyed} {na nb:Nat} (l:Hi S R a b out na nb) (c:0 < nb) (h:∀ x∈a.toList.take na,R (b[nb - 1]'(by have:=l.nb;lia)) x=false):Hi S R a b (out.push (b[nb - 1]'(by have:=l.nb;lia))) na (nb - 1):=by
 refine ⟨?_,l.na,by have:=l.nb;lia⟩
 have m:=l.mid
 rw [acd c l.nb] at m
 rw [Array.toList_push,List.reverse_append]
 exact m.takeB (p:=[_]) (fun x f y d=>by
  rw [aC1.mp d];exact h x f)
theorem Hi.runA {a b out:Array Keyed} {na nb k:Nat} (l:Hi S R a b out na nb) (d:k<=na) (h:∀ x∈b.toList.take nb,∀ y∈(a.toList.take na).drop k,R y x=false):Hi S R a b (out ++ (a.extract k na).reverse) k nb:=by
 refine ⟨?_,by have:=l.na;lia,l.nb⟩
 have m:=l.mid
 rw [← aC0 k (a.toList.take na)] at m
 rw [aG0,Array.toList_reverse,al4,List.reverse_append,List.reverse_reverse]
 have c:=m.takeA h
 rw [List.take_take,Nat.min_eq_left d] at c
 exact c
theorem Hi.runB {a b out:Array Keyed} {na nb k:Nat} (l:Hi S R a b out na nb) (d:k<=nb) (h:∀ x∈a.toList.take na,∀ y∈(b.toList.take nb).drop k,R y x=false):Hi S R a b (out ++ (b.extract k nb).reverse) na k:=by
 refine ⟨?_,l.na,by have:=l.nb;lia⟩
 have m:=l.mid
 rw [← aC0 k (b.toList.take nb)] at m
 rw [aG0,Array.toList_reverse,al4,List.reverse_append,List.reverse_reverse]
 have c:=m.takeB h
 rw [List.take_take,Nat.min_eq_left d] at c
 exact c
theorem apt (C:Cmp M A E s κ S R) {a b:Array Keyed} (T:Two S R a b) {Q:Array Keyed->SortSt->Prop} {st:SortSt} (hk:kindOf st = κ)
  (h:∀ m st',Eqv st st'->Fin2 R a b m->Q m st'):wpS M A E s (aty a b) Q st:=by
 have K:∀ i (h:i < a.size),S a[i]:=fun i h=>T.ha _ (by simp)
 have I:∀ i (h:i < b.size),S b[i]:=fun i h=>T.hb _ (by simp)
 have b0:=T.b0
 have a0:=T.a0
 have la:a.size - 1 < a.size:=by lia
 refine wpS_bind (adj ?_)
 refine wpS_bind (aav (x:=a[a.size - 1]'la) (aA4 la) ?_)
 have l1:Hi S R a b #[a[a.size - 1]'la] (a.size - 1) b.size:=by
  have l0:Hi S R a b #[] a.size b.size:=⟨⟨by simp [aE7],List.Pairwise.nil,fun x j y hy=>by simp at hy,ab5 T.sa,ab5 T.sb⟩,aA6 _,aA6 _⟩
  exact l0.pushA a0 fun x j=>T.last x (aB9 j) _ (aA4 la)
 refine aaq (fun e1=>wpS_pure (h _ _ (Eqv.refl _) (l1.doneA (.inl (aF7.mp e1))))) (fun e1=>?_)
 refine aaq (fun e2=>wpS_pure (h _ _ (Eqv.refl _) (l1.firstB T (aF7.mp e2)))) (fun e2=>?_)
 replace e1:a.size - 1 ≠ 0:=fun q=>e1 (aF7.mpr q)
 replace e2:b.size ≠ 1:=fun q=>e2 (aF7.mpr q)
 refine wpS_bind (wpS_get ?_)
 have b1:∀ {na nb:Nat} (D:0 < na) (N:na<=a.size) (X:0 < nb) (Y:nb<=b.size),R (b[nb - 1]'(by lia)) (a[na - 1]'(by lia))=true->∀ x∈b.toList.take nb,R (a[na - 1]'(by lia)) x=false:=fun {na nb} D N X Y er x j=>by
  have sx:S x:=T.hb x (aB9 j)
  have hs:Srt R (b.toList.take (nb - 1) ++ [b[nb - 1]'(by lia)]):=by rw [← acd X Y];exact ab5 T.sb
  rw [acd X Y] at j
  exact C.tr _ _ _ sx (I _ _) (K _ _) (adw C hs (I _ _) x j) (C.asy _ _ (I _ _) (K _ _) er)
 have a4:∀ {na nb:Nat} (D:0 < na) (N:na<=a.size) (X:0 < nb) (Y:nb<=b.size),R (b[nb - 1]'(by lia)) (a[na - 1]'(by lia))=false->∀ x∈a.toList.take na,R (b[nb - 1]'(by lia)) x=false:=fun {na nb} D N X Y er x j=>by
  have sx:S x:=T.ha x (aB9 j)
  have hs:Srt R (a.toList.take (na - 1) ++ [a[na - 1]'(by lia)]):=by rw [← acd D N];exact ab5 T.sa
  rw [acd D N] at j
  exact C.tr _ _ _ sx (K _ _) (I _ _) (adw C hs (K _ _) x j) er
 refine wpS_bind (wpS_mono (Q:=fun (z:Option (Array Keyed) × Nat × Nat × Array Keyed × Nat) st'=>Eqv st st'/\∃ r,z.1=some r/\Fin2 R a b r) ?_ ?_)
 ·refine wpS_forRange (fun t (z:Option (Array Keyed) × Nat × Nat × Array Keyed × Nat) st'=>Eqv st st'/\z.1=none/\Hi S R a b z.2.2.2.1 z.2.1 z.2.2.1/\0 < z.2.1/\1 < z.2.2.1/\t+1<=z.2.2.2.1.size) ?_ ?_ ⟨Eqv.refl _,rfl,l1,by dsimp only;lia,by dsimp only;lia,by simp⟩
  ·intro t z b4 _ ht f
   have q1:=f.1
   refine un5 (J:=fun na nb out _=>Hi S R a b out na nb/\0 < na/\1 < nb/\t+1<=out.size) z f.2 fun na nb out mg o=>?_
   dsimp only
   refine wpS_bind (wpS_mono (Q:=fun (z:Option (Array Keyed) × Nat × Nat × Array Keyed × Nat × Nat) st'=>Eqv st st'/\((∃ r,z.1=some r/\Fin2 R a b r)\/(z.1=none/\Hi S R a b z.2.2.2.1 z.2.1 z.2.2.1/\0 < z.2.1/\1 < z.2.2.1/\t+2<=z.2.2.2.1.size))) ?_ ?_)
   ·refine wpS_forRange (fun i (z:Option (Array Keyed) × Nat × Nat × Array Keyed × Nat × Nat) st'=>Eqv st st'/\z.1=none/\Hi S R a b z.2.2.2.1 z.2.1 z.2.2.1/\0 < z.2.1/\1 < z.2.2.1/\t+1+min i 1<=z.2.2.2.1.size) ?_ ?_ ⟨q1,rfl,o.1,o.2.1,o.2.2.1,o.2.2.2⟩
    ·intro i z g _ hi f
     have q:=f.1
     refine un6 (J:=fun na nb out _ _=>Hi S R a b out na nb/\0 < na/\1 < nb/\t+1+min i 1<=out.size) z f.2 fun na nb out ac bc o=>?_
     have l:=o.1
     have p:=o.2.1
     have a1:=o.2.2.1
     have hsz:=o.2.2.2
     have ia:na - 1 < a.size:=by have:=l.na;lia
     have ib:nb - 1 < b.size:=by have:=l.nb;lia
     refine wpS_bind (aav (x:=b[nb - 1]) (aA4 ib) ?_)
     refine wpS_bind (aav (x:=a[na - 1]) (aA4 ia) ?_)
     refine wpS_bind (C.ask _ _ (I _ ib) (K _ ia) _ _ (q.k.trans hk) ?_)
     dsimp only
     refine aaq (fun er=>?_) (fun er=>?_)
     ·refine wpS_bind (aav (x:=a[na - 1]) (aA4 ia) ?_)
      have F:=l.pushA p (b1 p l.na (by lia) l.nb er)
      refine aaq (fun w=>wpS_pure ⟨q,.inl ⟨_,rfl,F.doneA (.inl (aF7.mp w))⟩⟩) (fun w=>?_)
      have hf:0 < na - 1/\1 < nb/\t+2<=(out.push a[na - 1]).size:=by
       have a2:na - 1 ≠ 0:=fun q=>w (aF7.mpr q)
       rw [aH3];lia
      exact aaq (fun _=>wpS_pure ⟨q,.inr ⟨rfl,F,hf⟩⟩) (fun _=>wpS_pure ⟨q,rfl,F,hf.1,a1,aC9 (by lia) hf.2.2⟩)
     ·refine wpS_bind (aav (x:=b[nb - 1]) (aA4 ib) ?_)
      have F:=l.pushB (by lia) (a4 p l.na (by lia) l.nb (eq_false_of_ne_true er))
      refine aaq (fun w=>wpS_pure ⟨q,.inl ⟨_,rfl,F.firstB T (aF7.mp w)⟩⟩) (fun w=>?_)
      have hf:1 < nb - 1/\t+2<=(out.push b[nb - 1]).size:=by
       have a2:nb - 1 ≠ 1:=fun q=>w (aF7.mpr q)
       rw [aH3];lia
      exact aaq (fun _=>wpS_pure ⟨q,.inr ⟨rfl,F,p,hf⟩⟩) (fun _=>wpS_pure ⟨q,rfl,F,p,hf.1,aC9 (by lia) hf.2⟩)
    ·exact fun z g f=>⟨f.1,.inr ⟨f.2.1,f.2.2.1,f.2.2.2.1,f.2.2.2.2.1,aC9 (by lia) f.2.2.2.2.2⟩⟩
   ·intro z g f
    have q2:=f.1
    refine unR (J:=fun y:Nat × Nat × Array Keyed × Nat × Nat=>Hi S R a b y.2.2.1 y.1 y.2.1/\0 < y.1/\1 < y.2.1/\t+2<=y.2.2.1.size) z f.2 (fun r x hr=>wpS_pure ⟨q2,r,rfl,hr⟩) fun hN=>?_
    refine un6 (J:=fun na nb out _ _=>Hi S R a b out na nb/\0 < na/\1 < nb/\t+2<=out.size) z hN fun na nb out ac bc o=>?_
    dsimp only
    refine wpS_bind (adj ?_)
    refine wpS_bind (wpS_mono (Q:=fun (z:Option (Array Keyed) × Nat × Nat × Array Keyed × Nat × Nat × Nat) st'=>Eqv st st'/\((∃ r,z.1=some r/\Fin2 R a b r)\/(z.1=none/\Hi S R a b z.2.2.2.1 z.2.1 z.2.2.1/\0 < z.2.1/\1 < z.2.2.1/\t+2<=z.2.2.2.1.size))) ?_ ?_)
    ·refine wpS_forRange (fun i (z:Option (Array Keyed) × Nat × Nat × Array Keyed × Nat × Nat × Nat) st'=>Eqv st st'/\z.1=none/\Hi S R a b z.2.2.2.1 z.2.1 z.2.2.1/\0 < z.2.1/\1 < z.2.2.1/\t+2<=z.2.2.2.1.size) ?_ (fun z g f=>⟨f.1,.inr f.2⟩) ⟨q2,rfl,o⟩
     intro i z g _ hi f
     have q:=f.1
     refine un7 (J:=fun na nb out _ _ _=>Hi S R a b out na nb/\0 < na/\1 < nb/\t+2<=out.size) z f.2 fun na nb out mg ac bc o=>?_
     have l:=o.1
     have p:=o.2.1
     have a1:=o.2.2.1
     have hsz:=o.2.2.2
     have b3:=l.na
     have W:=l.nb
     have ib:nb - 1 < b.size:=by lia
     dsimp only
     refine' jpn (M:=M) (A:=A) (E:=E) (s:=s) (st:=g) (β:=Nat) (P:=fun _=>True) (prog:=?prog) (fun U=>?use) (fun b5 _=>?pf)
     case use =>
      refine aaq (fun hm=>?_) (fun hm=>?_)
      ·generalize mg - 1=m
       exact U m trivial
      ·exact U mg trivial
     refine wpS_bind (wpS_mono (Q:=fun _ L=>Eqv g L) (wpS_modify ⟨rfl,rfl,rfl,rfl⟩) fun _ L H=>?_)
     replace H:=q.trans H
     refine wpS_bind (aav (x:=b[nb - 1]) (aA4 ib) ?_)
     refine wpS_bind (agg C (I _ ib) T.ha (by lia) (by rw [List.drop_zero];exact ab5 T.sa) (by lia) (H.k.trans hk) fun k a5 D N=>?_)
     rw [List.drop_zero] at D N
     dsimp only
     generalize hac:na - k=ac2
     refine' jpn2 (M:=M) (A:=A) (E:=E) (s:=s) (st:=L) (P:=fun d c=>Hi S R a b d c nb/\0 < c/\(∀ x∈a.toList.take c,R b[nb - 1] x=false)/\t+2<=d.size) (prog:=?prog2) (fun U=>?use2) (fun d c h5=>?pf2)
     case use2 =>
      refine aaq (fun k0=>?_) (fun k0=>?_)
      ·have a6:Srt R (b.toList.take (nb - 1) ++ [b[nb - 1]]):=by rw [← acd (by lia) W];exact ab5 T.sb
       have F:Hi S R a b (out ++ (a.extract k na).reverse) k nb:=l.runA a5 fun x j y hy=>by
        have sx:S x:=T.hb x (aB9 j)
        have sy:S y:=T.ha y (aB9 (aC3 hy))
        rw [acd (by lia) W] at j
        exact C.tr _ _ _ sx (I _ ib) sy (adw C a6 (I _ ib) x j) (C.asy _ _ (I _ ib) sy (N y hy))
       refine aaq (fun w=>wpS_pure ⟨H,.inl ⟨_,rfl,F.doneA (.inl (aF7.mp w))⟩⟩) (fun w=>?_)
       have hP:Hi S R a b (out ++ (a.extract k na).reverse) k nb/\0 < k/\(∀ x∈a.toList.take k,R b[nb - 1] x=false)/\t+2<=(out ++ (a.extract k na).reverse).size:=by
        have a2:k ≠ 0:=fun q=>w (aF7.mpr q)
        exact ⟨F,by lia,D,by rw [Array.size_append];lia⟩
       revert hP
       clear w F
       generalize out ++ (a.extract k na).reverse=d
       generalize k=c
       intro hP
       exact U d c hP
      ·have:k=na:=by lia
       rw [this] at D
       exact U out na ⟨l,p,D,hsz⟩
     have l3:=h5.1
     have G:=h5.2.1
     have a8:=h5.2.2.1
     have b2:=h5.2.2.2
     have B:=l3.na
     have ia:c - 1 < a.size:=by lia
     refine wpS_bind (aav (x:=b[nb - 1]) (aA4 ib) ?_)
     have l4:=l3.pushB (by lia) a8
     refine aaq (fun e5=>wpS_pure ⟨H,.inl ⟨_,rfl,l4.firstB T (aF7.mp e5)⟩⟩) (fun e5=>?_)
     replace e5:nb - 1 ≠ 1:=fun q=>e5 (aF7.mpr q)
     refine wpS_bind (aav (x:=a[c - 1]) (aA4 ia) ?_)
     refine wpS_bind (ahn C (K _ ia) T.hb (by lia) (by rw [List.drop_zero];exact ab5 T.sb) (by lia) (H.k.trans hk) fun v a9 X Y=>?_)
     rw [List.drop_zero] at X Y
     dsimp only
     generalize hbc:nb - 1 - v=bc2
     refine' jpn2 (M:=M) (A:=A) (E:=E) (s:=s) (st:=L) (P:=fun n u=>Hi S R a b n c u/\1 < u/\(∀ x∈b.toList.take u,R a[c - 1] x=false)/\t+2<=n.size) (prog:=?prog3) (fun U=>?use3) (fun n u h6=>?pf3)
     case use3 =>
      have Z:∀ x∈b.toList.take v,R a[c - 1] x=false:=fun x j=>C.asy _ _ (T.hb x (aB9 j)) (K _ ia) (X x j)
      refine aaq (fun k0=>?_) (fun k0=>?_)
      ·have a3:Srt R (a.toList.take (c - 1) ++ [a[c - 1]]):=by rw [← acd G B];exact ab5 T.sa
       have l5:Hi S R a b (d.push b[nb - 1] ++ (b.extract v (nb - 1)).reverse) c v:=l4.runB a9 fun x j y hy=>by
        have sx:S x:=T.ha x (aB9 j)
        have sy:S y:=T.hb y (aB9 (aC3 hy))
        rw [acd G B] at j
        exact C.tr _ _ _ sx (K _ ia) sy (adw C a3 (K _ ia) x j) (Y y hy)
       refine aaq (fun e6=>wpS_pure ⟨H,.inl ⟨_,rfl,l5.firstB T (aF7.mp e6)⟩⟩) (fun e6=>?_)
       refine aaq (fun O=>wpS_pure ⟨H,.inl ⟨_,rfl,l5.doneA (.inr (aF7.mp O))⟩⟩) (fun O=>?_)
       have hP:Hi S R a b (d.push b[nb - 1] ++ (b.extract v (nb - 1)).reverse) c v/\1 < v/\(∀ x∈b.toList.take v,R a[c - 1] x=false)/\t+2<=(d.push b[nb - 1] ++ (b.extract v (nb - 1)).reverse).size:=by
        have b6:v ≠ 1:=fun q=>e6 (aF7.mpr q)
        have a7:v ≠ 0:=fun q=>O (aF7.mpr q)
        exact ⟨l5,by lia,Z,by rw [Array.size_append,aH3];lia⟩
       revert hP
       clear e6 O l5
       generalize d.push b[nb - 1] ++ (b.extract v (nb - 1)).reverse=n
       generalize v=u
       intro hP
       exact U n u hP
      ·have:v=nb - 1:=by lia
       rw [this] at Z
       exact U (d.push b[nb - 1]) (nb - 1) ⟨l4,by lia,Z,by rw [aH3];lia⟩
     refine wpS_bind (aav (x:=a[c - 1]) (aA4 ia) ?_)
     have l7:=h6.1.pushA G h6.2.2.1
     refine aaq (fun O=>wpS_pure ⟨H,.inl ⟨_,rfl,l7.doneA (.inl (aF7.mp O))⟩⟩) (fun O=>?_)
     have hf:0 < c - 1/\1 < u/\t+2<=(n.push a[c - 1]).size:=by
      have a7:c - 1 ≠ 0:=fun q=>O (aF7.mpr q)
      have h7:=h6.2.2.2
      exact ⟨by lia,h6.2.1,by rw [aH3];lia⟩
     exact aaq (fun _=>wpS_pure ⟨H,.inr ⟨rfl,l7,hf⟩⟩) (fun _=>wpS_pure ⟨H,rfl,l7,hf⟩)
    ·intro z g f
     have q2:=f.1
     refine unR (J:=fun y:Nat × Nat × Array Keyed × Nat × Nat × Nat=>Hi S R a b y.2.2.1 y.1 y.2.1/\0 < y.1/\1 < y.2.1/\t+2<=y.2.2.1.size) z f.2 (fun r x hr=>wpS_pure ⟨q2,r,rfl,hr⟩) fun hN=>?_
     refine un7 (J:=fun na nb out _ _ _=>Hi S R a b out na nb/\0 < na/\1 < nb/\t+2<=out.size) z hN fun na nb out mg ac bc o=>?_
     dsimp only
     refine wpS_bind (wpS_modify ?_)
     exact wpS_pure ⟨q2.trans ⟨rfl,rfl,rfl,rfl⟩,rfl,o⟩
  ·intro z g f
   exfalso
   have D:=f.2.2.1.len
   have N:=f.2.2.2
   have:a.size+b.size<=max 0 (a.size+b.size):=by lia
   lia
 ·intro z g f
  have q2:=f.1
  exact unR (J:=fun _=>False) z (.inl f.2) (fun r x hr=>wpS_pure (h r g q2 hr)) fun hN=>hN.2.elim
end
theorem akb (base:Nat):∀ (b v u w:List Keyed) (j:Nat) (xs:Array Keyed),xs.toList=u ++ v ++ w->v.length=b.length->u.length=base+j ->
  ((b.zipIdx j).foldl (fun a x=>match x with | (p,j)=>a.setIfInBounds (base+j) p) xs).toList=u ++ b ++ w
 | [],v,u,w,j,xs,h1,h2,h3=>by
  have:v=[]:=aG6 h2
  subst this
  exact h1
 | m :: b,v,u,w,j,xs,h1,h2,h3=>by
  cases v with
  | nil=>cases h2
  | cons y v =>
   rw [List.zipIdx_cons,List.foldl_cons]
   have c:=akb base b v (u ++ [m]) w (j+1) (xs.setIfInBounds (base+j) m) (by
    rw [Array.toList_setIfInBounds,h1,← h3]
    simp [List.set_append]) (by simpa using h2) (by simp [h3];lia)
   rw [c]
   simp
section
variable {M:Model} {A:Around} {E:Value->Shared->Prop} {s:Shared} {κ:SortKind} {S:Keyed->Prop} {R:Keyed->Keyed->Bool}
theorem awz {σ:Type} {st st' : σ} {Q:PUnit->σ->Prop} (h:Q ⟨⟩ st'):wpS M A E s (set st':StateT σ Sem PUnit) Q st:=by
 unfold wpS
 rw [StateT.run_set]
 exact aI3 ⟨rfl,h⟩
theorem apu (C:Cmp M A E s κ S R) {st:SortSt} {i pw pw2:Nat} {pre a b g:List Keyed} (F:(arrOf st).toList=pre ++ a ++ b ++ g) (hS:∀ x∈(arrOf st).toList,S x)
  (a8:(pendingOf st)[i]?=some (pre.length,a.length,pw)) (a3:(pendingOf st)[i+1]?=some (pre.length+a.length,b.length,pw2)) (na:a ≠ []) (nb:b ≠ []) (W:Srt R a) (N:Srt R b) (hk:kindOf st = κ) (hf:failedOf st=none)
  {Q:Bool->SortSt->Prop}
  (h:∀ st' m,kindOf st' = κ->failedOf st'=none->pendingOf st'=((pendingOf st).setIfInBounds i (pre.length,a.length+b.length,pw)).eraseIdxIfInBounds (i+1)->(arrOf st').toList=pre ++ m ++ g->m.Perm (a ++ b)->Srt R m->Q true st') :
  wpS M A E s (al3 i) Q st:=by
 have la:0 < a.length:=aF3.mpr na
 have lb:0 < b.length:=aF3.mpr nb
 have I:∀ x∈a,S x:=fun x c=>hS x (by rw [F];simp [c])
 have O:∀ x∈b,S x:=fun x c=>hS x (by rw [F];simp [c])
 have lx:(arrOf st).size=pre.length+a.length+b.length+g.length:=by
  have:=congrArg List.length F
  simp at this
  lia
 have D:((arrOf st).toList.drop pre.length).take a.length=a:=by rw [F];simp [aB3]
 have B:((arrOf st).toList.drop (pre.length+a.length)).take b.length=b:=by
  rw [show pre.length+a.length=(pre ++ a).length by simp,F,aB3 (pre ++ a),List.drop_left,List.take_left]
 refine wpS_bind (wpS_get ?_)
 rw [a8,a3]
 refine wpS_bind (wpS_mono (Q:=fun _ o=>kindOf o = κ/\failedOf o=none/\arrOf o=arrOf st/\pendingOf o=((pendingOf st).setIfInBounds i (pre.length,a.length+b.length,pw)).eraseIdxIfInBounds (i+1)) (awz ⟨hk,hf,rfl,rfl⟩) fun _ o ⟨U,f1,a1,p1⟩=>?_)
 obtain ⟨b0,bt,eb⟩:∃ b0 bt,b=b0 :: bt:=by cases b with | nil=>exact absurd rfl nb | cons x r=>exact ⟨x,r,rfl⟩
 have a5:(arrOf st)[pre.length+a.length]?=some b0:=by
  rw [← aD4,F,eb]
  simp [List.getElem?_append]
 have v:S b0:=O b0 (by rw [eb];simp)
 have w:∀ y∈b,R y b0=false:=fun y d=>by rw [eb] at d N;exact aei C N v y d
 -- nothing is laid together: the two stand in order already
 have plain:(∀ x∈a,∀ y∈b,R y x=false)->∀ st',Eqv o st'->Q true st':=fun hc st' q=>by
  refine h st' (a ++ b) (q.k.trans U) (q.f.trans f1) (q.p.trans p1) ?_ (List.Perm.refl _) (aC8.mpr ⟨W,N,hc⟩)
  rw [q.a,a1,F]
  simp [aB3]
 refine wpS_bind (aav a5 ?_)
 refine wpS_bind (agg C v hS (by lia) (by rw [D];exact W) la U fun k a4 h1 h2=>?_)
 rw [D] at h2
 have G:∀ x∈a.take k,R b0 x=false:=fun x c=>h1 x (by
  have:((arrOf st).toList.drop pre.length).take k=a.take k:=by rw [← D,List.take_take,Nat.min_eq_left a4]
  rw [this];exact c)
 dsimp only
 refine aaq (fun e=>?_) (fun e=>?_)
 ·have e':a.length - k=0:=by simpa using e
  refine wpS_pure (plain (fun x c y d=>?_) o (Eqv.refl _))
  have:a.take k=a:=aE7 (by lia)
  rw [this] at G
  exact C.tr x b0 y (I x c) v (O y d) (G x c) (w y d)
 ·have e':a.length - k ≠ 0:=by simpa using e
  -- the last of a
  have L:pre.length+k+(a.length - k) - 1=pre.length+(a.length - 1):=by lia
  have n:a.length - 1 < a.length:=by lia
  have a2:(arrOf st)[pre.length+k+(a.length - k) - 1]?=some (a[a.length - 1]'n):=by
   rw [← aD4,F,L]
   simp [List.getElem?_append,n,aB3]
  have Sl:S (a[a.length - 1]'n):=I _ (List.getElem_mem n)
  have u:a=a.take (a.length - 1) ++ [a[a.length - 1]'n]:=by
   have:=List.take_succ (l:=a) (i:=a.length - 1)
   rw [show a.length - 1+1=a.length by lia,aG2] at this
   simpa [n] using this
  have J:∀ x∈a,R (a[a.length - 1]'n) x=false:=fun x c=>by
   have hs:Srt R (a.take (a.length - 1) ++ [a[a.length - 1]'n]):=by rw [← u];exact W
   exact adw C hs Sl x (by rw [← u];exact c)
  refine wpS_bind (aav a2 ?_)
  refine wpS_bind (ahn C Sl hS (by lia) (by rw [B];exact N) (by lia) U fun j a6 h3 h4=>?_)
  rw [B] at h4
  have a0:((arrOf st).toList.drop (pre.length+a.length)).take j=b.take j:=by rw [← B,List.take_take,Nat.min_eq_left a6]
  rw [a0] at h3
  dsimp only
  refine aaq (fun e2=>?_) (fun e2=>?_)
  ·have Z:j=0:=by simpa using e2
   subst Z
   refine wpS_pure (plain (fun x c y d=>?_) o (Eqv.refl _))
   exact C.tr x _ y (I x c) Sl (O y d) (J x c) (h4 y (by simpa using d))
  ·have Z:j ≠ 0:=by simpa using e2
   have ex:((arrOf st).extract (pre.length+k) (pre.length+a.length)).toList=a.drop k:=by
    rw [al4,F]
    simp [aB3,List.take_append,List.drop_append]
   have P:((arrOf st).extract (pre.length+a.length) (pre.length+a.length+j)).toList=b.take j:=by
    rw [aje,a0]
   generalize hX:(arrOf st).extract (pre.length+k) (pre.length+a.length)=X at ex
   generalize hY:(arrOf st).extract (pre.length+a.length) (pre.length+a.length+j)=Y at P
   have sX:X.size=a.length - k:=by have:=congrArg List.length ex;simpa using this
   have sY:Y.size=j:=by have:=congrArg List.length P;simp at this;lia
   have T:Two S R X Y:=by
    refine ⟨fun x c=>I x (aC3 (by rw [← ex];exact c)),fun x c=>O x (aB9 (by rw [← P];exact c)),by rw [ex];exact acn W,by rw [P];exact ab5 N,by lia,by lia,fun x c y d=>?_,fun y d x c=>?_⟩
    ·rw [← aD4,P,eb] at d
     have:y=b0:=by
      obtain ⟨j',rfl⟩:∃ j',j=j'+1:=⟨j - 1,by lia⟩
      simpa using d.symm
     rw [this]
     rw [ex] at c
     exact C.asy _ _ v (I x (aC3 c)) (h2 x c)
    ·rw [← aD4,ex,sX] at c
     rw [aH7,show k+(a.length - k - 1)=a.length - 1 by lia,aA0 n] at c
     cases c
     rw [P] at d
     exact C.asy _ _ (O y (aB9 d)) Sl (h3 y d)
   have fin:∀ (m:Array Keyed) (st':SortSt),Eqv o st'->Fin2 R X Y m->wpS M A E s (do
     modify fun (z:SortSt)=>setArr z (List.foldl (fun a x=>match x with | (p,j)=>a.setIfInBounds (pre.length+k+j) p) (arrOf z) m.toList.zipIdx)
     let z ← get
     pure (failedOf z).isNone) Q st':=by
    intro m st' q ⟨H,ms⟩
    rw [ex,P] at H
    refine wpS_bind (wpS_modify ?_)
    refine wpS_bind (wpS_get ?_)
    refine wpS_pure ?_
    show Q (failedOf st').isNone _
    rw [q.f,f1]
    have lm:m.toList.length=(a.drop k).length+(b.take j).length:=by rw [H.length_eq,aB0]
    have K:∀ z∈m.toList,z∈a.drop k\/z∈b.take j:=fun z hz=>aA7.mp (H.mem_iff.mp hz)
    refine h _ (a.take k ++ m.toList ++ b.drop j) (q.k.trans U) (q.f.trans f1) (q.p.trans p1) ?_ ?_ ?_
    ·show (List.foldl _ (arrOf st') m.toList.zipIdx).toList=_
     have base:(arrOf st').toList=(pre ++ a.take k) ++ (a.drop k ++ b.take j) ++ (b.drop j ++ g):=by
      rw [q.a,a1,F]
      have t1:=aC0 k a
      have t2:=aC0 j b
      calc pre ++ a ++ b ++ g=pre ++ (a.take k ++ a.drop k) ++ (b.take j ++ b.drop j) ++ g:=by rw [t1,t2]
       _=_:=by simp only [aB3]
     have:=akb (pre.length+k) m.toList (a.drop k ++ b.take j) (pre ++ a.take k) (b.drop j ++ g) 0 (arrOf st') base (by rw [aB0,lm]) (by rw [aB0,aG4];lia)
     rw [this]
     simp only [aB3]
    ·have t1:=aC0 k a
     have t2:=aC0 j b
     calc (a.take k ++ m.toList ++ b.drop j).Perm (a.take k ++ (a.drop k ++ b.take j) ++ b.drop j):=List.Perm.append_right _ (List.Perm.append_left _ H)
      _ = a ++ b:=by
       simp only [aB3]
       rw [t2,← aB3,t1]
    ·have a7:Srt R (a.take k ++ a.drop k):=by rw [aC0];exact W
     have a9:Srt R (b.take j ++ b.drop j):=by rw [aC0];exact N
     have ca:=(aC8.mp a7).2.2
     have cb:=(aC8.mp a9).2.2
     refine aC8.mpr ⟨aC8.mpr ⟨ab5 W,ms,fun x c y d=>?_⟩,acn N,fun x c y d=>?_⟩
     ·rcases K y d with d | d
      ·exact ca x c y d
      ·exact C.tr x b0 y (I x (aB9 c)) v (O y (aB9 d)) (G x c) (w y (aB9 d))
     ·have Sy:=O y (aC3 d)
      rcases aA7.mp c with c | c
      ·exact C.tr x b0 y (I x (aB9 c)) v Sy (G x c) (w y (aC3 d))
      ·rcases K x c with c | c
       ·exact C.tr x _ y (I x (aC3 c)) Sl Sy (J x (aC3 c)) (h4 y d)
       ·exact cb x c y d
   refine aaq (fun e3=>?_) (fun e3=>?_)
   ·exact wpS_bind (aps C T U fun m st' q fm=>fin m st' q fm)
   ·exact wpS_bind (apt C T U fun m st' q fm=>fin m st' q fm)
end
def e (xs:Array Keyed) (k:Nat):Keyed:=(xs[k]?).getD (.none,.none)
theorem aib {xs:Array Keyed} {k:Nat} (h:k < xs.size):xs[k]?=some (e xs k):=by
 unfold e;rw [aA4 h];rfl
def Asc (R:Keyed->Keyed->Bool) (xs:Array Keyed) (l h:Nat):Prop:=∀ i j,l<=i->i<=j->j < h->R (e xs j) (e xs i)=false
def Des (R:Keyed->Keyed->Bool) (xs:Array Keyed) (l h:Nat):Prop:=∀ i j,l<=i->i<=j->j < h->R (e xs i) (e xs j)=false
structure Bs (κ:SortKind) (p0:Array (Nat × Nat × Nat)) (a0:Array Keyed) (lo:Nat) (st:SortSt):Prop where
 k:kindOf st = κ
 f:failedOf st=none
 p:pendingOf st=p0
 perm:(arrOf st).toList.Perm a0.toList
 pre:∀ k,k < lo->(arrOf st)[k]?=a0[k]?
theorem at3 {xs:Array Keyed} {src d:Nat} (a:src < xs.size) (hd:d<=src) (k:Nat):e (bubble xs src d) k=if k=src - d then e xs src else if src - d < k/\k<=src then e xs (k - 1) else e xs k:=by
 unfold e
 rw [getElem?_bubble a d hd]
 repeat' split
 all_goals rfl
theorem ac0 {xs:Array Keyed} {i j:Nat} (a:j<=xs.size) (k:Nat):e (mirror xs i j ((j - i) / 2)) k=if i<=k/\k < j then e xs (i+j - 1 - k) else e xs k:=by
 unfold e
 rw [getElem?_mirror_all a]
 split <;> rfl
section
variable {M:Model} {A:Around} {E:Value->Shared->Prop} {s:Shared} {κ:SortKind} {S:Keyed->Prop} {R:Keyed->Keyed->Bool} {p0:Array (Nat × Nat × Nat)} {a0:Array Keyed} {lo:Nat}
theorem Bs.size {st:SortSt} (B:Bs κ p0 a0 lo st):(arrOf st).size=a0.size:=by
 have:=B.perm.length_eq
 simpa using this
theorem Bs.sat {st:SortSt} (B:Bs κ p0 a0 lo st) (b:∀ x∈a0.toList,S x) {k:Nat} (a:k < a0.size):S (e (arrOf st) k):=by
 have h:=aib (xs:=arrOf st) (k:=k) (by rw [B.size];exact a)
 refine b _ (B.perm.mem_iff.mp ?_)
 rw [← aD4] at h
 exact aA2 h
theorem agh (C:Cmp M A E s κ S R) (b:∀ x∈a0.toList,S x) {st:SortSt} (B:Bs κ p0 a0 lo st) {i j:Nat} (hi:i < a0.size) (a:j < a0.size) {Q:Option Bool->SortSt->Prop} (h:Q (some (R (e (arrOf st) i) (e (arrOf st) j))) st) :
  wpS M A E s (ltAt' i j) Q st:=by
 rw [ltAt'_eq]
 refine wpS_bind (wpS_get ?_)
 refine wpS_bind (aav (aib (by rw [B.size];exact hi)) ?_)
 refine wpS_bind (aav (aib (by rw [B.size];exact a)) ?_)
 exact C.ask _ _ (B.sat b hi) (B.sat b a) _ _ B.k h
theorem at4 (C:Cmp M A E s κ S R) {xs:Array Keyed} {l h:Nat} (b:∀ k,k<=h->S (e xs k)) (g:l < h) (a:Asc R xs l h) (n:R (e xs h) (e xs (h - 1))=false):Asc R xs l (h+1):=by
 intro i j c d f
 by_cases hj:j=h
 ·subst hj
  by_cases hi:i=j
  ·subst hi;exact C.irr (b _ (aA6 _))
  ·exact C.tr _ (e xs (j - 1)) _ (b _ (by lia)) (b _ (by lia)) (b _ (by lia)) (a i (j - 1) c (by lia) (by lia)) n
 ·exact a i j c d (by lia)
theorem afo (C:Cmp M A E s κ S R) {xs:Array Keyed} {l h:Nat} (b:∀ k,k<=h->S (e xs k)) (g:l < h) (a:Des R xs l h) (n:R (e xs (h - 1)) (e xs h)=false):Des R xs l (h+1):=by
 intro i j c d f
 by_cases hj:j=h
 ·subst hj
  by_cases hi:i=j
  ·subst hi;exact C.irr (b _ (aA6 _))
  ·exact C.tr _ (e xs (j - 1)) _ (b _ (by lia)) (b _ (by lia)) (b _ (by lia)) n (a i (j - 1) c (by lia) (by lia))
 ·exact a i j c d (by lia)
theorem Bs.set {st:SortSt} (B:Bs κ p0 a0 lo st) {xs:Array Keyed} (c:xs.Perm (arrOf st)) (b:∀ k,k < lo->xs[k]?=(arrOf st)[k]?):Bs κ p0 a0 lo (setArr st xs) :=
 ⟨B.k,B.f,B.p,c.toList.trans B.perm,fun k a=>(b k a).trans (B.pre k a)⟩
theorem apv (C:Cmp M A E s κ S R) (F:∀ x∈a0.toList,S x) {st:SortSt} (B:Bs κ p0 a0 lo st) {n ok:Nat} (hn:lo+n<=a0.size) (hok:ok<=n) (T:1<=n) (N:Asc R (arrOf st) lo (lo+ok)) {Q:Bool->SortSt->Prop}
  (h:∀ st',Bs κ p0 a0 lo st'->Asc R (arrOf st') lo (lo+n)->Q true st'):wpS M A E s (atz lo n ok) Q st:=by
 refine wpS_bind (wpS_mono (Q:=fun (z:Option Bool × Unit) st'=>z.1=none/\Bs κ p0 a0 lo st'/\Asc R (arrOf st') lo (lo+n)) ?_ ?_)
 ·refine wpS_forRange (fun k (z:Option Bool × Unit) st'=>z.1=none/\Bs κ p0 a0 lo st'/\Asc R (arrOf st') lo (lo+k)) ?_ ?_ ⟨rfl,B,fun i j m p v=>?_⟩
  ·rintro k ⟨o,_⟩ b J O ⟨rfl,q,as⟩
   have d:∀ j,j < lo+n->S (e (arrOf b) j):=fun j D=>q.sat F (by lia)
   refine wpS_bind (wpS_mono (Q:=fun (z:Option Bool × Nat × Nat) st'=>st'=b/\z.1=none/\z.2.1<=k/\(∀ i,i < z.2.1->R (e (arrOf b) (lo+k)) (e (arrOf b) (lo+i))=false)/\(∀ i,z.2.1<=i->i < k->R (e (arrOf b) (lo+k)) (e (arrOf b) (lo+i))=true)) ?_ ?_)
   ·refine wpS_forRange (fun t (z:Option Bool × Nat × Nat) st'=>st'=b/\z.1=none/\z.2.1<=z.2.2/\z.2.2<=k/\z.2.2 - z.2.1+t<=k/\(∀ i,i < z.2.1->R (e (arrOf b) (lo+k)) (e (arrOf b) (lo+i))=false)/\(∀ i,z.2.2<=i->i < k->R (e (arrOf b) (lo+k)) (e (arrOf b) (lo+i))=true)) ?_ ?_
     ⟨rfl,rfl,Nat.zero_le _,Nat.le_refl _,by dsimp only;lia,fun i hi=>absurd hi (Nat.not_lt_zero _),fun i m p=>by dsimp only at m;lia⟩
    ·rintro t ⟨o,l,r⟩ a _ P ⟨rfl,c,m,p,v,g,f⟩
     dsimp only at c m p v g f ⊢
     subst c
     refine aaq (fun G=>?_) (fun G=>?_)
     ·have:l=r:=by lia
      subst this
      exact wpS_pure ⟨rfl,rfl,p,g,f⟩
     ·have hm:(l+r) / 2 < r:=by lia
      have w:l<=(l+r) / 2:=by lia
      refine wpS_bind (agh C F q (by lia) (by lia) ?_)
      dsimp only
      cases er:R (e (arrOf a) (lo+k)) (e (arrOf a) (lo+(l+r) / 2)) with
      | true =>
       rw [aE9 rfl]
       refine wpS_pure ⟨rfl,rfl,w,by dsimp only;lia,by dsimp only;lia,g,fun i u y=>?_⟩
       dsimp only at u
       cases e2:R (e (arrOf a) (lo+k)) (e (arrOf a) (lo+i)) with
       | true=>rfl
       | false =>
        have:=C.tr _ _ _ (d _ (by lia)) (d _ (by lia)) (d _ (by lia)) (as (lo+(l+r) / 2) (lo+i) (by lia) (by lia) (by lia)) e2
        rw [this] at er;cases er
      | false =>
       rw [aF0 (by decide)]
       refine wpS_pure ⟨rfl,rfl,by dsimp only;lia,p,by dsimp only;lia,fun i u=>?_,f⟩
       dsimp only at u
       exact C.tr _ _ _ (d _ (by lia)) (d _ (by lia)) (d _ (by lia)) (as (lo+i) (lo+(l+r) / 2) (by lia) (by lia) (by lia)) er
    ·rintro ⟨o,l,r⟩ a ⟨rfl,c,m,p,v,g,f⟩
     dsimp only at c m p v g f ⊢
     have : l = r := by have:k ≤ max 0 k := by lia
                        lia
     subst this
     exact ⟨rfl,c,p,g,f⟩
   ·rintro ⟨o,l,r⟩ a ⟨rfl,c,m,g,f⟩
    dsimp only at c m g f ⊢
    subst c
    dsimp only
    have hsz:lo+k < (arrOf a).size:=by rw [q.size];lia
    have hd:(lo+k) - (lo+l)=k - l:=by lia
    refine wpS_bind (wpS_modify ?_)
    have H:∀ j,e (bubble (arrOf a) (lo+k) (lo+k - (lo+l))) j=if j=lo+l then e (arrOf a) (lo+k) else if lo+l < j/\j<=lo+k then e (arrOf a) (j - 1) else e (arrOf a) j:=fun j=>by
     rw [at3 hsz (by lia),show lo+k - (lo+k - (lo+l))=lo+l by lia]
    refine wpS_pure ⟨rfl,q.set (bubble_perm _ _ _) (fun j D=>?_),fun i j u y L=>?_⟩
    ·show (bubble (arrOf a) (lo+k) (lo+k - (lo+l)))[j]?=_
     rw [getElem?_bubble hsz _ (by lia),aF0 (by lia),aF0 (by lia)]
    ·show R (e (bubble (arrOf a) (lo+k) (lo+k - (lo+l))) j) (e (bubble (arrOf a) (lo+k) (lo+k - (lo+l))) i)=false
     rw [H,H]
     have K:∀ j,j < lo+n->S (e (arrOf a) j):=d
     by_cases j1:j=lo+l
     ·rw [aE9 j1]
      by_cases i4:i=lo+l
      ·rw [aE9 i4];exact C.irr (d _ (by lia))
      ·rw [aF0 i4,aF0 (by lia)]
       have:=g (i - lo) (by lia)
       rw [show lo+(i - lo)=i by lia] at this
       exact this
     ·rw [aF0 j1]
      by_cases j2:lo+l < j/\j<=lo+k
      ·rw [aE9 j2]
       have I:=f (j - 1 - lo) (by lia) (by lia)
       rw [show lo+(j - 1 - lo)=j - 1 by lia] at I
       by_cases i4:i=lo+l
       ·rw [aE9 i4];exact C.asy _ _ (d _ (by lia)) (d _ (by lia)) I
       ·rw [aF0 i4]
        by_cases i5:lo+l < i/\i<=lo+k
        ·rw [aE9 i5];exact as (i - 1) (j - 1) (by lia) (by lia) (by lia)
        ·rw [aF0 i5];exact as i (j - 1) (by lia) (by lia) (by lia)
      ·rw [aF0 j2,aF0 (by lia),aF0 (by lia)]
       exact as i j (by lia) (by lia) (by lia)
  ·rintro ⟨o,_⟩ b ⟨c,q,as⟩
   exact ⟨c,q,fun i j u y L=>as i j u y (by lia)⟩
  ·by_cases D:j < lo+ok
   ·exact N i j m p D
   ·have:i=j:=by lia
    subst this
    exact C.irr (B.sat F (by lia))
 ·rintro ⟨o,_⟩ b ⟨c,q,as⟩
  dsimp only at c ⊢
  subst c
  exact wpS_pure (h b q as)
end
def Eqb (R:Keyed->Keyed->Bool) (xs:Array Keyed) (l h:Nat):Prop:=∀ i j,l<=i->i < h->l<=j->j < h->R (e xs i) (e xs j)=false
section
variable {M:Model} {A:Around} {E:Value->Shared->Prop} {s:Shared} {κ:SortKind} {S:Keyed->Prop} {R:Keyed->Keyed->Bool} {p0:Array (Nat × Nat × Nat)} {a0:Array Keyed} {lo:Nat}
theorem aog {α:Type} {prog:StateT SortSt Sem α} {P:SortSt->Prop} {Q : α->SortSt->Prop} {G:Prop} (use:(∀ st,P st->wpS M A E s prog Q st)->G) (a:∀ st,P st->wpS M A E s prog Q st):G:=use a
theorem al5 (C:Cmp M A E s κ S R) (f:∀ x∈a0.toList,S x) {st:SortSt} (B:Bs κ p0 a0 lo st) {a nrem:Nat} (l:1<=a) (g:a<=nrem) (hn:lo+nrem<=a0.size) (as:Asc R (arrOf st) lo (lo+a)) {Q:Option (Option Nat) × Nat->SortSt->Prop}
  (h:∀ n,a<=n->n<=nrem->Asc R (arrOf st) lo (lo+n)->(n < nrem->R (e (arrOf st) (lo+n)) (e (arrOf st) (lo+n - 1))=true)->Q (none,n) st) :
  wpS M A E s (forIn [a:nrem] ((none,a):Option (Option Nat) × Nat) (fun (_:Nat) z=>ltAt' (lo+z.2) (lo+z.2 - 1) >>= fun x=>match x with
   | some smaller=>if smaller=true then pure (ForInStep.done (none,z.2)) else pure (ForInStep.yield (none,z.2+1))
   | _=>pure (ForInStep.done (some none,z.2)))) Q st:=by
 refine wpS_forRange (fun t (z:Option (Option Nat) × Nat) st'=>st'=st/\z=(none,t)/\Asc R (arrOf st) lo (lo+t)) ?_ ?_ ⟨rfl,rfl,as⟩
 ·rintro t ⟨o,n⟩ c i m ⟨rfl,d,b⟩
  cases d
  dsimp only
  refine wpS_bind (agh C f B (by lia) (by lia) ?_)
  dsimp only
  cases er:R (e (arrOf c) (lo+t)) (e (arrOf c) (lo+t - 1)) with
  | true =>
   rw [aE9 rfl]
   exact wpS_pure (h t i (by lia) b fun _=>er)
  | false =>
   rw [aF0 (by decide)]
   exact wpS_pure ⟨rfl,rfl,at4 C (h:=lo+t) (fun k j=>B.sat f (by lia)) (by lia) b er⟩
 ·rintro ⟨o,n⟩ c ⟨rfl,d,b⟩
  cases d
  rw [show max a nrem=nrem by lia] at b ⊢
  exact h nrem g (aA6 _) b fun z=>absurd z (aF8 _)
theorem at5 (C:Cmp M A E s κ S R) {st:SortSt} (B:Bs κ p0 a0 lo st) {n:Nat} (hn:lo+n<=a0.size) (a:Des R (arrOf st) lo (lo+n)) :
  Bs κ p0 a0 lo (setArr st (mirror (arrOf st) lo (lo+n) ((lo+n - lo) / 2)))/\Asc R (mirror (arrOf st) lo (lo+n) ((lo+n - lo) / 2)) lo (lo+n):=by
 have hz:lo+n<=(arrOf st).size:=by rw [B.size];exact hn
 refine ⟨B.set (mirror_perm _ _ _ _) (fun k f=>by rw [getElem?_mirror_all hz,aF0 (by lia)]),fun i j d b c=>?_⟩
 rw [ac0 hz,ac0 hz,aE9 (by lia),aE9 (by lia)]
 exact a _ _ (by lia) (by lia) (by lia)
theorem ajf (C:Cmp M A E s κ S R) (d:∀ x∈a0.toList,S x) {st:SortSt} (B:Bs κ p0 a0 lo st) {l h m:Nat} (g:lo<=l) (hh:h<=a0.size) (hm:h<=m) (c:m<=a0.size) (a:Des R (arrOf st) lo m) (eq:Eqb R (arrOf st) l h) :
  Bs κ p0 a0 lo (setArr st (mirror (arrOf st) l h ((h - l) / 2)))/\Des R (mirror (arrOf st) l h ((h - l) / 2)) lo m:=by
 have hz:h<=(arrOf st).size:=by rw [B.size];exact hh
 refine ⟨B.set (mirror_perm _ _ _ _) (fun k b=>by rw [getElem?_mirror_all hz,aF0 (by lia)]),fun i j o n f=>?_⟩
 rw [ac0 hz,ac0 hz]
 have p:∀ k,k < m->S (e (arrOf st) k):=fun k b=>B.sat d (by lia)
 by_cases c1:l<=i/\i < h
 ·rw [aE9 c1]
  by_cases c2:l<=j/\j < h
  ·rw [aE9 c2]
   exact eq _ _ (by lia) (by lia) (by lia) (by lia)
  ·rw [aF0 c2]
   exact a _ _ (by lia) (by lia) (by lia)
 ·rw [aF0 c1]
  by_cases c2:l<=j/\j < h
  ·rw [aE9 c2]
   exact a _ _ (by lia) (by lia) (by lia)
  ·rw [aF0 c2]
   exact a _ _ (by lia) (by lia) (by lia)
theorem arq (C:Cmp M A E s κ S R) (p:∀ x∈a0.toList,S x) {st:SortSt} (B:Bs κ p0 a0 lo st) {nrem:Nat} (h1:1<=nrem) (hn:lo+nrem<=a0.size) {Q:Option Nat->SortSt->Prop}
  (h:∀ st' n,Bs κ p0 a0 lo st'->1<=n->n<=nrem->Asc R (arrOf st') lo (lo+n)->Q (some n) st'):wpS M A E s (awy lo nrem) Q st:=by
 refine wpS_bind (al5 C p B (aA6 1) h1 hn (fun i j u r W=>?_) fun n n1 n2 as br=>?_)
 ·have:i=j:=by lia
  subst this
  exact C.irr (B.sat p (by lia))
 dsimp only
 refine aaq (fun en=>wpS_pure (h st n B n1 n2 as)) (fun en=>?_)
 have a5:n ≠ nrem:=by simpa using en
 have Z:n < nrem:=by lia
 have H:=br Z
 refine aog (M:=M) (A:=A) (E:=E) (s:=s) (α:=Option Nat) (Q:=Q) (P:=fun w=>Bs κ p0 a0 lo w/\Des R (arrOf w) lo (lo+n)/\R (e (arrOf w) (lo+n)) (e (arrOf w) (lo+n - 1))=true) (prog:=?prog) (fun O=>?use) (fun w ⟨L,U,Y⟩=>?pf)
 case use =>
  refine aaq (fun g1=>?_) (fun g1=>?_)
  ·refine wpS_bind (agh C p B (by lia) (by lia) ?_)
   dsimp only
   cases er:R (e (arrOf st) lo) (e (arrOf st) (lo+n - 1)) with
   | true=>rw [aE9 rfl];exact wpS_pure (h st n B n1 n2 as)
   | false =>
    rw [aF0 (by decide)]
    -- all of them are equal
    have c:∀ k,k < lo+n->S (e (arrOf st) k):=fun k K=>B.sat p (by lia)
    have all:Eqb R (arrOf st) lo (lo+n):=fun i j u r D y=>by
     -- j<=last<=first<=i
     have a1:=as j (lo+n - 1) D (by lia) (by lia)
     have a2:=as lo i (aA6 _) u r
     exact C.tr _ _ _ (c j y) (c lo (by lia)) (c i r) (C.tr _ _ _ (c j y) (c (lo+n - 1) (by lia)) (c lo (by lia)) a1 er) a2
    have U:Des R (arrOf st) lo (lo+n):=fun i j u r W=>all i j u (by lia) (by lia) W
    have hz:lo+n<=(arrOf st).size:=by rw [B.size];lia
    obtain ⟨q,a⟩:=ajf C p B (aA6 lo) (show lo+n<=a0.size by lia) (aA6 _) (by lia) U all
    refine wpS_bind (wpS_modify ?_)
    refine O _ ⟨q,a,?_⟩
    show R (e (mirror (arrOf st) lo (lo+n) ((lo+n - lo) / 2)) (lo+n)) (e (mirror (arrOf st) lo (lo+n) ((lo+n - lo) / 2)) (lo+n - 1))=true
    rw [ac0 hz,ac0 hz,aF0 (by lia),aE9 (by lia)]
    rw [show lo+(lo+n) - 1 - (lo+n - 1)=lo by lia]
    cases e2:R (e (arrOf st) (lo+n)) (e (arrOf st) lo) with
    | true=>rfl
    | false =>
     have:=C.tr _ _ _ (c (lo+n - 1) (by lia)) (c lo (by lia)) (B.sat p (show lo+n < a0.size by lia)) er e2
     rw [this] at H;cases H
  ·have:n=1:=by lia
   subst this
   refine O st ⟨B,fun i j u r W=>?_,H⟩
   have:i=j:=by lia
   subst this
   exact C.irr (B.sat p (by lia))
 case pf =>
  -- the falling part
  refine wpS_bind (adj ?_)
  refine wpS_bind (wpS_mono (Q:=fun (z:Option (Option Nat) × Nat × Nat) st'=>z.1=none/\Bs κ p0 a0 lo st'/\z.2.1<=nrem/\z.2.2+1<=z.2.1/\Des R (arrOf st') lo (lo+z.2.1)/\Eqb R (arrOf st') (lo+z.2.1 - (z.2.2+1)) (lo+z.2.1)) ?_ ?_)
  ·refine wpS_forRange (fun t (z:Option (Option Nat) × Nat × Nat) st'=>z.1=none/\z.2.1=t/\Bs κ p0 a0 lo st'/\z.2.2+1<=z.2.1/\Des R (arrOf st') lo (lo+z.2.1)/\Eqb R (arrOf st') (lo+z.2.1 - (z.2.2+1)) (lo+z.2.1)) ?_ ?_ ⟨rfl,rfl,L,by dsimp only;lia,?_,fun i j u r D y=>?_⟩
   ·rintro t ⟨o,m,b⟩ d t1 t2 ⟨F,T,q,G,a,f⟩
    dsimp only at F T G a f ⊢
    subst F T
    have c:∀ k,k < a0.size->S (e (arrOf d) k):=fun k K=>q.sat p K
    refine wpS_bind (agh C p q (by lia) (by lia) ?_)
    dsimp only
    cases er:R (e (arrOf d) (lo+m)) (e (arrOf d) (lo+m - 1)) with
    | true =>
     rw [aE9 rfl]
     refine aaq (fun g=>?_) (fun g=>?_)
     ·have hz:lo+m<=(arrOf d).size:=by rw [q.size];lia
      obtain ⟨J,v⟩:=ajf C p q (l:=lo+m - (b+1)) (h:=lo+m) (by lia) (by lia) (aA6 _) (by lia) a f
      have N:∀ k,e (mirror (arrOf d) (lo+m - (b+1)) (lo+m) ((lo+m - (lo+m - (b+1))) / 2)) k=if lo+m - (b+1)<=k/\k < lo+m then e (arrOf d) (lo+m - (b+1)+(lo+m) - 1 - k) else e (arrOf d) k:=fun k=>ac0 hz k
      refine wpS_bind (wpS_modify ?_)
      refine wpS_pure ⟨rfl,rfl,J,by dsimp only;lia,?_,fun i j u r D y=>?_⟩
      ·show Des R (mirror (arrOf d) (lo+m - (b+1)) (lo+m) ((lo+m - (lo+m - (b+1))) / 2)) lo (lo+(m+1))
       refine afo C (h:=lo+m) (fun k K=>J.sat p (by lia)) (by lia) v ?_
       rw [N,N,aE9 (by lia),aF0 (by lia)]
       rw [show lo+m - (b+1)+(lo+m) - 1 - (lo+m - 1)=lo+m - (b+1) by lia]
       exact C.tr _ _ _ (c _ (by lia)) (c (lo+m - 1) (by lia)) (c _ (by lia)) (C.asy _ _ (c _ (by lia)) (c _ (by lia)) er) (a _ _ (by lia) (by lia) (by lia))
      ·dsimp only at u r D y
       have:i=j:=by lia
       subst this
       exact C.irr (J.sat p (by lia))
     ·have:b=0:=by lia
      subst this
      refine wpS_pure ⟨rfl,rfl,q,by dsimp only;lia,afo C (h:=lo+m) (fun k K=>c k (by lia)) (by lia) a (C.asy _ _ (c _ (by lia)) (c _ (by lia)) er),fun i j u r D y=>?_⟩
      dsimp only at u r D y
      have:i=j:=by lia
      subst this
      exact C.irr (c _ (by lia))
    | false =>
     rw [aF0 (by decide)]
     refine wpS_bind (agh C p q (by lia) (by lia) ?_)
     dsimp only
     cases er2:R (e (arrOf d) (lo+m - 1)) (e (arrOf d) (lo+m)) with
     | true =>
      rw [aE9 rfl]
      exact wpS_pure ⟨rfl,q,by dsimp only;lia,G,a,f⟩
     | false =>
      rw [aF0 (by decide)]
      refine wpS_pure ⟨rfl,rfl,q,by dsimp only;lia,afo C (h:=lo+m) (fun k K=>c k (by lia)) (by lia) a er2,fun i j u r D y=>?_⟩
      dsimp only at u r D y
      by_cases ci:i=lo+m
      ·by_cases cj:j=lo+m
       ·rw [ci,cj];exact C.irr (c _ (by lia))
       ·rw [ci]
        exact C.tr _ _ _ (c j (by lia)) (c (lo+m - 1) (by lia)) (c _ (by lia)) (f (lo+m - 1) j (by lia) (by lia) (by lia) (by lia)) er
      ·by_cases cj:j=lo+m
       ·rw [cj]
        exact C.tr _ _ _ (c _ (by lia)) (c (lo+m - 1) (by lia)) (c i (by lia)) er2 (f i (lo+m - 1) (by lia) (by lia) (by lia) (by lia))
       ·exact f i j (by lia) (by lia) (by lia) (by lia)
   ·rintro ⟨o,m,b⟩ d ⟨F,T,q,G,a,f⟩
    dsimp only at F T G a f ⊢
    exact ⟨F,q,by lia,G,a,f⟩
   ·exact afo C (h:=lo+n) (fun k K=>L.sat p (by lia)) (by lia) U (C.asy _ _ (L.sat p (by lia)) (L.sat p (by lia)) Y)
   ·dsimp only at u r D y
    have:i=j:=by lia
    subst this
    exact C.irr (L.sat p (by lia))
  ·rintro ⟨o,m,b⟩ d ⟨F,q,hm,G,a,f⟩
   dsimp only at F hm G a f ⊢
   subst F
   dsimp only
   refine aog (M:=M) (A:=A) (E:=E) (s:=s) (α:=Option Nat) (Q:=Q) (P:=fun I=>Bs κ p0 a0 lo I/\Des R (arrOf I) lo (lo+m)) (prog:=?prog2) (fun O=>?use2) (fun I ⟨J,v⟩=>?pf2)
   case use2 =>
    refine aaq (fun g=>?_) (fun g=>?_)
    ·obtain ⟨J,v⟩:=ajf C p q (l:=lo+m - (b+1)) (h:=lo+m) (by lia) (by lia) (aA6 _) (by lia) a f
     refine wpS_bind (wpS_modify ?_)
     exact O _ ⟨J,v⟩
    ·exact O _ ⟨q,a⟩
   case pf2 =>
    obtain ⟨B5,X⟩:=at5 C J (n:=m) (by lia) v
    refine wpS_bind (wpS_modify ?_)
    refine wpS_bind (al5 C p B5 (by lia) hm hn X fun n' a6 a4 a3 _=>?_)
    exact wpS_pure (h _ n' B5 (by lia) a4 a3)
end
def flat (rs:List (List Keyed × Nat)):List Keyed:=(rs.map (·.1)).flatten
def pend:Nat->List (List Keyed × Nat)->List (Nat × Nat × Nat)
 | _,[]=>[]
 | k,(r,pw) :: t=>(k,r.length,pw) :: pend (k+r.length) t
theorem aho:flat []=[]:=rfl
theorem abw (r:List Keyed × Nat) (t:List (List Keyed × Nat)):flat (r :: t)=r.1 ++ flat t:=rfl
theorem abr (p q:List (List Keyed × Nat)):flat (p ++ q)=flat p ++ flat q:=by simp [flat]
theorem ab6:∀ (k:Nat) (p q:List (List Keyed × Nat)),pend k (p ++ q)=pend k p ++ pend (k+(flat p).length) q
 | k,[],q=>by simp [pend,aho]
 | k,(r,pw) :: t,q=>by
  simp only [List.cons_append,pend,abw,aB0,List.cons.injEq,true_and]
  rw [ab6 (k+r.length) t q,Nat.add_assoc]
theorem adq:∀ (k:Nat) (p:List (List Keyed × Nat)),(pend k p).length=p.length
 | _,[]=>rfl
 | k,(r,pw) :: t=>by simp [pend,adq _ t]
section
variable {M:Model} {A:Around} {E:Value->Shared->Prop} {s:Shared} {κ:SortKind} {S:Keyed->Prop} {R:Keyed->Keyed->Bool} {a0:Array Keyed}
structure Rn (κ:SortKind) (R:Keyed->Keyed->Bool) (a0:Array Keyed) (rs:List (List Keyed × Nat)) (rest:List Keyed) (st:SortSt):Prop where
 k:kindOf st = κ
 f:failedOf st=none
 arr:(arrOf st).toList=flat rs ++ rest
 pn:(pendingOf st).toList=pend 0 rs
 ok:∀ r∈rs,r.1 ≠ []/\Srt R r.1
 perm:(arrOf st).toList.Perm a0.toList
theorem aw0 {α:Type} (a b:List α) (x c y : α):((a ++ x :: y :: b).set a.length c).eraseIdx (a.length+1)=a ++ c :: b:=by
 rw [List.set_append_right _ _ (aA6 _),aH9,List.set_cons_zero,List.eraseIdx_append_of_length_le (by lia)]
 rw [show a.length+1 - a.length=1 by lia]
 rfl
theorem aic (C:Cmp M A E s κ S R) (w:∀ x∈a0.toList,S x) {st:SortSt} {rs:List (List Keyed × Nat)} {rest:List Keyed} (N:Rn κ R a0 rs rest st) {i:Nat} (hi:i+1 < rs.length) {Q:Bool->SortSt->Prop}
  (h:∀ st' n,Rn κ R a0 n rest st'->n.length+1=rs.length->(flat n).length=(flat rs).length->Q true st'):wpS M A E s (al3 i) Q st:=by
 obtain ⟨p,a,pw,b,pw2,q,e,F⟩:∃ p a pw b pw2 q,rs=p ++ (a,pw) :: (b,pw2) :: q/\p.length=i:=by
  have H:rs=rs.take i ++ rs.drop i:=(aC0 i rs).symm
  have hd:rs.drop i=rs[i] :: rs[i+1] :: rs.drop (i+2):=by
   rw [List.drop_eq_getElem_cons (by lia),List.drop_eq_getElem_cons hi]
  exact ⟨rs.take i,rs[i].1,rs[i].2,rs[i+1].1,rs[i+1].2,rs.drop (i+2),by rw [← hd];exact H,by simp;lia⟩
 subst F
 have d:=N.ok (a,pw) (by rw [e];simp)
 have g:=N.ok (b,pw2) (by rw [e];simp)
 have l:(pendingOf st).toList=pend 0 p ++ ((flat p).length,a.length,pw) :: ((flat p).length+a.length,b.length,pw2) :: pend ((flat p).length+a.length+b.length) q:=by
  rw [N.pn,e,ab6];simp [pend]
 have c:(pend 0 p).length=p.length:=adq 0 p
 have j:(arrOf st).toList=flat p ++ a ++ b ++ (flat q ++ rest):=by
  rw [N.arr,e,abr,abw,abw];simp [aB3]
 refine apu C (i:=p.length) (pw:=pw) (pw2:=pw2) j (fun x B=>w x (N.perm.mem_iff.mp B)) ?_ ?_ d.1 g.1 d.2 g.2 N.k N.f fun st' m y G D u pm v=>?_
 ·rw [← aD4,l,aC7 (by lia),c,aH9];rfl
 ·rw [← aD4,l,aC7 (by lia),c,show p.length+1 - p.length=1 by lia];rfl
 ·refine h st' (p ++ (m,pw) :: q) ⟨y,G,?_,?_,fun r o=>?_,?_⟩ (by rw [e];simp;lia) ?_
  ·rw [u,abr,abw];simp [aB3]
  ·rw [D,Array.toList_eraseIdxIfInBounds,Array.toList_setIfInBounds,l,← c,aw0,ab6]
   simp [pend,pm.length_eq,Nat.add_assoc]
  ·rcases aA7.mp o with o | o
   ·exact N.ok r (by rw [e];simp [o])
   ·rcases aA8.mp o with rfl | o
    ·refine ⟨?_,v⟩
     intro z
     have:=pm.length_eq
     have I:m=[]:=z
     rw [I] at this
     have:=aF3.mpr d.1
     simp at *
     lia
    ·exact N.ok r (by rw [e];simp [o])
  ·rw [u]
   refine List.Perm.trans ?_ N.perm
   rw [j]
   have:(flat p ++ a ++ b ++ (flat q ++ rest))=flat p ++ (a ++ b) ++ (flat q ++ rest):=by simp [aB3]
   rw [this]
   exact (pm.append_left (flat p)).append_right _
  ·rw [e,abr,abr,abw,abw,abw]
   simp [pm.length_eq]
   lia
theorem Rn.run {rs:List (List Keyed × Nat)} {rest:List Keyed} {st st':SortSt} {n:Nat} (N:Rn κ R a0 rs rest st) (B:Bs κ (pendingOf st) (arrOf st) (flat rs).length st') (u:1<=n) (hn:(flat rs).length+n<=(arrOf st).size) (as:Asc R (arrOf st') (flat rs).length ((flat rs).length+n)) :
  ∃ r a,r.length=n/\r ≠ []/\Srt R r/\Rn κ R a0 rs (r ++ a) st':=by
 have hsz:=B.size
 have c:(arrOf st').toList.take (flat rs).length=flat rs:=by
  have s:(arrOf st').toList.take (flat rs).length=(arrOf st).toList.take (flat rs).length:=by
   apply aF6
   intro k
   rw [List.getElem?_take,List.getElem?_take]
   split
   ·rename_i b
    have:=B.pre k b
    simpa using this
   ·rfl
  rw [s,N.arr,List.take_left]
 refine ⟨((arrOf st').toList.drop (flat rs).length).take n,((arrOf st').toList.drop (flat rs).length).drop n,?_,?_,?_,B.k,B.f,?_,?_,N.ok,B.perm.trans N.perm⟩
 ·simp;lia
 ·intro z
  have:=congrArg List.length z
  simp at this
  lia
 ·unfold Srt
  rw [aG1]
  intro i j hi g q
  have d:j < n:=by simp at g;lia
  have get:∀ k,k < n->∀ (b:k < (((arrOf st').toList.drop (flat rs).length).take n).length),(((arrOf st').toList.drop (flat rs).length).take n)[k]=e (arrOf st') ((flat rs).length+k):=by
   intro k b o
   rw [List.getElem_take,List.getElem_drop]
   have l:=aib (xs:=arrOf st') (k:=(flat rs).length+k) (by lia)
   have m:(flat rs).length+k < (arrOf st').toList.length:=by simp;lia
   have h:(arrOf st').toList[(flat rs).length+k]?=some (e (arrOf st') ((flat rs).length+k)):=by simpa using l
   rw [aA0 m] at h
   exact aC5 h
  rw [get i (by lia) hi,get j d g]
  exact as _ _ (by lia) (by lia) (by lia)
 ·rw [aC0]
  conv=>lhs;rw [← aC0 (flat rs).length (arrOf st').toList,c]
 ·rw [B.p];exact N.pn
theorem Rn.bs {rs:List (List Keyed × Nat)} {rest:List Keyed} {st:SortSt} (N:Rn κ R a0 rs rest st):Bs κ (pendingOf st) (arrOf st) (flat rs).length st:=⟨N.k,N.f,rfl,List.Perm.refl _,fun _ _=>rfl⟩
theorem Rn.size {rs:List (List Keyed × Nat)} {rest:List Keyed} {st:SortSt} (N:Rn κ R a0 rs rest st):(arrOf st).size=a0.size:=by
 have:=N.perm.length_eq;simpa using this
theorem Rn.len {rs:List (List Keyed × Nat)} {rest:List Keyed} {st:SortSt} (N:Rn κ R a0 rs rest st):(flat rs).length+rest.length=a0.size:=by
 have:=congrArg List.length N.arr
 have a:=N.size
 simp at this
 lia
theorem at6 {rs:List (List Keyed × Nat)} (h:∀ r∈rs,r.1 ≠ []):rs.length<=(flat rs).length:=by
 induction rs with
 | nil=>simp [flat]
 | cons r t ih =>
  rw [abw,aB0,aE1]
  have:=ih fun q a=>h q (aB4 _ a)
  have:=aF3.mpr (h r aB7)
  lia
theorem al6 {α:Type} (f : α->α):∀ (l:List α) (x : α),(l ++ [x]).modify l.length f=l ++ [f x]
 | [],x=>rfl
 | y :: l,x=>by
  show (y :: (l ++ [x])).modify (l.length+1) f=_
  rw [List.modify_succ_cons,al6 f l x];rfl
theorem ans {α:Type} (arr:Array α) (f : α->α) {l:List α} {x : α} (h:arr.toList=l ++ [x]):(arr.modify (arr.size - 1) f).toList=l ++ [f x]:=by
 have a:arr.size=l.length+1:=by have:=congrArg List.length h;simpa using this
 rw [Array.toList_modify,h,a,show l.length+1 - 1=l.length by lia]
 exact al6 f l x
theorem aw1 {α:Type} (arr:Array α) {l:List α} {x : α} (h:arr.toList=l ++ [x]):arr.back?=some x:=by
 have a:arr.size=l.length+1:=by have:=congrArg List.length h;simpa using this
 rw [Array.back?_eq_getElem?,← aD4,h,a]
 simp
theorem aoh:∀ (rs:List (List Keyed × Nat)),rs ≠ []->∃ p x,rs=p ++ [x]
 | rs,h=>⟨rs.dropLast,rs.getLast h,(List.dropLast_concat_getLast h).symm⟩
theorem Rn.push {rs:List (List Keyed × Nat)} {r rest:List Keyed} {st st':SortSt} (N:Rn κ R a0 rs (r ++ rest) st) (c:r ≠ []) (d:Srt R r) (k:kindOf st'=kindOf st) (f:failedOf st'=failedOf st) (a:arrOf st'=arrOf st)
  (p:pendingOf st'=(pendingOf st).push ((flat rs).length,r.length,0)):Rn κ R a0 (rs ++ [(r,0)]) rest st':=by
 refine ⟨k.trans N.k,f.trans N.f,?_,?_,fun q b=>?_,by rw [a];exact N.perm⟩
 ·rw [a,N.arr,abr];simp [flat,aB3]
 ·rw [p,Array.toList_push,N.pn,ab6];simp [pend]
 ·rcases aA7.mp b with b | b
  ·exact N.ok q b
  ·have:q=(r,0):=by simpa using b
   subst this;exact ⟨c,d⟩
theorem Rn.pow {rs:List (List Keyed × Nat)} {rest:List Keyed} {st st':SortSt} {pw:Nat} (N:Rn κ R a0 rs rest st) (hz:rs ≠ []) (k:kindOf st'=kindOf st) (f:failedOf st'=failedOf st) (a:arrOf st'=arrOf st)
  (p:pendingOf st'=(pendingOf st).modify ((pendingOf st).size - 1) fun x=>(x.1,x.2.1,pw)):∃ g,Rn κ R a0 g rest st'/\(flat g).length=(flat rs).length:=by
 obtain ⟨q,⟨b,c⟩,e⟩:=aoh rs hz
 subst e
 have h:(pendingOf st).toList=pend 0 q ++ [((flat q).length,b.length,c)]:=by rw [N.pn,ab6];simp [pend]
 refine ⟨q ++ [(b,pw)],⟨k.trans N.k,f.trans N.f,?_,?_,fun x d=>?_,by rw [a];exact N.perm⟩,by simp [abr,abw,aho]⟩
 ·rw [a,N.arr];simp [abr,abw,aho]
 ·rw [p,ans _ _ h,ab6];simp [pend]
 ·rcases aA7.mp d with d | d
  ·exact N.ok x (by simp [d])
  ·have:x=(b,pw):=by simpa using d
   subst this
   exact N.ok (b,c) (by simp)
theorem azn {c:Prop} [Decidable c] {x y z:Nat} (b:x+1 < z) (a:y+1 < z):(if c then x else y)+1 < z:=by
 split
 ·exact b
 ·exact a
theorem Rn.powK {rs:List (List Keyed × Nat)} {rest:List Keyed} {st st':SortSt} {pw:Nat} {G:SortSt->Prop} (N:Rn κ R a0 rs rest st) (hz:rs ≠ []) (h:∀ b,Rn κ R a0 b rest st'->(flat b).length=(flat rs).length->G st') (k:kindOf st'=kindOf st) (f:failedOf st'=failedOf st) (a:arrOf st'=arrOf st)
  (p:pendingOf st'=(pendingOf st).modify ((pendingOf st).size - 1) fun x=>(x.1,x.2.1,pw)):G st':=by
 obtain ⟨b,d,c⟩:=N.pow hz k f a p
 exact h b d c
theorem aw2 (C:Cmp M A E s κ S R) (Y:∀ x∈a0.toList,S x) {st:SortSt} (h0:arrOf st=a0) (hk:kindOf st = κ) (hf:failedOf st=none) (hp:pendingOf st = #[]) {Q:Unit->SortSt->Prop}
  (h:∀ st',failedOf st'=none->(arrOf st').toList.Perm a0.toList->Srt R (arrOf st').toList->Q () st'):wpS M A E s a1c Q st:=by
 have o:(arrOf st).size=a0.size:=by rw [h0]
 refine wpS_bind (wpS_get ?_)
 dsimp only
 refine wpS_bind (wpS_mono (Q:=fun (c:Option Unit × Nat) u=>c.1=none/\∃ rs,Rn κ R a0 rs [] u) ?_ ?_)
 ·refine wpS_forRange (fun i (c:Option Unit × Nat) u=>c.1=none/\∃ rs rest,Rn κ R a0 rs rest u/\c.2=(flat rs).length/\i<=c.2) ?_ ?_ ⟨rfl,[],a0.toList,⟨hk,hf,by rw [h0];rfl,by rw [hp];rfl,fun r J=>(by cases J),by rw [h0]⟩,rfl,aA6 _⟩
  ·rintro i ⟨c1,lo⟩ u _ hi ⟨F,rs,rest,N,e2,D⟩
   dsimp only at F e2 D ⊢
   subst F e2
   have L:=N.len
   have b4:i < a0.size:=by rw [← o];exact hi
   refine aaq (fun a6=>?_) (fun a1=>?_)
   ·have a9:a0.size<=(flat rs).length:=by rw [← o];exact a6
    refine wpS_pure ⟨rfl,rs,?_⟩
    have:rest=[]:=aG6 (by lia)
    subst this
    exact N
   ·have a8:(flat rs).length < a0.size:=by
     have:¬ (flat rs).length ≥ (arrOf st).size:=a1
     lia
    refine wpS_bind (arq C (fun x hx=>Y x (N.perm.mem_iff.mp hx)) N.bs (nrem:=(arrOf st).size - (flat rs).length) (by lia) (by rw [N.size];lia) fun b2 n B2 n1 n2 W=>?_)
    dsimp only
    have y:=N.size
    refine aaq (fun m=>?g1) (fun m=>?g2)
    case' g1 =>
     refine wpS_bind (adj ?_)
     generalize hmr:min (_:Nat) _=nn
     refine wpS_bind (apv C (fun x hx=>Y x (N.perm.mem_iff.mp hx)) B2 (n:=nn) (ok:=n) ?_ ?_ ?_ W fun b3 B3 a7=>?_)
     ·have:nn<=(arrOf st).size - (flat rs).length:=by rw [← hmr];exact Nat.min_le_left _ _
      rw [y];lia
     ·rw [← hmr];exact Nat.le_min.mpr ⟨n2,aF9 m⟩
     ·have:n<=nn:=by rw [← hmr];exact Nat.le_min.mpr ⟨n2,aF9 m⟩
      lia
     rw [aF0 (by decide)]
     have U:1<=nn:=by
      have:n<=nn:=by rw [← hmr];exact Nat.le_min.mpr ⟨n2,aF9 m⟩
      lia
     have b0:nn<=(arrOf st).size - (flat rs).length:=by rw [← hmr];exact Nat.min_le_left _ _
     obtain ⟨r,g,J,w,H,O⟩:=N.run B3 U (by rw [y];lia) a7
     clear hmr
     subst J
    case' g2 =>
     obtain ⟨r,g,J,w,H,O⟩:=N.run B2 n1 (by rw [y];lia) W
     clear m
     subst J
    all_goals
     refine wpS_bind (wpS_get ?_)
     rcases Classical.em (rs=[]) with hz | hz
     ·have B:=O.pn
      rw [hz] at B
      have hb:=Array.back?_eq_none_iff.mpr (Array.toList_eq_nil_iff.mp B)
      rw [hb]
      dsimp only
      refine wpS_bind (wpS_modify (wpS_pure ⟨rfl,rs ++ [(r,0)],g,O.push w H rfl rfl rfl rfl,?_,?_⟩))
      ·rw [abr,aB0];simp [flat]
      ·have:=aF3.mpr w
       show i+1<=(flat rs).length+r.length
       lia
     ·obtain ⟨q,⟨b,T⟩,eq⟩:=aoh rs hz
      have B:=O.pn
      rw [eq,ab6,show pend (0+(flat q).length) [(b,T)]=[((flat q).length,b.length,T)] by simp [pend]] at B
      have hb:=aw1 _ B
      rw [hb]
      dsimp only
      refine wpS_bind (wpS_mono (Q:=fun (c:Option Unit × Unit) d=>c.1=none/\∃ a,Rn κ R a0 a (r ++ g) d/\a ≠ []/\(flat a).length=(flat rs).length) ?_ ?_)
      ·refine wpS_forRange (fun _ (c:Option Unit × Unit) d=>c.1=none/\∃ a,Rn κ R a0 a (r ++ g) d/\a ≠ []/\(flat a).length=(flat rs).length) ?_ (fun c d h4=>h4) ⟨rfl,rs,O,hz,rfl⟩
       rintro i4 ⟨X,Z⟩ d _ _ ⟨v,a,l,z4,p⟩
       dsimp only at v
       subst v
       refine wpS_bind (wpS_get ?_)
       have P:(pendingOf d).size=a.length:=by
        have:=congrArg List.length l.pn
        rw [adq] at this
        simpa using this
       by_cases K:(pendingOf d).size > 1
       ·rw [aE9 K]
        obtain ⟨x4,a4⟩:∃ x4,(pendingOf d)[(pendingOf d).size - 2]?=some x4:=⟨_,aA4 (by lia)⟩
        obtain ⟨y1,y2,y3⟩:=x4
        rw [a4]
        dsimp only
        refine aaq (fun _=>wpS_pure ⟨rfl,a,l,z4,p⟩) (fun _=>?_)
        rw [P]
        refine wpS_bind (aic C Y l (i:=a.length - 2) (by lia) fun a5 I N5 l5 f5=>?_)
        rw [aF0 (by decide)]
        refine wpS_pure ⟨rfl,I,N5,?_,by lia⟩
        rintro rfl
        simp at l5
        lia
       ·rw [aF0 K]
        exact wpS_pure ⟨rfl,a,l,z4,p⟩
      ·rintro ⟨X,Z⟩ d ⟨v,a,l,z4,p⟩
       dsimp only at v ⊢
       subst v
       dsimp only
       refine wpS_bind (wpS_modify ?_)
       refine l.powK (G:=fun z=>wpS M A E s _ _ z) z4 (fun a3 N6 l6=>?_) rfl rfl rfl rfl
       refine wpS_bind (wpS_modify (wpS_pure ⟨rfl,a3 ++ [(r,0)],g,N6.push w H rfl rfl rfl ?_,?_,?_⟩))
       ·rw [l6,p]
       ·rw [abr,aB0,l6,p];simp [flat]
       ·have:=aF3.mpr w
        show i+1<=(flat rs).length+r.length
        lia
  ·rintro ⟨c1,lo⟩ u ⟨F,rs,rest,N,e2,D⟩
   dsimp only at F e2 D ⊢
   refine ⟨F,rs,?_⟩
   have L:=N.len
   have a2:(arrOf st).size<=lo:=aC9 (Nat.le_max_right 0 _) D
   have:rest=[]:=aG6 (by rw [o] at a2;lia)
   subst this
   exact N
 ·rintro ⟨c1,lo⟩ u ⟨F,rs,N⟩
  dsimp only at F ⊢
  subst F
  dsimp only
  refine wpS_bind (wpS_mono (Q:=fun (c:Option Unit × Unit) d=>c.1=none/\∃ a,Rn κ R a0 a [] d/\a.length<=1) ?_ ?_)
  ·refine wpS_forRange (fun j (c:Option Unit × Unit) d=>c.1=none/\∃ a,Rn κ R a0 a [] d/\(a.length<=1\/a.length+j<=a0.size)) ?_ ?_ ⟨rfl,rs,N,.inr ?_⟩
   ·rintro j ⟨X,Z⟩ d _ _ ⟨v,a,l,p⟩
    dsimp only at v
    subst v
    refine wpS_bind (wpS_get ?_)
    have P:(pendingOf d).size=a.length:=by
     have:=congrArg List.length l.pn
     rw [adq] at this
     simpa using this
    refine aaq (fun K=>wpS_pure ⟨rfl,a,l,?_⟩) (fun K=>?_)
    ·have:(pendingOf d).size<=1:=K
     lia
    ·have b1:¬ (pendingOf d).size<=1:=K
     refine wpS_bind (aic C Y l (i:=_) ?_ fun a5 I N5 l5 f5=>?_)
     ·refine azn ?_ ?_
      ·show (pendingOf d).size - 2 - 1+1 < a.length
       lia
      ·show (pendingOf d).size - 2+1 < a.length
       lia
     rw [aF0 (by decide)]
     exact wpS_pure ⟨rfl,I,N5,by lia⟩
   ·rintro ⟨X,Z⟩ d ⟨v,a,l,p⟩
    refine ⟨v,a,l,?_⟩
    rcases p with p | p
    ·exact p
    ·have:(arrOf st).size<=max 0 (arrOf st).size:=Nat.le_max_right _ _
     have h3:a.length+max 0 (arrOf st).size<=a0.size:=p
     lia
   ·have:=at6 fun r J=>(N.ok r J).1
    have:=N.len
    lia
  ·rintro ⟨X,Z⟩ d ⟨v,a,l,p⟩
   dsimp only at v ⊢
   subst v
   dsimp only
   refine wpS_pure (h d l.f l.perm ?_)
   rw [l.arr]
   match a,p with
   | [],_=>exact List.Pairwise.nil
   | [x],_=>simpa [flat] using (l.ok x (by simp)).2
end
end TS
namespace L2
open PySem PySem.Spec PyProof.Rows
mutual
inductive Rep (H:Hp):V->PyData->Prop
 | non:Rep H .non .none
 | bl (b:Bool):Rep H (.bl b) (.bool b)
 | int (i:Int):Rep H (.int i) (.int i)
 | str (x:Str):Rep H (.str x) (.str x)
 | lst {a:Addr} {xs:List V} {ds:List PyData}:H a=some (.lst xs)->Reps H xs ds->Rep H (.ref a) (.list ds)
 | tup {a:Addr} {xs:List V} {ds:List PyData}:H a=some (.tup xs)->Reps H xs ds->Rep H (.ref a) (.tuple ds)
inductive Reps (H:Hp):List V->List PyData->Prop
 | nil:Reps H [] []
 | cons {v:V} {vs:List V} {d:PyData} {ds:List PyData}:Rep H v d->Reps H vs ds->Reps H (v :: vs) (d :: ds)
end
mutual
theorem Rep.same {H H':Hp} (s:Same H H'):∀ {v:V} {d:PyData},Rep H v d->Rep H' v d
 | _,_,.non => .non
 | _,_,.bl b => .bl b
 | _,_,.int i => .int i
 | _,_,.str x => .str x
 | _,_,.lst h r => .lst (s _ _ h) (Reps.same s r)
 | _,_,.tup h r => .tup (s _ _ h) (Reps.same s r)
theorem Reps.same {H H':Hp} (s:Same H H'):∀ {vs:List V} {ds:List PyData},Reps H vs ds->Reps H' vs ds
 | _,_,.nil => .nil
 | _,_,.cons r t => .cons (Rep.same s r) (Reps.same s t)
end
theorem Reps.length {H:Hp}:∀ {vs:List V} {ds:List PyData},Reps H vs ds->vs.length=ds.length
 | _,_,.nil=>rfl
 | _,_,.cons _ t=>by simp [Reps.length t]
theorem Reps.get {H:Hp}:∀ {vs:List V} {ds:List PyData} {i:Nat} {d:PyData},Reps H vs ds->ds[i]?=some d->∃ v,vs[i]?=some v/\Rep H v d
 | _,_,_,_,.nil,e=>by simp at e
 | _,_,0,_,.cons r _,e=>by simp at e;subst e;exact ⟨_,rfl,r⟩
 | _,_,i+1,d,.cons _ t,e=>by
  obtain ⟨u,b,a⟩:=Reps.get (i:=i) (d:=d) t (by simpa using e)
  exact ⟨u,by simpa using b,a⟩
theorem Reps.append {H:Hp}:∀ {vs a:List V} {ds es:List PyData},Reps H vs ds->Reps H a es->Reps H (vs ++ a) (ds ++ es)
 | _,_,_,_,.nil,s=>s
 | _,_,_,_,.cons r t,s => .cons r (Reps.append t s)
section
variable {X:Cx} {pins:List (Addr × Obj)} {σ:St} {H:Hp} {s:Shared}
mutual
theorem Rep.reads (I:Inv X pins σ H s):∀ {v:V} {d:PyData} {u:Value},Rep H v d->RelV v u->∃ as,Reads s.heap u d as
 | _,_,_,.non,r=>by cases r;exact ⟨_,.none⟩
 | _,_,_,.bl b,r=>by cases r;exact ⟨_,.bool b⟩
 | _,_,_,.int i,r=>by obtain ⟨t,rfl⟩:=r;exact ⟨_,.int i t⟩
 | _,_,_,.str x,r=>by obtain ⟨t,rfl⟩:=r;exact ⟨_,.str x t⟩
 | _,_,_,.lst (a:=a) (xs:=xs) h q,r=>by
  cases r
  obtain ⟨_,its,n,f,e⟩:=(show ObjOk X.prog X.w H s.heap a (.lst xs) from I.hok a _ h)
  obtain ⟨as,g⟩:=Reps.reads I q f
  exact ⟨_,.list e rfl rfl (by simpa using g)⟩
 | _,_,_,.tup (a:=a) (xs:=xs) h q,r=>by
  cases r
  obtain ⟨_,its,f,o,e,c,n,dd⟩:=(show ObjOk X.prog X.w H s.heap a (.tup xs) from I.hok a _ h)
  obtain ⟨as,g⟩:=Reps.reads I q f
  exact ⟨_,.tuple e c dd (by simpa using g)⟩
theorem Reps.reads (I:Inv X pins σ H s):∀ {vs:List V} {ds:List PyData} {us:List Value},Reps H vs ds->Vals vs us->∃ as,ReadsAll s.heap us ds as
 | _,_,_,.nil,.nil=>⟨_,.nil⟩
 | _,_,_,.cons r t,.cons q qs=>by
  obtain ⟨as,a⟩:=Rep.reads I r q
  obtain ⟨bs,rb⟩:=Reps.reads I t qs
  exact ⟨_,.cons a rb⟩
end
end
mutual
def aap:PyData->Bool
 | .none | .int _=>true
 | .list xs | .tuple xs=>plainDs xs
 | _=>false
def plainDs:List PyData->Bool
 | []=>true
 | x :: xs=>aap x && plainDs xs
end
mutual
theorem aco:∀ (d:PyData),aap d=true->d.canLay0=true
 | .none,_=>by simp [PyData.canLay0]
 | .int _,_=>by simp [PyData.canLay0]
 | .list xs,h=>by simp only [PyData.canLay0];exact plain_lays xs (by simpa [aap] using h)
 | .tuple xs,h=>by simp only [PyData.canLay0];exact plain_lays xs (by simpa [aap] using h)
 | .bool _,h=>by simp [aap] at h
 | .str _,h=>by simp [aap] at h
 | .dict _,h=>by simp [aap] at h
theorem plain_lays:∀ (ds:List PyData),plainDs ds=true->PyData.canLayAll0 ds=true
 | [],_=>by simp [PyData.canLayAll0]
 | x :: xs,h=>by
  have h':aap x=true/\plainDs xs=true:=by simpa [plainDs] using h
  simp only [PyData.canLayAll0,aco x h'.1,plain_lays xs h'.2,Bool.and_self]
end
mutual
theorem aey:∀ (d e:PyData),aap d=true->aap e=true->(PyData.eqv d e=true ↔ d=e)
 | .none,e,_,h=>by cases e <;> simp_all [aap,PyData.eqv]
 | .int i,e,_,h=>by cases e <;> simp_all [aap,PyData.eqv]
 | .list xs,e,g,h=>by
  cases e with
  | list ys=>simp only [PyData.eqv,PyData.list.injEq];exact eqvAll_plain xs ys (by simpa [aap] using g) (by simpa [aap] using h)
  | _=>simp_all [aap,PyData.eqv]
 | .tuple xs,e,g,h=>by
  cases e with
  | tuple ys=>simp only [PyData.eqv,PyData.tuple.injEq];exact eqvAll_plain xs ys (by simpa [aap] using g) (by simpa [aap] using h)
  | _=>simp_all [aap,PyData.eqv]
 | .bool _,_,h,_=>by simp [aap] at h
 | .str _,_,h,_=>by simp [aap] at h
 | .dict _,_,h,_=>by simp [aap] at h
theorem eqvAll_plain:∀ (ds es:List PyData),plainDs ds=true->plainDs es=true->(PyData.eqvAll ds es=true ↔ ds=es)
 | [],[],_,_=>by simp [PyData.eqvAll]
 | [],_ :: _,_,_=>by simp [PyData.eqvAll]
 | _ :: _,[],_,_=>by simp [PyData.eqvAll]
 | x :: xs,y :: ys,g,h=>by
  have g':aap x=true/\plainDs xs=true:=by simpa [plainDs] using g
  have h':aap y=true/\plainDs ys=true:=by simpa [plainDs] using h
  simp only [PyData.eqvAll,aG5,List.cons.injEq,aey x y g'.1 h'.1,eqvAll_plain xs ys g'.2 h'.2]
end
theorem ae7 (ds:List PyData):plainDs ds=true ↔ ∀ d∈ds,aap d=true:=by
 induction ds with
 | nil=>simp [plainDs]
 | cons d ds ih=>simp [plainDs,ih]
def rEqD:R2:=fun x y H Q=>∃ d e,Rep H x d/\Rep H y e/\aap d=true/\aap e=true/\d.depth<=60/\Q (.bl (PyData.eqv d e)) H
def rNeD:R2:=fun x y H Q=>∃ d e,Rep H x d/\Rep H y e/\aap d=true/\aap e=true/\d.depth<=60/\Q (.bl (!PyData.eqv d e)) H
section
variable {X:Cx}
theorem ars (i:X.A.units+64 < cLine):OpR X (compareOp .Eq) rEqD:=by
 intro pins s σ H x y v u Q I b c h
 obtain ⟨d,e,a,re,hd,g,hz,q⟩:=h
 obtain ⟨as,f⟩:=a.reads I b
 obtain ⟨bs,rb⟩:=re.reads I c
 refine SeqAt.compareEq_reads f rb (aco _ hd) (aco _ g) ?_ ⟨.bl _,H,I,rfl,q⟩
 have:=Nat.min_le_left d.depth e.depth
 lia
theorem agi (i:X.A.units+64 < cLine):OpR X (compareOp .NotEq) rNeD:=by
 intro pins s σ H x y v u Q I b c h
 obtain ⟨d,e,a,re,hd,g,hz,q⟩:=h
 obtain ⟨as,f⟩:=a.reads I b
 obtain ⟨bs,rb⟩:=re.reads I c
 refine SeqAt.compareNe_reads f rb (aco _ hd) (aco _ g) ?_ ⟨.bl _,H,I,rfl,q⟩
 have:=Nat.min_le_left d.depth e.depth
 lia
def rInD (neg:Bool):R2:=fun x y H Q=>∃ d es,Rep H x d/\(Rep H y (.list es)\/Rep H y (.tuple es))/\aap d=true/\plainDs es=true/\d.depth<=60/\Q (.bl (if neg then !es.any (fun z=>PyData.eqv z d) else es.any (fun z=>PyData.eqv z d))) H
theorem akc (i:X.A.units+64 < cLine):OpR X (compareOp .NotIn) (rInD true):=by
 intro pins s σ H x y v u Q I g a h
 obtain ⟨d,es,f,re,hd,c,hz,q⟩:=h
 obtain ⟨as,b⟩:=f.reads I g
 have hm:=Nat.min_le_right (PyData.depthAll es) d.depth
 rcases re with re | re
 ·obtain ⟨bs,rb⟩:=re.reads I a
  exact SeqAt.notIn_list_reads rb b (plain_lays _ c) (aco _ hd) (by lia) ⟨.bl _,H,I,rfl,q⟩
 ·obtain ⟨bs,rb⟩:=re.reads I a
  exact SeqAt.notIn_tuple_reads rb b (plain_lays _ c) (aco _ hd) (by lia) ⟨.bl _,H,I,rfl,q⟩
def rIsi (K:Frag):List V->Hp->VK->Prop:=fun xs H Q=>∃ (x:V) (T:String) (t:Value) (b:Bool),xs=[x,.ty T]/\TyOf K H x t/\kitOne K t (.type T)=some b/\Q (.bl b) H
theorem afp:aa5 X (.builtin "isinstance") (rIsi X.K):=by
 intro pins s σ H xs us Q I r h
 obtain ⟨x,T,t,b,rfl,ty,e,q⟩:=h
 obtain ⟨u,c,rfl,d,a⟩:=apj r
 cases a
 exact aq3 I d ty e fun f=>⟨.bl b,H,I.tok _,rfl,q⟩
end
end L2
namespace HT
open PySem PyProof.Rows
section
open PySem.SeqAt
open PySem.AutoSeq1 (wpAny_loadPart')
open PySem.MeetsSeq PySem.MeetsSeq2 PySem.MeetsSeq3
end
section
variable {prog:Program} {w:World} {A:Around} {E:Value->Shared->Prop} {s:Shared}
end
end HT
namespace L2
open PySem PySem.Spec PyProof.Rows
section
variable {X:Cx}
end
end L2
namespace HT
open PySem PyProof.Rows
theorem ajg (val:Nat->Int):∀ k,argBest (fun i j=>decide (val i > val j)) k<=k/\∀ i,i<=k->val i<=val (argBest (fun i j=>decide (val i > val j)) k)
 | 0 => ⟨Nat.le_refl _, fun i hi => by have:i=0 := by lia
                                       subst this;exact Int.le_refl _⟩
 | k+1=>by
  obtain ⟨b,a⟩:=ajg val k
  unfold argBest
  by_cases hc:val (k+1) > val (argBest (fun i j=>decide (val i > val j)) k)
  ·rw [aE9 (aD6 hc)]
   refine ⟨aA6 _,fun i hi=>?_⟩
   by_cases e:i=k+1
   ·subst e;exact Int.le_refl _
   ·have:=a i (by lia)
    exact Int.le_trans this (Int.le_of_lt hc)
  ·rw [aF0 (by simpa using hc)]
   refine ⟨by lia,fun i hi=>?_⟩
   by_cases e:i=k+1
   ·subst e;lia
   ·exact a i (by lia)
theorem ajh (val:Nat->Int):∀ k,argBest (fun i j=>decide (val i < val j)) k<=k/\∀ i,i<=k->val (argBest (fun i j=>decide (val i < val j)) k)<=val i
 | 0 => ⟨Nat.le_refl _, fun i hi => by have:i=0 := by lia
                                       subst this;exact Int.le_refl _⟩
 | k+1=>by
  obtain ⟨b,a⟩:=ajh val k
  unfold argBest
  by_cases hc:val (k+1) < val (argBest (fun i j=>decide (val i < val j)) k)
  ·rw [aE9 (aD6 hc)]
   refine ⟨aA6 _,fun i hi=>?_⟩
   by_cases e:i=k+1
   ·subst e;exact Int.le_refl _
   ·have:=a i (by lia)
    exact Int.le_trans (Int.le_of_lt hc) this
  ·rw [aF0 (by simpa using hc)]
   refine ⟨by lia,fun i hi=>?_⟩
   by_cases e:i=k+1
   ·subst e;lia
   ·exact a i (by lia)
def val (ns:List Int) (i:Nat):Int:=(ns[i]?).getD 0
theorem ac9 {us:List Value} {ns:List Int} (hi:IntsAre us ns) (i:Nat) (v:Value) (h:us.toArray[i]?=some v):∃ t,v=.int (val ns i) t:=by
 induction hi generalizing i with
 | nil=>simp at h
 | cons n t r ih =>
  cases i with
  | zero=>simp at h;subst h;exact ⟨t,by simp [val]⟩
  | succ i =>
   obtain ⟨t',e⟩:=ih i (by simpa using h)
   exact ⟨t',by simpa [val] using e⟩
theorem ag5 {ns:List Int} {i:Nat} (h:i < ns.length):val ns i∈ns:=by
 unfold val
 rw [aA0 h]
 exact List.getElem_mem h
theorem aid {ns:List Int} {x:Int} (h:x∈ns):∃ i,i < ns.length/\val ns i=x:=by
 obtain ⟨i,hi,e⟩:=aH0.mp h
 exact ⟨i,hi,by unfold val;rw [aA0 hi];exact e⟩
section
variable {prog:Program} {w:World} {A:Around} {E:Value->Shared->Prop} {s:Shared}
theorem max_list {l:Addr} {us:List Value} {ns:List Int} {Q:Value->Shared->Prop} (hh:A.handled=none) (c:s.heap.IsList l us.toArray) (hi:IntsAre us ns) (d:ns ≠ [])
  (h:∀ m t h' g,m∈ns->(∀ x∈ns,x<=m)->(∀ b o,s.heap.get? b=some o->h'.get? b=some o)->Q (.int m t) { s with heap:=h',toks:=g }) :
  wpAny (model prog w) A (call (.builtin "max") [.ref l]) Q E s:=by
 have a:l < s.heap.objs.size:=by obtain ⟨_,e,_⟩:=c;exact aI5 e
 have hz:us.length=ns.length:=hi.length
 have y:0 < ns.length:=aF3.mpr d
 refine call_max_walk (aJ5 c ?_)
 refine ⟨_,[s.heap.objs.size,l],_,_,_,_,_,rfl,Walks.list (A:=A.in1) hh _ l (aB5 a) us.toArray,⟨⟨_,aI6 _ rfl,rfl,rfl⟩,c.push _⟩,fun b hb=>?_,by simp;lia,CmpOf.ints_gt (val ns) (fun i v=>ac9 hi i v),fun v h' g u n=>?_⟩
 ·show b < (s.heap.push _).objs.size
  rw [aJ2]
  rcases aA8.mp hb with rfl | hb
  ·exact aI0 _
  ·rcases aA8.mp hb with rfl | hb
   ·exact aF2 a
   ·cases hb
 ·obtain ⟨t,e⟩:=ac9 hi _ _ u
  obtain ⟨b1,j⟩:=ajg (val ns) (us.toArray.size - 1)
  have f:us.toArray.size=ns.length:=by simp [hz]
  rw [f] at b1 j
  subst e
  refine h _ t h' g (ag5 (by rw [f];lia)) (fun x p=>?_) fun b o e=>?_
  ·obtain ⟨i,q,e⟩:=aid p
   have:=j i (by lia)
   rw [e] at this
   rw [f]
   exact this
  ·refine n b o (fun hm=>?_) (aI4 _ e)
   rcases aA8.mp hm with r | hm
   ·exact absurd (r ▸ aI5 e) (aF8 _)
   ·cases hm
theorem min_list {l:Addr} {us:List Value} {ns:List Int} {Q:Value->Shared->Prop} (hh:A.handled=none) (c:s.heap.IsList l us.toArray) (hi:IntsAre us ns) (d:ns ≠ [])
  (h:∀ m t h' g,m∈ns->(∀ x∈ns,m<=x)->(∀ b o,s.heap.get? b=some o->h'.get? b=some o)->Q (.int m t) { s with heap:=h',toks:=g }) :
  wpAny (model prog w) A (call (.builtin "min") [.ref l]) Q E s:=by
 have a:l < s.heap.objs.size:=by obtain ⟨_,e,_⟩:=c;exact aI5 e
 have hz:us.length=ns.length:=hi.length
 have y:0 < ns.length:=aF3.mpr d
 refine call_min_walk (aJ5 c ?_)
 refine ⟨_,[s.heap.objs.size,l],_,_,_,_,_,rfl,Walks.list (A:=A.in1) hh _ l (aB5 a) us.toArray,⟨⟨_,aI6 _ rfl,rfl,rfl⟩,c.push _⟩,fun b hb=>?_,by simp;lia,CmpOf.ints_lt (val ns) (fun i v=>ac9 hi i v),fun v h' g u n=>?_⟩
 ·show b < (s.heap.push _).objs.size
  rw [aJ2]
  rcases aA8.mp hb with rfl | hb
  ·exact aI0 _
  ·rcases aA8.mp hb with rfl | hb
   ·exact aF2 a
   ·cases hb
 ·obtain ⟨t,e⟩:=ac9 hi _ _ u
  obtain ⟨b1,j⟩:=ajh (val ns) (us.toArray.size - 1)
  have f:us.toArray.size=ns.length:=by simp [hz]
  rw [f] at b1 j
  subst e
  refine h _ t h' g (ag5 (by rw [f];lia)) (fun x p=>?_) fun b o e=>?_
  ·obtain ⟨i,q,e⟩:=aid p
   have:=j i (by lia)
   rw [e] at this
   rw [f]
   exact this
  ·refine n b o (fun hm=>?_) (aI4 _ e)
   rcases aA8.mp hm with r | hm
   ·exact absurd (r ▸ aI5 e) (aF8 _)
   ·cases hm
theorem max_tup {l:Addr} {us:List Value} {ns:List Int} {Q:Value->Shared->Prop} (hh:A.handled=none) (f:s.heap.IsTuple l us.toArray) (hi:IntsAre us ns) (g:ns ≠ [])
  (h:∀ m t h' c,m∈ns->(∀ x∈ns,x<=m)->(∀ b o,s.heap.get? b=some o->h'.get? b=some o)->Q (.int m t) { s with heap:=h',toks:=c }) :
  wpAny (model prog w) A.in1 (pyIter (.ref l)) (fun it a=>∃ I fp q n P St p,it=.ref I/\Walks prog w A.in1 I fp q n P St/\St 0 a.heap/\(∀ b∈fp,b < a.heap.objs.size)/\0 < n/\CmpOf prog w A.in1 .Gt P p /\
   ∀ v h' c,P (argBest p (n - 1)) v->(∀ b o,b ∉ q->a.heap.get? b=some o->h'.get? b=some o)->Q v { a with heap:=h',toks:=c }) E s:=by
 have d:l < s.heap.objs.size:=by obtain ⟨_,e,_⟩:=f;exact aI5 e
 have hz:us.length=ns.length:=hi.length
 have D:0 < ns.length:=aF3.mpr g
 refine wpAny_pyIter_tuple f ?_
 refine ⟨_,[s.heap.objs.size,l],[_],_,_,_,_,rfl,Walks.tuple (A:=A.in1) hh _ l (aB5 d) us.toArray,⟨⟨_,aI6 _ rfl,rfl,rfl⟩,f.push _⟩,fun b hb=>?_,by simp;lia,CmpOf.ints_gt (val ns) (fun i v=>ac9 hi i v),fun v h' c C u=>?_⟩
 ·show b < (s.heap.push _).objs.size
  rw [aJ2]
  rcases aA8.mp hb with rfl | hb
  ·exact aI0 _
  ·rcases aA8.mp hb with rfl | hb
   ·exact aF2 d
   ·cases hb
 ·obtain ⟨t,e⟩:=ac9 hi _ _ C
  obtain ⟨b1,r⟩:=ajg (val ns) (us.toArray.size - 1)
  have j:us.toArray.size=ns.length:=by simp [hz]
  rw [j] at b1 r
  subst e
  refine h _ t h' c (ag5 (by rw [j];lia)) (fun x y=>?_) fun b o e=>?_
  ·obtain ⟨i,z,e⟩:=aid y
   have:=r i (by lia)
   rw [e] at this
   rw [j]
   exact this
  ·refine u b o (fun hm=>?_) (aI4 _ e)
   rcases aA8.mp hm with B | hm
   ·exact absurd (B ▸ aI5 e) (aF8 _)
   ·cases hm
theorem min_tup {l:Addr} {us:List Value} {ns:List Int} {Q:Value->Shared->Prop} (hh:A.handled=none) (f:s.heap.IsTuple l us.toArray) (hi:IntsAre us ns) (g:ns ≠ [])
  (h:∀ m t h' c,m∈ns->(∀ x∈ns,m<=x)->(∀ b o,s.heap.get? b=some o->h'.get? b=some o)->Q (.int m t) { s with heap:=h',toks:=c }) :
  wpAny (model prog w) A.in1 (pyIter (.ref l)) (fun it a=>∃ I fp q n P St p,it=.ref I/\Walks prog w A.in1 I fp q n P St/\St 0 a.heap/\(∀ b∈fp,b < a.heap.objs.size)/\0 < n/\CmpOf prog w A.in1 .Lt P p /\
   ∀ v h' c,P (argBest p (n - 1)) v->(∀ b o,b ∉ q->a.heap.get? b=some o->h'.get? b=some o)->Q v { a with heap:=h',toks:=c }) E s:=by
 have d:l < s.heap.objs.size:=by obtain ⟨_,e,_⟩:=f;exact aI5 e
 have hz:us.length=ns.length:=hi.length
 have D:0 < ns.length:=aF3.mpr g
 refine wpAny_pyIter_tuple f ?_
 refine ⟨_,[s.heap.objs.size,l],[_],_,_,_,_,rfl,Walks.tuple (A:=A.in1) hh _ l (aB5 d) us.toArray,⟨⟨_,aI6 _ rfl,rfl,rfl⟩,f.push _⟩,fun b hb=>?_,by simp;lia,CmpOf.ints_lt (val ns) (fun i v=>ac9 hi i v),fun v h' c C u=>?_⟩
 ·show b < (s.heap.push _).objs.size
  rw [aJ2]
  rcases aA8.mp hb with rfl | hb
  ·exact aI0 _
  ·rcases aA8.mp hb with rfl | hb
   ·exact aF2 d
   ·cases hb
 ·obtain ⟨t,e⟩:=ac9 hi _ _ C
  obtain ⟨b1,r⟩:=ajh (val ns) (us.toArray.size - 1)
  have j:us.toArray.size=ns.length:=by simp [hz]
  rw [j] at b1 r
  subst e
  refine h _ t h' c (ag5 (by rw [j];lia)) (fun x y=>?_) fun b o e=>?_
  ·obtain ⟨i,z,e⟩:=aid y
   have:=r i (by lia)
   rw [e] at this
   rw [j]
   exact this
  ·refine u b o (fun hm=>?_) (aI4 _ e)
   rcases aA8.mp hm with B | hm
   ·exact absurd (B ▸ aI5 e) (aF8 _)
   ·cases hm
end
end HT
namespace L2
open PySem PySem.Spec PyProof.Rows
section
variable {X:Cx}
def ada (ns:List Int) (m:Int):Prop:=m∈ns/\∀ x∈ns,x<=m
def apw (ns:List Int) (m:Int):Prop:=m∈ns/\∀ x∈ns,m<=x
def aez (K:Frag):List V->Hp->VK->Prop:=fun xs H Q=>∃ (a:Addr) (ns:List Int),xs=[.ref a]/\(SqL K H a (ns.map V.int)\/SqT K H a (ns.map V.int))/\ns ≠ []/\∀ m,ada ns m->Q (.int m) H
def ale (K:Frag):List V->Hp->VK->Prop:=fun xs H Q=>∃ (a:Addr) (ns:List Int),xs=[.ref a]/\(SqL K H a (ns.map V.int)\/SqT K H a (ns.map V.int))/\ns ≠ []/\∀ m,apw ns m->Q (.int m) H
theorem ac7 (j:X.calm=true):aa5 X (.builtin "max") (aez X.K):=by
 intro pins s σ H xs us Q I r h
 obtain ⟨a,ns,rfl,ha,b,q⟩:=h
 obtain ⟨u,rfl,n⟩:=acf r
 cases n
 rcases ha with ha | ha
 ·obtain ⟨its,g,c,_⟩:=I.list ha
  have f:IntsAre its.toArray.toList ns:=ab3 g
  exact HT.max_list (I.ok.hd j) c.isList (by simpa using f) b fun m t h' l d i kp=>⟨.int m,H,I.kept kp,⟨_,rfl⟩,q m ⟨d,i⟩⟩
 ·obtain ⟨its,g,c,_⟩:=I.tuple ha
  have f:IntsAre its.toArray.toList ns:=ab3 g
  refine call_max_walk (HT.max_tup (I.ok.hd j) c (by simpa using f) b fun m t h' l d i kp=>⟨.int m,H,I.kept kp,⟨_,rfl⟩,q m ⟨d,i⟩⟩)
theorem art (j:X.calm=true):aa5 X (.builtin "min") (ale X.K):=by
 intro pins s σ H xs us Q I r h
 obtain ⟨a,ns,rfl,ha,b,q⟩:=h
 obtain ⟨u,rfl,n⟩:=acf r
 cases n
 rcases ha with ha | ha
 ·obtain ⟨its,g,c,_⟩:=I.list ha
  have f:IntsAre its.toArray.toList ns:=ab3 g
  exact HT.min_list (I.ok.hd j) c.isList (by simpa using f) b fun m t h' l d i kp=>⟨.int m,H,I.kept kp,⟨_,rfl⟩,q m ⟨d,i⟩⟩
 ·obtain ⟨its,g,c,_⟩:=I.tuple ha
  have f:IntsAre its.toArray.toList ns:=ab3 g
  refine call_min_walk (HT.min_tup (I.ok.hd j) c (by simpa using f) b fun m t h' l d i kp=>⟨.int m,H,I.kept kp,⟨_,rfl⟩,q m ⟨d,i⟩⟩)
end
def tTru (K:Frag) (ta:TE):TT:=fun σ H Q=>ta σ H fun x H'=>∃ k,TruV K x H' k/\Q k H'
def rIsN:R2:=fun x y H Q=>y=.non/\Q (.bl (decide (x=.non))) H
def avx:R2:=fun x y H Q=>y=.non/\Q (.bl (!decide (x=.non))) H
section
variable {X:Cx} {a:Expr} {ta:TE}
theorem azo (ha:PE X a ta) (b:∀ whole,isTrue a X.env whole=(do let v ← whole;standAt a.pos;holding [v] (truthy v)):=by intro _;rfl):PT X a (tTru X.K ta):=atf ha b
def acr (K:Frag):R2:=fun x y H Q=>rIxL K x y H Q\/rIxT K x y H Q
theorem aam:IxR X (acr X.K):=ix_list.or ay5
theorem aw3 {i j n:Int} {c b:Nat} {d p2 a:Pos} (h:i ^ j.toNat=n) (f:CPow i j):PE X (.BinOp (.Constant (.int i) c d) .Pow (.Constant (.int j) b p2) a) (tC (.int n)):=by
 intro pins s σ H Q I q
 subst h
 exact aat ay1 aae aae pins s σ H Q I ⟨i,j,rfl,rfl,f,q⟩
theorem aoi:OpR X (compareOp .Is) rIsN:=ay2
theorem at7:OpR X (compareOp .IsNot) avx:=awb
end
section
variable {σ:St} {H:Hp} {D:Ends} {K:Frag}
theorem aej {a:Addr} {xs:List V} {i:Int} {v:V} {Q:VK} (ha:H a=some (.lst xs)) (b:atI xs i=some v) (h:Q v H):acr K (.ref a) (.int i) H Q:=.inl (azg ha b h)
theorem at8 {a:Addr} {xs:List V} {i:Int} {v:V} {Q:VK} (ha:H a=some (.tup xs)) (b:atI xs i=some v) (h:Q v H):acr K (.ref a) (.int i) H Q:=.inr (azh ha b h)
theorem at9 {a:Addr} {xs:List V} {i:Int} {v:V} {Q:VK} (ha:SqL K H a xs) (b:atI xs i=some v) (h:Q v H):acr K (.ref a) (.int i) H Q:=.inl (azl ha b h)
theorem aci {A B:Prop} (h:A):if true=true then A else B:=by rw [aE9 rfl];exact h
theorem acw {A B:Prop} (h:B):if false=true then A else B:=by rw [aF0 aA9];exact h
theorem aji {A B:Prop} (h:B):if (!true)=true then A else B:=by rw [aF0 (by decide)];exact h
theorem ajj {A B:Prop} (h:A):if (!false)=true then A else B:=by rw [aE9 (by decide)];exact h
theorem aua {c:Prop} [Decidable c] {A B:Prop} (a:c) (h:B):if (!decide c)=true then A else B:=by rw [aD6 a];exact aji h
theorem aub {c:Prop} [Decidable c] {A B:Prop} (a:¬ c) (h:A):if (!decide c)=true then A else B:=by rw [aD5 a];exact ajj h
theorem ahp {K:Frag}:kitOne K (.type "NoneType") (.type "int")=some false:=by first | rfl | decide
theorem ahc {K:Frag}:kitOne K (.type "NoneType") (.type "bool")=some false:=by first | rfl | decide
theorem agj {K:Frag}:kitOne K (.type "NoneType") (.type "tuple")=some false:=by first | rfl | decide
theorem ahd {K:Frag}:kitOne K (.type "NoneType") (.type "list")=some false:=by first | rfl | decide
theorem ahq {K:Frag}:kitOne K (.type "NoneType") (.type "str")=some false:=by first | rfl | decide
theorem ahe {K:Frag}:kitOne K (.type "NoneType") (.type "dict")=some false:=by first | rfl | decide
theorem al7 {K:Frag}:kitOne K (.type "bool") (.type "int")=some true:=by first | rfl | decide
theorem akr {K:Frag}:kitOne K (.type "bool") (.type "bool")=some true:=by first | rfl | decide
theorem ajk {K:Frag}:kitOne K (.type "bool") (.type "tuple")=some false:=by first | rfl | decide
theorem aks {K:Frag}:kitOne K (.type "bool") (.type "list")=some false:=by first | rfl | decide
theorem al8 {K:Frag}:kitOne K (.type "bool") (.type "str")=some false:=by first | rfl | decide
theorem akt {K:Frag}:kitOne K (.type "bool") (.type "dict")=some false:=by first | rfl | decide
theorem ant {K:Frag}:kitOne K (.type "int") (.type "int")=some true:=by first | rfl | decide
theorem al9 {K:Frag}:kitOne K (.type "int") (.type "bool")=some false:=by first | rfl | decide
theorem aku {K:Frag}:kitOne K (.type "int") (.type "tuple")=some false:=by first | rfl | decide
theorem ama {K:Frag}:kitOne K (.type "int") (.type "list")=some false:=by first | rfl | decide
theorem anu {K:Frag}:kitOne K (.type "int") (.type "str")=some false:=by first | rfl | decide
theorem amb {K:Frag}:kitOne K (.type "int") (.type "dict")=some false:=by first | rfl | decide
theorem anv {K:Frag}:kitOne K (.type "str") (.type "int")=some false:=by first | rfl | decide
theorem amc {K:Frag}:kitOne K (.type "str") (.type "bool")=some false:=by first | rfl | decide
theorem akv {K:Frag}:kitOne K (.type "str") (.type "tuple")=some false:=by first | rfl | decide
theorem amd {K:Frag}:kitOne K (.type "str") (.type "list")=some false:=by first | rfl | decide
theorem anw {K:Frag}:kitOne K (.type "str") (.type "str")=some true:=by first | rfl | decide
theorem ame {K:Frag}:kitOne K (.type "str") (.type "dict")=some false:=by first | rfl | decide
theorem amf {K:Frag}:kitOne K (.type "list") (.type "int")=some false:=by first | rfl | decide
theorem akw {K:Frag}:kitOne K (.type "list") (.type "bool")=some false:=by first | rfl | decide
theorem ajl {K:Frag}:kitOne K (.type "list") (.type "tuple")=some false:=by first | rfl | decide
theorem akx {K:Frag}:kitOne K (.type "list") (.type "list")=some true:=by first | rfl | decide
theorem amg {K:Frag}:kitOne K (.type "list") (.type "str")=some false:=by first | rfl | decide
theorem aky {K:Frag}:kitOne K (.type "list") (.type "dict")=some false:=by first | rfl | decide
theorem akz {K:Frag}:kitOne K (.type "tuple") (.type "int")=some false:=by first | rfl | decide
theorem ajm {K:Frag}:kitOne K (.type "tuple") (.type "bool")=some false:=by first | rfl | decide
theorem aie {K:Frag}:kitOne K (.type "tuple") (.type "tuple")=some true:=by first | rfl | decide
theorem ajn {K:Frag}:kitOne K (.type "tuple") (.type "list")=some false:=by first | rfl | decide
theorem ak0 {K:Frag}:kitOne K (.type "tuple") (.type "str")=some false:=by first | rfl | decide
theorem ajo {K:Frag}:kitOne K (.type "tuple") (.type "dict")=some false:=by first | rfl | decide
theorem amh {K:Frag}:kitOne K (.type "dict") (.type "int")=some false:=by first | rfl | decide
theorem ak1 {K:Frag}:kitOne K (.type "dict") (.type "bool")=some false:=by first | rfl | decide
theorem ajp {K:Frag}:kitOne K (.type "dict") (.type "tuple")=some false:=by first | rfl | decide
theorem ak2 {K:Frag}:kitOne K (.type "dict") (.type "list")=some false:=by first | rfl | decide
theorem ami {K:Frag}:kitOne K (.type "dict") (.type "str")=some false:=by first | rfl | decide
theorem ak3 {K:Frag}:kitOne K (.type "dict") (.type "dict")=some true:=by first | rfl | decide
end
end L2
namespace L2
open PySem
section
variable {σ:St} {H:Hp} {K:Frag}
theorem abb {p:Addr} {o:HO} (a:H p=none):Same H (upd H p o):=fun b u e=>by rw [aad (aar e a)];exact e
theorem Same.new {H H':Hp} {q:Addr} {o:HO} (s:Same H H') (h:H' q=none):Same H (upd H' q o):=fun b u e=>by
 have:=s b u e
 rw [aad (aar this h)];exact this
theorem Same.set {H H':Hp} {q:Addr} {o:HO} (s:Same H H') (h:H q=none):Same H (upd H' q o):=fun b u e=>by
 have:=s b u e
 rw [aad (aar e h)];exact this
theorem Same.at {H H':Hp} {b:Addr} {o:HO} (s:Same H H') (h:H b=some o):H' b=some o:=s b o h
end
section
variable {σ:St} {H:Hp} {K:Frag}
abbrev NewL (Q:VK):List V->Hp->Prop:=fun xs H1=>xs.length<=sizeLine/\∀ p,H1 p=none->Q (.ref p) (upd H1 p (.lst xs))
theorem aw4 {t:TA} {Q:VK} (h:t σ H (NewL Q)):tLst t σ H Q:=h
end
end L2
namespace Gr
inductive Walk (T:Int->Int->Prop) (u:Int):Nat->Int->Prop
 | refl:Walk T u 0 u
 | step {k:Nat} {v w:Int}:Walk T u k v->T v w->Walk T u (k+1) w
def Dist (T:Int->Int->Prop) (u v:Int) (d:Nat):Prop:=Walk T u d v/\∀ k,Walk T u k v->d<=k
theorem Dist.uniq {T:Int->Int->Prop} {u v:Int} {d e:Nat} (h:Dist T u v d) (g:Dist T u v e):d=e:=Nat.le_antisymm (h.2 _ g.1) (g.2 _ h.1)
theorem Dist.self (T:Int->Int->Prop) (u:Int):Dist T u u 0:=⟨.refl,fun _ _=>aF4 _⟩
theorem Dist.of_walk {T:Int->Int->Prop} {u v:Int} {k:Nat} (h:Walk T u k v):∃ d,d<=k/\Dist T u v d:=by
 induction k using Nat.strongRecOn with
 | ind k ih =>
  by_cases hx:∃ j,j < k/\Walk T u j v
  ·obtain ⟨j,a,w⟩:=hx
   obtain ⟨d,hd,e⟩:=ih j a w
   exact ⟨d,by lia,e⟩
  ·refine ⟨k,aA6 _,h,fun j w=>?_⟩
   by_cases a:j < k
   ·exact absurd ⟨j,a,w⟩ hx
   ·lia
theorem Dist.pred {T:Int->Int->Prop} {u w:Int} {d:Nat} (h:Dist T u w (d+1)):∃ v,T v w/\Dist T u v d:=by
 obtain ⟨a,hm⟩:=h
 cases a with
 | step hv ht =>
  rename_i v
  refine ⟨v,ht,hv,fun k b=>?_⟩
  have:=hm (k+1) (.step b ht)
  lia
theorem Dist.next {T:Int->Int->Prop} {u v w:Int} {d:Nat} (h:Dist T u v d) (t:T v w):∃ e,e<=d+1/\Dist T u w e:=Dist.of_walk (.step h.1 t)
structure Bfs (T:Int->Int->Prop) (a:Int) (line:List Int) (ds:List Nat) (at_:Nat):Prop where
 len:ds.length=line.length
 fst:line[0]?=some a
 nd:line.Nodup
 le:at_<=line.length
 dist:∀ (i:Nat) v d,line[i]?=some v->ds[i]?=some d->Dist T a v d
 mono:∀ (i j:Nat) d e,i<=j->ds[i]?=some d->ds[j]?=some e->d<=e
 near:∀ (i j:Nat) d e,at_<=i->ds[i]?=some d->ds[j]?=some e->e<=d+1
 done:∀ (i:Nat) v w,i < at_->line[i]?=some v->T v w->w∈line
theorem Bfs.start (T:Int->Int->Prop) (a:Int):Bfs T a [a] [0] 0:=by
 refine ⟨rfl,rfl,by simp,aF4 _,fun i v d c b=>?_,fun i j d e h c b=>?_,fun i j d e h c b=>?_,fun i v w h=>absurd h (by lia)⟩
 ·match i,c,b with
  | 0,c,b=>simp at c b;subst c b;exact Dist.self T a
  | i+1,c,_=>simp at c
 ·match j,b with
  | 0,b =>
   have:i=0:=by lia
   subst this
   rw [c] at b;cases b;exact aA6 _
  | j+1,b=>simp at b
 ·match i,j,c,b with
  | 0,0,c,b=>rw [c] at b;cases b;lia
  | i+1,_,c,_=>simp at c
  | 0,j+1,_,b=>simp at b
theorem Bfs.all {T:Int->Int->Prop} {a:Int} {line:List Int} {ds:List Nat} {at_:Nat} {d:Nat} (b:Bfs T a line ds at_) (hd:ds[at_]?=some d) :
  ∀ k w,k<=d->Dist T a w k->w∈line:=by
 intro k
 induction k with
 | zero =>
  intro w _ h
  have:w=a:=by
   cases h.1;rfl
  subst this
  exact aA2 b.fst
 | succ k ih =>
  intro w m h
  obtain ⟨v,j,g⟩:=h.pred
  have l:=ih v (by lia) g
  obtain ⟨i,hi,e⟩:=aH0.mp l
  have f:line[i]?=some v:=by rw [aA0 hi,e]
  have c:i < ds.length:=by rw [b.len];exact hi
  have e2:ds[i]?=some ds[i]:=aA0 c
  have n:=(b.dist i v _ f e2).uniq g
  by_cases hlt:i < at_
  ·exact b.done i v w hlt f j
  ·have:=b.mono at_ i d _ (by lia) hd e2
   lia
theorem Bfs.add {T:Int->Int->Prop} {a:Int} {line:List Int} {ds:List Nat} {at_:Nat} {p w:Int} {d:Nat} (b:Bfs T a line ds at_) (r:line[at_]?=some p) (hd:ds[at_]?=some d) (t:T p w) (q:w ∉ line) :
  Bfs T a (line ++ [w]) (ds ++ [d+1]) at_:=by
 have B:at_ < line.length:=(aA1.mp r).1
 have dw:Dist T a w (d+1):=by
  obtain ⟨e,C,h⟩:=(b.dist _ _ _ r hd).next t
  by_cases c:e<=d
  ·exact absurd (b.all hd e w c h) q
  ·have:e=d+1:=by lia
   rw [← this];exact h
 have g:∀ (j:Nat) e,(ds ++ [d+1])[j]?=some e->(ds[j]?=some e)\/(j=ds.length/\e=d+1):=by
  intro j e h
  rw [List.getElem?_append] at h
  split at h
  ·exact .inl h
  ·rename_i hj
   right
   have:j - ds.length=0:=by
    match hz:j - ds.length,h with
    | 0,_=>rfl
    | k+1,h=>simp at h
   rw [this] at h
   simp at h
   exact ⟨by lia,h.symm⟩
 refine ⟨by simp [b.len],?_,?_,by simp;lia,fun i v e f c=>?_,fun i j x y h f c=>?_,fun i j x y h f c=>?_,fun i v u h f z=>?_⟩
 ·rw [aC2 (by lia)];exact b.fst
 ·rw [aE3]
  exact ⟨b.nd,by simp,fun x A y o=>by simp at o;subst o;intro e;subst e;exact q A⟩
 ·rcases g _ _ c with c | ⟨n,l⟩
  ·have hi:i < ds.length:=(aA1.mp c).1
   rw [aC2 (by rw [← b.len];exact hi)] at f
   exact b.dist i v e f c
  ·subst l
   rw [aC7 (by rw [← b.len];lia)] at f
   have:i - line.length=0:=by rw [← b.len];lia
   rw [this] at f
   simp at f;subst f
   exact dw
 ·rcases g _ _ f with f | ⟨n,l⟩
  ·rcases g _ _ c with c | ⟨m,l⟩
   ·exact b.mono i j x y h f c
   ·subst l
    by_cases hia:at_<=i
    ·exact b.near at_ i d x (aA6 _) hd f
    ·have:=b.mono i at_ x d (by lia) f hd;lia
  ·rcases g _ _ c with c | ⟨m,s⟩
   ·have:=(aA1.mp c).1;lia
   ·lia
 ·rcases g _ _ f with f | ⟨n,l⟩
  ·rcases g _ _ c with c | ⟨m,l⟩
   ·exact b.near i j x y h f c
   ·subst l
    have:=b.mono at_ i d x h hd f;lia
  ·subst l
   rcases g _ _ c with c | ⟨m,l⟩
   ·have:=b.near at_ j d y (aA6 _) hd c;lia
   ·lia
 ·rw [aC2 (by lia)] at f
  exact aC6 _ (b.done i v u h f z)
theorem Bfs.next {T:Int->Int->Prop} {a:Int} {line:List Int} {ds:List Nat} {at_:Nat} {p:Int} (b:Bfs T a line ds at_) (g:line[at_]?=some p) (h:∀ w,T p w->w∈line):Bfs T a line ds (at_+1):=by
 have f:at_ < line.length:=(aA1.mp g).1
 refine ⟨b.len,b.fst,b.nd,f,b.dist,b.mono,fun i j d e hi=>b.near i j d e (by lia),fun i v w hi c t=>?_⟩
 by_cases e:i=at_
 ·subst e
  rw [g] at c;cases c
  exact h w t
 ·exact b.done i v w (by lia) c t
theorem Bfs.fin {T:Int->Int->Prop} {a:Int} {line:List Int} {ds:List Nat} (b:Bfs T a line ds line.length):∀ k w,Walk T a k w->w∈line:=by
 intro k w h
 induction h with
 | refl=>exact aA2 b.fst
 | step _ t ih =>
  obtain ⟨i,hi,e⟩:=aH0.mp ih
  exact b.done i _ _ hi (by rw [aA0 hi,e]) t
end Gr
namespace L2
open PySem PySem.Spec PyProof.Rows
section
variable {σ:St} {H:Hp} {D:Ends} {K:Frag}
end
theorem few_places:∀ (n:Nat) (l:List Int),l.Nodup->(∀ v∈l,0<=v/\v < (n:Int))->l.length<=n
 | 0,l,_,h=>by
  cases l with
  | nil=>simp
  | cons v r=>have:=h v (by simp);lia
 | n+1,l,hn,h=>by
  have d:=few_places n (l.erase (n:Int)) (hn.erase _) fun v a=>by
   have hm:=List.mem_of_mem_erase a
   have hb:=h v hm
   have b:v ≠ (n:Int):=by
    rintro rfl
    exact absurd a (List.Nodup.not_mem_erase hn)
   lia
  have c:l.length<=(l.erase (n:Int)).length+1:=by
   rw [List.length_erase]
   split <;> lia
  lia
end L2
namespace L2
open PySem
end L2
namespace HT
open PySem PyProof.Rows
theorem aif (ns:List Int):∀ k,k<=ns.length->preSum (val ns) k=(ns.take k).sum
 | 0,_=>by simp [preSum]
 | k+1,h=>by
  have a:=aif ns k (by lia)
  have e:ns.take (k+1)=ns.take k ++ [ns[k]]:=by rw [aG8,aA0 (by lia)];rfl
  rw [e,List.sum_append]
  unfold preSum
  rw [a]
  unfold val
  rw [aA0 (by lia)]
  simp
section
variable {prog:Program} {w:World} {A:Around} {E:Value->Shared->Prop} {s:Shared}
theorem sum_list {l:Addr} {us:List Value} {ns:List Int} {Q:Value->Shared->Prop} (hh:A.handled=none) (c:s.heap.IsList l us.toArray) (hi:IntsAre us ns)
  (h:∀ t h' d,(∀ b o,s.heap.get? b=some o->h'.get? b=some o)->Q (.int ns.sum t) { s with heap:=h',toks:=d }) :
  wpAny (model prog w) A (call (.builtin "sum") [.ref l]) Q E s:=by
 have a:l < s.heap.objs.size:=by obtain ⟨_,e,_⟩:=c;exact aI5 e
 have hz:us.length=ns.length:=hi.length
 refine call_sum_walkG (aJ5 c ?_)
 refine ⟨_,[s.heap.objs.size,l],_,_,_,_,val ns,rfl,Walks.list (A:=A.in1) hh _ l (aB5 a) us.toArray,⟨⟨_,aI6 _ rfl,rfl,rfl⟩,c.push _⟩,fun b hb=>?_,fun i v=>ac9 hi i v,fun h' d t' f=>?_⟩
 ·show b < (s.heap.push _).objs.size
  rw [aJ2]
  rcases aA8.mp hb with rfl | hb
  ·exact aI0 _
  ·rcases aA8.mp hb with rfl | hb
   ·exact aF2 a
   ·cases hb
 ·have g:us.toArray.size=ns.length:=by simp [hz]
  rw [g,aif ns _ (aA6 _),aG2]
  refine h t' h' d fun b o e=>?_
  refine f b o (fun hm=>?_) (aI4 _ e)
  rcases aA8.mp hm with j | hm
  ·exact absurd (j ▸ aI5 e) (aF8 _)
  ·cases hm
end
end HT
namespace L2
open PySem PySem.Spec PyProof.Rows
section
variable {X:Cx}
def apx (K:Frag):List V->Hp->VK->Prop:=fun xs H Q=>∃ (a:Addr) (ns:List Int),xs=[.ref a]/\SqL K H a (ns.map V.int)/\Q (.int ns.sum) H
theorem akd (b:X.calm=true):aa5 X (.builtin "sum") (apx X.K):=by
 intro pins s σ H xs us Q I r h
 obtain ⟨a,ns,rfl,ha,q⟩:=h
 obtain ⟨u,rfl,d⟩:=acf r
 cases d
 obtain ⟨its,g,c,_⟩:=I.list ha
 have f:IntsAre its.toArray.toList ns:=ab3 g
 exact HT.sum_list (I.ok.hd b) c.isList (by simpa using f) fun t h' i kp=>⟨.int _,H,I.kept kp,⟨_,rfl⟩,q⟩
end
section
variable {X:Cx} {pins:List (Addr × Obj)} {σ:St} {H:Hp} {s:Shared} {A:Around} {E:Value->Shared->Prop} {Q:Value->Shared->Prop} {b:Bool}
end
section
variable {X:Cx}
end
end L2
namespace HT
open PySem PyProof.Rows L2
def LtAt (A:Around) (s:Shared) (y x:Value) (b:Bool):Prop :=
 ∀ (prog:Program) (w:World) (E:Value->Shared->Prop) (Q:Value->Shared->Prop),Q (.bool b) s->wpAny (model prog w) A (richCompare .Lt y x) Q E s
section
open PySem.SeqAt
open PySem.AutoSeq1 (wpAny_loadPart')
open PySem.MeetsSeq PySem.MeetsSeq2 PySem.MeetsSeq3
inductive Its (A:Around) (s:Shared):List Value->List Value->Bool->Prop
 | nn:Its A s [] [] false
 | nc {x:Value} {ys:List Value}:Its A s [] (x :: ys) true
 | cn {x:Value} {xs:List Value}:Its A s (x :: xs) [] false
 | eq {x y:Value} {xs ys:List Value} {b:Bool}:EqAt A s x y true->Its A s xs ys b->Its A s (x :: xs) (y :: ys) b
 | ne {x y:Value} {xs ys:List Value} {b:Bool}:EqAt A s x y false->LtAt A s x y b->Its A s (x :: xs) (y :: ys) b
theorem amj (l b:Addr) (items a:Array Value) (n F:Nat) (dd z:Option Addr) (sl v:Array (Option Value)) (r:Bool) :
  Meets (Builtin.«tuple.__lt__» ⟨[.ref l,.ref b],[]⟩)
   (fun A R s=>s.heap.get? l=some { cls:=.type "tuple",dict:=dd,data:=.seq items n,slots:=sl }/\s.heap.get? b=some { cls:=.type "tuple",dict:=z,data:=.seq a F,slots:=v } /\
    Its A.in1 s items.toList a.toList r/\R (.ok (.ret (.bool r))) s) :=
 .of_wp fun prog w A R s h=>by
  obtain ⟨D,g,d,C,os⟩:=s;obtain ⟨E,hb,hi,h⟩:=h
  have I:=AutoSeq1.sub_tuple_tuple
  wp_walk using wpAny_loadPart' E,wpAny_loadPart' hb,wpAny_forIn_list _ (fun rest b u=>b.1=none/\u=⟨D,g,d,C,os⟩/\∃ (vs m:List Value),rest=vs.zip m /\
   vs.length+a.size=m.length+items.size/\Its A.in1 ⟨D,g,d,C,os⟩ vs m r) _
  case turn =>
   rintro ⟨y,x⟩ rest b u ⟨i,rfl,vs,m,hz,c,o⟩
   cases o with
   | nn=>cases hz
   | nc=>cases hz
   | cn=>cases hz
   | eq he hI' =>
    rw [List.zip_cons_cons] at hz
    injection hz with j f
    injection j with p q
    subst p q
    simp only [aE1] at c
    refine aI2 (he prog w _ _ ?_)
    wp_walk
    exact ⟨rfl,rfl,_,_,f,by lia,hI'⟩
   | ne he hlt =>
    rw [List.zip_cons_cons] at hz
    injection hz with j f
    injection j with p q
    subst p q
    refine aI2 (he prog w _ _ ?_)
    have B:=hlt prog w
    wp_walk using B
    exact ⟨_,rfl,by simpa using h⟩
  case fin =>
   rintro ⟨b1,H⟩ u ⟨i,rfl,vs,m,hz,c,o⟩
   simp only at i
   subst i
   have G:r=decide (items.size < a.size):=by
    cases o with
    | nn =>
     simp only [aI1] at c
     exact (aD5 (by lia)).symm
    | nc =>
     simp only [aI1,aE1] at c
     exact (aD6 (by lia)).symm
    | cn =>
     simp only [aI1,aE1] at c
     exact (aD5 (by lia)).symm
    | eq=>cases hz
    | ne=>cases hz
   rw [G] at h
   wp_walk
   exact ⟨_,rfl,by simpa [Builtin.Tuple.tupleCompareSizes] using h⟩
  case h =>
   exact ⟨rfl,rfl,items.toList,a.toList,rfl,by simp;lia,hi⟩
end
section
variable {A:Around} {s:Shared}
theorem LtAt.tup {l b:Addr} {o f:Obj} {items a:Array Value} {n p:Nat} {r:Bool} (j:s.heap.get? l=some o) (m:o.cls=.type "tuple") (hd:o.data=.seq items n) (hb:s.heap.get? b=some f) (c:f.cls=.type "tuple") (d:f.data=.seq a p)
  (v:A.units < cLine) (hi:Its A.in1 s items.toList a.toList r):LtAt A s (.ref l) (.ref b) r:=by
 intro prog w E Q q
 obtain ⟨cls,dd,data,sl⟩:=o
 obtain ⟨u,i,g,h⟩:=f
 simp only at m hd c d
 subst m hd c d
 exact richCompare_meets_room (op:=.Lt) ⟨_,j,rfl⟩ ⟨_,hb,rfl⟩ PySem.F.slot_tuple_lt PySem.F.entry_tuple_lt (PySem.F.args_tuple_lt_2 _ _) (amj l b items a n p dd i sl h r)
  ⟨j,hb,hi,show Value.bool r ≠ Value.notImplemented/\Q (.bool r) s from ⟨(fun x=>nomatch x),q⟩⟩ v
end
end HT
namespace L2
open PySem PySem.Spec PyProof.Rows
section
variable {X:Cx}
end
end L2
namespace L2
open PySem
end L2
namespace TS
open PySem PyProof.Rows HT
theorem aoj:∀ x y:List Int,HT.lexLt x y=true->HT.lexLt y x=false
 | [],[],h=>by simp [HT.lexLt] at h
 | [],_ :: _,_=>rfl
 | _ :: _,[],h=>by simp [HT.lexLt] at h
 | a :: x,b :: y,h=>by
  rw [ad0] at h ⊢
  by_cases e:a=b
  ·subst e
   rw [aE9 rfl] at h ⊢
   exact aoj x y h
  ·rw [aF0 e] at h
   rw [aF0 (fun z=>e z.symm)]
   have:=of_decide_eq_true h
   exact aD5 (by lia)
theorem aru:∀ x y z:List Int,HT.lexLt y x=false->HT.lexLt z y=false->HT.lexLt z x=false
 | _,[],[],h,_=>h
 | [],[],_ :: _,_,_=>rfl
 | _ :: _,[],_ :: _,h,_=>by simp [HT.lexLt] at h
 | _,_ :: _,[],_,h=>by simp [HT.lexLt] at h
 | [],_ :: _,_ :: _,_,_=>rfl
 | a :: x,b :: y,c :: z,h,g=>by
  rw [ad0] at h g ⊢
  by_cases e:b=a
  ·subst e
   rw [aE9 rfl] at h
   by_cases e2:c=b
   ·subst e2
    rw [aE9 rfl] at g ⊢
    exact aru x y z h g
   ·rw [aF0 e2] at g ⊢
    exact g
  ·rw [aF0 e] at h
   have h':=of_decide_eq_false h
   by_cases e2:c=b
   ·subst e2
    rw [aF0 e]
    exact h
   ·rw [aF0 e2] at g
    have g':=of_decide_eq_false g
    rw [aF0 (by lia)]
    exact aD5 (by lia)
def TI (h:Heap) (a:Addr) (ns:List Int):Prop:=∃ o xs n,h.get? a=some o/\o.cls=.type "tuple"/\o.data=.seq xs n/\IntsAre xs.toList ns
def kfV (kf:Addr->List Int):Value->List Int
 | .ref a=>kf a
 | _=>[]
section
variable {prog:Program} {w:World} {A:Around} {E:Value->Shared->Prop} {s:Shared}
theorem ahi {fin:Bool} {Q:Bool->Shared->Prop}:∀ {xs ys:List Value} {ns c:List Int} (i:Nat),IntsAre xs ns->IntsAre ys c->(ns.length < c.length->fin=true)->(c.length<=ns.length->fin=false)->Q (HT.lexLt ns c) s ->
  PySem.W.KatLex prog w A true fin Q (xs.zip ys) i s
 | _,_,_,_,i,.nil,.nil,_,h2,q=>by
  rw [h2 (aA6 _)];exact q
 | _,_,_,_,i,.nil,.cons b u r,h1,_,q=>by
  rw [h1 (by simp)];exact q
 | _,_,_,_,i,.cons a t r,.nil,_,h2,q=>by
  rw [List.zip_nil_right,h2 (by simp)];exact q
 | _,_,_,_,i,.cons a t r,.cons b u r2,h1,h2,q=>by
  rw [List.zip_cons_cons]
  refine PySem.W.kat_cons (SeqAt.EqAt.int_int a t b u prog w _ _ ?_)
  rw [ad0] at q
  by_cases e:a=b
  ·subst e
   rw [aE9 rfl] at q
   rw [show (a == a)=true by simp]
   exact PySem.W.kat_yes (ahi (i+1) r r2 (fun z=>h1 (by simpa using z)) (fun z=>h2 (by simpa using z)) q)
  ·rw [aF0 e] at q
   rw [show (a == b)=false by simpa using e]
   refine PySem.W.kat_no ?_
   by_cases hi:i=0
   ·subst hi
    exact oneLt_int q
   ·rw [show (true && i == 0)=false by simpa using hi]
    exact PySem.W.kat_one _ _ (PyProof.Rows.lt_int q)
def tS (h:Heap) (kf:Addr->List Int) (x:Keyed):Prop:=x.1=x.2/\∃ a,x.1=.ref a/\TI h a (kf a)
def tR (kf:Addr->List Int) (x y:Keyed):Bool:=HT.lexLt (kfV kf x.1) (kfV kf y.1)
theorem cmp_tups (j:Addr->List Int):Cmp (model prog w) A E s (tuples' true) (tS s.heap j) (tR j):=by
 refine ⟨fun x y p m Q st l q=>?_,fun x y _ _=>aoj _ _,fun x y z _ _ _=>aru _ _ _⟩
 obtain ⟨H,G⟩:=x
 obtain ⟨F,D⟩:=y
 obtain ⟨_,a,i,o,xs,n,v,e2,B,g⟩:=p
 obtain ⟨_,b,h,o',ys,C,u,I,r,f⟩:=m
 dsimp only at i h
 subst i h
 rw [lt'_eq]
 refine wpS_bind (wpS_get ?_)
 rw [l]
 refine wpS_bind (wpS_lift (wpAny_attempt (PySem.W.kat_lt v B u r (ahi 0 g f (fun z=>?_) (fun z=>?_) ⟨rfl,?_⟩))))
 ·have d:=g.length;have c:=f.length
  simp at d c
  exact aD6 (by lia)
 ·have d:=g.length;have c:=f.length
  simp at d c
  exact aD5 (by lia)
 ·exact wpS_pure q
theorem apy {vs:List Value} {ps:List Keyed} (h:ps.Perm (vs.zip vs)):(∀ p∈ps,p.1=p.2/\p.1∈vs)/\(ps.map (·.2)).Perm vs:=by
 refine ⟨fun p a=>mem_zip_self (h.mem_iff.mp a),?_⟩
 have b:=h.map (fun p=>p.2)
 have e:(vs.zip vs).map (fun p=>p.2)=vs:=List.map_snd_zip (aA6 _)
 rwa [e] at b
theorem af0 {a:Addr} {vs:List Value} {n:Nat} {P:PySem.Fin->Shared->Prop} (j:s.heap.get? a=some (seqObj "list" vs.toArray n)) (c:vs.length<=sizeLine)
  (m:2<=vs.length->∀ h',(∀ b o,b ≠ a->s.heap.get? b=some o->h'.get? b=some o)->∃ κ S R,(∀ (Q:SortKind->Shared->Prop),Q κ { s with heap:=h' }->wpAny (model prog w) A (keyKind' vs.toArray) Q E { s with heap:=h' })/\Cmp (model prog w) A E { s with heap:=h' } κ S R/\(∀ v∈vs,S (v,v)) /\
   ∀ out:List Value,out.Perm vs->out.Pairwise (fun x y=>R (y,y) (x,x)=false)->P (.done (.ret .none)) { s with heap:=sortedHeap s.heap a vs out.toArray })
  (F:vs.length < 2->P (.done (.ret .none)) { s with heap:=sortedHeap s.heap a vs vs.toArray }) :
  wpAny (model prog w) A (Builtin.«list.sort» ⟨[.ref a],[]⟩) P E s:=by
 rw [list_sort_plain]
 have ha:a < s.heap.objs.size:=aI5 j
 refine aI2 (listItems_at j rfl ?_)
 refine aI2 (listUpdate_at j rfl ?_ (by rw [aB1];exact c) (aF4 _))
 obtain ⟨r,g⟩:∃ r,(s.heap.update a (Obj.mapSeq fun _ => #[])).get? a=some (seqObj "list" #[] r):=⟨_,get?_update_seq j (fun _ => #[])⟩
 refine aI2 (seqEpoch_at g rfl ?_)
 refine aI2 (wpAny_newTuple ?_ (by show vs.length<=_;exact c))
 refine aI2 (wpAny_newList ?_ (aF4 _))
 refine aI7 ?_
 have d:(((s.heap.update a (Obj.mapSeq fun _ => #[])).push (seqObj "tuple" vs.toArray 0)).push (seqObj "list" #[] 0)).get? a=some (seqObj "list" #[] r):=by
  rw [Heap.get?_push_ne _ _ _ (by rw [size_push',Heap.size_update];exact aB5 (aF2 ha)),Heap.get?_push_ne _ _ _ (by rw [Heap.size_update];exact aB5 ha)]
  exact g
 show wpAny (model prog w) A _ P E { s with heap:=((s.heap.update a (Obj.mapSeq fun _ => #[])).push (seqObj "tuple" vs.toArray 0)).push (seqObj "list" #[] 0) }
 dsimp only
 have hsz:vs.toArray.size=vs.length:=by simp
 have kp:∀ b o,b ≠ a->s.heap.get? b=some o->(((s.heap.update a (Obj.mapSeq fun _ => #[])).push (seqObj "tuple" vs.toArray 0)).push (seqObj "list" #[] 0)).get? b=some o:=fun b o hb e=>by
  refine aI4 _ (aI4 _ ?_)
  rw [Heap.get?_update_ne _ _ _ _ hb];exact e
 by_cases h2:vs.toArray.size < 2
 ·rw [aE9 h2,aE9 h2]
  refine aI2 (aI3 ?_)
  rw [StateT.run_pure]
  refine aI2 (aI3 ?_)
  dsimp only
  have l:(arrOf (SortSt.mk' general' (vs.toArray.zip vs.toArray) #[] 7 none)).map (·.2)=vs.toArray:=by
   show (vs.toArray.zip vs.toArray).map (·.2)=vs.toArray
   apply Array.toList_inj.mp
   rw [Array.toList_map,Array.toList_zip]
   exact List.map_snd_zip (aA6 _)
  rw [l]
  refine aI2 (seqEpoch_at d rfl ?_)
  refine aI2 (listUpdate_at d rfl ?_ (aF4 _) (by rw [aB1];exact Nat.le_succ_of_le c))
  simp only [bne_self_eq_false,Bool.false_eq_true,if_false]
  exact aI3 (F (by lia))
 ·rw [aF0 h2,aF0 h2]
  obtain ⟨κ,S,R,B,C,H,f⟩:=m (by lia) _ kp
  refine aI2 (B _ ?_)
  refine aI2 (aI9 (aw2 C (a0:=vs.toArray.zip vs.toArray) (st:=SortSt.mk' κ (vs.toArray.zip vs.toArray) #[] 7 none) (Q:=fun _ st'=>failedOf st'=none/\(arrOf st').toList.Perm (vs.zip vs)/\Srt R (arrOf st').toList) (fun x q=>?_) rfl rfl rfl rfl fun st' M K z=>⟨M,by simpa using K,z⟩) ?_ fun _ _ e=>e)
  ·have:x∈vs.zip vs:=by simpa using q
   obtain ⟨h,i⟩:=mem_zip_self this
   obtain ⟨J,I⟩:=x
   dsimp only at h i
   subst h
   exact H _ i
  rintro ⟨⟨⟩,st'⟩ z ⟨rfl,hf,L,G⟩
  dsimp only
  obtain ⟨h,i⟩:=apy L
  have l:(arrOf st').map (·.2)=(((arrOf st').toList.map (·.2)).toArray):=by
   apply Array.toList_inj.mp
   simp
  rw [l]
  have p:((arrOf st').toList.map (·.2)).length=vs.length:=i.length_eq
  refine aI2 (seqEpoch_at d rfl ?_)
  refine aI2 (listUpdate_at d rfl ?_ (aF4 _) (by rw [aB1,p];exact Nat.le_succ_of_le c))
  rw [hf]
  simp only [bne_self_eq_false,Bool.false_eq_true,if_false]
  refine aI3 (f _ i ?_)
  rw [aF5]
  refine aH4 ?_ G
  intro x y q D N
  have ex:=(h x q).1
  have u:=(h y D).1
  obtain ⟨J,I⟩:=x
  obtain ⟨T,O⟩:=y
  dsimp only at ex u
  subst ex u
  exact N
theorem sorted_any {l:Addr} {vs:List Value} {Q:Value->Shared->Prop} (j:s.heap.IsList l vs.toArray) (a:vs.length<=sizeLine)
  (h:2<=vs.length->∀ h',(∀ b o,s.heap.get? b=some o->h'.get? b=some o)->∃ κ S R,(∀ (Q:SortKind->Shared->Prop),Q κ { s with heap:=h' }->wpAny (model prog w) A.in1.in1 (keyKind' vs.toArray) Q E { s with heap:=h' })/\Cmp (model prog w) A.in1.in1 E { s with heap:=h' } κ S R/\(∀ v∈vs,S (v,v)) /\
   ∀ out:List Value,out.Perm vs->out.Pairwise (fun x y=>R (y,y) (x,x)=false)->Q (.ref (s.heap.objs.size+1)) { s with heap:=sortedAll s.heap vs out.toArray })
  (n:vs.length < 2->Q (.ref (s.heap.objs.size+1)) { s with heap:=sortedAll s.heap vs vs.toArray }) :
  wpAny (model prog w) A (call (.builtin "sorted") [.ref l]) Q E s:=by
 refine Calls.call_function_entry kind_sorted plain_sorted entry_sorted (args_sorted1 _) ?_
 unfold Builtin.«sorted»
 refine aI2 (m:=checkCount "sorted" 1 1 _) (aI3 ?_)
 refine aI2 (collect_list j ?_ a)
 refine aI2 (wpAny_newList ?_ a)
 have hsz:((s.heap.push (seqObj "list" #[] 0)).update s.heap.objs.size (Obj.mapSeq (· ++ vs.toArray))).objs.size=s.heap.objs.size+1:=by
  rw [Heap.size_update,size_push']
 have f:(((s.heap.push (seqObj "list" #[] 0)).update s.heap.objs.size (Obj.mapSeq (· ++ vs.toArray))).push (seqObj "list" vs.toArray 0)).get? (s.heap.objs.size+1)=some (seqObj "list" vs.toArray 0):=by
  rw [← hsz];exact aI6 _ rfl
 have keep:∀ b o,s.heap.get? b=some o->(((s.heap.push (seqObj "list" #[] 0)).update s.heap.objs.size (Obj.mapSeq (· ++ vs.toArray))).push (seqObj "list" vs.toArray 0)).get? b=some o:=fun b o q=>by
  have c:b < s.heap.objs.size:=aI5 q
  rw [Heap.get?_push_ne _ _ _ (by rw [hsz];exact aB5 (aF2 c)),Heap.get?_update_ne _ _ _ _ (aB5 c),Heap.get?_push_ne _ _ _ (aB5 c)]
  exact q
 show wpAny _ _ _ _ _ { s with heap:=((s.heap.push (seqObj "list" #[] 0)).update s.heap.objs.size (Obj.mapSeq (· ++ vs.toArray))).push (seqObj "list" vs.toArray 0) }
 rw [hsz]
 refine aI2 (aI7 (aJ3 slot_list_sort ⟨_,f,rfl⟩ entry_list_sort ?body (args_list_sort _)))
 case body =>
  refine af0 (s:={ s with heap:=((s.heap.push (seqObj "list" #[] 0)).update s.heap.objs.size (Obj.mapSeq (· ++ vs.toArray))).push (seqObj "list" vs.toArray 0) }) f a (fun g h' kp=>?_) fun c=>?_
  ·obtain ⟨κ,S,R,i,C,p,d⟩:=h g h' fun b o e=>kp b o (aB5 (aF2 (aI5 e))) (keep b o e)
   exact ⟨κ,S,R,i,C,p,fun out r u=>⟨_,rfl,aI3 ⟨_,rfl,d out r u⟩⟩⟩
  ·exact ⟨_,rfl,aI3 ⟨_,rfl,n c⟩⟩
end
end TS
namespace L2
open PySem PySem.Spec PyProof.Rows
def toI:V->Int
 | .int i=>i
 | _=>0
def kH (H:Hp):V->List Int
 | .ref t=>match H t with
  | some (.tup xs)=>xs.map toI
  | _=>[]
 | _=>[]
theorem aw5 (ns:List Int):(ns.map V.int).map toI=ns:=by
 rw [aD8]
 have:(toI ∘ V.int)=id:=by funext i;rfl
 rw [this,List.map_id]
theorem alf {H:Hp} {t:Addr} {ns:List Int} (h:H t=some (.tup (ns.map V.int))):kH H (.ref t)=ns:=by
 simp only [kH,h];exact aw5 ns
def TupI (H:Hp) (v:V):Prop:=∃ t ns,v=.ref t/\H t=some (.tup (ns.map V.int))/\ns ≠ []
def adb:Value->V
 | .ref a => .ref a
 | _ => .non
theorem agk:∀ {us:List Value},(∀ u∈us,∃ a,u=.ref a)->Vals (us.map adb) us
 | [],_ => .nil
 | u :: us,h=>by
  obtain ⟨a,e⟩:=h u aB7
  subst e
  exact .cons rfl (agk fun v b=>h v (aB4 _ b))
theorem agl {H:Hp}:∀ {vs:List V} {us:List Value},Vals vs us->(∀ v∈vs,TupI H v)->(∀ u∈us,∃ a,u=.ref a)/\us.map adb=vs
 | _,_,.nil,_=>⟨fun u f=>(by cases f),rfl⟩
 | v :: vs,u :: us,.cons r t,h=>by
  obtain ⟨a,ns,rfl,_,_⟩:=h v aB7
  cases r
  obtain ⟨d,c⟩:=agl t fun v g=>h v (aB4 _ g)
  refine ⟨fun x b=>?_,by rw [aD0,c];rfl⟩
  rcases aA8.mp b with rfl | b
  ·exact ⟨_,rfl⟩
  ·exact d x b
section
variable {X:Cx}
def aig (K:Frag):List V->Hp->VK->Prop:=fun xs H Q=>∃ (a:Addr) (vs:List V),xs=[.ref a]/\SqL K H a vs/\(∀ v∈vs,TupI H v) /\
 ∀ (vs':List V) (p:Addr),vs'.Perm vs->vs'.Pairwise (fun x y=>HT.lexLt (kH H y) (kH H x)=false)->H p=none->Q (.ref p) (upd H p (.lst vs'))
theorem ahr {H:Hp} {pins:List (Addr × Obj)} {σ:St} {s:Shared} (I:Inv X pins σ H s) {h':Heap} (kp:∀ b o,s.heap.get? b=some o->h'.get? b=some o):∀ {vs:List V} {us:List Value},Vals vs us->(∀ v∈vs,TupI H v) ->
  (∃ fs,PySem.W.KatTups h' us fs/\fs.length=us.length/\∀ f∈fs,∃ i t,f=.int i t)/\∀ u∈us,∃ a,u=.ref a/\TS.TI h' a (kH H (.ref a))
 | _,_,.nil,_=>⟨⟨[],trivial,rfl,fun f hf=>by cases hf⟩,fun u y=>by cases y⟩
 | v :: vs,u :: us,.cons r t,h=>by
  obtain ⟨a,ns,rfl,e,c⟩:=h v aB7
  cases r
  obtain ⟨⟨fs,E,A,B⟩,z⟩:=ahr I kp t fun v F=>h v (aB4 _ F)
  obtain ⟨_,its,C,o,m,e2,n,p⟩:=(show ObjOk X.prog X.w H s.heap a (.tup (ns.map V.int)) from I.hok a _ e)
  have hi:IntsAre its ns:=by simpa using (ab3 C:IntsAre its.toArray.toList ns)
  have q:TS.TI h' a (kH H (.ref a)):=⟨o,its.toArray,n,kp _ _ m,e2,p,by rw [alf e];simpa using hi⟩
  obtain ⟨f,hf,i,d,D⟩:∃ f,its.toArray[0]?=some f/\∃ i t,f=.int i t:=by
   cases hi with
   | nil=>exact absurd rfl c
   | cons i d _=>exact ⟨_,by simp,i,d,rfl⟩
  refine ⟨⟨f :: fs,PySem.W.KatTups.cons (kp _ _ m) e2 p hf E,by simp [A],fun g j=>?_⟩,fun x l=>?_⟩
  ·rcases aA8.mp j with rfl | j
   ·exact ⟨i,d,D⟩
   ·exact B g j
  ·rcases aA8.mp l with rfl | l
   ·exact ⟨a,rfl,q⟩
   ·exact z x l
theorem amk {α:Type} {R : α->α->Prop}:∀ {l:List α},l.length < 2->l.Pairwise R
 | [],_=>List.Pairwise.nil
 | [_],_=>List.pairwise_singleton _ _
 | _ :: _ :: _,h=>absurd h (by simp)
theorem ad1:aa5 X (.builtin "sorted") (aig X.K):=by
 intro pins s σ H xs us Q I r h
 obtain ⟨a,vs,rfl,ha,p,q⟩:=h
 obtain ⟨u,rfl,J⟩:=acf r
 cases J
 obtain ⟨its,n,D,hz⟩:=I.list ha
 obtain ⟨b1,L⟩:=agl n p
 have c:its.length<=sizeLine:=by rw [← n.length];exact hz
 have d:H (s.heap.objs.size+1)=none:=I.hok.fresh (Nat.le_succ _)
 have fin:∀ out:List Value,out.Perm its->(out.map adb).Pairwise (fun x y=>HT.lexLt (kH H y) (kH H x)=false)->EP X pins σ Q (.ref (s.heap.objs.size+1)) { s with heap:=sortedAll s.heap its out.toArray }:=by
  intro out f l
  obtain ⟨e,N⟩:=sortedAll_at s.heap its out.toArray
  have g:Vals (out.map adb) out:=agk fun u z=>b1 u (f.mem_iff.mp z)
  refine ⟨.ref (s.heap.objs.size+1),_,I.laid (t':=s.toks) (o:=.lst (out.map adb)) (fun b S q=>sortedAll_old q) (Nat.le_succ _) ?_,rfl,q _ _ ?_ l d⟩
  ·refine ⟨by rw [aA3,f.length_eq];exact c,out,e,g,by rw [N]⟩
  ·rw [← L];exact f.map adb
 refine TS.sorted_any D.isList c (fun B h' kp=>?_) fun m=>?_
 ·obtain ⟨⟨fs,O,R,E⟩,A⟩:=ahr I kp n p
  have j:(Value.type "int" != Value.type "tuple")=true:=by rfl
  refine ⟨tuples' true,TS.tS h' (fun a=>kH H (.ref a)),TS.tR (fun a=>kH H (.ref a)),fun Q' F=>?_,TS.cmp_tups (s:={ s with heap:=h' }) (fun a=>kH H (.ref a)),fun v g=>?_,fun out f l=>fin out f ?_⟩
  ·refine PySem.W.kat_kind (T:=.type "int") (s:={ s with heap:=h' }) O (by lia) (fun v g=>?_) (by rfl) ?_
   ·obtain ⟨i,t,rfl⟩:=E v g
    exact .now
   ·rw [j];exact F
  ·obtain ⟨a,e,w⟩:=A v g
   exact ⟨rfl,a,e,w⟩
  ·rw [aF5]
   refine aH4 ?_ l
   intro x y G C M
   obtain ⟨U,rfl⟩:=b1 x (f.mem_iff.mp G)
   obtain ⟨P,rfl⟩:=b1 y (f.mem_iff.mp C)
   exact M
 ·refine fin its (List.Perm.refl _) ?_
  exact amk (by rw [aA3];exact m)
end
end L2
namespace HT
open PySem PySem.Spec PyProof.Rows L2
section
variable {prog:Program} {w:World} {A:Around} {kw:List (Str × Value)} {R:Result->Shared->Prop} {I S:Addr} {fp wr:List Addr} {n:Nat} {P:Nat->Value->Prop} {St:Nat->Heap->Prop} {Hd:Heap->Prop}
end
section
variable {prog:Program} {w:World} {A:Around} {E:Value->Shared->Prop} {s:Shared}
end
end HT
namespace L2
open PySem PySem.Spec PyProof.Rows
section
variable {X:Cx} {x:Str} {p pos kpos:Pos} {e en:Expr} {t:TA}
end
end L2
namespace HT
open PySem PySem.Spec PyProof.Rows
section
variable {prog:Program} {w:World} {A:Around} {E:Value->Shared->Prop} {s:Shared}
end
end HT
namespace L2
open PySem PySem.Spec PyProof.Rows
section
variable {X:Cx}
end
end L2
namespace VL
open PySem PySem.Spec L2
def kD:Key->PyData
 | .inl i => .int i
 | .inr x => .str x
mutual
inductive Rp (G:Hp):V->PyData->Prop
 | non:Rp G .non .none
 | bl (b:Bool):Rp G (.bl b) (.bool b)
 | int (i:Int):Rp G (.int i) (.int i)
 | str (x:Str):Rp G (.str x) (.str x)
 | lst {a:Addr} {xs:List V} {ds:List PyData}:G a=some (.lst xs)->Rps G xs ds->Rp G (.ref a) (.list ds)
 | tup {a:Addr} {xs:List V} {ds:List PyData}:G a=some (.tup xs)->Rps G xs ds->Rp G (.ref a) (.tuple ds)
 | dk {a:Addr} {kvs:List (Key × V)} {es:List (Key × PyData)} {ds:List (PyData × PyData)}:G a=some (.dK kvs)->RpK G kvs es->ds=es.map (fun p=>(kD p.1,p.2))->Rp G (.ref a) (.dict ds)
 | dt {a:Addr} {kvs:List (List Key × V)} {es:List (List Key × PyData)} {ds:List (PyData × PyData)}:G a=some (.dT kvs)->RpT G kvs es->ds=es.map (fun p=>(.tuple (p.1.map kD),p.2))->Rp G (.ref a) (.dict ds)
inductive Rps (G:Hp):List V->List PyData->Prop
 | nil:Rps G [] []
 | cons {v:V} {vs:List V} {d:PyData} {ds:List PyData}:Rp G v d->Rps G vs ds->Rps G (v :: vs) (d :: ds)
inductive RpK (G:Hp):List (Key × V)->List (Key × PyData)->Prop
 | nil:RpK G [] []
 | cons {k:Key} {v:V} {d:PyData} {r:List (Key × V)} {s:List (Key × PyData)}:Rp G v d->RpK G r s->RpK G ((k,v) :: r) ((k,d) :: s)
inductive RpT (G:Hp):List (List Key × V)->List (List Key × PyData)->Prop
 | nil:RpT G [] []
 | cons {k:List Key} {v:V} {d:PyData} {r:List (List Key × V)} {s:List (List Key × PyData)}:Rp G v d->RpT G r s->RpT G ((k,v) :: r) ((k,d) :: s)
end
mutual
theorem Rp.same {G G':Hp} (s:Same G G'):∀ {v:V} {d:PyData},Rp G v d->Rp G' v d
 | _,_,.non => .non
 | _,_,.bl b => .bl b
 | _,_,.int i => .int i
 | _,_,.str x => .str x
 | _,_,.lst h r => .lst (s _ _ h) (Rps.same s r)
 | _,_,.tup h r => .tup (s _ _ h) (Rps.same s r)
 | _,_,.dk h r e => .dk (s _ _ h) (RpK.same s r) e
 | _,_,.dt h r e => .dt (s _ _ h) (RpT.same s r) e
theorem Rps.same {G G':Hp} (s:Same G G'):∀ {vs:List V} {ds:List PyData},Rps G vs ds->Rps G' vs ds
 | _,_,.nil => .nil
 | _,_,.cons r t => .cons (Rp.same s r) (Rps.same s t)
theorem RpK.same {G G':Hp} (s:Same G G'):∀ {vs:List (Key × V)} {ds:List (Key × PyData)},RpK G vs ds->RpK G' vs ds
 | _,_,.nil => .nil
 | _,_,.cons r t => .cons (Rp.same s r) (RpK.same s t)
theorem RpT.same {G G':Hp} (s:Same G G'):∀ {vs:List (List Key × V)} {ds:List (List Key × PyData)},RpT G vs ds->RpT G' vs ds
 | _,_,.nil => .nil
 | _,_,.cons r t => .cons (Rp.same s r) (RpT.same s t)
end
theorem Rps.length {G:Hp}:∀ {vs:List V} {ds:List PyData},Rps G vs ds->vs.length=ds.length
 | _,_,.nil=>rfl
 | _,_,.cons _ t=>by simp [Rps.length t]
theorem Rps.get {G:Hp}:∀ {vs:List V} {ds:List PyData} {i:Nat} {d:PyData},Rps G vs ds->ds[i]?=some d->∃ v,vs[i]?=some v/\Rp G v d
 | _,_,_,_,.nil,e=>by simp at e
 | _,_,0,_,.cons r _,e=>by simp at e;subst e;exact ⟨_,rfl,r⟩
 | _,_,i+1,d,.cons _ t,e=>by
  obtain ⟨u,b,a⟩:=Rps.get (i:=i) (d:=d) t (by simpa using e)
  exact ⟨u,by simpa using b,a⟩
theorem Rps.append {G:Hp}:∀ {vs a:List V} {ds es:List PyData},Rps G vs ds->Rps G a es->Rps G (vs ++ a) (ds ++ es)
 | _,_,_,_,.nil,s=>s
 | _,_,_,_,.cons r t,s => .cons r (Rps.append t s)
theorem Rps.set {G:Hp} {v:V} {d:PyData} (h:Rp G v d):∀ {vs:List V} {ds:List PyData} (i:Nat),Rps G vs ds->Rps G (vs.set i v) (ds.set i d)
 | _,_,_,.nil => .nil
 | _,_,0,.cons _ t => .cons h t
 | _,_,i+1,.cons r t => .cons r (Rps.set h i t)
theorem Rps.erase {G:Hp}:∀ {vs:List V} {ds:List PyData} (i:Nat),Rps G vs ds->Rps G (vs.eraseIdx i) (ds.eraseIdx i)
 | _,_,_,.nil => .nil
 | _,_,0,.cons _ t=>t
 | _,_,i+1,.cons r t => .cons r (Rps.erase i t)
theorem Rps.take {G:Hp}:∀ {vs:List V} {ds:List PyData} (i:Nat),Rps G vs ds->Rps G (vs.take i) (ds.take i)
 | _,_,0,_ => .nil
 | _,_,_+1,.nil => .nil
 | _,_,i+1,.cons r t => .cons r (Rps.take i t)
theorem Rps.drop {G:Hp}:∀ {vs:List V} {ds:List PyData} (i:Nat),Rps G vs ds->Rps G (vs.drop i) (ds.drop i)
 | _,_,0,r=>r
 | _,_,_+1,.nil => .nil
 | _,_,i+1,.cons _ t=>Rps.drop i t
theorem Rps.rep {G:Hp} {vs:List V} {ds:List PyData} (h:Rps G vs ds):∀ (k:Nat),Rps G (List.replicate k vs).flatten (List.replicate k ds).flatten
 | 0 => .nil
 | k+1=>by
  rw [aG7,aG7,List.flatten_cons,List.flatten_cons]
  exact h.append (Rps.rep h k)
theorem Rps.ints {G:Hp}:∀ (ns:List Int),Rps G (ns.map V.int) (ns.map PyData.int)
 | [] => .nil
 | n :: ns => .cons (.int n) (Rps.ints ns)
theorem Rps.ints_inv {G:Hp}:∀ {ns:List Int} {vs:List V},Rps G vs (ns.map PyData.int)->vs=ns.map V.int
 | [],_,.nil=>rfl
 | n :: ns,_,.cons r t=>by
  cases r
  rw [Rps.ints_inv t];rfl
mutual
theorem Rp.rep {G:Hp}:∀ {v:V} {d:PyData},Rp G v d->aap d=true->Rep G v d
 | _,_,.non,_ => .non
 | _,_,.bl b,_ => .bl b
 | _,_,.int i,_ => .int i
 | _,_,.str x,_ => .str x
 | _,_,.lst h r,p => .lst h (Rps.reps r (by simpa [aap] using p))
 | _,_,.tup h r,p => .tup h (Rps.reps r (by simpa [aap] using p))
 | _,_,.dk h r e,p=>by simp [aap] at p
 | _,_,.dt h r e,p=>by simp [aap] at p
theorem Rps.reps {G:Hp}:∀ {vs:List V} {ds:List PyData},Rps G vs ds->plainDs ds=true->Reps G vs ds
 | _,_,.nil,_ => .nil
 | _,_,.cons r t,p=>by
  simp only [plainDs,aG5] at p
  exact .cons (Rp.rep r p.1) (Rps.reps t p.2)
end
structure Own where
 P:Hp->Hp->V->(Addr->Prop)->Prop
 mono:∀ {G H G' H':Hp} {v:V} {F:Addr->Prop},P G H v F->Same G G'->(∀ a o,F a->H a=some o->H' a=some o)->P G' H' v F
 dom:∀ {G H:Hp} {v:V} {F:Addr->Prop},P G H v F->∀ a,F a->∃ o,H a=some o
inductive Sl where
 | st (d:PyData) | own (A:Own) | io (A:Own) | scr (ns:List Int)
abbrev En:=List (Option Sl)
structure Bs where
 K:Frag
 G:Hp
 H:Hp
 R:Hp
 S:St
 F:Nat->Addr->Prop
def SlOk (B:Bs) (G H:Hp) (i:Nat) (v:V) (F:Addr->Prop):Sl->Prop
 | .st d=>Rp G v d/\∀ a,¬ F a
 | .own A=>A.P G H v F/\∀ a,F a->B.H a=none
 | .io A=>A.P G H v F/\(∀ a,F a->B.F i a\/B.H a=none)/\B.S[i]?=some (some v)
 | .scr ns=>(∃ a,v=.ref a/\SqL B.K G a (ns.map V.int))/\∀ a,¬ F a
def FT (G H:Hp):Prop:=∀ (a:Addr) (ks:List Key),H a=some (.tup (ks.map kV))->G a=some (.tup (ks.map kV))
structure VI (B:Bs) (G H:Hp) (σ:St) (env:En) (F:Nat->Addr->Prop):Prop where
 gh:Same G H
 g0:Same B.G G
 gn:∀ a o,G a=some o->B.G a=some o\/B.H a=none
 rs:Same B.R H
 rb:Same B.R B.H
 bh:∀ a o,B.H a=some o->∃ o',H a=some o'
 fg:∀ i a,F i a->G a=none
 fr:∀ i a,F i a->B.R a=none
 fd:∀ i j a,F i a->F j a->i=j
 fo:∀ i a,F i a->∃ o,H a=some o
 sl:∀ i s,env[i]?=some (some s)->∃ v,σ[i]?=some (some v)/\SlOk B G H i v (F i) s
 ln : σ.length=env.length
 ft:FT G H
def RsOk (G H:Hp) (v:V) (F:Addr->Prop):Sl->Prop
 | .st d=>Rp G v d/\∀ a,¬ F a
 | .own A=>A.P G H v F
 | _=>False
structure RsX (B:Bs) (G H:Hp) (v:V) (Fv:Addr->Prop) (s:Sl) (F:Nat->Addr->Prop):Prop where
 ok:RsOk G H v Fv s
 fb:∀ a,Fv a->B.H a=none
 fg:∀ a,Fv a->G a=none
 fo:∀ a,Fv a->∃ o,H a=some o
 fd:∀ j a,Fv a->¬ F j a
structure Out (G H:Hp) (v:V) (G' H':Hp) (s:Sl) (Fv:Addr->Prop):Prop where
 gg:Same G G'
 gh:Same G' H'
 hh:Same H H'
 gn:∀ a o,G' a=some o->G a=some o\/H a=none
 fn:∀ a,Fv a->H a=none
 fg:∀ a,Fv a->G' a=none
 fo:∀ a,Fv a->∃ o,H' a=some o
 ok:RsOk G' H' v Fv s
 ft:FT G H->FT G' H'
theorem aih {α:Type} {o:Option α} (h:o ≠ none):∃ x,o=some x:=by
 cases o with
 | none=>exact absurd rfl h
 | some x=>exact ⟨x,rfl⟩
theorem SlOk.mono {B:Bs} {G H G' H':Hp} {i:Nat} {v:V} {F:Addr->Prop} {s:Sl} (h:SlOk B G H i v F s) (g:Same G G') (hh:∀ a o,F a->H a=some o->H' a=some o):SlOk B G' H' i v F s:=by
 cases s with
 | st d=>exact ⟨h.1.same g,h.2⟩
 | own A=>exact ⟨A.mono h.1 g hh,h.2⟩
 | io A=>exact ⟨A.mono h.1 g hh,h.2⟩
 | scr ns =>
  obtain ⟨⟨a,e,q⟩,n⟩:=h
  exact ⟨⟨a,e,g.seq q⟩,n⟩
section
variable {B:Bs} {G H G' H':Hp} {σ:St} {env:En} {F:Nat->Addr->Prop} {v:V} {s:Sl} {Fv:Addr->Prop}
theorem VI.no_r (I:VI B G H σ env F) {a:Addr} (h:H a=none):B.R a=none:=by
 cases e:B.R a with
 | none=>rfl
 | some o=>rw [I.rs a o e] at h;cases h
theorem VI.no_b (I:VI B G H σ env F) {a:Addr} (h:H a=none):B.H a=none:=by
 cases e:B.H a with
 | none=>rfl
 | some o=>obtain ⟨o',b⟩:=I.bh a o e;rw [b] at h;cases h
theorem VI.no_g (I:VI B G H σ env F) {a:Addr} (h:H a=none):G a=none:=by
 cases e:G a with
 | none=>rfl
 | some o=>rw [I.gh a o e] at h;cases h
theorem VI.no_f (I:VI B G H σ env F) {a:Addr} (h:H a=none) (i:Nat):¬ F i a:=fun z=>by
 obtain ⟨o,e⟩:=I.fo i a z;rw [e] at h;cases h
theorem VI.grow (I:VI B G H σ env F) (gg:Same G G') (gh:Same G' H') (hh:Same H H') (gn:∀ a o,G' a=some o->G a=some o\/H a=none) (ft:FT G' H'):VI B G' H' σ env F where
 gh:=gh
 g0:=I.g0.trans gg
 gn:=fun a o e=>by
  rcases gn a o e with e | e
  ·exact I.gn a o e
  ·exact .inr (I.no_b e)
 rs:=I.rs.trans hh
 rb:=I.rb
 bh:=fun a o e=>by obtain ⟨o',c⟩:=I.bh a o e;exact ⟨o',hh _ _ c⟩
 fg:=fun i a z=>by
  cases e:G' a with
  | none=>rfl
  | some o =>
   rcases gn a o e with e | e
   ·rw [I.fg i a z] at e;cases e
   ·exact absurd z (I.no_f e i)
 fr:=I.fr
 fd:=I.fd
 fo:=fun i a z=>by obtain ⟨o,e⟩:=I.fo i a z;exact ⟨o,hh _ _ e⟩
 sl:=fun i s e=>by
  obtain ⟨v,b,e2⟩:=I.sl i s e
  exact ⟨v,b,e2.mono gg fun a o _ q=>hh _ _ q⟩
 ln:=I.ln
 ft:=ft
theorem VI.out (I:VI B G H σ env F) (o:Out G H v G' H' s Fv):VI B G' H' σ env F/\RsX B G' H' v Fv s F :=
 ⟨I.grow o.gg o.gh o.hh o.gn (o.ft I.ft),o.ok,fun a z=>I.no_b (o.fn a z),o.fg,o.fo,fun j a z y=>I.no_f (o.fn a z) j y⟩
theorem VI.b_r (I:VI B G H σ env F) {a:Addr} (h:B.H a=none):B.R a=none:=by
 cases e:B.R a with
 | none=>rfl
 | some o=>rw [I.rb a o e] at h;cases h
def putF (F:Nat->Addr->Prop) (i:Nat) (Fv:Addr->Prop):Nat->Addr->Prop:=fun j a=>if j=i then Fv a else F j a
theorem putF_same {i:Nat} {a:Addr}:putF F i Fv i a ↔ Fv a:=by unfold putF;rw [aE9 rfl]
theorem afe {i:Nat}:putF F i Fv i=Fv:=by funext a;unfold putF;rw [aE9 rfl]
theorem aa8 {i j:Nat} (h:j ≠ i):putF F i Fv j=F j:=by funext a;unfold putF;rw [aF0 h]
theorem VI.slot (I:VI B G H σ env F) (i:Nat) (o:Option V) (os:Option Sl) (fg:∀ a,Fv a->G a=none) (fr:∀ a,Fv a->B.R a=none) (fo:∀ a,Fv a->∃ o,H a=some o) (fd:∀ j a,j ≠ i->Fv a->¬ F j a)
  (ok:∀ s,os=some s->∃ v,o=some v/\SlOk B G H i v Fv s):VI B G H (σ.set i o) (env.set i os) (putF F i Fv) where
 gh:=I.gh
 g0:=I.g0
 gn:=I.gn
 rs:=I.rs
 rb:=I.rb
 bh:=I.bh
 fg:=fun j a z=>by
  by_cases h:j=i
  ·subst h;exact fg a (putF_same.mp z)
  ·rw [aa8 h] at z;exact I.fg j a z
 fr:=fun j a z=>by
  by_cases h:j=i
  ·subst h;exact fr a (putF_same.mp z)
  ·rw [aa8 h] at z;exact I.fr j a z
 fd:=fun j k a y z=>by
  by_cases h:j=i
  ·by_cases g:k=i
   ·rw [h,g]
   ·subst h;rw [aa8 g] at z;exact absurd z (fd k a g (putF_same.mp y))
  ·by_cases g:k=i
   ·subst g;rw [aa8 h] at y;exact absurd y (fd j a h (putF_same.mp z))
   ·rw [aa8 h] at y;rw [aa8 g] at z;exact I.fd j k a y z
 fo:=fun j a z=>by
  by_cases h:j=i
  ·subst h;exact fo a (putF_same.mp z)
  ·rw [aa8 h] at z;exact I.fo j a z
 sl:=fun j t e=>by
  by_cases h:j=i
  ·subst h
   rw [aD1,aE9 rfl] at e
   by_cases hl:j < env.length
   ·rw [aE9 hl] at e
    obtain ⟨v,b,q⟩:=ok t (aC5 e)
    refine ⟨v,by rw [aD1,aE9 rfl,aE9 (by rw [I.ln];exact hl),b],?_⟩
    rw [afe];exact q
   ·rw [aF0 hl] at e;cases e
  ·rw [aD1,aF0 (fun z=>h z.symm)] at e
   obtain ⟨v,b,q⟩:=I.sl j t e
   refine ⟨v,by rw [aD1,aF0 (fun z=>h z.symm)];exact b,?_⟩
   rw [aa8 h];exact q
 ln:=by simp [I.ln]
 ft:=I.ft
theorem VI.store (I:VI B G H σ env F) (r:RsX B G H v Fv s F) (i:Nat):VI B G H (σ.set i (some v)) (env.set i (some s)) (putF F i Fv):=by
 refine I.slot i (some v) (some s) r.fg (fun a z=>I.b_r (r.fb a z)) r.fo (fun j a _ z=>r.fd j a z) fun t e=>?_
 cases e
 refine ⟨v,rfl,?_⟩
 have:=r.ok
 cases s with
 | st d=>exact this
 | own A=>exact ⟨this,r.fb⟩
 | io A=>exact this.elim
 | scr ns=>exact this.elim
theorem VI.drop (I:VI B G H σ env F) (i:Nat):VI B G H σ (env.set i none) (putF F i fun _=>False):=by
 have:=I.slot (Fv:=fun _=>False) i ((σ[i]?).getD none) none (fun a z=>z.elim) (fun a z=>z.elim) (fun a z=>z.elim) (fun j a _ z=>z.elim) (fun s e=>by cases e)
 rwa [show σ.set i ((σ[i]?).getD none) = σ from ?_] at this
 apply aF6
 intro j
 rw [aD1]
 by_cases h:i=j
 ·subst h
  rw [aE9 rfl]
  by_cases hl:i < σ.length
  ·rw [aE9 hl,aA0 hl];rfl
  ·rw [aF0 hl,aF1.mpr (by lia)]
 ·rw [aF0 h]
theorem VI.change {A:Own} (I:VI B G H σ env F) (i:Nat) {H2:Hp} {F2:Addr->Prop} {os os':Sl} (e:env[i]?=some (some os)) (f : σ[i]?=some (some v))
  (keep:∀ a o,¬ F i a->H a=some o->H2 a=some o) (g:∀ a o,H a=some o->∃ o',H2 a=some o') (c:∀ a,F2 a->(F i a\/H a=none)/\∃ o,H2 a=some o) (m:A.P G H2 v F2) (p:FT G H2)
  (C:(os'=.own A/\∃ A0,os=.own A0)\/(os'=.io A/\∃ A0,os=.io A0)):VI B G H2 σ (env.set i (some os')) (putF F i F2):=by
 obtain ⟨O,d,q⟩:=I.sl i os e
 rw [f] at d;cases d
 have l:∀ j a,j ≠ i->F j a->¬ F i a:=fun j a b y z=>b (I.fd j i a y z)
 have L:∀ a,F2 a->G a=none:=fun a z=>by
  rcases (c a z).1 with y | y
  ·exact I.fg i a y
  ·exact I.no_g y
 have J:VI B G H2 σ (env.set i none) (putF F i fun _=>False):=by
  have D:=I.drop i
  refine ⟨fun a o x=>keep a o (fun z=>by rw [I.fg i a z] at x;cases x) (I.gh a o x),D.g0,D.gn,fun a o x=>keep a o (fun z=>by rw [I.fr i a z] at x;cases x) (I.rs a o x),D.rb,fun a o x=>?_,D.fg,D.fr,D.fd,fun j a z=>?_,fun j s x=>?_,D.ln,p⟩
  ·obtain ⟨o',E⟩:=I.bh a o x
   exact g a o' E
  ·obtain ⟨o,x⟩:=D.fo j a z
   exact g a o x
  ·obtain ⟨u,w,r⟩:=D.sl j s x
   refine ⟨u,w,r.mono (Same.refl G) fun a o z y=>?_⟩
   by_cases b:j=i
   ·subst b;exact (putF_same.mp z).elim
   ·rw [aa8 b] at z
    exact keep a o (l j a b z) y
 have n:=J.slot (Fv:=F2) i (some v) (some os') L (fun a z=>by
   rcases (c a z).1 with y | y
   ·exact I.fr i a y
   ·exact I.no_r y) (fun a z=>(c a z).2) (fun j a b z y=>by
   rw [aa8 b] at y
   rcases (c a z).1 with x | x
   ·exact l j a b y x
   ·exact I.no_f x j y) fun t K=>by
   cases K
   refine ⟨v,rfl,?_⟩
   rcases C with ⟨rfl,A0,rfl⟩ | ⟨rfl,A0,rfl⟩
   ·refine ⟨m,fun a z=>?_⟩
    rcases (c a z).1 with y | y
    ·exact q.2 a y
    ·exact I.no_b y
   ·refine ⟨m,fun a z=>?_,q.2.2⟩
    rcases (c a z).1 with y | y
    ·exact q.2.1 a y
    ·exact .inr (I.no_b y)
 have M : σ.set i (some v) = σ:=by
  apply aF6
  intro j
  rw [aD1]
  by_cases h:i=j
  ·subst h
   rw [aE9 rfl,f,aE9 (aA1.mp f).1]
  ·rw [aF0 h]
 have e2:(env.set i none).set i (some os')=env.set i (some os'):=by simp
 have N:putF (putF F i fun _=>False) i F2=putF F i F2:=by
  funext j a
  by_cases h:j=i
  ·subst h;rw [afe,afe]
  ·rw [aa8 h,aa8 h,aa8 h]
 rw [M,e2,N] at n
 exact n
end
open Classical in
def jn (G H:Hp) (F:Addr->Prop):Hp:=fun a=>if F a then H a else G a
theorem adc {G H:Hp} {F:Addr->Prop} {a:Addr} (h:F a):jn G H F a=H a:=aE9 h
theorem aii {G H:Hp} {F:Addr->Prop} {a:Addr} (h:¬ F a):jn G H F a=G a:=aF0 h
theorem abl {G H:Hp} {F:Addr->Prop} (h:∀ a,F a->G a=none):Same G (jn G H F):=fun a o e=>by
 rw [aii (fun z=>by rw [h a z] at e;cases e)];exact e
theorem apz {G H:Hp} {F:Addr->Prop} (h:Same G H):Same (jn G H F) H:=fun a o e=>by
 by_cases z:F a
 ·rw [adc z] at e;exact e
 ·rw [aii z] at e;exact h a o e
def Frz (A:Own) (d:PyData):Prop:=∀ (G H:Hp) (v:V) (F:Addr->Prop),A.P G H v F->(∀ a,F a->G a=none)->Same G H->Rp (jn G H F) v d
def FQ:Sl->(PyData->Prop)->Prop
 | .st d,R=>R d
 | .own A,R=>∃ d,Frz A d/\R d
 | _,_=>False
def OL (ds:List PyData):Own where
 P:=fun G H v F=>∃ a vs,v=.ref a/\H a=some (.lst vs)/\Rps G vs ds/\∀ b,F b ↔ b=a
 mono:=fun ⟨a,vs,e,h,r,f⟩ g hh=>⟨a,vs,e,hh a _ ((f a).mpr rfl) h,r.same g,f⟩
 dom:=fun ⟨a,vs,e,h,r,f⟩ b z=>by rw [(f b).mp z];exact ⟨_,h⟩
def OD (es:List (Key × PyData)):Own where
 P:=fun G H v F=>∃ a kvs,v=.ref a/\H a=some (.dK kvs)/\RpK G kvs es/\∀ b,F b ↔ b=a
 mono:=fun ⟨a,vs,e,h,r,f⟩ g hh=>⟨a,vs,e,hh a _ ((f a).mpr rfl) h,r.same g,f⟩
 dom:=fun ⟨a,vs,e,h,r,f⟩ b z=>by rw [(f b).mp z];exact ⟨_,h⟩
def OT (es:List (List Key × PyData)):Own where
 P:=fun G H v F=>∃ a kvs,v=.ref a/\H a=some (.dT kvs)/\RpT G kvs es/\∀ b,F b ↔ b=a
 mono:=fun ⟨a,vs,e,h,r,f⟩ g hh=>⟨a,vs,e,hh a _ ((f a).mpr rfl) h,r.same g,f⟩
 dom:=fun ⟨a,vs,e,h,r,f⟩ b z=>by rw [(f b).mp z];exact ⟨_,h⟩
theorem acp {ds:List PyData}:Frz (OL ds) (.list ds):=fun G H v F ⟨a,vs,e,h,r,f⟩ n g=>by
 subst e
 exact .lst (by rw [adc ((f a).mpr rfl)];exact h) (r.same (abl n))
theorem azp {es:List (Key × PyData)}:Frz (OD es) (.dict (es.map fun p=>(kD p.1,p.2))):=fun G H v F ⟨a,vs,e,h,r,f⟩ n g=>by
 subst e
 exact .dk (by rw [adc ((f a).mpr rfl)];exact h) (r.same (abl n)) rfl
theorem ade {d:PyData} {R:PyData->Prop} (h:R d):FQ (.st d) R:=h
theorem acz {ds:List PyData} {R:PyData->Prop} (h:R (.list ds)):FQ (.own (OL ds)) R:=⟨_,acp,h⟩
section
variable {B:Bs} {G H G' H':Hp} {σ:St} {env:En} {F:Nat->Addr->Prop} {v:V} {s:Sl} {Fv:Addr->Prop}
theorem VI.freeze (I:VI B G H σ env F) (fb:∀ a,Fv a->B.H a=none) (fd:∀ j a,Fv a->¬ F j a) (fg:∀ a,Fv a->G a=none):VI B (jn G H Fv) H σ env F where
 gh:=apz I.gh
 g0:=I.g0.trans (abl fg)
 gn:=fun a o e=>by
  by_cases z:Fv a
  ·exact .inr (fb a z)
  ·rw [aii z] at e;exact I.gn a o e
 rs:=I.rs
 rb:=I.rb
 bh:=I.bh
 fg:=fun i a z=>by
  rw [aii (fun y=>fd i a y z)];exact I.fg i a z
 fr:=I.fr
 fd:=I.fd
 fo:=I.fo
 sl:=fun i s e=>by
  obtain ⟨v,c,e2⟩:=I.sl i s e
  exact ⟨v,c,e2.mono (abl fg) fun a o _ q=>q⟩
 ln:=I.ln
 ft:=fun a b e=>abl fg _ _ (I.ft a b e)
theorem VI.frz {A:Own} {d:PyData} {i:Nat} (I:VI B G H σ env F) (e:env[i]?=some (some (.own A))) (f:Frz A d) :
  ∃ v,σ[i]?=some (some v)/\Rp (jn G H (F i)) v d/\Same G (jn G H (F i))/\VI B (jn G H (F i)) H σ (env.set i (some (.st d))) (putF F i fun _=>False):=by
 obtain ⟨v,b,q⟩:=I.sl i _ e
 have c:=f G H v (F i) q.1 (I.fg i) I.gh
 refine ⟨v,b,c,abl (I.fg i),?_⟩
 have D:=(I.drop i).freeze (Fv:=F i) q.2 (fun j a z y=>by
  by_cases h:j=i
  ·subst h;exact (putF_same.mp y).elim
  ·rw [aa8 h] at y;exact h (I.fd j i a y z)) (I.fg i)
 have J:=D.slot (Fv:=fun _=>False) i (some v) (some (.st d)) (fun a z=>z.elim) (fun a z=>z.elim) (fun a z=>z.elim) (fun j a _ z=>z.elim) (fun t g=>by cases g;exact ⟨v,rfl,c,fun a z=>z⟩)
 have l : σ.set i (some v) = σ:=by
  apply aF6
  intro j
  rw [aD1]
  by_cases h:i=j
  ·subst h
   rw [aE9 rfl,b,aE9 (aA1.mp b).1]
  ·rw [aF0 h]
 have m:putF (putF F i fun _=>False) i (fun _=>False)=putF F i fun _=>False:=by
  funext j a
  by_cases h:j=i
  ·subst h;rw [afe,afe]
  ·rw [aa8 h,aa8 h]
 rw [l,m,List.set_set] at J
 exact J
theorem Out.refl {d:PyData} (g:Same G H) (r:Rp G v d):Out G H v G H (.st d) (fun _=>False):=⟨Same.refl _,g,Same.refl _,fun a o e => .inl e,fun a z=>z.elim,fun a z=>z.elim,fun a z=>z.elim,⟨r,fun a z=>z⟩,fun t=>t⟩
theorem aw6 {p:Addr} {o:HO} (g:Same G H) (h:H p=none):Same (upd G p o) (upd H p o):=fun a u e=>by
 by_cases z:a=p
 ·subst z;rw [aaf] at e ⊢;exact e
 ·rw [aad z] at e ⊢;exact g a u e
theorem aa9 {p:Addr} (g:Same G H) (h:H p=none):G p=none:=by
 cases e:G p with
 | none=>rfl
 | some o=>rw [g p o e] at h;cases h
theorem Out.newT {p:Addr} {xs:List V} {ds:List PyData} (g:Same G H) (h:H p=none) (r:Rps G xs ds):Out G H (.ref p) (upd G p (.tup xs)) (upd H p (.tup xs)) (.st (.tuple ds)) (fun _=>False) where
 gg:=abb (aa9 g h)
 gh:=aw6 g h
 hh:=abb h
 gn:=fun a o e=>by
  by_cases z:a=p
  ·subst z;exact .inr h
  ·rw [aad z] at e;exact .inl e
 fn:=fun a z=>z.elim
 fg:=fun a z=>z.elim
 fo:=fun a z=>z.elim
 ok:=⟨.tup aaf (r.same (abb (aa9 g h))),fun a z=>z⟩
 ft:=fun t a b e=>by
  by_cases z:a=p
  ·subst z;rw [aaf] at e ⊢;exact e
  ·rw [aad z] at e ⊢;exact t a b e
theorem Out.newO {p:Addr} {o:HO} {A:Own} (g:Same G H) (h:H p=none) (b:∀ xs,o ≠ .tup xs) (r:A.P G (upd H p o) (.ref p) (· = p)):Out G H (.ref p) G (upd H p o) (.own A) (· = p) where
 gg:=Same.refl _
 gh:=g.trans (abb h)
 hh:=abb h
 gn:=fun a o e => .inl e
 fn:=fun a z=>by rw [z];exact h
 fg:=fun a z=>by rw [z];exact aa9 g h
 fo:=fun a z=>by rw [z];exact ⟨_,aaf⟩
 ok:=r
 ft:=fun t a c e=>by
  by_cases z:a=p
  ·subst z;rw [aaf] at e;exact absurd (aC5 e) (b _)
  ·rw [aad z] at e;exact t a c e
theorem Out.newL {p:Addr} {xs:List V} {ds:List PyData} (g:Same G H) (h:H p=none) (r:Rps G xs ds):Out G H (.ref p) G (upd H p (.lst xs)) (.own (OL ds)) (· = p) :=
 .newO g h (fun _ z=>nomatch z) ⟨p,xs,rfl,aaf,r,fun b=>Iff.rfl⟩
theorem Out.newD {p:Addr} {xs:List (Key × V)} {ds:List (Key × PyData)} (g:Same G H) (h:H p=none) (r:RpK G xs ds):Out G H (.ref p) G (upd H p (.dK xs)) (.own (OD ds)) (· = p) :=
 .newO g h (fun _ z=>nomatch z) ⟨p,xs,rfl,aaf,r,fun b=>Iff.rfl⟩
theorem Out.newDT {p:Addr} {xs:List (List Key × V)} {ds:List (List Key × PyData)} (g:Same G H) (h:H p=none) (r:RpT G xs ds):Out G H (.ref p) G (upd H p (.dT xs)) (.own (OT ds)) (· = p) :=
 .newO g h (fun _ z=>nomatch z) ⟨p,xs,rfl,aaf,r,fun b=>Iff.rfl⟩
end
def EvO (B:Bs) (te:TE) (env:En) (Q':Sl->En->Prop):Prop:=∀ (σ:St) (G H:Hp) (F:Nat->Addr->Prop) (Q:VK),VI B G H σ env F ->
 (∀ v G' H' F' Fv s env',VI B G' H' σ env' F'->Same G G'->RsX B G' H' v Fv s F'->Q' s env'->Q v H')->te σ H Q
def Ev (B:Bs) (te:TE) (env:En) (Q':PyData->En->Prop):Prop:=∀ (σ:St) (G H:Hp) (F:Nat->Addr->Prop) (Q:VK),VI B G H σ env F ->
 (∀ v G' H' F' d env',VI B G' H' σ env' F'->Same G G'->Rp G' v d->Q' d env'->Q v H')->te σ H Q
def EvT (B:Bs) (tt:TT) (env:En) (Q':Bool->En->Prop):Prop:=∀ (σ:St) (G H:Hp) (F:Nat->Addr->Prop) (Q:Bool->Hp->Prop),VI B G H σ env F ->
 (∀ b G' H' F' env',VI B G' H' σ env' F'->Same G G'->Q' b env'->Q b H')->tt σ H Q
def EvA (B:Bs) (ta:TA) (env:En) (Q':List PyData->En->Prop):Prop:=∀ (σ:St) (G H:Hp) (F:Nat->Addr->Prop) (Q:List V->Hp->Prop),VI B G H σ env F ->
 (∀ vs G' H' F' ds env',VI B G' H' σ env' F'->Same G G'->Rps G' vs ds->Q' ds env'->Q vs H')->ta σ H Q
structure ItOk (G:Hp) (J:It) (ds:List PyData):Prop where
 go:∀ i G' H',Same G G'->Same G' H'->i < ds.length->J.go i H'
 stop:∀ i G' H',Same G G'->Same G' H'->i=ds.length->J.stop i H'
 yld:∀ i G' H' x H'' d,Same G G'->Same G' H'->FT G' H'->ds[i]?=some d->J.yld i H' x H''->∃ G'',Out G' H' x G'' H'' (.st d) (fun _=>False)
def EvI (B:Bs) (ti:TI) (env:En) (Q':List PyData->En->Prop):Prop:=∀ (σ:St) (G H:Hp) (F:Nat->Addr->Prop) (R:It->Hp->Prop),VI B G H σ env F ->
 (∀ J G' H' F' ds env',VI B G' H' σ env' F'->Same G G'->ItOk G' J ds->Q' ds env'->R J H')->ti σ H R
def EvG (B:Bs) (g:TG) (s:Sl) (env:En) (Q':En->Prop):Prop:=∀ (σ:St) (G H:Hp) (F:Nat->Addr->Prop) (v:V) (Fv:Addr->Prop) (Q:St->Hp->Prop),VI B G H σ env F->RsX B G H v Fv s F ->
 (∀ σ' G' H' F' env',VI B G' H' σ' env' F'->Same G G'->Q' env'->Q σ' H')->g v σ H Q
def EvGs (B:Bs) (g:TGs) (ds:List PyData) (env:En) (Q':En->Prop):Prop:=∀ (σ:St) (G H:Hp) (F:Nat->Addr->Prop) (vs:List V) (Q:St->Hp->Prop),VI B G H σ env F->Rps G vs ds ->
 (∀ σ' G' H' F' env',VI B G' H' σ' env' F'->Same G G'->Q' env'->Q σ' H')->g vs σ H Q
structure VEnds where
 nx:En->Prop
 rt:Sl->En->Prop
 bk:En->Prop:=fun _=>False
 ct:En->Prop:=fun _=>False
structure RelE (B:Bs) (G:Hp) (D:Ends) (D':VEnds):Prop where
 nx:∀ σ G' H F env,VI B G' H σ env F->Same G G'->D'.nx env->D.nx σ H
 rt:∀ σ G' H F env v Fv s,VI B G' H σ env F->Same G G'->RsX B G' H v Fv s F->D'.rt s env->D.rt v H
 bk:∀ σ G' H F env,VI B G' H σ env F->Same G G'->D'.bk env->D.bk σ H
 ct:∀ σ G' H F env,VI B G' H σ env F->Same G G'->D'.ct env->D.ct σ H
def EvS (B:Bs) (ts:TS) (D':VEnds) (env:En):Prop:=∀ (σ:St) (G H:Hp) (F:Nat->Addr->Prop) (D:Ends),VI B G H σ env F->RelE B G D D'->ts D σ H
theorem RelE.later {B:Bs} {G G':Hp} {D:Ends} {D':VEnds} (r:RelE B G D D') (g:Same G G'):RelE B G' D D' :=
 ⟨fun σ a H F env I q=>r.nx σ a H F env I (g.trans q),fun σ a H F env v Fv s I q=>r.rt σ a H F env v Fv s I (g.trans q),fun σ a H F env I q=>r.bk σ a H F env I (g.trans q),fun σ a H F env I q=>r.ct σ a H F env I (g.trans q)⟩
section
variable {B:Bs} {env:En} {Q':PyData->En->Prop} {QO:Sl->En->Prop} {QT:Bool->En->Prop} {QA:List PyData->En->Prop} {te ta tb:TE}
theorem aek {G H:Hp} {v:V} {d:PyData} {F:Nat->Addr->Prop} (r:Rp G v d):RsX B G H v (fun _=>False) (.st d) F:=⟨⟨r,fun a z=>z⟩,fun a z=>z.elim,fun a z=>z.elim,fun a z=>z.elim,fun j a z=>z.elim⟩
theorem aa7 (h:Ev B te env fun d e=>QO (.st d) e):EvO B te env QO:=fun σ G H F Q I k =>
 h σ G H F Q I fun v G' H' F' d a b g r q=>k v G' H' F' _ (.st d) a b g (aek r) q
theorem abg (h:EvO B te env fun s e=>FQ s fun d=>Q' d e):Ev B te env Q':=fun σ G H F Q I k =>
 h σ G H F Q I fun v G' H' F' Fv s a b g r q=>by
  cases s with
  | st d=>exact k v G' H' F' d a b g r.ok.1 q
  | own A =>
   obtain ⟨d,f,q⟩:=q
   exact k v _ H' F' d a (b.freeze r.fb r.fd r.fg) (g.trans (abl r.fg)) (f G' H' v Fv r.ok r.fg b.gh) q
  | io A=>exact q.elim
  | scr ns=>exact q.elim
theorem azq {i:Nat} {d:PyData} (e:env[i]?=some (some (.st d))) (q:Q' d env):Ev B (tVar i) env Q':=fun σ G H F Q I k=>by
 obtain ⟨v,a,r⟩:=I.sl i _ e
 exact ⟨v,a,k v G H F d env I (Same.refl _) r.1 q⟩
theorem aw7 {i:Nat} {A:Own} {d:PyData} (e:env[i]?=some (some (.own A))) (f:Frz A d) (q:Q' d (env.set i (some (.st d)))):Ev B (tVar i) env Q':=fun σ G H F Q I k=>by
 obtain ⟨v,a,r,g,J⟩:=I.frz e f
 exact ⟨v,a,k v _ H _ d _ J g r q⟩
theorem auc {i:Nat} {A:Own} (e:env[i]?=some (some (.own A))) (q:QO (.own A) (env.set i none)):EvO B (tVar i) env QO:=fun σ G H F Q I k=>by
 obtain ⟨v,b,r⟩:=I.sl i _ e
 refine ⟨v,b,k v G H _ (F i) (.own A) _ (I.drop i) (Same.refl _) ⟨r.1,r.2,I.fg i,I.fo i,fun j a z y=>?_⟩ q⟩
 by_cases h:j=i
 ·subst h;exact putF_same.mp y
 ·rw [aa8 h] at y;exact h (I.fd j i a y z)
theorem azr {i:Int} (q:Q' (.int i) env):Ev B (tC (.int i)) env Q':=fun σ G H F Q I k=>k _ G H F _ env I (Same.refl _) (.int i) q
theorem a1d {b:Bool} (q:Q' (.bool b) env):Ev B (tC (.bl b)) env Q':=fun σ G H F Q I k=>k _ G H F _ env I (Same.refl _) (.bl b) q
theorem azs (q:Q' .none env):Ev B (tC .non) env Q':=fun σ G H F Q I k=>k _ G H F _ env I (Same.refl _) .non q
def Op2 (r:R2) (x y:PyData) (R:Sl->Prop):Prop:=∀ (G H:Hp) (vx vy:V) (Q:VK),Same G H->Rp G vx x->Rp G vy y->(∀ v G' H' s Fv,Out G H v G' H' s Fv->R s->Q v H')->r vx vy H Q
def Op1 (r:V->Hp->VK->Prop) (x:PyData) (R:Sl->Prop):Prop:=∀ (G H:Hp) (vx:V) (Q:VK),Same G H->Rp G vx x->(∀ v G' H' s Fv,Out G H v G' H' s Fv->R s->Q v H')->r vx H Q
def OpA (r:List V->Hp->VK->Prop) (ds:List PyData) (R:Sl->Prop):Prop:=∀ (G H:Hp) (vs:List V) (Q:VK),Same G H->Rps G vs ds->(∀ v G' H' s Fv,Out G H v G' H' s Fv->R s->Q v H')->r vs H Q
theorem aml {r:R2} (h:Ev B ta env fun x c=>Ev B tb c fun y e2=>Op2 r x y fun s=>QO s e2):EvO B (tOp r ta tb) env QO:=fun σ G H F Q I k =>
 h σ G H F _ I fun v1 j i d x c l n w p=>p σ j i d _ l fun m f H2 F2 y e2 a b g z =>
  z f H2 v1 m Q a.gh (w.same b) g fun v u H3 s Fv o q=>k v u H3 F2 Fv s e2 (a.out o).1 (n.trans (b.trans o.gg)) (a.out o).2 q
theorem avy {r:R2} (h:Ev B ta env fun x a=>Ev B tb a fun y e2=>Op2 r x y fun s=>FQ s fun d=>Q' d e2):Ev B (tOp r ta tb) env Q':=abg (aml h)
theorem azt {r:V->Hp->VK->Prop} (h:Ev B ta env fun x b=>Op1 r x fun s=>QO s b):EvO B (tUn r ta) env QO:=fun σ G H F Q I k =>
 h σ G H F _ I fun v1 f d c x b a g m i=>i f d v1 Q a.gh m fun v l H3 s Fv o j=>k v l H3 c Fv s b (a.out o).1 (g.trans o.gg) (a.out o).2 j
theorem a1e {r:V->Hp->VK->Prop} (h:Ev B ta env fun x a=>Op1 r x fun s=>FQ s fun d=>Q' d a):Ev B (tUn r ta) env Q':=abg (azt h)
theorem aok (q:QA [] env):EvA B tNil env QA:=fun σ G H F Q I k=>k [] G H F [] env I (Same.refl _) .nil q
theorem ahs {tr:TA} (h:Ev B ta env fun x b=>EvA B tr b fun xs e2=>QA (x :: xs) e2):EvA B (aa2 ta tr) env QA:=fun σ G H F Q I k =>
 h σ G H F _ I fun v1 j i d x b l m o n=>n σ j i d _ l fun vs f H2 F2 ds e2 c a g p=>k _ f H2 F2 _ e2 c (m.trans a) (.cons (o.same a) g) p
theorem arv {r:List V->Hp->VK->Prop} {t:TA} (h:EvA B t env fun ds b=>OpA r ds fun s=>QO s b):EvO B (tCB r t) env QO:=fun σ G H F Q I k =>
 h σ G H F _ I fun vs f d c ds b a g m i=>i f d vs Q a.gh m fun v l H3 s Fv o j=>k v l H3 c Fv s b (a.out o).1 (g.trans o.gg) (a.out o).2 j
theorem avz {r:List V->Hp->VK->Prop} {t:TA} (h:EvA B t env fun ds a=>OpA r ds fun s=>FQ s fun d=>Q' d a):Ev B (tCB r t) env Q':=abg (arv h)
theorem aol {t:TA} (h:EvA B t env fun ds b=>ds.length<=1000/\QO (.st (.tuple ds)) b):EvO B (tTup t) env QO:=fun σ G H F Q I k =>
 h σ G H F _ I fun vs l j f ds b a g d c=>⟨by rw [d.length];exact aF9 (aet c.1),fun p i=>by
  have o:=Out.newT a.gh i d
  exact k _ _ _ f _ _ b (a.out o).1 (g.trans o.gg) (a.out o).2 c.2⟩
theorem azu {t:TA} (h:EvA B t env fun ds a=>ds.length<=1000/\Q' (.tuple ds) a):Ev B (tTup t) env Q':=abg (aol h)
theorem aom {t:TA} (h:EvA B t env fun ds b=>ds.length<=1000/\QO (.own (OL ds)) b):EvO B (tLst t) env QO:=fun σ G H F Q I k =>
 h σ G H F _ I fun vs l j f ds b a g d c=>⟨by rw [d.length];exact aF9 (aet c.1),fun p i=>by
  have o:=Out.newL a.gh i d
  exact k _ _ _ f _ _ b (a.out o).1 (g.trans o.gg) (a.out o).2 c.2⟩
theorem azv {t:TA} (h:EvA B t env fun ds a=>ds.length<=1000/\Q' (.list ds) a):Ev B (tLst t) env Q':=abg (aom fun σ G H F Q I k=>h σ G H F Q I fun vs G' H' F' ds a b g r q=>k vs G' H' F' ds a b g r ⟨q.1,acz q.2⟩)
theorem aht (h:Ev B te env fun x a=>∃ b,x=.bool b/\QT b a):EvT B (aph te) env QT:=fun σ G H F Q I k =>
 h σ G H F _ I fun v f d c x a g i l j=>by
  obtain ⟨b,e,q⟩:=j
  subst e
  cases l
  exact ⟨b,rfl,k b f d c a g i q⟩
theorem a1f (h:Ev B te env fun x a=>∃ b,x=.bool b/\QT b a):EvT B (tB te) env QT:=aht h
theorem x_bl {b:Bool} {R:Bool->Prop} (h:R b):∃ c,PyData.bool b=.bool c/\R c:=⟨b,rfl,h⟩
theorem aw8 {t u:TT} (h:EvT B t env fun c a=>if c=true then EvT B u a QT else QT false a):EvT B (tAnd t u) env QT:=fun σ G H F Q I k =>
 h σ G H F _ I fun b g f d a i j q=>by
  cases b with
  | true=>rw [aE9 rfl] at q ⊢;exact q σ g f d Q i fun c m H2 F2 e2 l n o=>k c m H2 F2 e2 l (j.trans n) o
  | false=>rw [aF0 aA9] at q ⊢;exact k false g f d a i j q
theorem azw {t u:TT} (h:EvT B t env fun c a=>if c=true then QT true a else EvT B u a QT):EvT B (tOr t u) env QT:=fun σ G H F Q I k =>
 h σ G H F _ I fun b g f d a i j q=>by
  cases b with
  | false=>rw [aF0 aA9] at q ⊢;exact q σ g f d Q i fun c m H2 F2 e2 l n o=>k c m H2 F2 e2 l (j.trans n) o
  | true=>rw [aE9 rfl] at q ⊢;exact k true g f d a i j q
theorem aon {t:TT} (h:EvT B t env fun c a=>QT (!c) a):EvT B (tNot t) env QT:=fun σ G H F Q I k =>
 h σ G H F _ I fun b j i f a d g q=>k (!b) j i f a d g q
theorem ajq (q:QT true env):EvT B tYes env QT:=fun σ G H F Q I k=>k true G H F env I (Same.refl _) q
def TruD:PyData->Bool->Prop
 | .bool b,k=>k=b
 | .list ds,k=>k = !ds.isEmpty
 | _,_=>False
theorem aw9 {K:Frag} (h:Ev B te env fun x a=>∃ b,TruD x b/\QT b a):EvT B (tTru K te) env QT:=fun σ G H F Q I k =>
 h σ G H F _ I fun v i g f x a d j m l=>by
  obtain ⟨b,e,q⟩:=l
  cases m with
  | bl c=>cases e;exact ⟨_,rfl,k _ i g f a d j q⟩
  | lst ha rs =>
   refine ⟨b,.inl ⟨_,SqL.of (d.gh _ _ ha),?_⟩,k _ i g f a d j q⟩
   have n:b = !_:=e
   rw [n]
   cases rs <;> rfl
  | _=>exact e.elim
theorem axa (h:Ev B ta env fun x a=>∃ b,x=.bool b/\if b=true then Ev B tb a Q' else Q' (.bool false) a):Ev B (ao9 ta tb) env Q':=fun σ G H F Q I k =>
 h σ G H F _ I fun v g f c x a i j r p=>by
  obtain ⟨b,e,q⟩:=p
  subst e
  cases r
  refine ⟨b,rfl,?_⟩
  cases b with
  | true=>rw [aE9 rfl] at q ⊢;exact q σ g f c Q i fun v m H2 F2 d e2 l o n s=>k v m H2 F2 d e2 l (j.trans o) n s
  | false=>rw [aF0 aA9] at q ⊢;exact k _ g f c _ a i j (.bl false) q
theorem azx (h:Ev B ta env fun x a=>∃ b,x=.bool b/\if b=true then Q' (.bool true) a else Ev B tb a Q'):Ev B (tOrV ta tb) env Q':=fun σ G H F Q I k =>
 h σ G H F _ I fun v g f c x a i j r p=>by
  obtain ⟨b,e,q⟩:=p
  subst e
  cases r
  refine ⟨b,rfl,?_⟩
  cases b with
  | false=>rw [aF0 aA9] at q ⊢;exact q σ g f c Q i fun v m H2 F2 d e2 l o n s=>k v m H2 F2 d e2 l (j.trans o) n s
  | true=>rw [aE9 rfl] at q ⊢;exact k _ g f c _ a i j (.bl true) q
theorem axb (h:Ev B ta env fun x a=>∃ b,x=.bool b/\Q' (.bool (!b)) a):Ev B (apa ta) env Q':=fun σ G H F Q I k =>
 h σ G H F _ I fun v f d c x a g i l j=>by
  obtain ⟨b,e,q⟩:=j
  subst e
  cases l
  exact ⟨b,rfl,k _ f d c _ a g i (.bl _) q⟩
theorem aud {r S:R2} {E:TE} (h:Ev B ta env fun x R=>Ev B tb R fun y e2=>Op2 r x y fun s=>∃ b,s=.st (.bool b)/\if b=true then Ev B E e2 fun z e3=>Op2 S y z fun s'=>FQ s' fun d=>Q' d e3 else Q' (.bool false) e2):Ev B (aln r S ta tb E) env Q':=fun σ G H F Q I k =>
 h σ G H F _ I fun v1 W U T x R Z N r1 q1=>q1 σ W U T _ Z fun M X H2 F2 y e2 C m K q2 =>
  q2 X H2 v1 M _ C.gh (r1.same m) K fun v P H3 s Fv o z_=>by
   obtain ⟨b,es,c⟩:=z_
   have w:=(C.out o).1
   have i:=o.ok
   subst es
   obtain ⟨i,_⟩:=i
   cases i
   refine ⟨b,rfl,?_⟩
   cases b with
   | false=>rw [aF0 aA9] at c ⊢;exact k _ P H3 F2 _ e2 w (N.trans (m.trans o.gg)) (.bl _) c
   | true =>
    rw [aE9 rfl] at c ⊢
    refine c σ P H3 F2 _ w fun Y G4 H4 p z O u L r4 q4=>q4 G4 H4 M Y Q u.gh (K.same (o.gg.trans L)) r4 fun g D l s5 j n a=>?_
    have J:=u.out n
    have gg:=N.trans (m.trans (o.gg.trans (L.trans n.gg)))
    cases s5 with
    | st d=>exact k g D l p d O J.1 gg n.ok.1 a
    | own A =>
     obtain ⟨d,f,q⟩:=a
     exact k g _ l p d O (J.1.freeze J.2.fb J.2.fd J.2.fg) (gg.trans (abl J.2.fg)) (f D l g j J.2.ok J.2.fg J.1.gh) q
    | io A=>exact a.elim
    | scr ns=>exact a.elim
end
section
variable {B:Bs} {env:En} {D':VEnds} {t u tb:TS} {te:TE} {g:TG} {c:TT} {QE:En->Prop}
theorem aoo (h:EvS B t { D' with nx:=fun e=>EvS B u D' e } env):EvS B (tSeq t u) D' env:=fun σ G H F D I r =>
 h σ G H F { D with nx:=u D } I ⟨fun σ G' H F env a g q=>q σ G' H F D a (r.later g),r.rt,r.bk,r.ct⟩
theorem aue (h:D'.nx env):EvS B apb D' env:=fun σ G H F D I r=>r.nx σ G H F env I (Same.refl _) h
theorem axc (h:EvO B te env fun s e=>EvG B g s e D'.nx):EvS B (tAsg te g) D' env:=fun σ G H F D I r =>
 h σ G H F _ I fun v i f c Fv s q j m l n=>n σ i f c v Fv D.nx j l fun a d H2 F2 e2 b o p=>r.nx a d H2 F2 e2 b (m.trans o) p
theorem abc {i:Nat} {s:Sl} (h:QE (env.set i (some s))):EvG B (abp i) s env QE:=fun σ G H F v Fv Q I x k=>k _ G H _ _ (I.store x i) (Same.refl _) h
theorem auf (h:QE env):EvGs B gNil [] env QE:=fun σ G H F vs Q I x k=>by cases x;exact ⟨rfl,k σ G H F env I (Same.refl _) h⟩
theorem arw {f:TGs} {d:PyData} {ds:List PyData} (h:EvG B g (.st d) env fun e=>EvGs B f ds e QE):EvGs B (avn g f) (d :: ds) env QE:=fun σ G H F vs Q I x k=>by
 cases x with
 | cons r rs =>
  refine ⟨_,_,rfl,h σ G H F _ _ _ I (aek r) fun b n m j u o c p=>p b n m j _ Q o (rs.same c) fun a l H2 F2 e2 i q s=>k a l H2 F2 e2 i (c.trans q) s⟩
theorem axd {K:Frag} {n:Nat} {a:TGs} {ds:List PyData} (b:ds.length=n) (h:EvGs B a ds env QE):EvG B (gTup K n a) (.st (.tuple ds)) env QE:=fun σ G H F v Fv Q I x k=>by
 obtain ⟨r,_⟩:=x.ok
 cases r with
 | tup ha rs=>exact ⟨_,_,rfl,SqT.of (I.gh _ _ ha),by rw [rs.length,b],h σ G H F _ Q I rs k⟩
theorem aop (h:EvO B te env fun s e=>D'.rt s e):EvS B (tRet te) D' env:=fun σ G H F D I r =>
 h σ G H F _ I fun v c b a Fv s j d g f i=>r.rt σ c b a j v Fv s d g f i
theorem amm (h:EvO B te env fun _ e=>D'.nx e):EvS B (apc te) D' env:=fun σ G H F D I r =>
 h σ G H F _ I fun v c b a Fv s i d f j g=>r.nx σ c b a i d f g
theorem arx (h:EvT B c env fun b e=>if b=true then EvS B t D' e else EvS B u D' e):EvS B (tIfS c t u) D' env:=fun σ G H F D I r =>
 h σ G H F _ I fun b i g d j a f q=>by
  cases b with
  | true=>rw [aE9 rfl] at q ⊢;exact q σ i g d D a (r.later f)
  | false=>rw [aF0 aA9] at q ⊢;exact q σ i g d D a (r.later f)
def ForV (B:Bs) (g:TG) (tb:TS) (D':VEnds) (ds:List PyData) (e1:En):Prop:=∃ J:Nat->En->Prop,J 0 e1/\(∀ i d e,ds[i]?=some d->J i e->EvG B g (.st d) e fun e2=>EvS B tb { D' with nx:=J (i+1),ct:=J (i+1),bk:=D'.nx } e2)/\∀ e,J ds.length e->D'.nx e
theorem axe {L:TI} (h:EvI B L env fun ds A=>ForV B g tb D' ds A):EvS B (tFor L g tb) D' env:=fun σ G H F D I r =>
 h σ G H F _ I fun J v H1 R ds A U w it z_=>by
  obtain ⟨E,j0,js,S⟩:=z_
  refine ⟨fun i m σ H=>m=ds.length - i/\i<=ds.length/\∃ d F2 e2,VI B d H σ e2 F2/\Same v d/\E i e2,⟨ds.length,by simp,aF4 _,v,R,A,U,Same.refl _,j0⟩,?_⟩
  rintro i m σ H ⟨rfl,hi,d,F2,e2,n,q,M⟩
  by_cases hlt:i < ds.length
  ·refine .inr ⟨it.go i d H q n.gh hlt,fun σ H=>∃ s F3 N,VI B s H σ N F3/\Same v s/\E (i+1) N,fun Z H' h'=>⟨ds.length - (i+1),by lia,rfl,hlt,h'⟩,fun x H' y=>?_⟩
   obtain ⟨s,o⟩:=it.yld i d H x H' _ q n.gh n.ft (aA0 hlt) y
   have K:=n.out o
   refine js i _ e2 (aA0 hlt) M σ s H' F2 x _ _ K.1 K.2 fun C G4 Y O e4 P T W=>?_
   have gg:=q.trans (o.gg.trans T)
   refine W C G4 Y O _ P ⟨fun a c p f j l b u=>⟨c,f,j,l,gg.trans b,u⟩,fun a c p f j Q z X l b=>r.rt a c p f j Q z X l (w.trans (gg.trans b)),fun a c p f j l b=>r.nx a c p f j l (w.trans (gg.trans b)),fun a c p f j l b u=>⟨c,f,j,l,gg.trans b,u⟩⟩
  ·have e:i=ds.length:=by lia
   subst e
   exact .inl ⟨it.stop _ d H q n.gh rfl,r.nx σ d H F2 e2 n (w.trans q) (S e2 M)⟩
theorem ake (J:Nat->En->Prop) (w:∃ m,J m env) (h:∀ m e,J m e->EvT B c e fun b C=>if b=true then EvS B tb { D' with nx:=fun e2=>∃ d,d < m/\J d e2,ct:=fun e2=>∃ d,d < m/\J d e2,bk:=D'.nx } C else D'.nx C):EvS B (aqr c tb) D' env:=fun σ G H F D I r=>by
 obtain ⟨M,w⟩:=w
 refine ⟨fun m σ H=>∃ o F2 e2,VI B o H σ e2 F2/\Same G o/\J m e2,⟨M,G,F,env,I,Same.refl _,w⟩,?_⟩
 rintro m σ H ⟨o,F2,e2,K,R,T⟩
 refine h m e2 T σ o H F2 _ K fun b A H3 z U y O q=>?_
 have gg:=R.trans O
 cases b with
 | false=>rw [aF0 aA9] at q ⊢;exact r.nx σ A H3 z U y gg q
 | true =>
  rw [aE9 rfl] at q ⊢
  refine ⟨fun σ H=>∃ s u p,VI B s H σ p u/\Same G s/\∃ d,d < m/\J d p,fun Q H' ⟨s,u,p,E,N,d,hm,S⟩=>⟨d,hm,s,u,p,E,N,S⟩,?_⟩
  exact q σ A H3 z _ y ⟨fun a g n i j l f v=>⟨g,i,j,l,gg.trans f,v⟩,fun a g n i j L x P l f=>r.rt a g n i j L x P l (gg.trans f),fun a g n i j l f=>r.nx a g n i j l (gg.trans f),fun a g n i j l f v=>⟨g,i,j,l,gg.trans f,v⟩⟩
variable {QI:List PyData->En->Prop}
theorem aug {K:Frag} (h:Ev B te env fun d e=>∃ ds,d=.list ds/\QI ds e):EvI B (avp K te) env QI:=fun σ G H F R I k =>
 h σ G H F _ I fun v l j c d q b n r p=>by
  obtain ⟨ds,f,o⟩:=p
  subst f
  cases r with
  | @lst a vs ds ha rs =>
   refine ⟨a,rfl,⟨vs,SqL.of (b.gh _ _ ha)⟩,k _ l j c ds q b n ⟨fun i G' H' g h hi=>?_,fun i G' H' g h hi=>?_,fun i G' H' x H'' d g h ft hd y=>?_⟩ o⟩
   ·have:i < vs.length:=by rw [rs.length];exact hi
    exact ⟨vs,vs[i],SqL.of (h _ _ (g _ _ ha)),aA0 this⟩
   ·exact ⟨vs,SqL.of (h _ _ (g _ _ ha)),by rw [rs.length];exact Nat.le_of_eq hi.symm⟩
   ·obtain ⟨e,y⟩:=y
    subst e
    obtain ⟨v,s,m⟩:=rs.get hd
    have:=y vs (SqL.of (h _ _ (g _ _ ha)))
    rw [s] at this
    cases this
    exact ⟨G',Out.refl h (m.same g)⟩
theorem azy {ds:List PyData} {R:List PyData->Prop} (h:R ds):∃ xs,PyData.list ds=.list xs/\R xs:=⟨ds,rfl,h⟩
def rngD (lo:Int) (n:Nat):List PyData:=(List.range n).map fun (i:Nat) => .int (lo+(i:Int))
theorem ack {lo:Int} {n:Nat}:(rngD lo n).length=n:=by simp [rngD]
theorem ahu {lo:Int} {n i:Nat} {d:PyData} (h:(rngD lo n)[i]?=some d):i < n/\d=.int (lo+(i:Int)):=by
 unfold rngD at h
 rw [aA5] at h
 have hi:i < n:=by
  have:=(aA1 (l:=(List.range n).map fun (i:Nat)=>PyData.int (lo+(i:Int)))).mp (by rw [aA5];exact h)
  obtain ⟨q,_⟩:=this
  simpa using q
 rw [aA0 (by simpa using hi)] at h
 simp at h
 exact ⟨hi,h.symm⟩
theorem ary {G:Hp} {lo:Int} {n:Nat}:ItOk G (Itr lo n) (rngD lo n):=by
 refine ⟨fun i G' H' g h hi=>?_,fun i G' H' g h hi=>?_,fun i G' H' x H'' d g h ft hd y=>?_⟩
 ·rw [ack] at hi;exact hi
 ·rw [ack] at hi;exact Nat.le_of_eq hi.symm
 ·obtain ⟨e,y⟩:=y
  subst e y
  rw [(ahu hd).2]
  exact ⟨G',Out.refl h (.int _)⟩
def alg (ds:List PyData) (R:List PyData->Prop):Prop:=∃ j:Int,ds=[.int j]/\-(2 ^ 62)<=j/\j < 2 ^ 62/\R (rngD 0 j.toNat)
def alh (ds:List PyData) (R:List PyData->Prop):Prop:=∃ i j:Int,ds=[.int i,.int j]/\(-(2 ^ 62)<=i/\i < 2 ^ 62/\-(2 ^ 62)<=j/\j < 2 ^ 62)/\R (rngD i (j - i).toNat)
theorem auh {a:TA} (h:EvA B a env fun ds e=>alg ds fun xs=>QI xs e):EvI B (ape a) env QI:=fun σ G H F R I k =>
 h σ G H F _ I fun vs f d b ds o g i p n=>by
  obtain ⟨j,c,b1,m,l⟩:=n
  subst c
  obtain rfl:vs=[V.int j]:=Rps.ints_inv (ns:=[j]) p
  exact ⟨j,rfl,b1,m,k _ f d b _ o g i ary l⟩
theorem aui {a:TA} (h:EvA B a env fun ds e=>alh ds fun xs=>QI xs e):EvI B (avq a) env QI:=fun σ G H F R I k =>
 h σ G H F _ I fun vs f d b ds o g l p n=>by
  obtain ⟨i,j,c,b1,m⟩:=n
  subst c
  obtain rfl:vs=[V.int i,V.int j]:=Rps.ints_inv (ns:=[i,j]) p
  exact ⟨i,j,rfl,b1,k _ f d b _ o g l ary m⟩
theorem azz {j:Int} {R:List PyData->Prop} (b : -4611686018427387904<=j) (a:j < 4611686018427387904) (h:R (rngD 0 j.toNat)):alg [.int j] R:=⟨j,rfl,by lia,by lia,h⟩
theorem az0 {a b:Int} {R:List PyData->Prop} (c : -4611686018427387904<=a/\a < 4611686018427387904/\-4611686018427387904<=b/\b < 4611686018427387904) (h:R (rngD a (b - a).toNat)):alh [.int a,.int b] R:=⟨a,b,rfl,by lia,h⟩
theorem aby {lo:Int} {n:Nat} (J:Nat->En->Prop) (a:J 0 env) (b:∀ i e,i < n->J i e->EvG B g (.st (.int (lo+(i:Int)))) e fun e2=>EvS B tb { D' with nx:=J (i+1),ct:=J (i+1),bk:=D'.nx } e2) (hd:∀ e,J n e->D'.nx e):ForV B g tb D' (rngD lo n) env :=
 ⟨J,a,fun i d e h j=>by obtain ⟨hi,rfl⟩:=ahu h;exact b i e hi j,fun e j=>hd e (by rw [ack] at j;exact j)⟩
theorem ac1 {α:Type} {f : α->PyData} {xs:List α} (J:Nat->En->Prop) (a:J 0 env) (b:∀ i x e,xs[i]?=some x->J i e->EvG B g (.st (f x)) e fun e2=>EvS B tb { D' with nx:=J (i+1),ct:=J (i+1),bk:=D'.nx } e2) (hd:∀ e,J xs.length e->D'.nx e):ForV B g tb D' (xs.map f) env :=
 ⟨J,a,fun i d e h j=>by
  rw [aA5] at h
  cases hx:xs[i]? with
  | none=>rw [hx] at h;cases h
  | some x=>rw [hx] at h;cases h;exact b i x e hx j,fun e j=>hd e (by rw [aA3] at j;exact j)⟩
end
theorem amn {B:Bs} {a b:TS} {D':VEnds} {env:En} (h:∀ c:TS,c=b->EvS B a { D' with nx:=fun e=>EvS B c D' e } env):EvS B (tSeq a b) D' env:=aoo (h b rfl)
theorem ajr {B:Bs} {c b:TS} {D':VEnds} {env:En} (e:c=b) (h:EvS B b D' env):EvS B c D' env:=by rw [e];exact h
@[elab_as_elim] theorem exS1 {c:Type} {σ:Type} {f : c->σ} {p : c->Prop} {a : σ->Prop} (s : σ) (h:∃ b,s=f b/\p b) (k:∀ b,p b->a (f b)):a s:=by
 obtain ⟨b,e,h⟩:=h
 rw [e];exact k _ h
@[elab_as_elim] theorem exS2 {g:Type} {d:Type} {σ:Type} {f : g->d->σ} {p : g->d->Prop} {a : σ->Prop} (s : σ) (h:∃ c b,s=f c b/\p c b) (k:∀ c b,p c b->a (f c b)):a s:=by
 obtain ⟨c,b,e,h⟩:=h
 rw [e];exact k _ _ h
@[elab_as_elim] theorem exS3 {j:Type} {i:Type} {g:Type} {σ:Type} {f : j->i->g->σ} {p : j->i->g->Prop} {a : σ->Prop} (s : σ) (h:∃ d c b,s=f d c b/\p d c b) (k:∀ d c b,p d c b->a (f d c b)):a s:=by
 obtain ⟨d,c,b,e,h⟩:=h
 rw [e];exact k _ _ _ h
@[elab_as_elim] theorem exE3 {j:Type} {i:Type} {g:Type} {σ:Type} {f : j->i->g->σ} {a : σ->Prop} (s : σ) (h:∃ d c b,s=f d c b) (k:∀ d c b,a (f d c b)):a s:=by
 obtain ⟨d,c,b,e⟩:=h
 rw [e];exact k _ _ _
@[elab_as_elim] theorem exS4 {m:Type} {j:Type} {i:Type} {l:Type} {σ:Type} {f : m->j->i->l->σ} {p : m->j->i->l->Prop} {a : σ->Prop} (s : σ) (h:∃ g d c b,s=f g d c b/\p g d c b) (k:∀ g d c b,p g d c b->a (f g d c b)):a s:=by
 obtain ⟨g,d,c,b,e,h⟩:=h
 rw [e];exact k _ _ _ _ h
@[elab_as_elim] theorem exS5 {o:Type} {m:Type} {l:Type} {n:Type} {j:Type} {σ:Type} {f : o->m->l->n->j->σ} {p : o->m->l->n->j->Prop} {a : σ->Prop} (s : σ) (h:∃ i d c b g,s=f i d c b g/\p i d c b g) (k:∀ i d c b g,p i d c b g->a (f i d c b g)):a s:=by
 obtain ⟨i,d,c,b,g,e,h⟩:=h
 rw [e];exact k _ _ _ _ _ h
@[elab_as_elim] theorem exS6 {q:Type} {o:Type} {m:Type} {l:Type} {n:Type} {r:Type} {σ:Type} {f : q->o->m->l->n->r->σ} {p : q->o->m->l->n->r->Prop} {a : σ->Prop} (s : σ) (h:∃ b i d c j g,s=f b i d c j g/\p b i d c j g) (k:∀ b i d c j g,p b i d c j g->a (f b i d c j g)):a s:=by
 obtain ⟨b,i,d,c,j,g,e,h⟩:=h
 rw [e];exact k _ _ _ _ _ _ h
@[elab_as_elim] theorem exS7 {r:Type} {q:Type} {n:Type} {m:Type} {o:Type} {v:Type} {u:Type} {σ:Type} {f : r->q->n->m->o->v->u->σ} {p : r->q->n->m->o->v->u->Prop} {a : σ->Prop} (s : σ) (h:∃ b j g d l i c,s=f b j g d l i c/\p b j g d l i c) (k:∀ b j g d l i c,p b j g d l i c->a (f b j g d l i c)):a s:=by
 obtain ⟨b,j,g,d,l,i,c,e,h⟩:=h
 rw [e];exact k _ _ _ _ _ _ _ h
@[elab_as_elim] theorem exS8 {v:Type} {u:Type} {o:Type} {n:Type} {r:Type} {x:Type} {w:Type} {q:Type} {σ:Type} {f : v->u->o->n->r->x->w->q->σ} {p : v->u->o->n->r->x->w->q->Prop} {a : σ->Prop} (s : σ) (h:∃ b l i g m j c d,s=f b l i g m j c d/\p b l i g m j c d) (k:∀ b l i g m j c d,p b l i g m j c d->a (f b l i g m j c d)):a s:=by
 obtain ⟨b,l,i,g,m,j,c,d,e,h⟩:=h
 rw [e];exact k _ _ _ _ _ _ _ _ h
@[elab_as_elim] theorem exS9 {x:Type} {w:Type} {q:Type} {o:Type} {v:Type} {z:Type} {y:Type} {r:Type} {u:Type} {σ:Type} {f : x->w->q->o->v->z->y->r->u->σ} {p : x->w->q->o->v->z->y->r->u->Prop} {a : σ->Prop} (s : σ) (h:∃ b m j i n l c g d,s=f b m j i n l c g d/\p b m j i n l c g d) (k:∀ b m j i n l c g d,p b m j i n l c g d->a (f b m j i n l c g d)):a s:=by
 obtain ⟨b,m,j,i,n,l,c,g,d,e,h⟩:=h
 rw [e];exact k _ _ _ _ _ _ _ _ _ h
theorem big {n:Nat} (h:n<=1000000):n < sizeLine:=Nat.lt_of_le_of_lt h (by decide)
section
variable {B B1:Bs} {G H G' H':Hp} {σ σI:St} {env envI:En} {F F':Nat->Addr->Prop} {v:V} {s:Sl} {Fv:Addr->Prop} {inv:Nat->Option Nat}
open Classical in
def ab8 (H:Hp) (F:Nat->Addr->Prop) (inv:Nat->Option Nat):Hp:=fun a=>if ∃ i j,inv i=some j/\F i a then none else H a
theorem afq {i j:Nat} {a:Addr} (h:inv i=some j) (f:F i a):ab8 H F inv a=none:=aE9 ⟨i,j,h,f⟩
theorem afr {a:Addr} (h:∀ i j,inv i=some j->¬ F i a):ab8 H F inv a=H a:=aF0 fun ⟨i,j,x,y⟩=>h i j x y
theorem adf:Same (ab8 H F inv) H:=fun a o e=>by
 unfold ab8 at e
 split at e
 ·cases e
 ·exact e
theorem VI.enter (I:VI B G H σ env F) (inj:∀ i b j,inv i=some j->inv b=some j->i=b) (ln : σI.length=envI.length)
  (sl:∀ j s,envI[j]?=some (some s)->∃ v,σI[j]?=some (some v)/\((∃ d,s=.st d/\Rp G v d/\∀ i,inv i ≠ some j)\/(∃ ns a,s=.scr ns/\v=.ref a/\SqL B.K G a (ns.map V.int)/\∀ i,inv i ≠ some j) ∨
   ∃ i A,inv i=some j/\s=.io A/\σ[i]?=some (some v)/\(env[i]?=some (some (.own A))\/env[i]?=some (some (.io A))))) :
  VI ⟨B.K,G,H,ab8 H F inv,σI,fun j a=>∃ i,inv i=some j/\F i a⟩ G H σI envI (fun j a=>∃ i,inv i=some j/\F i a) where
 gh:=I.gh
 g0:=Same.refl _
 gn:=fun a o e => .inl e
 rs:=adf
 rb:=adf
 bh:=fun a o e=>⟨o,e⟩
 fg:=fun j a ⟨i,_,z⟩=>I.fg i a z
 fr:=fun j a ⟨i,h,z⟩=>afq h z
 fd:=fun j k a ⟨i,h,z⟩ ⟨b,h',u⟩=>by
  have:=I.fd i b a z u
  subst this
  rw [h] at h';cases h';rfl
 fo:=fun j a ⟨i,h,z⟩=>I.fo i a z
 sl:=fun j s e=>by
  obtain ⟨v,l,q⟩:=sl j s e
  refine ⟨v,l,?_⟩
  rcases q with ⟨d,rfl,r,n⟩ | ⟨ns,a,rfl,rfl,q,n⟩ | ⟨i,A,hi,rfl,g,f⟩
  ·exact ⟨r,fun a ⟨i,h,_⟩=>n i h⟩
  ·exact ⟨⟨a,rfl,q⟩,fun a ⟨i,h,_⟩=>n i h⟩
  ·refine ⟨?_,fun a z => .inl z,l⟩
   have m:(fun a=>∃ b,inv b=some j/\F b a)=F i:=by
    funext a
    exact propext ⟨fun ⟨b,h,z⟩=>by rw [inj i b j hi h];exact z,fun z=>⟨i,hi,z⟩⟩
   show A.P G H v (fun a=>∃ b,inv b=some j/\F b a)
   rw [m]
   rcases f with f | f
   ·obtain ⟨p,c,e2⟩:=I.sl i _ f
    rw [g] at c;cases c;exact e2.1
   ·obtain ⟨p,c,e2⟩:=I.sl i _ f
    rw [g] at c;cases c;exact e2.1
 ln:=ln
 ft:=I.ft
theorem VI.leave (I:VI B G H σ env F) (inj:∀ i h j,inv i=some j->inv h=some j->i=h) (p:B1.G=G) (g:B1.H=H) (D:∀ a o,H a=some o->(∀ i j,inv i=some j->¬ F i a)->B1.R a=some o)
  (E:∀ i j,inv i=some j->∀ a,B1.F j a->F i a) (L:∀ i j,inv i=some j->B1.S[j]? = σ[i]?) (J:VI B1 G' H' σI envI F') (io:∀ i j,inv i=some j->∃ A',envI[j]?=some (some (.io A'))) {env2:En} (N:env2.length=env.length)
  (C:∀ i s,env2[i]?=some (some s)->(inv i=none/\env[i]?=some (some s))\/∃ j A A',inv i=some j/\envI[j]?=some (some (.io A'))/\((env[i]?=some (some (.own A))/\s=.own A')\/(env[i]?=some (some (.io A))/\s=.io A'))) :
  VI B G' H' σ env2 (fun i a=>match inv i with | some j=>F' j a | none=>F i a):=by
 have b:∀ a o,G' a=some o->G a=some o\/H a=none:=fun a o e=>by
  have:=J.gn a o e
  rw [p,g] at this;exact this
 have fi:∀ i j a,inv i=some j->F' j a->F i a\/H a=none:=fun i j a hi z=>by
  obtain ⟨A',e⟩:=io i j hi
  obtain ⟨v,_,q⟩:=J.sl j _ e
  rcases q.2.1 a z with y | y
  ·exact .inl (E i j hi a y)
  ·rw [g] at y;exact .inr y
 have kp:∀ a o,H a=some o->(∀ i j,inv i=some j->¬ F i a)->H' a=some o:=fun a o e n=>J.rs a o (D a o e n)
 refine ⟨J.gh,I.g0.trans (p ▸ J.g0),fun a o e=>?_,fun a o e=>?_,I.rb,fun a o e=>?_,fun i a z=>?_,fun i a z=>?_,fun i k a y z=>?_,fun i a z=>?_,fun i t e=>?_,by rw [N];exact I.ln,J.ft⟩
 ·rcases b a o e with e | e
  ·exact I.gn a o e
  ·exact .inr (I.no_b e)
 ·refine kp a o (I.rs a o e) fun i j _ z=>?_
  rw [I.fr i a z] at e;cases e
 ·obtain ⟨w,f⟩:=I.bh a o e
  exact J.bh a w (by rw [g];exact f)
 ·cases hi:inv i with
  | some j=>rw [hi] at z;exact J.fg j a z
  | none =>
   rw [hi] at z
   cases e:G' a with
   | none=>rfl
   | some o =>
    rcases b a o e with e | e
    ·rw [I.fg i a z] at e;cases e
    ·exact absurd z (I.no_f e i)
 ·cases hi:inv i with
  | some j =>
   rw [hi] at z
   rcases fi i j a hi z with y | y
   ·exact I.fr i a y
   ·exact I.no_r y
  | none=>rw [hi] at z;exact I.fr i a z
 ·cases hi:inv i with
  | some j =>
   rw [hi] at y
   cases hk:inv k with
   | some l =>
    rw [hk] at z
    have:=J.fd j l a y z
    subst this
    exact inj i k j hi hk
   | none =>
    rw [hk] at z
    rcases fi i j a hi y with x | x
    ·exact I.fd i k a x z
    ·exact absurd z (I.no_f x k)
  | none =>
   rw [hi] at y
   cases hk:inv k with
   | some l =>
    rw [hk] at z
    rcases fi k l a hk z with x | x
    ·exact I.fd i k a y x
    ·exact absurd y (I.no_f x i)
   | none=>rw [hk] at z;exact I.fd i k a y z
 ·cases hi:inv i with
  | some j=>rw [hi] at z;exact J.fo j a z
  | none =>
   rw [hi] at z
   obtain ⟨o,e⟩:=I.fo i a z
   exact J.bh a o (by rw [g];exact e)
 ·rcases C i t e with ⟨hi,f⟩ | ⟨j,A,A',hi,f,e2⟩
  ·obtain ⟨v,u,q⟩:=I.sl i t f
   refine ⟨v,u,?_⟩
   simp only [hi]
   refine q.mono (p ▸ J.g0) fun a o z y=>kp a o y fun h O d M=>?_
   have:=I.fd i h a z M
   subst this
   rw [hi] at d;cases d
  ·obtain ⟨v,u,q⟩:=J.sl j _ f
   have r : σ[i]?=some (some v):=by rw [← L i j hi];exact q.2.2
   refine ⟨v,r,?_⟩
   simp only [hi]
   rcases e2 with ⟨e2,rfl⟩ | ⟨e2,rfl⟩
   ·obtain ⟨K,_,m⟩:=I.sl i _ e2
    refine ⟨q.1,fun a z=>?_⟩
    rcases fi i j a hi z with y | y
    ·exact m.2 a y
    ·exact I.no_b y
   ·obtain ⟨K,c,m⟩:=I.sl i _ e2
    rw [r] at c;cases c
    refine ⟨q.1,fun a z=>?_,m.2.2⟩
    rcases fi i j a hi z with y | y
    ·exact m.2.1 a y
    ·exact .inr (I.no_b y)
theorem RsX.leave (I:VI B G H σ env F) (b:B1.H=H) (r:RsX B1 G' H' v Fv s F'):RsX B G' H' v Fv s (fun i a=>match inv i with | some j=>F' j a | none=>F i a):=by
 have hn:∀ a,Fv a->H a=none:=fun a z=>b ▸ r.fb a z
 refine ⟨r.ok,fun a z=>I.no_b (hn a z),r.fg,r.fo,fun i a z y=>?_⟩
 cases hi:inv i with
 | some j=>rw [hi] at y;exact r.fd j a z y
 | none=>rw [hi] at y;exact I.no_f (hn a z) i y
end
abbrev VP:=List Sl->(Sl->Prop)->Prop
abbrev VIo:=Own->List Sl->(Own->Sl->Prop)->Prop
def noF:Nat->Addr->Prop:=fun _ _=>False
def bsP (K:Frag) (G H:Hp) (vs:List V):Bs:=⟨K,G,H,H,vs.map some,noF⟩
def av0 (K:Frag) (G:Hp):V->Sl->Prop
 | v,.st d=>Rp G v d
 | v,.scr ns=>∃ a,v=.ref a/\SqL K G a (ns.map V.int)
 | _,_=>False
inductive ArgsOk (K:Frag) (G:Hp):List V->List Sl->Prop
 | nil:ArgsOk K G [] []
 | cons {v:V} {s:Sl} {vs:List V} {ss:List Sl}:av0 K G v s->ArgsOk K G vs ss->ArgsOk K G (v :: vs) (s :: ss)
theorem ArgsOk.length {K:Frag} {G:Hp}:∀ {vs:List V} {ss:List Sl},ArgsOk K G vs ss->vs.length=ss.length
 | _,_,.nil=>rfl
 | _,_,.cons _ t=>by simp [ArgsOk.length t]
theorem ArgsOk.get {K:Frag} {G:Hp}:∀ {vs:List V} {ss:List Sl} {i:Nat} {s:Sl},ArgsOk K G vs ss->ss[i]?=some s->∃ v,vs[i]?=some v/\av0 K G v s
 | _,_,_,_,.nil,e=>by simp at e
 | _,_,0,_,.cons r _,e=>by simp at e;subst e;exact ⟨_,rfl,r⟩
 | _,_,i+1,s,.cons _ t,e=>by
  obtain ⟨u,b,a⟩:=ArgsOk.get (i:=i) (s:=s) t (by simpa using e)
  exact ⟨u,by simpa using b,a⟩
theorem ArgsOk.of {K:Frag} {G:Hp}:∀ {vs:List V} {ds:List PyData},Rps G vs ds->ArgsOk K G vs (ds.map Sl.st)
 | _,_,.nil => .nil
 | _,_,.cons r t => .cons r (ArgsOk.of t)
theorem aoq {α:Type} {xs:List α} {n i:Nat} {s : α} (e:(xs.map some ++ List.replicate n none)[i]?=some (some s)):xs[i]?=some s:=by
 by_cases h:i < xs.length
 ·rw [aC2 (by simpa using h),aA5] at e
  rw [aA0 h] at e ⊢
  simpa using e
 ·rw [aC7 (by simpa using h),aH1] at e
  split at e <;> cases e
theorem aor {α:Type} {xs:List α} {n i:Nat} {s : α} (e:xs[i]?=some s):(xs.map some ++ List.replicate n none)[i]?=some (some s):=by
 have h:i < xs.length:=(aA1.mp e).1
 rw [aC2 (by simpa using h),aA5,e];rfl
def spP (K:Frag) (f:VP):Sp:=fun vs H Q _=>∃ G ss Q',Same G H/\FT G H/\ArgsOk K G vs ss/\f ss Q'/\∀ s,Q' s->∀ v G' H' Fv,Out G H v G' H' s Fv->Q v H'
structure OutI (G H R:Hp) (F0:Addr->Prop) (v0:V) (A':Own) (s:Sl) (v:V) (G' H':Hp) (F' Fv:Addr->Prop):Prop where
 gg:Same G G'
 gh:Same G' H'
 ft:FT G' H'
 gn:∀ a o,G' a=some o->G a=some o\/H a=none
 rs:Same R H'
 bh:∀ a o,H a=some o->∃ o',H' a=some o'
 ap:A'.P G' H' v0 F'
 fi:∀ a,F' a->F0 a\/H a=none
 fg:∀ a,F' a->G' a=none
 ok:RsOk G' H' v Fv s
 fv:∀ a,Fv a->H a=none/\G' a=none/\(∃ o,H' a=some o)/\¬ F' a
def spI (K:Frag) (f:VIo):Sp:=fun vs H Q _=>∃ v0 vr G R A ss F0 Q',vs=v0 :: vr/\Same G H/\FT G H/\Same R H/\A.P G H v0 F0/\(∀ a,F0 a->G a=none)/\(∀ a,F0 a->R a=none)/\ArgsOk K G vr ss /\
 f A ss Q'/\∀ A' s,Q' A' s->∀ v G' H' F' Fv,OutI G H R F0 v0 A' s v G' H' F' Fv->Q v H'
theorem abi {K:Frag} {f:VP} {b:TS} {N:List Str} {vs:List V} {H:Hp} {Q:VK} {E:XK} (h:spP K f vs H Q E)
  (hb:∀ ss Q',f ss Q'->∀ B,B.K=K->EvS B b { nx:=fun _=>Q' (.st .none),rt:=fun s _=>Q' s } (ss.map some ++ List.replicate (N.length - ss.length) none)):b { nx:=fun _ H'=>Q .non H',rt:=Q } (L2.start N vs) H:=by
 obtain ⟨G,ss,Q',gh,ft,l,hf,c⟩:=h
 have fin:∀ {σ G' H' F env v Fv s},VI (bsP K G H vs) G' H' σ env F->RsX (bsP K G H vs) G' H' v Fv s F->Out G H v G' H' s Fv:=fun I r =>
  ⟨I.g0,I.gh,I.rs,I.gn,r.fb,r.fg,r.fo,r.ok,fun _=>I.ft⟩
 refine hb ss _ hf (bsP K G H vs) rfl (L2.start N vs) G H noF _ ?_ ⟨fun σ G' H' F env I g q=>c _ q _ _ _ _ (fin I (aek .non)),fun σ G' H' F env v Fv s I g r q=>c _ q v G' H' Fv (fin I r),fun _ _ _ _ _ _ _ q=>q,fun _ _ _ _ _ _ _ q=>q⟩
 refine ⟨gh,Same.refl _,fun a o e => .inl e,Same.refl _,Same.refl _,fun a o e=>⟨o,e⟩,fun i a z=>z.elim,fun i a z=>z.elim,fun i j a z=>z.elim,fun i a z=>z.elim,fun i s e=>?_,?_,ft⟩
 ·obtain ⟨v,m,q⟩:=l.get (aoq e)
  refine ⟨v,by unfold L2.start;exact aor m,?_⟩
  cases s with
  | st d=>exact ⟨q,fun a z=>z⟩
  | scr ns=>exact ⟨q,fun a z=>z⟩
  | own A=>exact q.elim
  | io A=>exact q.elim
 ·unfold L2.start;simp [l.length]
theorem adr {K:Frag} {f:VIo} {n:TS} {N:List Str} {vs:List V} {H:Hp} {Q:VK} {E:XK} (h:spI K f vs H Q E)
  (hb:∀ A ss Q',f A ss Q'->∀ B,B.K=K->EvS B n { nx:=fun e=>∃ A',e[0]?=some (some (.io A'))/\Q' A' (.st .none),rt:=fun s e=>∃ A',e[0]?=some (some (.io A'))/\Q' A' s } (some (.io A) :: (ss.map some ++ List.replicate (N.length - (ss.length+1)) none))):n { nx:=fun _ H'=>Q .non H',rt:=Q } (L2.start N vs) H:=by
 obtain ⟨v0,b,G,R,A,ss,F0,Q',rfl,gh,ft,p,ap,fg,fr,c,hf,w⟩:=h
 have M:(v0 :: b).length=ss.length+1:=by simp [c.length]
 refine hb A ss _ hf ⟨K,G,H,R,(v0 :: b).map some,fun i a=>i=0/\F0 a⟩ rfl (L2.start N (v0 :: b)) G H (fun i a=>i=0/\F0 a) _ ?_ ?_
 ·refine ⟨gh,Same.refl _,fun a o e => .inl e,p,p,fun a o e=>⟨o,e⟩,fun i a z=>fg a z.2,fun i a z=>fr a z.2,fun i j a z y=>by rw [z.1,y.1],fun i a z=>A.dom ap a z.2,fun i s e=>?_,?_,ft⟩
  ·cases i with
   | zero =>
    simp at e
    subst e
    refine ⟨v0,rfl,?_,fun a z => .inl z,rfl⟩
    have:(fun a=>0=0/\F0 a)=F0:=by funext a;simp
    rw [this];exact ap
   | succ i =>
    have D:(ss.map some ++ List.replicate (N.length - (ss.length+1)) none)[i]?=some (some s):=by simpa using e
    obtain ⟨v,L,q⟩:=c.get (aoq D)
    refine ⟨v,?_,?_⟩
    ·unfold L2.start;exact aor (by simpa using L)
    ·cases s with
     | st d=>exact ⟨q,fun a z=>by cases z.1⟩
     | scr ns=>exact ⟨q,fun a z=>by cases z.1⟩
     | own A=>exact q.elim
     | io A=>exact q.elim
  ·unfold L2.start;simp [c.length]
 ·have fin:∀ σ G' H' F env v Fv s,VI ⟨K,G,H,R,(v0 :: b).map some,fun i a=>i=0/\F0 a⟩ G' H' σ env F->RsX ⟨K,G,H,R,(v0 :: b).map some,fun i a=>i=0/\F0 a⟩ G' H' v Fv s F->(∃ A',env[0]?=some (some (.io A'))/\Q' A' s)->Q v H':=by
   intro σ G' H' F env v Fv s I r ⟨A',e,q⟩
   obtain ⟨m,C,u,J,x⟩:=I.sl 0 _ e
   have:m=v0:=by
    have l:((v0 :: b).map some)[0]?=some (some m):=x
    simpa using l.symm
   subst this
   exact w A' s q v G' H' (F 0) Fv ⟨I.g0,I.gh,I.ft,I.gn,I.rs,I.bh,u,fun a z=>by
    rcases J a z with y | y
    ·exact .inl y.2
    ·exact .inr y,I.fg 0,r.ok,fun a z=>⟨r.fb a z,r.fg a z,r.fo a z,r.fd 0 a z⟩⟩
  refine ⟨fun σ G' H' F env I g q=>fin σ G' H' F env .non _ (.st .none) I (aek .non) q,fun σ G' H' F env v Fv s I g r q=>fin σ G' H' F env v Fv s I r q,fun _ _ _ _ _ _ _ q=>q,fun _ _ _ _ _ _ _ q=>q⟩
section
variable {B:Bs} {env:En} {Q':PyData->En->Prop} {QO:Sl->En->Prop} {K:Frag} {E:XK}
theorem akf {f:VP} {t:TA} (h:EvA B t env fun ds b=>f (ds.map Sl.st) fun s=>QO s b):EvO B (abq (spP K f) [] E t) env QO:=fun σ G H F Q I k=>by
 unfold abq
 simp only [aE5]
 exact h σ G H F _ I fun vs d l c ds b a g j i=>⟨d,_,_,a.gh,a.ft,ArgsOk.of j,i,fun s q v G' H' Fv o=>k v G' H' c Fv s b (a.out o).1 (g.trans o.gg) (a.out o).2 q⟩
theorem auj {f:VP} {t:TA} (h:EvA B t env fun ds a=>f (ds.map Sl.st) fun s=>FQ s fun d=>Q' d a):Ev B (abq (spP K f) [] E t) env Q':=abg (akf h)
theorem arz {f:VP} {t:TA} {i:Nat} {ns:List Int} (e:env[i]?=some (some (.scr ns))) (g:B.K=K) (h:EvA B t env fun ds c=>f (.scr ns :: ds.map Sl.st) fun s=>QO s c):EvO B (abq (spP K f) [] E (aa2 (tVar i) t)) env QO:=fun σ G H F Q I k=>by
 subst g
 unfold abq
 simp only [aE5]
 obtain ⟨v0,u,⟨a,m,r⟩,_⟩:=I.sl i _ e
 refine ⟨v0,u,h σ G H F _ I fun vs l w j ds c b d p n=>⟨l,_,_,b.gh,b.ft,.cons (s:=.scr ns) ⟨a,m,d.seq r⟩ (ArgsOk.of p),n,fun s q v G' H' Fv o=>k v G' H' j Fv s c (b.out o).1 (d.trans o.gg) (b.out o).2 q⟩⟩
def reS:Sl->Own->Sl
 | .io _,A => .io A
 | _,A => .own A
theorem agm {f:VIo} {t:TA} {i:Nat} (R:∃ s,env[i]?=some (some s)) (h:EvA B t env fun ds C=>∃ s0 A,C[i]?=some (some s0)/\(s0=.own A\/s0=.io A)/\f A (ds.map Sl.st) fun A' s=>QO s (C.set i (some (reS s0 A')))):EvO B (abq (spI K f) [] E (aa2 (tVar i) t)) env QO:=fun σ G H F Q I k=>by
 unfold abq
 simp only [aE5]
 obtain ⟨s,e⟩:=R
 obtain ⟨v0,N,_⟩:=I.sl i _ e
 refine ⟨v0,N,h σ G H F _ I fun vs M p m ds C r S U ⟨s0,A,D,O,T⟩=>?_⟩
 obtain ⟨W,w,q⟩:=r.sl i _ D
 rw [N] at w;cases w
 have ap:A.P M p v0 (m i):=by
  rcases O with rfl | rfl
  ·exact q.1
  ·exact q.1
 let inv:Nat->Option Nat:=fun j=>if j=i then some 0 else none
 have d:inv i=some 0:=aE9 rfl
 have g:∀ j,j ≠ i->inv j=none:=fun j h=>aF0 h
 have c:∀ j l,inv j=some l->j=i/\l=0:=fun j l h=>by
  by_cases hj:j=i
  ·subst hj;rw [d] at h;cases h;exact ⟨rfl,rfl⟩
  ·rw [g j hj] at h;cases h
 refine ⟨v0,vs,M,ab8 p m inv,A,_,m i,_,rfl,r.gh,r.ft,adf,ap,r.fg i,fun a z=>afq d z,ArgsOk.of U,T,fun A' s q v G' H' F' Fv o=>?_⟩
 have hi:i < C.length:=(aA1.mp D).1
 have J:VI ⟨K,M,p,ab8 p m inv,[some v0],fun j a=>j=0/\m i a⟩ G' H' [some v0] [some (.io A')] (fun j a=>j=0/\F' a):=by
  refine ⟨o.gh,o.gg,o.gn,o.rs,adf,o.bh,fun j a z=>o.fg a z.2,fun j a z=>?_,fun j l a y z=>by rw [y.1,z.1],fun j a z=>A'.dom o.ap a z.2,fun j s e=>?_,rfl,o.ft⟩
  ·rcases o.fi a z.2 with y | y
   ·exact afq d y
   ·cases e:ab8 p m inv a with
    | none=>exact e
    | some u=>rw [adf a u e] at y;cases y
  ·cases j with
   | zero =>
    simp at e
    subst e
    refine ⟨v0,rfl,?_,fun a z=>?_,rfl⟩
    ·have:(fun a=>0=0/\F' a)=F':=by funext a;simp
     rw [this];exact o.ap
    ·rcases o.fi a z.2 with y | y
     ·exact .inl ⟨rfl,y⟩
     ·exact .inr y
   | succ j=>simp at e
 have L:=r.leave (inv:=inv) (env2:=C.set i (some (reS s0 A'))) (fun a b j ha hb=>by rw [(c a j ha).1,(c b j hb).1]) rfl rfl (fun a u e n=>by show ab8 p m inv a=_;rw [afr n];exact e)
  (fun a j ha x z=>by rw [(c a j ha).1];exact z.2) (fun a j ha=>by rw [(c a j ha).1,(c a j ha).2,N];rfl) J (fun a j ha=>⟨A',by rw [(c a j ha).2];rfl⟩) (by simp) fun j Y e=>by
   by_cases hj:j=i
   ·subst hj
    rw [aD1,aE9 rfl,aE9 hi] at e
    cases e
    refine .inr ⟨0,A,A',d,rfl,?_⟩
    rcases O with rfl | rfl
    ·exact .inl ⟨D,rfl⟩
    ·exact .inr ⟨D,rfl⟩
   ·rw [aD1,aF0 (fun z=>hj z.symm)] at e
    exact .inl ⟨g j hj,e⟩
 have X:RsX ⟨K,M,p,ab8 p m inv,[some v0],fun j a=>j=0/\m i a⟩ G' H' v Fv s (fun j a=>j=0/\F' a):=⟨o.ok,fun a z=>(o.fv a z).1,fun a z=>(o.fv a z).2.1,fun a z=>(o.fv a z).2.2.1,fun j a z y=>(o.fv a z).2.2.2 y.2⟩
 exact k v G' H' _ Fv s _ L (S.trans o.gg) (X.leave (inv:=inv) r rfl) q
end
def aij:Option Sl->Option Sl
 | some (.own A)=>some (.io A)
 | s=>s
def aau (src:List (Option Nat)) (env:En):En:=src.map fun o=>match o with | some j=>aij ((env[j]?).getD none) | none=>none
def isIo:Option Sl->Bool
 | some (.io _)=>true
 | _=>false
def idxE (i:Nat):List (Option Nat)->Nat->Option Nat
 | [],_=>none
 | o :: r,k=>if o=some i then some k else idxE i r (k+1)
def ag6 (src:List (Option Nat)) (e:En) (i:Nat) (s:Option Sl):Option Sl :=
 match s with
 | some (.own A)=>(match idxE i src 0 with | some j=>(match e[j]? with | some (some (.io A'))=>some (.own A') | _=>none) | none=>some (.own A))
 | some (.io A)=>(match idxE i src 0 with | some j=>(match e[j]? with | some (some (.io A'))=>some (.io A') | _=>none) | none=>some (.io A))
 | s=>s
def aff (src:List (Option Nat)) (e:En):Nat->En->En
 | _,[]=>[]
 | k,s :: r=>ag6 src e k s :: aff src e (k+1) r
def aik (src:List (Option Nat)) (e1 e:En):En:=aff src e 0 e1
theorem afs (src:List (Option Nat)) (e:En):∀ (k:Nat) (l:En) (i:Nat),(aff src e k l)[i]?=(l[i]?).map (ag6 src e (k+i))
 | _,[],i=>by simp [aff]
 | k,s :: r,0=>by simp [aff]
 | k,s :: r,i+1=>by
  have:=afs src e (k+1) r i
  simp only [aff,aH5,this]
  rw [show k+1+i=k+(i+1) by lia]
theorem ae0 {i:Nat}:∀ {src:List (Option Nat)} {k j:Nat},idxE i src k=some j->k<=j/\src[j - k]?=some (some i)
 | [],_,_,h=>by cases h
 | o :: r,k,j,h=>by
  unfold idxE at h
  by_cases e:o=some i
  ·rw [aE9 e] at h;cases h
   exact ⟨aA6 _,by simp [e]⟩
  ·rw [aF0 e] at h
   obtain ⟨b,a⟩:=ae0 h
   refine ⟨by lia,?_⟩
   rw [show j - k=(j - (k+1))+1 by lia]
   simpa using a
theorem akg {i:Nat}:∀ {src:List (Option Nat)} {k:Nat},idxE i src k=none->∀ j:Nat,src[j]? ≠ some (some i)
 | [],_,_,j=>by simp
 | o :: r,k,h,j=>by
  unfold idxE at h
  by_cases e:o=some i
  ·rw [aE9 e] at h;cases h
  ·rw [aF0 e] at h
   cases j with
   | zero=>simpa using e
   | succ j=>simpa using akg h j
theorem amo:∀ (src:List (Option Nat)),(src.filterMap id).Nodup->∀ j a i:Nat,src[j]?=some (some i)->src[a]?=some (some i)->j=a
 | [],_,j,_,_,h,_=>by simp at h
 | none :: r,h,j,a,i,h1,h2=>by
  cases j with
  | zero=>simp at h1
  | succ j =>
   cases a with
   | zero=>simp at h2
   | succ a=>rw [amo r (by simpa using h) j a i (by simpa using h1) (by simpa using h2)]
 | some x :: r,h,j,a,i,h1,h2=>by
  have h':=aH8.mp (show (x :: r.filterMap id).Nodup by simpa using h)
  have c:∀ k,r[k]?=some (some x)->False:=fun k d=>h'.1 (List.mem_filterMap.mpr ⟨some x,aA2 d,rfl⟩)
  cases j with
  | zero =>
   have b:x=i:=by simpa using h1
   subst b
   cases a with
   | zero=>rfl
   | succ a=>exact (c a (by simpa using h2)).elim
  | succ j =>
   cases a with
   | zero =>
    have b:x=i:=by simpa using h2
    subst b
    exact (c j (by simpa using h1)).elim
   | succ a=>rw [amo r h'.2 j a i (by simpa using h1) (by simpa using h2)]
def ag7:Option Sl->Bool
 | some (.own _)=>true
 | _=>false
def ioLe:En->En->Prop
 | a :: r,b :: s=>(isIo a=isIo b/\ag7 b=false)/\ioLe r s
 | [],[]=>True
 | _,_=>False
theorem amp {x:Option Sl} (h:isIo x=true):∃ A,x=some (.io A):=by
 cases x with
 | none=>simp [isIo] at h
 | some y =>
  cases y with
  | io A=>exact ⟨A,rfl⟩
  | _=>simp [isIo] at h
theorem ioLe.get:∀ {a b:En} {j:Nat} {x:Option Sl},ioLe a b->a[j]?=some x->isIo x=true->∃ A,b[j]?=some (some (.io A))
 | [],_,_,_,_,e,_=>by simp at e
 | x :: r,[],_,_,h,_,_=>h.elim
 | x :: r,y :: s,0,z,h,e,p=>by
  simp at e;subst e
  have:=h.1.1
  rw [p] at this
  obtain ⟨A,q⟩:=amp this.symm
  exact ⟨A,by simp [q]⟩
 | x :: r,y :: s,j+1,z,h,e,p=>by
  obtain ⟨A,q⟩:=ioLe.get (j:=j) h.2 (by simpa using e) p
  exact ⟨A,by simpa using q⟩
theorem ioLe.got:∀ {a b:En} {j:Nat} {x:Option Sl},ioLe a b->b[j]?=some x->(isIo x=true->∃ A,a[j]?=some (some (.io A)))/\ag7 x=false
 | [],[],_,_,_,e=>by simp at e
 | [],_ :: _,_,_,h,e=>h.elim
 | x :: r,[],_,_,h,_=>h.elim
 | x :: r,y :: s,0,z,h,e=>by
  simp at e;subst e
  refine ⟨fun p=>?_,h.1.2⟩
  have:=h.1.1
  rw [p] at this
  obtain ⟨A,q⟩:=amp this
  exact ⟨A,by simp [q]⟩
 | x :: r,y :: s,j+1,z,h,e=>by
  obtain ⟨p,q⟩:=ioLe.got (j:=j) (x:=z) h.2 (by simpa using e)
  exact ⟨fun t=>by obtain ⟨A,u⟩:=p t;exact ⟨A,by simpa using u⟩,q⟩
section
variable {B:Bs} {G H:Hp} {σ:St} {env:En} {F:Nat->Addr->Prop}
theorem VI.aside (I:VI B G H σ env F) {p:Addr} {o:HO} (b:∀ xs,o ≠ .tup xs) (c:G p=none) (hf:∀ j,¬ F j p) (hb:B.H p=none):VI B G (upd H p o) σ env F where
 gh:=fun a u e=>by rw [aad (aar e c)];exact I.gh a u e
 g0:=I.g0
 gn:=I.gn
 rs:=fun a u e=>by rw [aad (aar e (I.b_r hb))];exact I.rs a u e
 rb:=I.rb
 bh:=fun a u e=>by rw [aad (aar e hb)];exact I.bh a u e
 fg:=I.fg
 fr:=I.fr
 fd:=I.fd
 fo:=fun j a z=>by rw [aad (fun e:a=p=>hf j (e ▸ z))];exact I.fo j a z
 sl:=fun i s e=>by
  obtain ⟨v,f,q⟩:=I.sl i s e
  exact ⟨v,f,q.mono (Same.refl _) fun a u z y=>by rw [aad (fun e:a=p=>hf i (e ▸ z))];exact y⟩
 ln:=I.ln
 ft:=fun a d e=>by
  by_cases z:a=p
  ·subst z;rw [aaf] at e;exact absurd (aC5 e) (b _)
  ·rw [aad z] at e;exact I.ft a d e
def LcV (K:Frag) (src:List (Option Nat)) (g:TG) (tif:TT) (te:TE) (ds:List PyData) (e1:En) (R:List PyData->En->Prop):Prop:=∃ J:Nat->List PyData->En->Prop,J 0 [] (aau src e1)/\(∀ i ys e,J i ys e->ioLe (aau src e1) e) /\
 (∀ i d ys e,ds[i]?=some d->J i ys e->∀ B':Bs,B'.K=K->EvG B' g (.st d) e fun e2=>EvT B' tif e2 fun b e3=>if b=true then Ev B' te e3 fun y e4=>ys.length<=999999/\J (i+1) (ys ++ [y]) e4 else J (i+1) ys e3)/\∀ ys e,J ds.length ys e->R ys (aik src e1 e)
theorem akh {src:List (Option Nat)} {j:Nat} {s:Sl} (h:(aau src env)[j]?=some (some s)):∃ i t,src[j]?=some (some i)/\env[i]?=some (some t)/\aij (some t)=some s:=by
 unfold aau at h
 rw [aA5] at h
 cases e:src[j]? with
 | none=>rw [e] at h;cases h
 | some o =>
  rw [e] at h
  cases o with
  | none=>cases h
  | some i =>
   simp only [aH6,Option.some.injEq] at h
   cases e2:env[i]? with
   | none=>rw [e2] at h;cases h
   | some o2 =>
    rw [e2] at h
    cases o2 with
    | none=>cases h
    | some t=>exact ⟨i,t,rfl,e2,h⟩
theorem auk {src:List (Option Nat)} {i j:Nat} {v:V} (h:src[j]?=some (some i)) (a : σ[i]?=some (some v)):(pick src σ)[j]?=some (some v):=by
 unfold pick
 rw [aA5,h]
 simp [a]
theorem ar0 {src:List (Option Nat)} {wi:TI} {g:TG} {b4:TT} {te:TE} {QO:Sl->En->Prop} (nd:(src.filterMap id).Nodup) (h:EvI B wi env fun ds W=>LcV B.K src g b4 te ds W fun ys e2=>QO (.own (OL ys)) e2):EvO B (tLC src wi g b4 te) env QO:=fun σ G H F Q I k=>by
 refine h σ G H F _ I fun J G1 H1 F1 ds W I1 g1 it ⟨Jv,j0,a6,js,jd⟩ p T=>?_
 let M:Nat->Bool:=fun i=>match W[i]? with | some (some (.own _))=>true | some (some (.io _))=>true | _=>false
 let inv:Nat->Option Nat:=fun i=>if M i=true then idxE i src 0 else none
 have D:∀ i j,inv i=some j->src[j]?=some (some i)/\M i=true:=fun i j hi=>by
  by_cases hm:M i=true
  ·have f:idxE i src 0=some j:=by simpa [inv,hm] using hi
   have:=(ae0 f).2
   exact ⟨by simpa using this,hm⟩
  ·simp [inv,hm] at hi
 have Z:∀ i j,src[j]?=some (some i)->M i=true->inv i=some j:=fun i j X hm=>by
  have e0:inv i=idxE i src 0:=by simp [inv,hm]
  cases e:idxE i src 0 with
  | none=>exact absurd X (akg e j)
  | some j' =>
   have:=(ae0 e).2
   rw [e0,e,amo src nd j j' i X (by simpa using this)]
 have inj:∀ i c j,inv i=some j->inv c=some j->i=c:=fun i c j Y C=>by
  have a:=(D i j Y).1
  rw [(D c j C).1] at a
  simpa using a.symm
 have b3:∀ i,M i=true->∃ A,W[i]?=some (some (.own A))\/W[i]?=some (some (.io A)):=fun i hm=>by
  cases e:W[i]? with
  | none=>simp [M,e] at hm
  | some o =>
   cases o with
   | none=>simp [M,e] at hm
   | some s =>
    cases s with
    | own A=>exact ⟨A,.inl rfl⟩
    | io A=>exact ⟨A,.inr rfl⟩
    | st d=>simp [M,e] at hm
    | scr ns=>simp [M,e] at hm
 have b2:∀ i ys e,Jv i ys e->∀ c j,inv c=some j->∃ A,e[j]?=some (some (.io A)):=fun i ys e hj c j hi=>by
  obtain ⟨X,hm⟩:=D c j hi
  obtain ⟨A,P⟩:=b3 c hm
  refine (a6 i ys e hj).get (x:=some (.io A)) ?_ rfl
  unfold aau
  rw [aA5,X]
  rcases P with P | P <;> simp [P,aij]
 -- between two turns
 let Wv:Nat->List V->St->Hp->Prop:=fun i ys σI H=>∃ G2 F2 e env2 yd,VI B G2 H σ env2 F2/\Same G1 G2/\H p=some (.lst ys)/\Rps G2 ys yd/\G2 p=none/\(∀ j,¬ F2 j p)/\Jv i yd e/\σI.length=e.length/\env2.length=W.length /\
  (∀ j s,e[j]?=some (some s)->∃ v,σI[j]?=some (some v)/\((∃ d,s=.st d/\Rp G2 v d/\∀ i,inv i ≠ some j)\/(∃ ns a,s=.scr ns/\v=.ref a/\SqL B.K G2 a (ns.map V.int)/\∀ i,inv i ≠ some j) ∨
   ∃ i A,inv i=some j/\s=.io A/\σ[i]?=some (some v)/\(env2[i]?=some (some (.own A))\/env2[i]?=some (some (.io A))))) /\
  (∀ i,inv i=none->env2[i]?=W[i]?)/\(∀ i j,inv i=some j->∃ A0 A,e[j]?=some (some (.io A))/\((W[i]?=some (some (.own A0))/\env2[i]?=some (some (.own A)))\/(W[i]?=some (some (.io A0))/\env2[i]?=some (some (.io A)))))
 have hb:B.H p=none:=I1.no_b T
 refine ⟨fun i m ys σI H=>m=ds.length - i/\i<=ds.length/\Wv i ys σI H,⟨ds.length,by simp,aF4 _,?_⟩,?_⟩
 ·refine ⟨G1,F1,aau src W,W,[],I1.aside (fun _ z=>nomatch z) (I1.no_g T) (I1.no_f T) hb,Same.refl _,aaf,.nil,I1.no_g T,I1.no_f T,j0,by simp [pick,aau],rfl,fun j s e=>?_,fun _ _=>rfl,fun i j hi=>?_⟩
  ·obtain ⟨i,t,X,ht,hp⟩:=akh e
   obtain ⟨v,hv,q⟩:=I1.sl i t ht
   refine ⟨v,auk X hv,?_⟩
   cases t with
   | st d =>
    cases hp
    refine .inl ⟨d,rfl,q.1,fun c f=>?_⟩
    have a:=(D c j f).1
    rw [X] at a
    have:i=c:=by simpa using a
    subst this
    have:=(D i j f).2
    simp [M,ht] at this
   | scr ns =>
    cases hp
    obtain ⟨⟨a,ea,sq⟩,_⟩:=q
    refine .inr (.inl ⟨ns,a,rfl,ea,sq,fun c f=>?_⟩)
    have a:=(D c j f).1
    rw [X] at a
    have:i=c:=by simpa using a
    subst this
    have:=(D i j f).2
    simp [M,ht] at this
   | own A=>cases hp;exact .inr (.inr ⟨i,A,Z i j X (by simp [M,ht]),rfl,hv,.inl ht⟩)
   | io A=>cases hp;exact .inr (.inr ⟨i,A,Z i j X (by simp [M,ht]),rfl,hv,.inr ht⟩)
  ·obtain ⟨X,hm⟩:=D i j hi
   obtain ⟨A,P⟩:=b3 i hm
   refine ⟨A,A,?_,?_⟩
   ·unfold aau
    rw [aA5,X]
    rcases P with P | P <;> simp [P,aij]
   ·rcases P with P | P
    ·exact .inl ⟨P,P⟩
    ·exact .inr ⟨P,P⟩
 ·rintro i m ys σI H2 ⟨rfl,hi,G2,F2,e,env2,yd,I2,g2,a2,ry,ga,fa,jv,ln,b9,sl,un,mv⟩
  refine ⟨a2,?_⟩
  by_cases hlt:i < ds.length
  ·refine .inr ⟨it.go i G2 H2 g2 I2.gh hlt,Wv (i+1),fun a1 c2 H' hw=>⟨ds.length - (i+1),by lia,rfl,hlt,hw⟩,fun x H3 y=>?_⟩
   obtain ⟨G3,o⟩:=it.yld i G2 H2 x H3 _ g2 I2.gh I2.ft (aA0 hlt) y
   obtain ⟨I3,X3⟩:=I2.out o
   have a8:=o.hh _ _ a2
   have a7:=fa
   have c1:G3 p=none:=by
    cases e':G3 p with
    | none=>rfl
    | some u =>
     rcases o.gn p u e' with q | q
     ·rw [ga] at q;cases q
     ·rw [a2] at q;cases q
   have b8:∀ j s,e[j]?=some (some s)->∃ v,σI[j]?=some (some v)/\((∃ d,s=.st d/\Rp G3 v d/\∀ i,inv i ≠ some j)\/(∃ ns a,s=.scr ns/\v=.ref a/\SqL B.K G3 a (ns.map V.int)/\∀ i,inv i ≠ some j) ∨
     ∃ i A,inv i=some j/\s=.io A/\σ[i]?=some (some v)/\(env2[i]?=some (some (.own A))\/env2[i]?=some (some (.io A)))):=fun j s es=>by
    obtain ⟨v,hv,q⟩:=sl j s es
    refine ⟨v,hv,?_⟩
    rcases q with ⟨d,a9,r,n⟩ | ⟨ns,a,a9,b5,r,n⟩ | q
    ·exact .inl ⟨d,a9,r.same o.gg,n⟩
    ·exact .inr (.inl ⟨ns,a,a9,b5,o.gg.seq r,n⟩)
    ·exact .inr (.inr q)
   have E3:=I3.enter (inv:=inv) (σI:=σI) (envI:=e) inj ln b8
   -- back from the turn
   have fin:∀ (R:St) (G4 H4:Hp) (F4:Nat->Addr->Prop) (e4:En) (a3:List PyData) (a1:List V) (o4:HO),VI ⟨B.K,G3,H3,ab8 H3 F2 inv,σI,fun j a=>∃ i,inv i=some j/\F2 i a⟩ G4 H4 R e4 F4->Jv (i+1) a3 e4->Rps G4 a1 a3 ->
     Wv (i+1) a1 R (upd H4 p (.lst a1))/\H4 p=some (.lst ys):=by
    intro R G4 H4 F4 e4 a3 a1 o4 I4 j4 r4
    have a0:=b2 (i+1) a3 e4 j4
    have c0:H4 p=some (.lst ys):=I4.rs p _ (by show ab8 H3 F2 inv p=_;rw [afr (fun c _ _=>a7 c)];exact a8)
    have b1:G4 p=none:=by
     cases e':G4 p with
     | none=>rfl
     | some u =>
      rcases I4.gn p u e' with q | q
      ·change G3 p=_ at q;rw [c1] at q;cases q
      ·change H3 p=_ at q;rw [a8] at q;cases q
    -- the slots of the outer frame
    let E:En:=(List.range env2.length).map fun c=>match inv c with
     | some j=>(match env2[c]?,e4[j]? with | some (some (.own _)),some (some (.io A))=>some (.own A) | some (some (.io _)),some (some (.io A))=>some (.io A) | _,_=>none)
     | none=>(env2[c]?).getD none
    have N:∀ c,c < env2.length->E[c]?=some (match inv c with
     | some j=>(match env2[c]?,e4[j]? with | some (some (.own _)),some (some (.io A))=>some (.own A) | some (some (.io _)),some (some (.io A))=>some (.io A) | _,_=>none)
     | none=>(env2[c]?).getD none):=fun c hl=>by
     simp only [E,aA5]
     rw [aA0 (by simpa using hl)]
     simp
    have L:=I3.leave (inv:=inv) (env2:=E) inj rfl rfl (fun a u q n=>by show ab8 H3 F2 inv a=_;rw [afr n];exact q) (fun c j f a z=>by obtain ⟨U,Y,C⟩:=z;rw [inj c U j f Y];exact C)
     (fun c j f=>by
      obtain ⟨A0,A,Y,C⟩:=mv c j f
      obtain ⟨v,hv,q⟩:=sl j _ Y
      rcases q with ⟨d,q,_⟩ | ⟨ns,a,q,_⟩ | ⟨U,b7,q1,q2,q3,_⟩
      ·cases q
      ·cases q
      ·rw [inj c U j f q1]
       show σI[j]?=_
       rw [hv,q3]) I4 a0 (by simp [E]) (fun c s es=>by
      have hl:c < env2.length:=by
       have:=(aA1.mp es).1
       simpa [E] using this
      rw [N c hl] at es
      cases f:inv c with
      | none =>
       refine .inl ⟨rfl,?_⟩
       rw [f] at es
       simp only [Option.some.injEq] at es
       cases q:env2[c]? with
       | none=>rw [q] at es;cases es
       | some u=>rw [q] at es;simp at es;rw [es]
      | some j =>
       rw [f] at es
       obtain ⟨A',S⟩:=a0 c j f
       obtain ⟨A0,A,Y,C⟩:=mv c j f
       simp only [S] at es
       rcases C with ⟨_,C⟩ | ⟨_,C⟩
       ·rw [C] at es
        simp only [Option.some.injEq] at es
        exact .inr ⟨j,A,A',rfl,S,.inl ⟨C,es.symm⟩⟩
       ·rw [C] at es
        simp only [Option.some.injEq] at es
        exact .inr ⟨j,A,A',rfl,S,.inr ⟨C,es.symm⟩⟩)
    have b0:∀ j,¬ (match inv j with | some j=>F4 j p | none=>F2 j p):=fun j z=>by
     cases hj:inv j with
     | none=>rw [hj] at z;exact a7 j z
     | some l =>
      rw [hj] at z
      obtain ⟨A',S⟩:=a0 j l hj
      obtain ⟨v,_,q⟩:=I4.sl l _ S
      rcases q.2.1 p z with ⟨U,_,q⟩ | q
      ·exact a7 U q
      ·change H3 p=_ at q;rw [a8] at q;cases q
    refine ⟨⟨G4,_,e4,E,a3,L.aside (fun _ z=>nomatch z) b1 b0 hb,g2.trans (o.gg.trans I4.g0),aaf,r4,b1,b0,j4,I4.ln,by simp [E,b9],fun j s es=>?_,fun c f=>?_,fun c j f=>?_⟩,c0⟩
    ·obtain ⟨v,hv,q⟩:=I4.sl j s es
     refine ⟨v,hv,?_⟩
     have a4:(∀ A,s ≠ .io A)->∀ c,inv c ≠ some j:=fun hn c f=>by
      obtain ⟨A,P⟩:=a0 c j f
      rw [es] at P
      exact hn A (by simpa using P)
     cases s with
     | st d=>exact .inl ⟨d,rfl,q.1,a4 (by intro A z;cases z)⟩
     | scr ns =>
      obtain ⟨⟨a,ea,sq⟩,_⟩:=q
      exact .inr (.inl ⟨ns,a,rfl,ea,sq,a4 (by intro A z;cases z)⟩)
     | own A =>
      have:=((a6 _ _ _ j4).got es).2
      simp [ag7] at this
     | io A =>
      obtain ⟨A0,h0⟩:=((a6 _ _ _ j4).got es).1 rfl
      obtain ⟨c,t,X,ht,hp⟩:=akh h0
      have hm:M c=true:=by
       cases t with
       | own A=>simp [M,ht]
       | io A=>simp [M,ht]
       | st d=>cases hp
       | scr ns=>cases hp
      have f:=Z c j X hm
      obtain ⟨B0,A1,Y,C⟩:=mv c j f
      have hl:c < env2.length:=by
       rcases C with ⟨_,C⟩ | ⟨_,C⟩ <;> exact (aA1.mp C).1
      refine .inr (.inr ⟨c,A,f,rfl,?_,?_⟩)
      ·have hS : σI[j]?=some (some v):=q.2.2
       obtain ⟨v',b6,q'⟩:=sl j _ Y
       rcases q' with ⟨d,q',_⟩ | ⟨ns,a,q',_⟩ | ⟨U,b7,q1,q2,q3,_⟩
       ·cases q'
       ·cases q'
       ·rw [inj c U j f q1,q3,← b6,hS]
      ·rw [N c hl,f]
       simp only [es]
       rcases C with ⟨_,C⟩ | ⟨_,C⟩
       ·rw [C];exact .inl rfl
       ·rw [C];exact .inr rfl
    ·by_cases hl:c < env2.length
     ·rw [N c hl,f]
      simp only
      rw [← un c f]
      rw [aA0 hl];rfl
     ·rw [aF1.mpr (by simp [E];lia),← un c f,aF1.mpr (by lia)]
    ·obtain ⟨A',S⟩:=a0 c j f
     obtain ⟨A0,A,Y,C⟩:=mv c j f
     have hl:c < env2.length:=by
      rcases C with ⟨_,C⟩ | ⟨_,C⟩ <;> exact (aA1.mp C).1
     refine ⟨A0,A',S,?_⟩
     rw [N c hl,f]
     simp only [S]
     rcases C with ⟨h3,C⟩ | ⟨h3,C⟩
     ·rw [C];exact .inl ⟨h3,rfl⟩
     ·rw [C];exact .inr ⟨h3,rfl⟩
   have hd:ds[i]?=some ds[i]:=aA0 hlt
   refine js i _ yd e hd jv ⟨B.K,G3,H3,ab8 H3 F2 inv,σI,fun j a=>∃ i,inv i=some j/\F2 i a⟩ rfl σI G3 H3 _ x _ _ E3 (aek o.ok.1) fun R G4 H4 F4 e4 I4 g4 q4=>?_
   refine q4 R G4 H4 F4 _ I4 fun b G5 H5 F5 e5 I5 g5 q5=>?_
   cases b with
   | false =>
    rw [aF0 aA9] at q5 ⊢
    obtain ⟨w,ac⟩:=fin R G5 H5 F5 e5 yd ys (.lst ys) I5 q5 (ry.same (o.gg.trans (g4.trans g5)))
    have:upd H5 p (.lst ys)=H5:=by
     funext b
     unfold upd
     split
     ·rename_i hb';rw [hb'];exact ac.symm
     ·rfl
    rw [this] at w
    exact w
   | true =>
    rw [aE9 rfl] at q5 ⊢
    refine q5 R G5 H5 F5 _ I5 fun y G6 H6 F6 d6 e6 I6 g6 r6 q6=>?_
    obtain ⟨w,ac⟩:=fin R G6 H6 F6 e6 (yd ++ [d6]) (ys ++ [y]) (.lst ys) I6 q6.2 ((ry.same (o.gg.trans (g4.trans (g5.trans g6)))).append (.cons r6 .nil))
    exact ⟨ac,by rw [ry.length];exact big (by have:=q6.1;lia),w⟩
  ·have ei:i=ds.length:=by lia
   subst ei
   refine .inl ⟨it.stop _ G2 H2 g2 I2.gh rfl,?_⟩
   have q:=jd yd e jv
   have eb:aik src W e=env2:=by
    apply aF6
    intro c
    unfold aik
    rw [afs,Nat.zero_add]
    have O:M c=false->env2[c]?=W[c]?:=fun hm=>un c (by simp [inv,hm])
    cases e2:W[c]? with
    | none =>
     rw [O (by simp [M,e2]),e2];rfl
    | some o =>
     cases o with
     | none=>rw [O (by simp [M,e2]),e2];rfl
     | some t =>
      have a5:∀ A,(t=.own A\/t=.io A)->M c=true:=fun A h=>by rcases h with rfl | rfl <;> simp [M,e2]
      cases t with
      | st d=>rw [O (by simp [M,e2]),e2];rfl
      | scr ns=>rw [O (by simp [M,e2]),e2];rfl
      | own A =>
       have hm:=a5 A (.inl rfl)
       simp only [aH6,ag6]
       cases e3:idxE c src 0 with
       | none =>
        have:inv c=none:=by simp [inv,e3]
        rw [un c this,e2]
       | some j =>
        have f:inv c=some j:=by simp [inv,hm,e3]
        obtain ⟨A0,A1,Y,C⟩:=mv c j f
        simp only [Y]
        rcases C with ⟨h3,C⟩ | ⟨h3,C⟩
        ·rw [C]
        ·rw [e2] at h3;cases h3
      | io A =>
       have hm:=a5 A (.inr rfl)
       simp only [aH6,ag6]
       cases e3:idxE c src 0 with
       | none =>
        have:inv c=none:=by simp [inv,e3]
        rw [un c this,e2]
       | some j =>
        have f:inv c=some j:=by simp [inv,hm,e3]
        obtain ⟨A0,A1,Y,C⟩:=mv c j f
        simp only [Y]
        rcases C with ⟨h3,C⟩ | ⟨h3,C⟩
        ·rw [e2] at h3;cases h3
        ·rw [C]
   rw [eb] at q
   refine k (.ref p) G2 H2 F2 (· = p) (.own (OL yd)) env2 I2 (g1.trans g2) ⟨⟨p,ys,rfl,a2,ry,fun b=>Iff.rfl⟩,fun a z=>by rw [z];exact hb,fun a z=>by rw [z];exact ga,fun a z=>by rw [z];exact ⟨_,a2⟩,fun j a z=>by rw [z];exact fa j⟩ q
end
def noIo (e:En):Bool:=e.all fun s => !isIo s
theorem aul {e:En} {j:Nat} {x:Option Sl} (h:noIo e=true) (a:e[j]?=some x):isIo x=false:=by
 have:=aE8.mp h x (aA2 a)
 simpa using this
theorem ajs {src:List (Option Nat)} {b e:En} (h:noIo (aau src b)=true):aik src b e=b:=by
 apply aF6
 intro i
 unfold aik
 rw [afs,Nat.zero_add]
 cases e2:b[i]? with
 | none=>rfl
 | some o =>
  have a:∀ A,(o=some (.own A)\/o=some (.io A))->idxE i src 0=none:=fun A c=>by
   cases e3:idxE i src 0 with
   | none=>rfl
   | some j =>
    have f:=(ae0 e3).2
    have:(aau src b)[j]?=some (some (.io A)):=by
     unfold aau
     rw [aA5,show src[j]?=some (some i) by simpa using f]
     rcases c with rfl | rfl <;> simp [e2,aij]
    have:=aul h this
    simp [isIo] at this
  cases o with
  | none=>rfl
  | some t =>
   cases t with
   | st d=>rfl
   | scr ns=>rfl
   | own A=>simp only [aH6,ag6,a A (.inl rfl)]
   | io A=>simp only [aH6,ag6,a A (.inr rfl)]
def stO:Option PyData->Option Sl:=Option.map Sl.st
theorem isIo_stO {o:Option PyData}:isIo (stO o)=false:=by cases o <;> rfl
theorem agn {o:Option PyData}:ag7 (stO o)=false:=by cases o <;> rfl
theorem ae8 {src:List (Option Nat)} {b:En}:∀ x∈aau src b,ag7 x=false:=by
 intro x a
 unfold aau at a
 obtain ⟨o,_,rfl⟩:=aB6.mp a
 cases o with
 | none=>rfl
 | some j =>
  dsimp only
  cases (b[j]?).getD none with
  | none=>rfl
  | some t=>cases t <;> rfl
theorem ae1:∀ {e:En},(∀ x∈e,ag7 x=false)->ioLe e e
 | [],_=>True.intro
 | x :: r,h=>⟨⟨rfl,h x aB7⟩,ae1 fun y a=>h y (aB4 _ a)⟩
section
variable {B:Bs} {env:En} {g:TG} {tif:TT} {te:TE} {K:Frag} {src:List (Option Nat)} {ds:List PyData} {e1:En} {R:List PyData->En->Prop}
theorem aum (f:PyData->PyData) (p:PyData->Bool) (m:noIo (aau src e1)=true) (B:ds.length<=999999)
  (h:∀ d∈ds,∀ a:Bs,a.K=K->EvT a tif (some (.st d) :: aau src e1) fun b n=>b=p d/\n=some (.st d) :: aau src e1/\(b=true->Ev a te (some (.st d) :: aau src e1) fun y l=>y=f d/\l=some (.st d) :: aau src e1))
  (r:R ((ds.filter p).map f) e1):LcV K (none :: src) (abp 0) tif te ds e1 R:=by
 have c:noIo (aau (none :: src) e1)=true:=by
  show ((none :: aau src e1).all fun s => !isIo s)=true
  rw [List.all_cons]
  exact (aG5 _ _).mpr ⟨rfl,m⟩
 refine ⟨fun i ys e=>ys=((ds.take i).filter p).map f/\∃ o,e=stO o :: aau src e1,⟨by simp,none,rfl⟩,?_,?_,?_⟩
 ·rintro i ys e ⟨_,o,rfl⟩
  exact ⟨⟨isIo_stO.symm,agn⟩,ae1 ae8⟩
 ·rintro i d ys e hd ⟨rfl,o,rfl⟩ a w
  have hi:i < ds.length:=(aA1.mp hd).1
  have q:ds.take (i+1)=ds.take i ++ [d]:=by rw [aG8,hd];rfl
  refine abc ?_
  show EvT a tif (some (.st d) :: aau src e1) _
  intro σ G H F Q I k
  refine h d (aA2 hd) a w σ G H F Q I fun b G' H' F' n g g' ⟨hb,A,x⟩=>k b G' H' F' n g g' ?_
  subst A
  by_cases hp:b=true
  ·rw [aE9 hp]
   intro σ G H F Q I k
   refine x hp σ G H F Q I fun v G' H' F' d' l g g' z ⟨u,j⟩=>k v G' H' F' d' l g g' z ?_
   subst u j
   refine ⟨?_,?_,some d,rfl⟩
   ·have:=List.length_filter_le p (ds.take i)
    simp only [aA3]
    have C:(ds.take i).length<=i:=by simp;lia
    lia
   ·rw [q,List.filter_append,aE0]
    have:p d=true:=by rw [← hb];exact hp
    simp [this]
  ·rw [aF0 hp]
   refine ⟨?_,some d,rfl⟩
   rw [q,List.filter_append,aE0]
   have:p d=false:=by rw [← hb];simpa using hp
   simp [this]
 ·rintro ys e ⟨rfl,o,rfl⟩
  rw [ajs c,aG2]
  exact r
theorem ap0 {α:Type} (xs:List α):xs.filter (fun _=>true)=xs:=by simp
theorem aos (f:PyData->PyData) (b:noIo (aau src e1)=true) (g:ds.length<=999999)
  (h:∀ d∈ds,∀ a:Bs,a.K=K->Ev a te (some (.st d) :: aau src e1) fun y i=>y=f d/\i=some (.st d) :: aau src e1)
  (j:R (ds.map f) e1):LcV K (none :: src) (abp 0) tYes te ds e1 R :=
 aum f (fun _=>true) b g (fun d hd a c=>ajq ⟨rfl,rfl,fun _=>h d hd a c⟩) (by rw [ap0];exact j)
end
section
variable {R:Sl->Prop}
theorem axf {g:Int->Int->Int} {i j:Int} (h:R (.st (.int (g i j)))):Op2 (rI0 fun i j => .int (g i j)) (.int i) (.int j) R:=fun G H c d Q gh b a k=>by
 cases b;cases a
 exact ⟨i,j,rfl,rfl,k _ _ _ _ _ (Out.refl gh (.int _)) h⟩
theorem axg {g:Int->Int->Bool} {i j:Int} (h:R (.st (.bool (g i j)))):Op2 (rI0 fun i j => .bl (g i j)) (.int i) (.int j) R:=fun G H c d Q gh b a k=>by
 cases b;cases a
 exact ⟨i,j,rfl,rfl,k _ _ _ _ _ (Out.refl gh (.bl _)) h⟩
theorem az1 {C:Int->Int->Prop} {g:Int->Int->Int} {i j:Int} (b:C i j) (h:R (.st (.int (g i j)))):Op2 (rI C fun i j => .int (g i j)) (.int i) (.int j) R:=fun G H d f Q gh c a k=>by
 cases c;cases a
 exact ⟨i,j,rfl,rfl,b,k _ _ _ _ _ (Out.refl gh (.int _)) h⟩
theorem az2 {g:Int->Int} {i:Int} (h:R (.st (.int (g i)))):Op1 (rU fun i => .int (g i)) (.int i) R:=fun G H b Q gh a k=>by
 cases a
 exact ⟨i,rfl,k _ _ _ _ _ (Out.refl gh (.int _)) h⟩
theorem axh {i j:Int} (h:R (.st (.bool (decide (i=j))))):Op2 rEq (.int i) (.int j) R:=fun G H c d Q gh b a k=>by
 cases b;cases a
 exact arl (k _ _ _ _ _ (Out.refl gh (.bl _)) h)
theorem axi {i j:Int} (h:R (.st (.bool (!decide (i=j))))):Op2 rNe (.int i) (.int j) R:=fun G H c d Q gh b a k=>by
 cases b;cases a
 exact azf (k _ _ _ _ _ (Out.refl gh (.bl _)) h)
theorem aot {x y:PyData} (a:aap x=true) (b:aap y=true) (hd:x.depth<=60) (h:R (.st (.bool (PyData.eqv x y)))):Op2 rEqD x y R:=fun G H f g Q gh d c k =>
 ⟨x,y,(d.rep a).same gh,(c.rep b).same gh,a,b,hd,k _ _ _ _ _ (Out.refl gh (.bl _)) h⟩
theorem ad6 {x y:PyData} (a:aap x=true) (b:aap y=true) (hd:x.depth<=60) (h:R (.st (.bool (!PyData.eqv x y)))):Op2 rNeD x y R:=fun G H f g Q gh d c k =>
 ⟨x,y,(d.rep a).same gh,(c.rep b).same gh,a,b,hd,k _ _ _ _ _ (Out.refl gh (.bl _)) h⟩
theorem aou {a:Bool} {x:PyData} {es:List PyData} (b:aap x=true) (c:plainDs es=true) (hd:x.depth<=60) (h:R (.st (.bool (if a then !es.any (fun z=>PyData.eqv z x) else es.any (fun z=>PyData.eqv z x))))):Op2 (rInD a) x (.list es) R:=fun G H g i Q gh f d k =>
 ⟨x,es,(f.rep b).same gh,.inl ((d.rep (by simpa [aap] using c)).same gh),b,c,hd,k _ _ _ _ _ (Out.refl gh (.bl _)) h⟩
theorem Rps.at {G:Hp} {vs:List V} {ds:List PyData} {i:Int} {d:PyData} (r:Rps G vs ds) (h:atI ds i=some d):∃ v,atI vs i=some v/\Rp G v d:=by
 unfold atI at h ⊢
 rw [r.length]
 cases e:ixN ds.length i with
 | none=>rw [e] at h;cases h
 | some j =>
  rw [e] at h
  exact r.get h
theorem axj {K:Frag} {ds:List PyData} {i:Int} {d:PyData} (hd:atI ds i=some d) (h:R (.st d)):Op2 (acr K) (.list ds) (.int i) R:=fun G H g j Q gh c b k=>by
 cases b
 cases c with
 | lst ha rs =>
  obtain ⟨v,f,a⟩:=rs.at hd
  exact aej (gh _ _ ha) f (k _ _ _ _ _ (Out.refl gh a) h)
theorem axk {K:Frag} {ds:List PyData} {i:Int} {d:PyData} (hd:atI ds i=some d) (h:R (.st d)):Op2 (acr K) (.tuple ds) (.int i) R:=fun G H g j Q gh c b k=>by
 cases b
 cases c with
 | tup ha rs =>
  obtain ⟨v,f,a⟩:=rs.at hd
  exact at8 (gh _ _ ha) f (k _ _ _ _ _ (Out.refl gh a) h)
def isNone:PyData->Bool
 | .none=>true
 | _=>false
theorem aov {G:Hp} {v:V} {x:PyData} (r:Rp G v x):decide (v=.non)=isNone x:=by cases r <;> rfl
theorem axl {x:PyData} (h:R (.st (.bool (isNone x)))):Op2 rIsN x .none R:=fun G H c d Q gh b a k=>by
 cases a
 refine ⟨rfl,?_⟩
 rw [aov b]
 exact k _ _ _ _ _ (Out.refl gh (.bl _)) h
theorem aun {x:PyData} (h:R (.st (.bool (!isNone x)))):Op2 avx x .none R:=fun G H c d Q gh b a k=>by
 cases a
 refine ⟨rfl,?_⟩
 rw [aov b]
 exact k _ _ _ _ _ (Out.refl gh (.bl _)) h
theorem axm {xs ys:List PyData} (b:xs.length+ys.length<=1000000) (h:R (.own (OL (xs ++ ys)))):Op2 rCat (.list xs) (.list ys) R:=fun G H f g Q gh c a k=>by
 cases c with
 | lst ha ra =>
  cases a with
  | lst hb rb =>
   refine azj (gh _ _ ha) (gh _ _ hb) ?_ fun p d=>k _ _ _ _ _ (Out.newL gh d (ra.append rb)) h
   rw [ra.length,rb.length];exact aF9 (big b)
theorem axn {xs:List PyData} {n:Int} (f : -(2 ^ 63)<=n) (d:n < 2 ^ 63) (b:xs.length * n.toNat<=1000000) (h:R (.own (OL (List.replicate n.toNat xs).flatten))):Op2 rRep (.list xs) (.int n) R:=fun G H i j Q gh g a k=>by
 cases a
 cases g with
 | lst ha ra =>
  refine ⟨_,n,_,rfl,rfl,gh _ _ ha,f,d,?_,fun p c=>k _ _ _ _ _ (Out.newL gh c (ra.rep _)) h⟩
  rw [ra.length];exact aF9 (big b)
theorem auo {K:Frag} {xs:List PyData} (h:R (.st (.int xs.length))):OpA (rLen K) [.list xs] R:=fun G H vs Q gh rs k=>by
 cases rs with
 | cons r t =>
  cases t
  cases r with
  | lst ha ra =>
   refine aoa (gh _ _ ha) ?_
   rw [ra.length]
   exact k _ _ _ _ _ (Out.refl gh (.int _)) h
theorem aup {K:Frag} {xs:List PyData} (h:R (.st (.int xs.length))):OpA (rLen K) [.tuple xs] R:=fun G H vs Q gh rs k=>by
 cases rs with
 | cons r t =>
  cases t
  cases r with
  | tup ha ra =>
   refine awu (gh _ _ ha) ?_
   rw [ra.length]
   exact k _ _ _ _ _ (Out.refl gh (.int _)) h
theorem auq {i j:Int} (h:R (.st (.int (if j > i then j else i)))):OpA ala [.int i,.int j] R:=fun G H vs Q gh rs k=>by
 obtain rfl:vs=[V.int i,V.int j]:=Rps.ints_inv (ns:=[i,j]) rs
 exact aob (k _ _ _ _ _ (Out.refl gh (.int _)) h)
theorem aur {i j:Int} (h:R (.st (.int (if j < i then j else i)))):OpA alb [.int i,.int j] R:=fun G H vs Q gh rs k=>by
 obtain rfl:vs=[V.int i,V.int j]:=Rps.ints_inv (ns:=[i,j]) rs
 exact aoc (k _ _ _ _ _ (Out.refl gh (.int _)) h)
theorem aus {b:Bool} (h:R (.st (.int (if b then 1 else 0)))):OpA alc [.bool b] R:=fun G H vs Q gh rs k=>by
 cases rs with
 | cons r t =>
  cases t;cases r
  exact aod (k _ _ _ _ _ (Out.refl gh (.int _)) h)
theorem ael {K:Frag} {ns:List Int} (a:ns ≠ []) (h:∀ m,ada ns m->R (.st (.int m))):OpA (aez K) [.list (ns.map .int)] R:=fun G H vs Q gh rs k=>by
 cases rs with
 | cons r t =>
  cases t
  cases r with
  | lst ha ra =>
   have:=Rps.ints_inv ra
   subst this
   exact ⟨_,ns,rfl,.inl (SqL.of (gh _ _ ha)),a,fun m hm=>k _ _ _ _ _ (Out.refl gh (.int _)) (h m hm)⟩
theorem aut {K:Frag} {ns:List Int} {ds:List PyData} (e:ds=ns.map .int) (a:ns ≠ []) (h:∀ m,ada ns m->R (.st (.int m))):OpA (aez K) [.tuple ds] R:=fun G H vs Q gh rs k=>by
 subst e
 cases rs with
 | cons r t =>
  cases t
  cases r with
  | tup ha ra =>
   have:=Rps.ints_inv ra
   subst this
   exact ⟨_,ns,rfl,.inr (SqT.of (gh _ _ ha)),a,fun m hm=>k _ _ _ _ _ (Out.refl gh (.int _)) (h m hm)⟩
theorem auu {K:Frag} {ns:List Int} {ds:List PyData} (e:ds=ns.map .int) (a:ns ≠ []) (h:∀ m,apw ns m->R (.st (.int m))):OpA (ale K) [.tuple ds] R:=fun G H vs Q gh rs k=>by
 subst e
 cases rs with
 | cons r t =>
  cases t
  cases r with
  | tup ha ra =>
   have:=Rps.ints_inv ra
   subst this
   exact ⟨_,ns,rfl,.inr (SqT.of (gh _ _ ha)),a,fun m hm=>k _ _ _ _ _ (Out.refl gh (.int _)) (h m hm)⟩
theorem aow {K:Frag} {ns:List Int} {ds:List PyData} (e:ds=ns.map .int) (h:R (.st (.int ns.sum))):OpA (apx K) [.list ds] R:=fun G H vs Q gh rs k=>by
 subst e
 cases rs with
 | cons r t =>
  cases t
  cases r with
  | lst ha ra =>
   have:=Rps.ints_inv ra
   subst this
   exact ⟨_,ns,rfl,SqL.of (gh _ _ ha),k _ _ _ _ _ (Out.refl gh (.int _)) h⟩
end
section
variable {B:Bs} {env:En} {QO:Sl->En->Prop} {Q':PyData->En->Prop} {te tl th:TE} {K:Frag}
end
def ail:PyData->Bool
 | .none | .bool _ | .int _ | .str _=>true
 | _=>false
theorem axo {G G':Hp} {v:V} {d:PyData} (r:Rp G v d) (h:ail d=true):Rp G' v d:=by
 cases r with
 | non=>exact .non
 | bl b=>exact .bl b
 | int i=>exact .int i
 | str x=>exact .str x
 | _=>simp [ail] at h
def Has (env:En) (i:Nat) (A:Own):Prop:=env[i]?=some (some (.own A))\/env[i]?=some (some (.io A))
section
variable {B:Bs} {env:En} {QO:Sl->En->Prop} {Q':PyData->En->Prop} {QT:Bool->En->Prop} {QE:En->Prop} {te ta tb tk:TE} {K:Frag} {i:Nat}
theorem VI.has {G H:Hp} {σ:St} {F:Nat->Addr->Prop} {A:Own} (I:VI B G H σ env F) (h:Has env i A):∃ v,σ[i]?=some (some v)/\A.P G H v (F i):=by
 rcases h with h | h
 ·obtain ⟨v,a,q⟩:=I.sl i _ h;exact ⟨v,a,q.1⟩
 ·obtain ⟨v,a,q⟩:=I.sl i _ h;exact ⟨v,a,q.1⟩
theorem VI.moment {G c d H H3:Hp} {σ:St} {F:Nat->Addr->Prop} {v:V} {s:Sl} {Fv:Addr->Prop} (I:VI B G H σ env F) (j:Same G c) (o:Out c H v d H3 s Fv):∃ g,Same G g/\VI B g H3 σ env F:=by
 refine ⟨fun a=>if H a=none then d a else G a,fun a u e=>?_,I.grow (fun a u e=>?_) (fun a u e=>?_) o.hh (fun a u e=>?_) fun a b e=>?_⟩
 ·show (if H a=none then d a else G a)=some u;rw [aF0 (by rw [I.gh a u e];simp)];exact e
 ·rw [aF0 (by rw [I.gh a u e];simp)];exact e
 ·by_cases h:H a=none
  ·rw [aE9 h] at e;exact o.gh a u e
  ·rw [aF0 h] at e;exact o.hh _ _ (I.gh a u e)
 ·by_cases h:H a=none
  ·exact .inr h
  ·rw [aF0 h] at e;exact .inl e
 ·have i:FT c H:=fun a b e=>j _ _ (I.ft a b e)
  by_cases h:H a=none
  ·rw [aE9 h];exact o.ft i a b e
  ·rw [aF0 h]
   obtain ⟨u,f⟩:=aih h
   have:=o.hh _ _ f
   rw [e] at this
   exact I.ft a b (by rw [f,← this])
theorem x_sc {d:PyData} {R:PyData->Prop} (a:ail d=true) (h:R d):∃ d',Sl.st d=.st d'/\ail d'=true/\R d':=⟨d,rfl,a,h⟩
theorem az3 {c:List PyData} (n:Has env i (OL c)) (h:Ev B tb env fun y e2=>∃ ds k d,Has e2 i (OL ds)/\y=.int k/\atI ds k=some d/\Q' d e2):Ev B (tOp (acr K) (tVar i) tb) env Q':=fun σ G H F Q I k=>by
 obtain ⟨v,m,_⟩:=I.has n
 refine ⟨v,m,h σ G H F _ I fun u o H2 F2 y e2 l A p ⟨ds,j,d,z,s,f,q⟩=>?_⟩
 subst s
 cases p
 obtain ⟨C,b,a,vs,r,ha,rs,_⟩:=l.has z
 rw [m] at b;cases b
 subst r
 obtain ⟨w,x,g⟩:=rs.at f
 exact aej ha x (k w o H2 F2 d e2 l A g q)
theorem VI.upd1 {G H:Hp} {σ:St} {F:Nat->Addr->Prop} {s:Sl} {A A':Own} {a:Addr} {o:HO} (I:VI B G H σ env F) (e:env[i]?=some (some s)) (f:s=.own A\/s=.io A) (j : σ[i]?=some (some (.ref a))) (hf:∀ b,F i b ↔ b=a) (g:A'.P G (upd H a o) (.ref a) (· = a)) (d:∀ xs,o ≠ .tup xs:=by intro _ z;cases z) :
  VI B G (upd H a o) σ (env.set i (some (reS s A'))) (putF F i (· = a)):=by
 refine I.change (A:=A') i e j (fun b u hb c=>by rw [aad (fun z=>hb ((hf b).mpr z))];exact c) (fun b u c=>?_) (fun b z=>⟨.inl ((hf b).mpr z),by rw [z];exact ⟨_,aaf⟩⟩) g (fun b h e=>?_) ?_
 ·by_cases z:b=a
  ·rw [z];exact ⟨_,aaf⟩
  ·rw [aad z];exact ⟨u,c⟩
 ·by_cases z:b=a
  ·subst z;rw [aaf] at e;exact absurd (aC5 e) (d _)
  ·rw [aad z] at e;exact I.ft b h e
 ·rcases f with rfl | rfl
  ·exact .inl ⟨rfl,A,rfl⟩
  ·exact .inr ⟨rfl,A,rfl⟩
theorem ar1 {g:List PyData} (o:Has env i (OL g)) (h:Ev B te env fun y e2=>∃ s ds,e2[i]?=some (some s)/\(s=.own (OL ds)\/s=.io (OL ds))/\ds.length<=999999/\Q' .none (e2.set i (some (reS s (OL (ds ++ [y])))))):Ev B (tBM K "list" ad4 (tVar i) (aa2 te tNil)) env Q':=fun σ G H F Q I k=>by
 obtain ⟨v,l,a,vs,x,ha,rs,_⟩:=I.has o
 subst x
 refine ⟨_,l,.inl ⟨rfl,_,SqL.of ha⟩,h σ G H F _ I fun u r H2 F2 y e2 m A w ⟨s,ds,es,n,C,q⟩=>?_⟩
 have z:Has e2 i (OL ds):=by rcases n with rfl | rfl;exact .inl es;exact .inr es
 obtain ⟨E,c,D,p,j,f,d,hf⟩:=m.has z
 rw [l] at c;cases c;cases j
 refine aex f (by rw [d.length];exact big (by lia)) ?_
 exact k _ r _ _ _ _ (m.upd1 (A':=OL (ds ++ [y])) es n l hf ⟨a,_,rfl,aaf,d.append (.cons w .nil),fun b=>Iff.rfl⟩) A .non q
theorem ap1 {a:List PyData} (c:Has env i (OL a)) (h:Ev B te env fun y e2=>∃ ds,e2[i]?=some (some (.own (OL ds)))/\ds.length<=999999/\Q' .none (e2.set i (some (.own (OL (ds ++ [y])))))):Ev B (tBM K "list" ad4 (tVar i) (aa2 te tNil)) env Q' :=
 ar1 c fun σ G H F Q I k=>h σ G H F Q I fun v G' H' F' d e b g r ⟨ds,j,f,q⟩=>k v G' H' F' d e b g r ⟨_,ds,j,.inl rfl,f,q⟩
theorem ap2 {g:List PyData} (o:Has env i (OL g)) (h:Ev B te env fun y e2=>∃ ds ys,y=.list ys/\e2[i]?=some (some (.own (OL ds)))/\ds.length+ys.length<=1000000/\Q' .none (e2.set i (some (.own (OL (ds ++ ys)))))):Ev B (tBM K "list" ai7 (tVar i) (aa2 te tNil)) env Q':=fun σ G H F Q I k=>by
 obtain ⟨v,m,a,vs,x,ha,rs,_⟩:=I.has o
 subst x
 refine ⟨_,m,.inl ⟨rfl,_,SqL.of ha⟩,h σ G H F _ I fun u r H2 F2 y e2 j z s ⟨ds,ys,w,es,n,q⟩=>?_⟩
 subst w
 cases s with
 | lst hb rb =>
  obtain ⟨C,c,A,p,l,f,d,hf⟩:=j.has (.inl es)
  rw [m] at c;cases c;cases l
  refine arm f (j.gh _ _ hb) (by rw [d.length,rb.length];exact aF9 (big n)) ?_
  exact k _ r _ _ _ _ (j.upd1 (A':=OL (ds ++ ys)) es (.inl rfl) m hf ⟨a,_,rfl,aaf,d.append rb,fun b=>Iff.rfl⟩) z .non q
theorem auv {d:PyData} {l:List PyData} (z:Has env i (OL l)) (h:Ev B tk env fun y e2=>∃ s ds k j,y=.int k/\e2[i]?=some (some s)/\(s=.own (OL ds)\/s=.io (OL ds))/\ixN ds.length k=some j/\QE (e2.set i (some (reS s (OL (ds.set j d)))))):EvG B (gSub (tVar i) tk apr) (.st d) env QE:=fun σ G H F v Fv Q I x k=>by
 obtain ⟨K,_⟩:=x.ok
 obtain ⟨v1,o,a,vs,E,ha,rs,_⟩:=I.has z
 subst E
 refine ⟨_,o,h σ G H F _ I fun u C H2 F2 y e2 p w D ⟨s,ds,n,j,J,es,r,M,q⟩=>?_⟩
 subst J
 cases D
 have L:Has e2 i (OL ds):=by rcases r with rfl | rfl;exact .inl es;exact .inr es
 obtain ⟨O,c,N,A,m,g,f,hf⟩:=p.has L
 rw [o] at c;cases c;cases m
 refine an9 g (by rw [f.length];exact M) ?_
 exact k _ C _ _ _ (p.upd1 (A':=OL (ds.set j d)) es r o hf ⟨a,_,rfl,aaf,f.set (K.same w) j,fun b=>Iff.rfl⟩) w q
theorem aox {t:TS} {D':VEnds} {A:Own} {d:PyData} (i:Nat) (e:env[i]?=some (some (.own A))) (f:Frz A d) (h:EvS B t D' (env.set i (some (.st d)))):EvS B t D' env:=fun σ G H F D I r=>by
 obtain ⟨v,b,a,g,J⟩:=I.frz e f
 exact h σ _ H _ D J (r.later g)
end
def tyD:PyData->String
 | .none => "NoneType" | .bool _ => "bool" | .int _ => "int" | .str _ => "str" | .list _ => "list" | .tuple _ => "tuple" | .dict _ => "dict"
def ad7 (T:String):Prop:=T = "int"\/T = "bool"\/T = "tuple"\/T = "list"\/T = "str"\/T = "dict"
def isiD (T:String) (d:PyData):Bool:=tyD d == T || (T == "int" && tyD d == "bool")
theorem a1g {K:Frag} {H:Hp} {v:V} {d:PyData} (r:Rp H v d):TyOf K H v (.type (tyD d)):=by
 cases r with
 | non=>exact .non
 | bl b=>exact .bl b
 | int i=>exact .int i
 | str x=>exact .str x
 | lst h _=>exact .lst h
 | tup h _=>exact .tup h
 | dk h _ _=>exact .dK h
 | dt h _ _=>exact .dT h
theorem a1h {K:Frag} {T:String} (h:ad7 T) (d:PyData):kitOne K (.type (tyD d)) (.type T)=some (isiD T d):=by
 rcases h with rfl | rfl | rfl | rfl | rfl | rfl
 ·cases d with
  | none=>exact ahp
  | bool _=>exact al7
  | int _=>exact ant
  | str _=>exact anv
  | list _=>exact amf
  | tuple _=>exact akz
  | dict _=>exact amh
 ·cases d with
  | none=>exact ahc
  | bool _=>exact akr
  | int _=>exact al9
  | str _=>exact amc
  | list _=>exact akw
  | tuple _=>exact ajm
  | dict _=>exact ak1
 ·cases d with
  | none=>exact agj
  | bool _=>exact ajk
  | int _=>exact aku
  | str _=>exact akv
  | list _=>exact ajl
  | tuple _=>exact aie
  | dict _=>exact ajp
 ·cases d with
  | none=>exact ahd
  | bool _=>exact aks
  | int _=>exact ama
  | str _=>exact amd
  | list _=>exact akx
  | tuple _=>exact ajn
  | dict _=>exact ak2
 ·cases d with
  | none=>exact ahq
  | bool _=>exact al8
  | int _=>exact anu
  | str _=>exact anw
  | list _=>exact amg
  | tuple _=>exact ak0
  | dict _=>exact ami
 ·cases d with
  | none=>exact ahe
  | bool _=>exact akt
  | int _=>exact amb
  | str _=>exact ame
  | list _=>exact aky
  | tuple _=>exact ajo
  | dict _=>exact ak3
section
variable {B:Bs} {env:En} {QO:Sl->En->Prop} {Q':PyData->En->Prop} {QT:Bool->En->Prop} {QE:En->Prop} {te ta tb tk:TE} {K:Frag} {i:Nat}
theorem az4 {T:String} (b:ad7 T) (h:Ev B te env fun d e=>Q' (.bool (isiD T d)) e):Ev B (tCB (rIsi K) (aa2 te (aa2 (tC (.ty T)) tNil))) env Q':=fun σ G H F Q I k =>
 h σ G H F _ I fun v g f c d l a i m j=>⟨v,T,_,_,rfl,a1g (m.same a.gh),a1h b d,k _ g f c _ l a i (.bl _) j⟩
theorem az5:ad7 "int":=.inl rfl
theorem axp:ad7 "bool":=.inr (.inl rfl)
theorem auw:ad7 "tuple":=.inr (.inr (.inl rfl))
theorem axq:ad7 "list":=.inr (.inr (.inr (.inl rfl)))
theorem aux {A:Own} {D':VEnds} (e:env[i]?=some (some (.own A))) (q:D'.rt (.own A) (env.set i none)):EvS B (tRet (tVar i)) D' env:=aop (auc e q)
theorem a1i {n m:Nat} {P:Prop} (h:n<=m) (q:P):n<=m/\P:=⟨h,q⟩
theorem az6 {ds:List PyData} {e2:En} {R:List PyData->Prop} (e:e2[i]?=some (some (.own (OL ds)))) (a:ds.length<=999999) (q:R ds):∃ ds,e2[i]?=some (some (.own (OL ds)))/\ds.length<=999999/\R ds:=⟨ds,e,a,q⟩
theorem a1j {ds:List PyData} {d:PyData} {k:Int} {e2:En} {R:PyData->Prop} (b:Has e2 i (OL ds)) (h:atI ds k=some d) (q:R d):∃ ds a d,Has e2 i (OL ds)/\PyData.int k=.int a/\atI ds a=some d/\R d:=⟨ds,k,d,b,rfl,h,q⟩
theorem ap3 {ds:List PyData} {k:Int} {j:Nat} {e2:En} {R:Sl->List PyData->Nat->Prop} (e:e2[i]?=some (some (.own (OL ds)))) (b:ixN ds.length k=some j) (q:R (.own (OL ds)) ds j):∃ s ds a j,PyData.int k=.int a/\e2[i]?=some (some s)/\(s=.own (OL ds)\/s=.io (OL ds))/\ixN ds.length a=some j/\R s ds j:=⟨_,ds,k,j,rfl,e,.inl rfl,b,q⟩
theorem x_rt {A:Own} {e2:En} {R:Own->Prop} (e:e2[0]?=some (some (.io A))) (q:R A):∃ A',e2[0]?=some (some (.io A'))/\R A':=⟨A,e,q⟩
theorem x_st {b:Bool} {R:Bool->Prop} (h:R b):∃ c,Sl.st (.bool b)=.st (.bool c)/\R c:=⟨b,rfl,h⟩
theorem auy {ds:List PyData} {R:Bool->Prop} (h:R (!ds.isEmpty)):∃ k,TruD (.list ds) k/\R k:=⟨_,rfl,h⟩
theorem lenP {f:VP} {n:Nat} {vs:List V} {H:Hp} {Q:VK} {E:XK} (h:spP K f vs H Q E) (hf:∀ ss Q',f ss Q'->ss.length=n):vs.length=n:=by
 obtain ⟨G,ss,Q',_,_,a,q,_⟩:=h
 rw [a.length];exact hf ss Q' q
theorem lenI {f:VIo} {n:Nat} {vs:List V} {H:Hp} {Q:VK} {E:XK} (h:spI K f vs H Q E) (hf:∀ A ss Q',f A ss Q'->ss.length+1=n):vs.length=n:=by
 obtain ⟨v0,b,G,R,A,ss,F0,Q',rfl,_,_,_,_,_,_,a,q,_⟩:=h
 rw [aE1,a.length];exact hf A ss Q' q
theorem aim {f:VIo} {t:TA} {E:XK} {A:Own} (c:env[i]?=some (some (.io A))) (h:EvA B t env fun ds a=>a[i]?=some (some (.io A))/\f A (ds.map Sl.st) fun A' s=>QO s (a.set i (some (.io A')))):EvO B (abq (spI K f) [] E (aa2 (tVar i) t)) env QO :=
 agm ⟨_,c⟩ fun σ G H F Q I k=>h σ G H F Q I fun vs G' H' F' ds a b g r ⟨d,q⟩=>k vs G' H' F' ds a b g r ⟨_,A,d,.inr rfl,q⟩
theorem ain {f:VIo} {t:TA} {E:XK} {A:Own} (c:env[i]?=some (some (.own A))) (h:EvA B t env fun ds a=>a[i]?=some (some (.own A))/\f A (ds.map Sl.st) fun A' s=>QO s (a.set i (some (.own A')))):EvO B (abq (spI K f) [] E (aa2 (tVar i) t)) env QO :=
 agm ⟨_,c⟩ fun σ G H F Q I k=>h σ G H F Q I fun vs G' H' F' ds a b g r ⟨d,q⟩=>k vs G' H' F' ds a b g r ⟨_,A,d,.inl rfl,q⟩
theorem aki {f:VIo} {t:TA} {E:XK} {A:Own} (b:env[i]?=some (some (.io A))) (h:EvA B t env fun ds a=>a[i]?=some (some (.io A))/\f A (ds.map Sl.st) fun A' s=>FQ s fun d=>Q' d (a.set i (some (.io A')))):Ev B (abq (spI K f) [] E (aa2 (tVar i) t)) env Q':=abg (aim b h)
theorem ar2 {f:VIo} {t:TA} {E:XK} {A:Own} (b:env[i]?=some (some (.own A))) (h:EvA B t env fun ds a=>a[i]?=some (some (.own A))/\f A (ds.map Sl.st) fun A' s=>FQ s fun d=>Q' d (a.set i (some (.own A')))):Ev B (abq (spI K f) [] E (aa2 (tVar i) t)) env Q':=abg (ain b h)
theorem a1k {P Q:Prop} (h:P) (q:Q):P/\Q:=⟨h,q⟩
theorem a1l {src:List (Option Nat)} {j:TI} {g:TG} {f:TT} (nd:(src.filterMap id).Nodup) (h:EvI B j env fun ds i=>LcV B.K src g f te ds i fun ys e2=>Q' (.list ys) e2):Ev B (tLC src j g f te) env Q':=abg (ar0 nd fun σ G H F R I k=>h σ G H F R I fun J G' H' F' ds i l g' it ⟨m,a,b,c,d⟩=>k J G' H' F' ds i l g' it ⟨m,a,b,c,fun ys e q=>acz (d ys e q)⟩)
end
end VL
namespace VL
open PySem L2
section
variable {B:Bs} {QE:En->Prop} {Q':PyData->En->Prop} {s:Sl} {r:En} {A:Own} {d:PyData} {x0 x1 x2 x3 x4 x5 x6 x7 x8 x9 x10 x11 x12 x13 x14 x15 x16 x17 x18 x19 x20 x21 x22 x23 x24 x25:Option Sl}
theorem az7 (h:QE (x0 :: some s :: r)):EvG B (abp 1) s (x0 :: x1 :: r) QE:=abc h
theorem az8 (h:QE (x0 :: x1 :: some s :: r)):EvG B (abp 2) s (x0 :: x1 :: x2 :: r) QE:=abc h
theorem az9 (h:QE (x0 :: x1 :: x2 :: some s :: r)):EvG B (abp 3) s (x0 :: x1 :: x2 :: x3 :: r) QE:=abc h
theorem a0a (h:QE (x0 :: x1 :: x2 :: x3 :: some s :: r)):EvG B (abp 4) s (x0 :: x1 :: x2 :: x3 :: x4 :: r) QE:=abc h
theorem a0b (h:QE (x0 :: x1 :: x2 :: x3 :: x4 :: some s :: r)):EvG B (abp 5) s (x0 :: x1 :: x2 :: x3 :: x4 :: x5 :: r) QE:=abc h
theorem a0c (h:QE (x0 :: x1 :: x2 :: x3 :: x4 :: x5 :: some s :: r)):EvG B (abp 6) s (x0 :: x1 :: x2 :: x3 :: x4 :: x5 :: x6 :: r) QE:=abc h
theorem a0d (h:QE (x0 :: x1 :: x2 :: x3 :: x4 :: x5 :: x6 :: some s :: r)):EvG B (abp 7) s (x0 :: x1 :: x2 :: x3 :: x4 :: x5 :: x6 :: x7 :: r) QE:=abc h
theorem a0e (h:QE (x0 :: x1 :: x2 :: x3 :: x4 :: x5 :: x6 :: x7 :: some s :: r)):EvG B (abp 8) s (x0 :: x1 :: x2 :: x3 :: x4 :: x5 :: x6 :: x7 :: x8 :: r) QE:=abc h
theorem a0f (h:QE (x0 :: x1 :: x2 :: x3 :: x4 :: x5 :: x6 :: x7 :: x8 :: some s :: r)):EvG B (abp 9) s (x0 :: x1 :: x2 :: x3 :: x4 :: x5 :: x6 :: x7 :: x8 :: x9 :: r) QE:=abc h
theorem axr (h:QE (x0 :: x1 :: x2 :: x3 :: x4 :: x5 :: x6 :: x7 :: x8 :: x9 :: some s :: r)):EvG B (abp 10) s (x0 :: x1 :: x2 :: x3 :: x4 :: x5 :: x6 :: x7 :: x8 :: x9 :: x10 :: r) QE:=abc h
end
end VL
namespace Gr
structure Ring (T:Int->Int->Prop) (a:Int) (k:Nat) (far:Int->Option Nat) (edge:List Int):Prop where
 lab:∀ v d,far v=some d ↔ (Dist T a v d/\d<=k)
 edg:∀ v,v∈edge ↔ Dist T a v k
structure Mid (T:Int->Int->Prop) (k:Nat) (far0:Int->Option Nat) (edge:List Int) (done:Int->Prop) (far:Int->Option Nat) (beyond:List Int):Prop where
 old:∀ v d,far0 v=some d->far v=some d
 new:∀ v,v∈beyond ↔ (far0 v=none/\far v ≠ none)
 val:∀ v d,far0 v=none->far v=some d->d=k+1/\∃ u,u∈edge/\T u v
 dn:∀ u w,done u->T u w->far w ≠ none
def label (far:Int->Option Nat) (w:Int) (d:Nat):Int->Option Nat:=fun v=>if v=w then some d else far v
theorem label_same {far:Int->Option Nat} {w:Int} {d:Nat}:label far w d w=some d:=aE9 rfl
theorem label_ne {far:Int->Option Nat} {w v:Int} {d:Nat} (h:v ≠ w):label far w d v=far v:=aF0 h
variable {T:Int->Int->Prop} {a:Int} {k:Nat} {far0 far:Int->Option Nat} {edge beyond:List Int} {done:Int->Prop}
theorem Ring.start:Ring T a 0 (label (fun _=>none) a 0) [a]:=by
 refine ⟨fun v d=>?_,fun v=>?_⟩
 ·by_cases h:v=a
  ·subst h
   rw [label_same]
   constructor
   ·intro e;cases e;exact ⟨Dist.self T v,aA6 _⟩
   ·rintro ⟨h,_⟩;rw [h.uniq (Dist.self T v)]
  ·rw [label_ne h]
   constructor
   ·intro e;cases e
   ·rintro ⟨b,c⟩
    have:d=0:=by lia
    subst this
    cases b.1
    exact absurd rfl h
 ·simp only [aC1]
  constructor
  ·rintro rfl;exact Dist.self T v
  ·intro h;cases h.1;rfl
theorem Mid.start:Mid T k far0 edge (fun _=>False) far0 [] :=
 ⟨fun v d h=>h,fun v=>⟨fun h=>by simp at h,fun h=>absurd h.1 h.2⟩,fun v d h g=>(by rw [h] at g;cases g),fun u w h=>h.elim⟩
theorem Mid.add (m:Mid T k far0 edge done far beyond) {u w:Int} (i:u∈edge) (t:T u w) (b:far w=none):Mid T k far0 edge done (label far w (k+1)) (beyond ++ [w]):=by
 have a:far0 w=none:=by
  cases e:far0 w with
  | none=>rfl
  | some d=>rw [m.old w d e] at b;cases b
 refine ⟨fun v d h=>?_,fun v=>?_,fun v d h g=>?_,fun x y f c=>?_⟩
 ·rw [label_ne (by rintro rfl;rw [a] at h;cases h)];exact m.old v d h
 ·by_cases hv:v=w
  ·subst hv
   simp [label_same,a]
  ·rw [label_ne hv]
   simp only [aA7,aC1,hv,or_false]
   exact m.new v
 ·by_cases hv:v=w
  ·subst hv
   rw [label_same] at g
   cases g
   exact ⟨rfl,u,i,t⟩
  ·rw [label_ne hv] at g
   exact m.val v d h g
 ·by_cases hv:y=w
  ·subst hv;rw [label_same];simp
  ·rw [label_ne hv];exact m.dn x y f c
theorem Mid.did (m:Mid T k far0 edge done far beyond) {u:Int} (h:∀ w,T u w->far w ≠ none):Mid T k far0 edge (fun x=>done x\/x=u) far beyond :=
 ⟨m.old,m.new,m.val,fun x w a t=>by rcases a with a | rfl;exact m.dn x w a t;exact h w t⟩
theorem Mid.imp {a:Int->Prop} (m:Mid T k far0 edge done far beyond) (h:∀ u,a u->done u):Mid T k far0 edge a far beyond :=
 ⟨m.old,m.new,m.val,fun x w b t=>m.dn x w (h x b) t⟩
theorem Ring.next (r:Ring T a k far0 edge) (m:Mid T k far0 edge done far beyond) (hd:∀ u∈edge,done u):Ring T a (k+1) far beyond:=by
 have g:∀ v,far0 v=none->far v ≠ none->Dist T a v (k+1):=fun v f b=>by
  cases e:far v with
  | none=>exact absurd e b
  | some d =>
   obtain ⟨rfl,u,j,t⟩:=m.val v d f e
   obtain ⟨l,p,h⟩:=((r.edg u).mp j).next t
   by_cases i:l<=k
   ·rw [(r.lab v l).mpr ⟨h,i⟩] at f;cases f
   ·have:l=k+1:=by lia
    rw [← this];exact h
 have c:∀ v,Dist T a v (k+1)->far0 v=none/\far v ≠ none:=fun v h=>by
  refine ⟨?_,?_⟩
  ·cases e:far0 v with
   | none=>rfl
   | some d =>
    obtain ⟨b,n⟩:=(r.lab v d).mp e
    have:=b.uniq h
    lia
  ·obtain ⟨u,t,j⟩:=h.pred
   exact m.dn u v (hd u ((r.edg u).mpr j)) t
 refine ⟨fun v d=>?_,fun v=>⟨fun h=>?_,fun h=>(m.new v).mpr (c v h)⟩⟩
 ·constructor
  ·intro e
   cases e0:far0 v with
   | some d0 =>
    rw [m.old v d0 e0] at e
    cases e
    obtain ⟨b,n⟩:=(r.lab v d).mp e0
    exact ⟨b,by lia⟩
   | none =>
    have i:=(m.val v d e0 e).1
    subst i
    exact ⟨g v e0 (by rw [e];simp),aA6 _⟩
  ·rintro ⟨h,i⟩
   by_cases hd':d<=k
   ·exact m.old v d ((r.lab v d).mpr ⟨h,hd'⟩)
   ·have o:d=k+1:=by lia
    subst o
    obtain ⟨f,b⟩:=c v h
    cases e:far v with
    | none=>exact absurd e b
    | some d=>rw [(m.val v d f e).1]
 ·obtain ⟨f,b⟩:=(m.new v).mp h
  exact g v f b
theorem Dist.down {v:Int}:∀ {d:Nat},Dist T a v d->∀ j,j<=d->∃ u,Dist T a u j
 | 0,h,j,hj=>⟨v,by rw [show j=0 by lia];exact h⟩
 | d+1,h,j,hj=>by
  by_cases e:j=d+1
  ·rw [e];exact ⟨v,h⟩
  ·obtain ⟨u,_,b⟩:=h.pred
   exact Dist.down b j (by lia)
def farO (T:Int->Int->Prop) (a v:Int):Option Nat:=open Classical in if h:∃ d,Dist T a v d then some (Classical.choose h) else none
theorem farO_some {v:Int} {d:Nat}:farO T a v=some d ↔ Dist T a v d:=by
 unfold farO
 constructor
 ·intro h
  split at h
  ·rename_i b
   cases h
   exact Classical.choose_spec b
  ·cases h
 ·intro h
  have b:∃ d,Dist T a v d:=⟨d,h⟩
  rw [dif_pos b,(Classical.choose_spec b).uniq h]
theorem farO_none {v:Int}:farO T a v=none ↔ ∀ d,¬ Dist T a v d:=by
 constructor
 ·intro h d hd
  rw [farO_some.mpr hd] at h;cases h
 ·intro h
  cases e:farO T a v with
  | none=>rfl
  | some d=>exact absurd (farO_some.mp e) (h d)
theorem axs {v:Int} {o:Option Nat} (h:∀ d,o=some d ↔ Dist T a v d):o=farO T a v:=by
 cases o with
 | some d=>exact (farO_some.mpr ((h d).mp rfl)).symm
 | none=>exact (farO_none.mpr fun d hd=>by cases (h d).mpr hd).symm
theorem Ring.fin (r:Ring T a k far0 []) (v:Int):far0 v=farO T a v:=by
 refine axs fun d=>?_
 rw [r.lab]
 refine ⟨fun h=>h.1,fun h=>⟨h,?_⟩⟩
 apply aD3
 intro c
 obtain ⟨u,b⟩:=h.down k (by lia)
 have:=(r.edg u).mpr b
 simp at this
theorem Walk.app {u v w:Int} {i j:Nat} (h:Walk T u i v) (g:Walk T v j w):Walk T u (i+j) w:=by
 induction g with
 | refl=>exact h
 | step _ t ih=>exact .step ih t
theorem Walk.rev (a:∀ u v,T u v->T v u) {u v:Int} {i:Nat} (h:Walk T u i v):Walk T v i u:=by
 induction h with
 | refl=>exact .refl
 | @step j x y _ t ih =>
  have:=(Walk.step (T:=T) (u:=y) .refl (a _ _ t)).app ih
  rw [Nat.add_comm] at this
  exact this
theorem farO_self:farO T a a=some 0:=farO_some.mpr (Dist.self T a)
theorem Dist.lt {n:Nat} (o:∀ u v,T u v->0<=v/\v < (n:Int)) (ha:0<=a/\a < (n:Int)) {v:Int} {d:Nat} (h:Dist T a v d):d < n:=by
 -- the places of a shortest way are unlike
 have g:∀ d v,Dist T a v d->∃ l:List Int,l.length=d+1/\l.Nodup/\∀ x∈l,(0<=x/\x < (n:Int))/\∃ j,j<=d/\Dist T a x j:=by
  intro d
  induction d with
  | zero =>
   intro v h
   have:v=a:=by cases h.1;rfl
   subst this
   exact ⟨[v],rfl,by simp,fun x b=>by simp at b;subst b;exact ⟨ha,0,aA6 _,h⟩⟩
  | succ d ih =>
   intro v h
   obtain ⟨u,t,p⟩:=h.pred
   obtain ⟨l,i,f,c⟩:=ih u p
   refine ⟨v :: l,by simp [i],aH8.mpr ⟨fun hm=>?_,f⟩,fun x b=>?_⟩
   ·obtain ⟨_,j,w,hd⟩:=c v hm
    have:=hd.uniq h
    lia
   ·rcases aA8.mp b with rfl | b
    ·exact ⟨o _ _ t,d+1,aA6 _,h⟩
    ·obtain ⟨q,j,w,hd⟩:=c x b
     exact ⟨q,j,by lia,hd⟩
 obtain ⟨l,i,f,c⟩:=g d v h
 have few:∀ (n:Nat) (l:List Int),l.Nodup->(∀ v∈l,0<=v/\v < (n:Int))->l.length<=n:=by
  intro n
  induction n with
  | zero =>
   intro l _ h
   cases l with
   | nil=>simp
   | cons v r=>have:=h v (by simp);lia
  | succ n ih =>
   intro l hn h
   have i:=ih (l.erase (n:Int)) (hn.erase _) fun v m=>by
    have hm:=List.mem_of_mem_erase m
    have hb:=h v hm
    have s:v ≠ (n:Int):=by
     rintro rfl
     exact absurd m (List.Nodup.not_mem_erase hn)
    lia
   have f:l.length<=(l.erase (n:Int)).length+1:=by
    rw [List.length_erase]
    split <;> lia
   lia
 have:=few n l f fun x b=>(c x b).1
 lia
end Gr
namespace VL
open PySem PySem.Spec L2
theorem nodup_ix {α:Type} {xs:List α} (h:xs.Nodup) {i j:Nat} (hi:i < xs.length) (a:j < xs.length) (e:xs[i]=xs[j]):i=j:=by
 have p:=aG1.mp h
 rcases Nat.lt_trichotomy i j with q | q | q
 ·exact absurd e (p i j hi a q)
 ·exact q
 ·exact absurd e.symm (p j i a hi q)
def OLL (dss:List (List PyData)):Own where
 P:=fun G H v F=>∃ (a:Addr) (as:List Addr),v=.ref a/\H a=some (.lst (as.map V.ref))/\as.Nodup/\a ∉ as/\as.length=dss.length/\(∀ (i:Nat) b ds,as[i]?=some b->dss[i]?=some ds->∃ vs,H b=some (.lst vs)/\Rps G vs ds)/\∀ b,F b ↔ b=a\/b∈as
 mono:=fun ⟨a,as,e,h,n1,n2,l,r,f⟩ g hh=>⟨a,as,e,hh a _ ((f a).mpr (.inl rfl)) h,n1,n2,l,fun i b ds hb hd=>by
  obtain ⟨vs,h1,h2⟩:=r i b ds hb hd
  exact ⟨vs,hh b _ ((f b).mpr (.inr (aA2 hb))) h1,h2.same g⟩,f⟩
 dom:=fun ⟨a,as,e,h,n1,n2,l,r,f⟩ b z=>by
  rcases (f b).mp z with rfl | z
  ·exact ⟨_,h⟩
  ·obtain ⟨i,hi,e⟩:=aH0.mp z
   have hb:as[i]?=some b:=by rw [aA0 hi,e]
   obtain ⟨vs,h1,_⟩:=r i b _ hb (aA0 (by rw [← l];exact hi))
   exact ⟨_,h1⟩
theorem amq {G:Hp}:∀ {vs:List V} {ds:List PyData},vs.length=ds.length->(∀ (i:Nat) v d,vs[i]?=some v->ds[i]?=some d->Rp G v d)->Rps G vs ds
 | [],[],_,_ => .nil
 | [],_ :: _,h,_=>by simp at h
 | _ :: _,[],h,_=>by simp at h
 | v :: vs,d :: ds,h,k => .cons (k 0 v d rfl rfl) (amq (by simpa using h) fun i v d b a=>k (i+1) v d (by simpa using b) (by simpa using a))
theorem ajt {c:List (List PyData)}:Frz (OLL c) (.list (c.map .list)):=fun G H v F ⟨a,as,e,h,q,p,l,r,f⟩ n g=>by
 subst e
 refine .lst (by rw [adc ((f a).mpr (.inl rfl))];exact h) (amq (by simp [l]) fun i u d j hd=>?_)
 rw [aA5] at j hd
 cases hb:as[i]? with
 | none=>rw [hb] at j;cases j
 | some b =>
  cases hds:c[i]? with
  | none=>rw [hds] at hd;cases hd
  | some ds =>
   rw [hb] at j;rw [hds] at hd
   cases j;cases hd
   obtain ⟨vs,o,m⟩:=r i b ds hb hds
   exact .lst (by rw [adc ((f b).mpr (.inr (aA2 hb)))];exact o) (m.same (abl n))
section
variable {B:Bs} {env:En} {QO:Sl->En->Prop} {Q':PyData->En->Prop} {D':VEnds} {K:Frag} {i:Nat}
theorem a0g {a:List (List PyData)} {R:PyData->Prop} (h:R (.list (a.map .list))):FQ (.own (OLL a)) R:=⟨_,ajt,h⟩
theorem axt {src:List (Option Nat)} {wi:TI} {j:Nat} (h:EvI B wi env fun ds U=>ds.length<=1000000/\QO (.own (OLL (List.replicate ds.length []))) U):EvO B (tLC src wi (abp j) tYes (tLst tNil)) env QO:=fun σ G H F Q I k=>by
 refine h σ G H F _ I fun J P L F1 ds U s g1 it ⟨a1,q⟩ c d=>?_
 let W:Nat->List V->Hp->Prop:=fun n ys H=>∃ (as:List Addr) (g:Hp),ys=as.map V.ref/\as.length=n/\as.Nodup/\c ∉ as/\(∀ b∈as,L b=none/\g b=none/\H b=some (.lst []))/\H c=some (.lst ys)/\g c=none/\Same P g/\Same g H/\Same L H/\(∀ a o,g a=some o->P a=some o\/L a=none)/\FT g H
 refine ⟨fun n m ys σI H=>m=ds.length - n/\n<=ds.length/\W n ys H,⟨ds.length,by simp,aF4 _,[],P,rfl,rfl,List.nodup_nil,by simp,fun b hb=>by simp at hb,aaf,s.no_g d,Same.refl _,s.gh.trans (abb d),abb d,fun a o e => .inl e,fun a Z e=>?_⟩,?_⟩
 ·by_cases z:a=c
  ·subst z;rw [aaf] at e;cases e
  ·rw [aad z] at e;exact s.ft a Z e
 rintro n m ys σI H2 ⟨rfl,hn,as,g,rfl,N,nd,na,all,f,S,C,l,r,D,v⟩
 refine ⟨f,?_⟩
 by_cases hlt:n < ds.length
 ·refine .inr ⟨it.go n g H2 C l hlt,fun E R H'=>W (n+1) E H',fun E R H' hw=>⟨ds.length - (n+1),by lia,rfl,hlt,hw⟩,fun x H3 y=>?_⟩
  obtain ⟨M,o⟩:=it.yld n g H2 x H3 _ C l v (aA0 hlt) y
  refine ai9 (al1 (aci (ark (agf ⟨by decide,fun p A=>?_⟩))))
  have n2:H2 p=none:=aa9 o.hh A
  have n1:L p=none:=aa9 r n2
  have O:p ≠ c:=(aar (o.hh _ _ f) A).symm
  have K:p ∉ as:=fun z=>by
   have:=o.hh _ _ (all p z).2.2
   rw [this] at A;cases A
  refine ⟨by rw [aad O.symm];exact o.hh _ _ f,by rw [aA3,N];exact big (by lia),as ++ [p],M,by simp,by simp [N],?_,?_,fun b hb=>?_,aaf,?_,C.trans o.gg,fun a u e=>?_,fun a u e=>?_,fun a u e=>?_,fun a Z e=>?_⟩
  ·rw [aE3]
   exact ⟨nd,by simp,fun x hx y hy=>by simp at hy;subst hy;intro e;subst e;exact K hx⟩
  ·intro z
   rcases aA7.mp z with z | z
   ·exact na z
   ·exact O (aC1.mp z).symm
  ·have gb:∀ b,g b=none->(∃ u,H2 b=some u)->M b=none:=fun b Y z_=>by
    obtain ⟨u,X⟩:=z_
    cases e:M b with
    | none=>rfl
    | some w =>
     rcases o.gn b w e with e | e
     ·rw [Y] at e;cases e
     ·rw [X] at e;cases e
   rcases aA7.mp hb with hb | hb
   ·obtain ⟨Y,X,h3⟩:=all b hb
    refine ⟨Y,gb b X ⟨_,h3⟩,?_⟩
    rw [aad (fun z:b=c=>na (by rw [← z];exact hb)),aad (fun z:b=p=>K (by rw [← z];exact hb))]
    exact o.hh _ _ h3
   ·have e:b=p:=by simpa using hb
    subst e
    exact ⟨n1,aa9 o.gh A,by rw [aad O,aaf]⟩
  ·cases e:M c with
   | none=>rfl
   | some w =>
    rcases o.gn c w e with e | e
    ·rw [S] at e;cases e
    ·rw [f] at e;cases e
  ·have ap:a ≠ p:=aar (o.gh a u e) A
   have T:a ≠ c:=by
    rintro rfl
    rcases o.gn _ u e with e | e
    ·rw [S] at e;cases e
    ·rw [f] at e;cases e
   rw [aad T,aad ap];exact o.gh a u e
  ·have ap:a ≠ p:=aar e n1
   have T:a ≠ c:=aar e d
   rw [aad T,aad ap];exact o.hh _ _ (r a u e)
  ·rcases o.gn a u e with e | e
   ·exact D a u e
   ·exact .inr (aa9 r e)
  ·by_cases z:a=c
   ·subst z;rw [aaf] at e;cases e
   ·rw [aad z] at e
    by_cases y:a=p
    ·subst y;rw [aaf] at e;cases e
    ·rw [aad y] at e;exact o.ft v a Z e
 ·have e:n=ds.length:=by lia
  subst e
  refine .inl ⟨it.stop _ g H2 C l rfl,?_⟩
  have I2:=s.grow C l r D v
  refine k (.ref c) g H2 F1 (fun b=>b=c\/b∈as) (.own (OLL (List.replicate ds.length []))) U I2 (g1.trans C) ⟨⟨c,as,rfl,f,nd,na,by simp [N],fun i b a0 hb hd=>?_,fun b=>Iff.rfl⟩,fun b z=>?_,fun b z=>?_,fun b z=>?_,fun j b z y=>?_⟩ q
  ·rw [aH1] at hd
   split at hd
   ·cases hd;exact ⟨[],(all b (aA2 hb)).2.2,.nil⟩
   ·cases hd
  ·rcases z with rfl | z
   ·exact s.no_b d
   ·exact s.no_b (all b z).1
  ·rcases z with rfl | z
   ·exact S
   ·exact (all b z).2.1
  ·rcases z with rfl | z
   ·exact ⟨_,f⟩
   ·exact ⟨_,(all b z).2.2⟩
  ·rcases z with rfl | z
   ·exact s.no_f d j y
   ·exact s.no_f (all b z).1 j y
theorem aio {d:List (List PyData)} {l j n:Nat} {k:Int} {y:PyData} {ds:List PyData} (e:env[i]?=some (some (.own (OLL d)))) (ek:env[l]?=some (some (.st (.int k)))) (Z:env[j]?=some (some (.st y)))
  (R:ixN d.length k=some n) (hd:d[n]?=some ds) (hl:ds.length<=999999) (q:Q' .none (env.set i (some (.own (OLL (d.set n (ds ++ [y]))))))):Ev B (tBM K "list" ad4 (tOp (acr K) (tVar i) (tVar l)) (aa2 (tVar j) tNil)) env Q':=fun σ G H F Q I kk=>by
 obtain ⟨v,O,⟨a,as,rfl,h,N,E,ln,r,f⟩,_⟩:=I.sl i _ e
 obtain ⟨vk,C,X,_⟩:=I.sl l _ ek
 obtain ⟨W,x,ry,_⟩:=I.sl j _ Z
 cases X
 have hn:n < d.length:=(aA1.mp hd).1
 have hb:as[n]?=some (as[n]'(by lia)):=aA0 _
 generalize as[n]'(by lia)=b at hb
 have s:b∈as:=aA2 hb
 obtain ⟨vs,M,L⟩:=r n b ds hb hd
 have D:atI (as.map V.ref) k=some (.ref b):=by
  unfold atI
  rw [aA3,ln,R]
  simp [hb]
 refine ⟨_,O,_,C,aej h D ⟨.inl ⟨rfl,_,SqL.of M⟩,_,x,aex M (by rw [L.length];exact big (by lia)) ?_⟩⟩
 have u:a ≠ b:=fun z=>E (z ▸ s)
 have J:=I.change (A:=OLL (d.set n (ds ++ [y]))) (H2:=upd H b (.lst (vs ++ [W]))) (F2:=F i) (os':=.own (OLL (d.set n (ds ++ [y])))) i e O (fun c o p w=>by rw [aad (fun z:c=b=>p ((f c).mpr (.inr (by rw [z];exact s))))];exact w)
  (fun c o w=>by
   by_cases z:c=b
   ·rw [z];exact ⟨_,aaf⟩
   ·rw [aad z];exact ⟨o,w⟩)
  (fun c z=>⟨.inl z,by
   by_cases y:c=b
   ·rw [y];exact ⟨_,aaf⟩
   ·rw [aad y];exact I.fo i c z⟩) ?_ (fun c ks e=>by
   by_cases z:c=b
   ·subst z;rw [aaf] at e;cases e
   ·rw [aad z] at e;exact I.ft c ks e) (.inl ⟨rfl,_,rfl⟩)
 ·exact kk _ G _ _ _ _ J (Same.refl _) .non q
 ·refine ⟨a,as,rfl,by rw [aad u];exact h,N,E,by simp [ln],fun m c es p g=>?_,f⟩
  by_cases hm:m=n
  ·subst hm
   rw [hb] at p;cases p
   rw [aD1,aE9 rfl,aE9 hn] at g
   cases g
   exact ⟨_,aaf,L.append (.cons ry .nil)⟩
  ·rw [aD1,aF0 (fun z=>hm z.symm)] at g
   obtain ⟨us,P,U⟩:=r m c es p g
   refine ⟨us,?_,U⟩
   rw [aad]
   ·exact P
   ·rintro rfl
    have i1:=(aA1.mp hb)
    have S:=(aA1.mp p)
    obtain ⟨l1,T⟩:=i1
    obtain ⟨Y,e2⟩:=S
    exact hm (nodup_ix N Y l1 (e2.trans T.symm))
end
@[reducible] def prD (p:Int × Int):PyData:=.tuple [.int p.1,.int p.2]
@[reducible] def webD (n:Int) (es:List (Int × Int)):PyData:=.tuple [.int n,.list (es.map prD)]
def Tied (es:List (Int × Int)) (u v:Int):Prop:=(u,v)∈es\/(v,u)∈es
theorem Tied.symm {es:List (Int × Int)} {u v:Int} (h:Tied es u v):Tied es v u:=h.elim .inr .inl
def InN (n:Int) (es:List (Int × Int)):Prop:=∀ p∈es,0<=p.1/\p.1 < n/\0<=p.2/\p.2 < n
theorem Tied.in {n:Int} {es:List (Int × Int)} {u v:Int} (hi:InN n es) (h:Tied es u v):(0<=u/\u < n)/\0<=v/\v < n:=by
 rcases h with h | h
 ·have:=hi _ h;exact ⟨⟨this.1,this.2.1⟩,this.2.2⟩
 ·have:=hi _ h;exact ⟨⟨this.2.2.1,this.2.2.2⟩,this.1,this.2.1⟩
theorem Tied.snoc {es:List (Int × Int)} {i:Nat} {a b:Int} (h:es[i]?=some (a,b)) (u v:Int):Tied (es.take (i+1)) u v ↔ (Tied (es.take i) u v\/(u=a/\v=b))\/(u=b/\v=a):=by
 have e:es.take (i+1)=es.take i ++ [(a,b)]:=by rw [aG8,h];rfl
 unfold Tied
 rw [e]
 simp only [aA7,aC1,Prod.mk.injEq]
 constructor
 ·rintro ((h | ⟨rfl,rfl⟩) | (h | ⟨rfl,rfl⟩))
  ·exact .inl (.inl (.inl h))
  ·exact .inl (.inr ⟨rfl,rfl⟩)
  ·exact .inl (.inl (.inr h))
  ·exact .inr ⟨rfl,rfl⟩
 ·rintro (((h | h) | ⟨rfl,rfl⟩) | ⟨rfl,rfl⟩)
  ·exact .inl (.inl h)
  ·exact .inr (.inl h)
  ·exact .inl (.inr ⟨rfl,rfl⟩)
  ·exact .inr (.inr ⟨rfl,rfl⟩)
def TiedL (n:Int) (T:Int->Int->Prop) (tl:List (List Int)):Prop:=(tl.length:Int)=n/\∀ (i:Nat) ws,tl[i]?=some ws->∀ w,w∈ws ↔ T i w
def oD:Option Nat->PyData
 | none => .none
 | some d => .int d
def lab (n:Nat) (far:Int->Option Nat):List PyData:=(List.range n).map fun (i:Nat)=>oD (far (i:Int))
theorem acs {n:Nat} {far:Int->Option Nat}:(lab n far).length=n:=by simp [lab]
theorem ad8 {n:Nat} {far:Int->Option Nat} {i:Nat} (h:i < n):(lab n far)[i]?=some (oD (far i)):=by
 unfold lab
 rw [aA5,aA0 (by simpa using h)]
 simp
theorem amr {n:Nat} {far:Int->Option Nat} {v:Int} (a:0<=v) (h:v < n):atI (lab n far) v=some (oD (far v)):=by
 have:=ad3 (xs:=lab n far) (j:=v.toNat) (ad8 (by lia))
 rwa [show ((v.toNat:Nat):Int)=v by lia] at this
theorem aip {n:Nat} {v:Int} (a:0<=v) (h:v < n):ixN n v=some v.toNat:=by
 unfold ixN;rw [aE9 a,aE9 h]
theorem aoy {n:Nat} {far:Int->Option Nat} {v:Int} {d:Nat} (a:0<=v) (h:v < n):(lab n far).set v.toNat (.int d)=lab n (Gr.label far v d):=by
 apply aF6
 intro i
 rw [aD1]
 by_cases e:v.toNat=i
 ·rw [aE9 e,aE9 (by rw [acs];lia),ad8 (by lia)]
  have:(i:Int)=v:=by lia
  rw [this,Gr.label_same];rfl
 ·rw [aF0 e]
  by_cases hi:i < n
  ·rw [ad8 hi,ad8 hi,Gr.label_ne (by lia)]
  ·rw [aF1.mpr (by rw [acs];lia),aF1.mpr (by rw [acs];lia)]
theorem ar3 {n:Nat} {f g:Int->Option Nat} (h:∀ v,0<=v->v < (n:Int)->f v=g v):lab n f=lab n g:=by
 unfold lab
 apply aE4
 intro i hi
 rw [h i (by lia) (by have:=aB8.mp hi;lia)]
theorem axu {o:Option Nat}:isNone (oD o)=o.isNone:=by cases o <;> rfl
theorem ago {α:Type} {f : α->PyData} {xs:List α} {i:Int} {x : α} (h:atI xs i=some x):atI (xs.map f) i=some (f x):=by
 unfold atI at h ⊢
 rw [aA3]
 cases e:ixN xs.length i with
 | none=>rw [e] at h;cases h
 | some j=>rw [e] at h;simp at h ⊢;exact ⟨_,h,rfl⟩
theorem act {α:Type} {xs:List α} {i:Int} {x : α} (a:0<=i) (h:xs[i.toNat]?=some x):atI xs i=some x:=by
 have:=ad3 (xs:=xs) (j:=i.toNat) h
 rwa [show ((i.toNat:Nat):Int)=i by lia] at this
@[reducible] def tlD (tl:List (List Int)):List (List PyData):=tl.map fun ws=>ws.map .int
theorem TiedL.get {n:Int} {T:Int->Int->Prop} {tl:List (List Int)} (h:TiedL n T tl) {v:Int} (c:0<=v) (d:v < n):∃ b,tl[v.toNat]?=some b/\∀ w,w∈b ↔ T v w:=by
 have a:v.toNat < tl.length:=by have:=h.1;lia
 refine ⟨tl[v.toNat],aA0 a,fun w=>?_⟩
 rw [h.2 _ _ (aA0 a) w,show ((v.toNat:Nat):Int)=v by lia]
theorem ad9 {tl:List (List Int)} {i:Nat} {a:List Int} (h:tl[i]?=some a):(tlD tl)[i]?=some (a.map .int):=by
 rw [aA5,h];rfl
theorem TiedL.put {n:Int} {T:Int->Int->Prop} {tl:List (List Int)} (h:TiedL n T tl) {v q:Int} {c:List Int} (j:0<=v) (l:v < n) (d:tl[v.toNat]?=some c):TiedL n (fun a b=>T a b\/(a=v/\b=q)) (tl.set v.toNat (c ++ [q])):=by
 refine ⟨by rw [List.length_set];exact h.1,fun i us hi w=>?_⟩
 rw [aD1] at hi
 by_cases e:v.toNat=i
 ·rw [aE9 e] at hi
  have g:v.toNat < tl.length:=(aA1.mp d).1
  rw [aE9 (by lia)] at hi
  cases hi
  have f:(i:Int)=v:=by lia
  rw [aA7,aC1,h.2 i c (by rw [← e];exact d) w,f]
  simp
 ·rw [aF0 e] at hi
  rw [h.2 i us hi w]
  exact ⟨.inl,fun z=>z.elim id fun z=>by lia⟩
theorem ag8 {tl:List (List Int)} {i:Nat} {a:List Int}:(tlD tl).set i (a.map .int)=tlD (tl.set i a):=by
 unfold tlD;rw [List.map_set]
theorem TiedL.iff {n:Int} {T a:Int->Int->Prop} {tl:List (List Int)} (h:TiedL n T tl) (e:∀ u v,T u v ↔ a u v):TiedL n a tl:=⟨h.1,fun i b hi w=>(h.2 i b hi w).trans (e _ _)⟩
end VL
namespace VL
open PySem L2
def cnt (far:Int->Option Nat):Nat->Nat
 | 0=>0
 | n+1=>cnt far n+(if far (n:Int)=none then 1 else 0)
theorem af1 {far:Int->Option Nat} {w:Int} {d:Nat}:∀ {n:Nat},(w:Int) ≥ n->cnt (Gr.label far w d) n=cnt far n
 | 0,_=>rfl
 | n+1,h=>by
  unfold cnt
  rw [af1 (by lia),Gr.label_ne (by lia)]
theorem adx {far:Int->Option Nat} {w:Int} {d:Nat} (b:0<=w) (a:far w=none):∀ {n:Nat},w < (n:Int)->cnt (Gr.label far w d) n+1=cnt far n
 | 0,h=>by lia
 | n+1,h=>by
  unfold cnt
  by_cases e:w=n
  ·subst e
   rw [af1 (by lia),Gr.label_same,a];simp
  ·rw [Gr.label_ne (by lia)]
   have:=adx b a (n:=n) (d:=d) (by lia)
   lia
theorem axv (n:Nat):(List.replicate n [PyData.none]).flatten=lab n (fun _=>none):=by
 apply aF6
 intro i
 by_cases hi:i < n
 ·rw [ad8 hi]
  have:(List.replicate n [PyData.none]).flatten=List.replicate n PyData.none:=by
   clear hi
   induction n with
   | zero=>rfl
   | succ n ih=>rw [aG7,List.flatten_cons,ih,aG7];rfl
  rw [this,aH1,aE9 hi];rfl
 ·rw [aF1.mpr (by rw [an8];simp;lia),aF1.mpr (by rw [acs];lia)]
theorem anx {α:Type} {f : α->PyData} {xs:List α}:(xs.map f).isEmpty=xs.isEmpty:=by cases xs <;> rfl
theorem ab1 {xs:List Int} {j:Nat} {u w:Int} (a:xs[j]?=some u) (hm:w∈xs.take (j+1)):w∈xs.take j\/w=u:=by
 rw [aG8,a] at hm
 rcases aA7.mp hm with q | q
 ·exact .inl q
 ·exact .inr (by simpa using q)
theorem ar4 {n:Nat} {far:Int->Option Nat}:plainDs (lab n far)=true:=by
 rw [ae7]
 intro d hd
 obtain ⟨i,_,rfl⟩:=aB6.mp hd
 cases far (i:Int) <;> rfl
theorem axw {n:Nat} {far:Int->Option Nat}:((lab n far).any fun z=>PyData.eqv z .none)=true ↔ ∃ v:Int,0<=v/\v < n/\far v=none:=by
 rw [List.any_eq_true]
 constructor
 ·rintro ⟨d,hd,e⟩
  obtain ⟨i,hi,rfl⟩:=aB6.mp hd
  refine ⟨i,by lia,by have:=aB8.mp hi;lia,?_⟩
  cases h:far (i:Int) with
  | none=>rfl
  | some d=>rw [h] at e;simp [oD,PyData.eqv] at e
 ·rintro ⟨v,a,b,h⟩
  refine ⟨oD (far v),?_,by rw [h];rfl⟩
  have:=ad8 (far:=far) (show v.toNat < n by lia)
  rw [show ((v.toNat:Nat):Int)=v by lia] at this
  exact aA2 this
def Joined (n:Int) (es:List (Int × Int)):Prop:=∀ v,0<=v->v < n->∃ d,Gr.Dist (Tied es) 0 v d
end VL
namespace DI
open PySem PySem.W
def Raw (h:Heap) (d:Addr) (es:Array DictEntry) (ep:Nat):Prop:=∃ o,h.get? d=some o/\o.ExactDict/\o.data=.dict es ep
theorem Raw.keep {h h':Heap} {d:Addr} {es:Array DictEntry} {ep:Nat} (r:Raw h d es ep) (k:∀ o,h.get? d=some o->h'.get? d=some o):Raw h' d es ep:=let ⟨o,e,x⟩:=r;⟨o,k o e,x⟩
theorem Raw.ty {s:Shared} {d:Addr} {es:Array DictEntry} {ep:Nat} (r:Raw s.heap d es ep):s.TypeIs (.ref d) "dict":=let ⟨o,e,x,_⟩:=r;⟨o,e,x.1⟩
section
variable {prog:Program} {w:World} {A:Around} {E:Value->Shared->Prop} {s:Shared} {d it:Addr} {es:Array DictEntry} {ep i:Nat}
theorem auz {Q:Value->Shared->Prop} (hd:(d == sysModules)=false) (r:Raw s.heap d es ep)
  (c:Q (.ref s.heap.objs.size) { s with heap:=s.heap.push { cls:=.type "dict_keyiterator",data:=.fields #[.ref d,.int 0 0,.int es.size 0,.int ep 0] } }):wpAny (model prog w) A (pyIter (.ref d)) Q E s:=by
 obtain ⟨o,b,f,a⟩:=id r
 refine wpAny_pyIter_slot r.ty PySem.F.slot_dict_iter (aJ3 PySem.F.slot_dict_iter r.ty PySem.F.entry_dict_iter ?body (PySem.F.args_dict_iter_1 _))
 case body =>
  unfold Builtin.«dict.__iter__»
  refine aI2 ?slot
  case slot =>
   unfold Builtin.Dict.dictSlotNone
   refine aI2 (wpAny_notOrdered_dict r.ty ?pl)
   case pl =>
    show wpAny _ _ (pure (Value.ref d)) _ _ s
    refine aI3 ?rest
    case rest =>
     show wpAny _ _ (Builtin.Dict.showsAll d >>= _) _ _ s
     unfold Builtin.Dict.showsAll
     rw [aF0 (by rw [hd];exact aA9)]
     refine aI2 (aI3 (aI2 (wpAny_dictEntries b a (aI2 (wpAny_dictEpoch b a (aI2 (aJ0 (aI3 ⟨_,rfl,"dict_keyiterator",_,⟨_,aI6 _ rfl,rfl⟩,PySem.F.slot_dict_keyiterator_next.lookup,?fin⟩))))))))
     case fin=>simpa [rawInt] using c
theorem au0 {Q:Option Value->Shared->Prop} (a:s.heap.IsKeyIter it d i es.size ep) (r:Raw s.heap d es ep) (hi:i < es.size)
  (x:∀ h',h'.IsKeyIter it d (i+1) es.size ep->Heap.SameBut it s.heap h'->Q (some es[i].key) { s with heap:=h' }):wpAny (model prog w) A (pyNext (.ref it)) Q E s:=by
 obtain ⟨o,q,u,hd⟩:=id a
 obtain ⟨od,n,v,p⟩:=r
 unfold pyNext
 refine aI2 (wpAny_attempt (wpAny_callSpecial?_slot (name:=Str.ofString "__next__") a.typeIs PySem.F.slot_dict_keyiterator_next (aJ3 PySem.F.slot_dict_keyiterator_next a.typeIs PySem.F.entry_dict_keyiterator_next ?b (PySem.F.args_dict_keyiterator_next_1 _))))
 case b =>
  refine aI2 (aI3 (aI2 (aI2 ?c)))
  case c =>
   first | refine aI2 (wpAny_typeNameOfWhole_keyiter a.typeIs (aI3 (aI2 (wpAny_fieldsOf q hd ?e)))) | refine aI2 (wpAny_typeNameOf_keyiter a.typeIs (aI3 (aI2 (wpAny_fieldsOf q hd ?e))))
   case e =>
    simp only [show Builtin.Dict_items.ownsTuple "dict_keyiterator" = false by decide,Bool.false_eq_true,if_false]
    show wpAny _ _ (if (Value.ref d == Value.none)=true then _ else _) _ _ s;rw [aF0 (show ¬ ((Value.ref d == Value.none)=true) from aA9)]
    refine aI2 (aI3 (aI2 (wpAny_dictEntries n p ?f)))
    case f =>
     rw [aF0 (by simp)];refine aI2 (aI3 (aI2 (wpAny_dictEpoch n p ?g)))
     case g =>
      rw [aF0 (by simp)];refine aI3 ?h
      case h =>
       simp only [show ¬ ((i:Int) < 0) by lia,if_false,Int.toNat_natCast,aA4 hi];refine aI2 ?j
       case j =>
        first | refine aI2 (wpAny_typeNameOfWhole_keyiter a.typeIs (aI3 (aI2 (wpAny_isOneOf_keyiter a.typeIs ?k)))) | refine aI2 (wpAny_typeNameOf_keyiter a.typeIs (aI3 (aI2 (wpAny_isOneOf_keyiter a.typeIs ?k))))
        case k =>
         show wpAny _ _ (setField (.ref it) 1 (rawInt ((i:Int)+1)) >>= _) _ _ s;refine aI2 (wpAny_setField q hd (by simp) ?l)
         case l =>
          have nx:(s.heap.update it (Obj.mapFields (·.setIfInBounds 1 (rawInt ((i:Int)+1))))).IsKeyIter it d (i+1) es.size ep:=⟨_,Heap.get?_update_self _ q (Obj.isFreed_of_fields (Obj.data_mapFields hd _)),(Obj.cls_mapFields ..).trans u,by rw [Obj.data_mapFields hd];simp [rawInt]⟩
          refine aI2 (aI7 (aI2 (wpAny_isOneOf_keyiter (s:={ s with heap:=s.heap.update it (Obj.mapFields (·.setIfInBounds 1 (rawInt ((i:Int)+1)))) }) nx.typeIs ?m)))
          case m=>show wpAny _ _ (pure es[i].key) _ _ _;exact aI3 (aI3 ⟨_,rfl,aI3 (x _ nx (Heap.SameBut.update ..))⟩)
theorem axx {Q:Option Value->Shared->Prop} (hh:A.handled=none) (i:s.heap.IsKeyIter it d es.size es.size ep) (r:Raw s.heap d es ep) (x:∀ h',Heap.ExtBut it s.heap h'->Q none { s with heap:=h' }):wpAny (model prog w) A (pyNext (.ref it)) Q E s:=by
 obtain ⟨o,u,y,hd⟩:=id i
 obtain ⟨od,n,v,p⟩:=r
 unfold pyNext
 refine aI2 (wpAny_attempt (wpAny_callSpecial?_slot (name:=Str.ofString "__next__") i.typeIs PySem.F.slot_dict_keyiterator_next (aJ3 PySem.F.slot_dict_keyiterator_next i.typeIs PySem.F.entry_dict_keyiterator_next ?b (PySem.F.args_dict_keyiterator_next_1 _))))
 case b =>
  refine aI2 (aI3 (aI2 (aI2 ?c)))
  case c =>
   first | refine aI2 (wpAny_typeNameOfWhole_keyiter i.typeIs (aI3 (aI2 (wpAny_fieldsOf u hd ?e)))) | refine aI2 (wpAny_typeNameOf_keyiter i.typeIs (aI3 (aI2 (wpAny_fieldsOf u hd ?e))))
   case e =>
    simp only [show Builtin.Dict_items.ownsTuple "dict_keyiterator" = false by decide,Bool.false_eq_true,if_false]
    show wpAny _ _ (if (Value.ref d == Value.none)=true then _ else _) _ _ s;rw [aF0 (show ¬ ((Value.ref d == Value.none)=true) from aA9)]
    refine aI2 (aI3 (aI2 (wpAny_dictEntries n p ?f)))
    case f =>
     rw [aF0 (by simp)];refine aI2 (aI3 (aI2 (wpAny_dictEpoch n p ?g)))
     case g =>
      rw [aF0 (by simp)];refine aI3 ?h
      case h =>
       simp only [show ¬ ((es.size:Int) < 0) by lia,if_false,Int.toNat_natCast,Array.getElem?_eq_none (aA6 es.size)];refine aI2 ?j
       case j =>
        first | refine aI2 (wpAny_typeNameOfWhole_keyiter i.typeIs (aI3 ?k)) | refine aI2 (wpAny_typeNameOf_keyiter i.typeIs (aI3 ?k))
        case k =>
         show wpAny _ _ (setField (.ref it) 0 .none >>= _) _ _ s;refine aI2 (wpAny_setField u hd (by simp) ?l)
         case l =>
          show wpAny _ _ (newExc (.type "StopIteration") [] >>= _) _ _ _;refine aI2 ?m
          case m =>
           simp only [newExc,newTuple];refine aI2 (aJ0 ?zz2 (by size_fits))
           case zz2 =>
            refine aI2 (m:=firstArgMember _ _) (wpAny_of_eq (a:=Value.none) (by first | rfl | (simp only [firstArgMember];rfl)) (aJ0 ?zz1 (by size_fits)))
            case zz1 =>
             simp only [raiseNew];refine aI2 (wpAny_handled ?q)
             case q =>
              rw [show A.in1.handled=none from hh];refine aI2 (aI3 (wpAny_throw ?u1))
              case u1=>refine aI2 (wpAny_isInstance (T:="StopIteration") (b:=true) ⟨_,aI6 _ rfl,rfl⟩ isSubtype_stop ?u2);exact aI3 (x _ (((Heap.SameBut.update ..).extBut.push _).push _))
end
theorem walks {prog:Program} {w:World} {A:Around} (hh:A.handled=none) (I d:Addr) (c:d ≠ I) (es:Array DictEntry) (ep:Nat) :
  Walks prog w A I [I,d] [I] es.size (fun i v=>(es[i]?).map (·.key)=some v) (fun i h=>h.IsKeyIter I d i es.size ep/\Raw h d es ep) where
 sub:=fun b hb=>by simp at hb;simp [hb]
 frame:=fun _ _ _ st f=>⟨st.1.at fun o e=>f I (by simp) o e,st.2.keep fun o e=>f d (by simp) o e⟩
 item:=fun i s Q E hi st a=>au0 st.1 st.2 hi fun h' nx sb=>a _ h' s.toks (by rw [aA4 hi];rfl) ⟨nx,st.2.keep fun o e=>sb.extBut d o c e⟩ fun b o hb e=>sb.extBut b o (fun z=>hb (by simp [z])) e
 done:=fun s Q E st a=>axx hh st.1 st.2 fun h' g=>a h' s.toks fun b o hb e=>g b o (fun z=>hb (by simp [z])) e
 self:=fun _ _ _ _ st a=>wpAny_pyIter_keyiter st.1 a
end DI
namespace DI
open PySem PySem.W PyProof.Rows
section
variable {prog:Program} {w:World} {A:Around} {E:Value->Shared->Prop} {s:Shared}
theorem src (d:Addr) (es:Array DictEntry) (ep:Nat) (hd:(d == sysModules)=false):KdlSrc prog w "dict" d d es.size (fun i v=>(es[i]?).map (·.key)=some v) (fun h=>Raw h d es ep) where
 type:=fun s r=>r.ty
 there:=fun h r=>let ⟨o,e,_⟩:=r;⟨aI5 e,aI5 e⟩
 keep:=fun h h' r k=>r.keep fun o e=>k d (.inl rfl) o e
 notList:=by decide
 notTuple:=by decide
 hint:=fun A E s Q r q=>kdl_hint_dict r.ty q
 iter:=fun A s hh r=>⟨{ cls:=.type "dict_keyiterator",data:=.fields #[.ref d,.int 0 0,.int es.size 0,.int ep 0] },fun i h=>h.IsKeyIter s.heap.objs.size d i es.size ep/\Raw h d es ep,fun E Q q=>auz hd r q,
  walks hh s.heap.objs.size d (by obtain ⟨o,e,_⟩:=r;exact aB5 (aI5 e)) es ep,⟨_,aI6 _ rfl,rfl,rfl⟩,r.keep fun o e=>aI4 _ e⟩
theorem collect_src {T:String} {r d:Addr} {n:Nat} {P:Nat->Value->Prop} {j:Heap->Prop} {Q:List Value->Shared->Prop} (K:KdlSrc prog w T r d n P j) (hh:A.handled=none) (hok:j s.heap) (hn:n<=sizeLine)
  (m:∀ h' i (f:Array Value),(∀ b o,s.heap.get? b=some o->h'.get? b=some o)->s.heap.objs.size<=h'.objs.size->ItemsOf P f n->Q f.toList { s with heap:=h',toks:=i }):wpAny (model prog w) A (collect (.ref r)) Q E s:=by
 unfold collect
 refine aI2 (wpAny_runValue (codeAny_builtin PySem.F.entry_proto_collect ?a1))
 case a1 =>
  rw [aJ1 PySem.F.plain_proto_collect _];show wpAny _ A.in1 (newList [] >>= fun l=>again (.builtin "list.__iadd__" ⟨[l,.ref r],[]⟩)) _ _ s
  refine aI2 (aJ0 (aI3 ⟨plainId_quiet PySem.F.plain_list_iadd _,codeAny_builtin PySem.F.entry_list_iadd ?a2⟩))
  case a2 =>
   rw [aJ1 PySem.F.plain_list_iadd _];show wpAny _ A.in1 (Builtin.List.listExtendWith (.ref s.heap.objs.size) (.ref r) (.ref s.heap.objs.size)) _ _ _
   have q:(s.heap.push { cls:=.type "list",data:=.seq ([]:List Value).toArray }).get? s.heap.objs.size=some { cls:=.type "list",data:=.seq #[] 0 }:=aI6 _ rfl
   obtain ⟨p,u⟩:=K.there _ hok
   refine kdl_extend (R:=wants (fun v x=>wpAny (model prog w) A (match v with | .ref a=>(do match (← load a).data with | .seq xs _=>pure xs.toList | _=>unsupported "internal:collect") | _=>unsupported "internal:collect") Q E x) E) (s:={ s with heap:=s.heap.push { cls:=.type "list",data:=.seq ([]:List Value).toArray } }) K hh (K.keep _ _ hok fun b _ o e=>aI4 _ e) s.heap.objs.size (Nat.ne_of_gt p) (Nat.ne_of_gt u) _ 0 q (fun h' i f c k g h=>?a3) hn
   case a3 =>
    show wpAny (model prog w) A _ Q E _
    refine aI2 (wpAny_load g ?a4)
    case a4=>exact aI3 (m h' i f (fun b o e=>k b o (aB5 (aI5 e)) (aI4 _ e)) (aF9 (aI5 g)) h)
end
end DI
namespace TS
open PySem PySem.W PyProof.Rows
section
variable {prog:Program} {w:World} {A:Around} {E:Value->Shared->Prop} {s:Shared}
theorem sorted_gen {l:Addr} {Ok:List Value->Prop} {Q:Value->Shared->Prop}
  (j:∀ (D:List Value->Shared->Prop),(∀ vs i d,(∀ b o,s.heap.get? b=some o->i.get? b=some o)->s.heap.objs.size<=i.objs.size->Ok vs->D vs { s with heap:=i,toks:=d })->wpAny (model prog w) A.in1 (collect (.ref l)) D E s)
  (c:∀ vs,Ok vs->vs.length<=sizeLine)
  (r:∀ vs,Ok vs->2<=vs.length->∀ h' d,(∀ b o,s.heap.get? b=some o->h'.get? b=some o)->∃ κ S R,(∀ (Q:SortKind->Shared->Prop),Q κ { s with heap:=h',toks:=d }->wpAny (model prog w) A.in1.in1 (keyKind' vs.toArray) Q E { s with heap:=h',toks:=d }) /\
   Cmp (model prog w) A.in1.in1 E { s with heap:=h',toks:=d } κ S R/\(∀ v∈vs,S (v,v))/\∀ out:List Value,out.Perm vs->out.Pairwise (fun x y=>R (y,y) (x,x)=false) ->
    ∀ a h' d e,(∀ b o,s.heap.get? b=some o->h'.get? b=some o)->s.heap.objs.size<=a->h'.get? a=some (seqObj "list" out.toArray e)->Q (.ref a) { s with heap:=h',toks:=d })
  (i:∀ vs,Ok vs->vs.length < 2->∀ a h' d e,(∀ b o,s.heap.get? b=some o->h'.get? b=some o)->s.heap.objs.size<=a->h'.get? a=some (seqObj "list" vs.toArray e)->Q (.ref a) { s with heap:=h',toks:=d }) :
  wpAny (model prog w) A (call (.builtin "sorted") [.ref l]) Q E s:=by
 refine Calls.call_function_entry kind_sorted plain_sorted entry_sorted (args_sorted1 _) ?_
 unfold Builtin.«sorted»
 refine aI2 (m:=checkCount "sorted" 1 1 _) (aI3 (aI2 (j _ fun vs g d kp hsz u=>?_)))
 have c:=c vs u
 refine aI2 (wpAny_newList ?_ c)
 have f:(g.push (seqObj "list" vs.toArray 0)).get? g.objs.size=some (seqObj "list" vs.toArray 0):=aI6 _ rfl
 have keep:∀ b o,s.heap.get? b=some o->(g.push (seqObj "list" vs.toArray 0)).get? b=some o:=fun b o q=>aI4 _ (kp b o q)
 refine aI2 (aI7 (aJ3 slot_list_sort ⟨_,f,rfl⟩ entry_list_sort ?body (args_list_sort _)))
 case body =>
  have fin:∀ out:List Value,∃ e,(sortedHeap (g.push (seqObj "list" vs.toArray 0)) g.objs.size vs out.toArray).get? g.objs.size=some (seqObj "list" out.toArray e):=fun out=>sortedHeap_at (n:=0) f
  have old:∀ (out:List Value) b o,s.heap.get? b=some o->(sortedHeap (g.push (seqObj "list" vs.toArray 0)) g.objs.size vs out.toArray).get? b=some o:=fun out b o e=>by
   have lt:=aI5 (kp b o e)
   rw [sortedHeap_old (aB5 lt) (by rw [size_push'];exact aF2 lt)];exact keep b o e
  refine af0 (s:={ s with heap:=g.push (seqObj "list" vs.toArray 0),toks:=d }) f c (fun p h' I=>?_) fun z=>?_
  ·obtain ⟨κ,S,R,F,C,G,h⟩:=r vs u p h' d fun b o e=>I b o (aB5 (aI5 (kp b o e))) (keep b o e)
   refine ⟨κ,S,R,F,C,G,fun out H J=>⟨_,rfl,aI3 ⟨_,rfl,?_⟩⟩⟩
   obtain ⟨e,B⟩:=fin out
   exact h out H J _ _ _ e (old out) hsz B
  ·obtain ⟨e,B⟩:=fin vs
   exact ⟨_,rfl,aI3 ⟨_,rfl,i vs u z _ _ _ e (old vs) hsz B⟩⟩
end
end TS
namespace L2
open PySem PySem.Spec PyProof.Rows
section
variable {X:Cx} {pins:List (Addr × Obj)} {σ:St} {H:Hp} {s:Shared} {h':Heap}
end
section
variable {X:Cx} {elts:List Expr} {k:Nat} {tpos:Pos}
end
section
variable {X:Cx} {elts:List Expr} {k:Nat} {tpos:Pos}
end
theorem aju:∀ {xs:List V} {us:List Value},xs.length=us.length->(∀ (i:Nat) v u,xs[i]?=some v->us[i]?=some u->RelV v u)->Vals xs us
 | [],[],_,_ => .nil
 | [],_ :: _,h,_=>by simp at h
 | _ :: _,[],h,_=>by simp at h
 | x :: xs,u :: us,h,k => .cons (k 0 x u rfl rfl) (aju (by simpa using h) fun i v w b a=>k (i+1) v w (by simpa using b) (by simpa using a))
theorem anz (prog:Program) (w:World) (A:Around) {bs:List Bool} {us:List Value} (r:Vals (bs.map V.bl) us):TruthOf prog w A (fun i v=>us.toArray[i]?=some v) (fun i=>bs.getD i false):=by
 intro i v s Q E d h
 have b:us[i]?=some v:=by simpa using d
 have hi:i < us.length:=(aA1.mp b).1
 have hb:i < bs.length:=by have:=r.length;simp at this;lia
 obtain ⟨u,a,c⟩:=r.get (i:=i) (x:=.bl bs[i]) (by simp [hb])
 rw [b] at a;cases a
 cases (show v=Value.bool bs[i] from c)
 have e:bs.getD i false=bs[i]:=by simp [List.getD,hb]
 have h':Q (bs.getD i false) s:=h
 rw [e] at h'
 exact aJ4 h'
section
variable {X:Cx}
theorem ar5 (bs:List Bool):((List.range bs.length).all fun i=>bs.getD i false)=bs.all id:=by
 rw [aH2,aE8,aE8]
 constructor
 ·intro h b hb
  obtain ⟨i,hi,e⟩:=aH0.mp hb
  have:=h i (aB8.mpr hi)
  simp [List.getD,hi,e] at this
  exact this
 ·intro h i hi
  have a:=aB8.mp hi
  have:=h bs[i] (List.getElem_mem a)
  simp [List.getD,a];exact this
def rAll (K:Frag):List V->Hp->VK->Prop:=fun xs H Q=>∃ (a:Addr) (bs:List Bool),xs=[.ref a]/\SqL K H a (bs.map V.bl)/\Q (.bl (bs.all id)) H
theorem akj (g:X.calm=true):aa5 X (.builtin "all") (rAll X.K):=by
 intro pins s σ H xs us Q I r h
 obtain ⟨a,bs,rfl,ha,q⟩:=h
 obtain ⟨u,rfl,i⟩:=acf r
 cases i
 obtain ⟨its,d,c,_⟩:=I.list ha
 have f:a < s.heap.objs.size:=by obtain ⟨o,n,e,_⟩:=c;exact aI5 e
 have hz:its.toArray.size=bs.length:=by have:=d.length;simp at this;simp [this]
 refine call_all_walk (aJ5 c.isList ⟨_,[s.heap.objs.size,a],_,_,_,_,_,rfl,Walks.list (A:=X.A.in1) (I.ok.hd g) _ a (aB5 f) its.toArray,⟨⟨_,aI6 _ rfl,rfl,rfl⟩,c.isList.push _⟩,anz _ _ _ d,fun l j kp=>?_⟩)
 rw [hz,ar5]
 refine ⟨.bl _,H,I.kept fun b o e=>kp b o (fun z=>?_) (aI4 _ e),rfl,q⟩
 exact absurd (aI5 e) (by rw [aC1.mp z];exact aF8 _)
def ams (K:Frag):List V->Hp->VK->Prop:=fun xs H Q=>∃ p ys,xs=[.ref p]/\(SqL K H p ys\/SqT K H p ys)/\∀ l,H l=none->Q (.ref l) (upd H l (.lst ys))
theorem aft:aa5 X (.type "list") (ams X.K):=alr
def aiq (ta:TA):TE:=fun σ H Q=>ta σ H fun vs H1=>∃ j:Int,vs=[.int j]/\0<=j/\j<=1000000/\∀ l,H1 l=none->Q (.ref l) (upd H1 l (.lst ((List.range j.toNat).map fun (i:Nat)=>V.int (i:Int))))
theorem amt {a:Expr} {z:TA} {J p2 x d:Pos} (K:Gl X "list") (hm:X.mg "list" = none) (y:Gl X "range") (r:X.mg "range" = none) (A:X.calm=true) (ha:PA X [a] z) (E:starEach [a] X.env=[(false,eval a X.env)]:=by rfl)
  (g:starEach [.Call (.Name "range" p2) [a] [] d] X.env=[(false,eval (.Call (.Name "range" p2) [a] [] d) X.env)]:=by rfl):PE X (.Call (.Name "list" J) [.Call (.Name "range" p2) [a] [] d] [] x) (aiq z):=by
 intro pins s σ H Q I h
 refine Call_ (aea I K hm ad5 (PyProof.Rows.callWith_type1 ?_ g rfl))
 rw [g]
 refine Calls.spliced_cons (Call_ (aea I y r boot_range (PyProof.Rows.callWith_type1 (thn (ha d pins s σ H _ I h) fun us s1 ⟨vs,R,w,N,j,M,T,S,q⟩=>?_) E rfl)))
 subst M
 obtain ⟨u,rfl,t,rfl⟩:=acf N
 refine call_range_1 (Calls.spliced_nil ?_)
 have P:IsRange (s1.heap.push { cls:=.type "range",data:=.fields #[.int 0 s1.toks,.int j t,.int 1 (s1.toks+1)] }) s1.heap.objs.size 0 j 1 s1.toks t (s1.toks+1):=aI6 _ rfl
 have hn:Builtin.Range.rangeSize 0 j 1=((j.toNat:Nat):Int):=by rw [rangeSize_one];split <;> lia
 refine call_list_range (s:={ s1 with heap:=s1.heap.push { cls:=.type "range",data:=.fields #[.int 0 s1.toks,.int j t,.int 1 (s1.toks+1)] },toks:=s1.toks+1+1 }) (w.ok.hd A) P (small_one (by lia) (by lia) (by lia) (by lia)) hn (by lia) fun D F m c kp L items=>?_
 have C:∀ b o,s1.heap.get? b=some o->D.get? b=some o:=fun b o e=>kp b o (aI4 _ e)
 have f:s1.heap.objs.size<=(s1.heap.push { cls:=.type "range",data:=.fields #[.int 0 s1.toks,.int j t,.int 1 (s1.toks+1)] }).objs.size:=by rw [aJ2];exact Nat.le_succ _
 refine ⟨.ref _,_,w.laid (t':=F) (o:=.lst ((List.range j.toNat).map fun (i:Nat)=>V.int (i:Int))) C f ?_,rfl,q _ (w.hok.fresh f)⟩
 refine ⟨by rw [aA3,List.length_range];exact aF9 (VL.big (by lia)),m.toList,c,?_,by simpa using L⟩
 obtain ⟨G,p⟩:=items
 refine aju (by simp [G]) fun i v u n B=>?_
 have l:m[i]?=some u:=by simpa using B
 obtain ⟨t',O⟩:=p i u l
 rw [aA5] at n
 have hi:i < j.toNat:=by
  have:=(Array.getElem?_eq_some_iff.mp l).1
  lia
 rw [aA0 (by simpa using hi)] at n
 simp at n
 subst n
 exact ⟨t',by rw [O];simp⟩
end
section
variable {X:Cx} {pins:List (Addr × Obj)} {σ:St} {H:Hp} {s:Shared}
end
theorem KT.get {H:Hp}:∀ {kvs:List (List Key × V)} {xs:List (List Key × Addr × Value)} {i:Nat} {p:List Key × V},KT H kvs xs->kvs[i]?=some p->∃ q,xs[i]?=some q/\p.1=q.1/\H q.2.1=some (.tup (p.1.map kV))
 | _,_,_,_,.nil,e=>by simp at e
 | _,_,0,_,.cons r _,e=>by simp at e;subst e;exact ⟨_,rfl,r.1,r.2.1⟩
 | _,_,i+1,p,.cons _ t,e=>by
  obtain ⟨q,b,a⟩:=KT.get (i:=i) (p:=p) t (by simpa using e)
  exact ⟨q,by simpa using b,a⟩
section
variable {X:Cx} {tg:Expr}
def ag9:List V->Hp->VK->Prop:=fun xs H Q=>∃ (a:Addr) (kvs:List (List Key × V)) (kss:List (List Int)),xs=[.ref a]/\H a=some (.dT kvs)/\kvs.map (·.1)=kss.map (fun ns=>ns.map Sum.inl)/\(∀ ns∈kss,ns ≠ []) /\
 ∀ (vs:List V) (p:Addr),(∀ v∈vs,TupI H v)->(vs.map (kH H)).Perm kss->vs.Pairwise (fun x y=>HT.lexLt (kH H y) (kH H x)=false)->H p=none->Q (.ref p) (upd H p (.lst vs))
theorem aoz {H:Hp}:∀ {kvs:List (List Key × V)} {xs:List (List Key × Addr × Value)} {a:List (List Int)},KT H kvs xs->kvs.map (·.1)=a.map (fun ns=>ns.map Sum.inl)->(∀ ns∈a,ns ≠ []) ->
  (∀ v∈xs.map (fun q=>V.ref q.2.1),TupI H v)/\(xs.map (fun q=>V.ref q.2.1)).map (kH H)=a
 | _,_,[],.nil,_,_=>⟨fun v b=>by simp at b,rfl⟩
 | _,_,_ :: _,.nil,h,_=>by simp at h
 | _,_,[],.cons _ _,h,_=>by simp at h
 | p :: kvs,q :: xs,ns :: a,.cons r t,h,hn=>by
  simp only [aD0,List.cons.injEq] at h
  obtain ⟨c,f⟩:=aoz t h.2 fun d hm=>hn d (aB4 _ hm)
  have e:H q.2.1=some (.tup (ns.map V.int)):=by
   rw [r.2.1,h.1,aD8];rfl
  refine ⟨fun v b=>?_,?_⟩
  ·rcases aA8.mp b with rfl | b
   ·exact ⟨_,ns,rfl,e,hn ns aB7⟩
   ·exact c v b
  ·rw [aD0,aD0,alf e,f]
theorem ahj (hc:X.calm=true):aa5 X (.builtin "sorted") ag9:=by
 intro pins s σ H xs us Q I r h
 obtain ⟨a,kvs,a1,rfl,hH,P,J,q⟩:=h
 obtain ⟨u,rfl,R⟩:=acf r
 cases R
 obtain ⟨z,y,ys,A,o,es,ep,h1,m,h3,N,h5⟩:=(show ObjOk X.prog X.w H s.heap a (.dT kvs) from I.hok a _ hH)
 obtain ⟨E,Z⟩:=aoz A P J
 have hz:es.size=ys.length:=by
  have e1:es.toList.length=ys.length:=by rw [N];simp
  simpa using e1
 have g:ys.length<=sizeLine:=by have:=Paired.length A;lia
 let c:List Value:=ys.map fun q => .ref q.2.1
 have M:Vals (ys.map fun q=>V.ref q.2.1) c:=aju (by simp [c]) fun i v u d n=>by
  rw [aA5] at d n
  cases e:ys[i]? with
  | none=>rw [e] at d;cases d
  | some q=>rw [e] at d n;cases d;cases n;rfl
 obtain ⟨b1,O⟩:=agl M E
 have fin:∀ out:List Value,out.Perm c->(out.map adb).Pairwise (fun x y=>HT.lexLt (kH H y) (kH H x)=false)->∀ p m f e,(∀ b o,s.heap.get? b=some o->m.get? b=some o)->s.heap.objs.size<=p->m.get? p=some (seqObj "list" out.toArray e)->EP X pins σ Q (.ref p) { s with heap:=m,toks:=f }:=by
  intro out j D p m f e kp hsz he
  have d:Vals (out.map adb) out:=agk fun u n=>b1 u (j.mem_iff.mp n)
  refine ⟨.ref p,_,I.laid (t':=f) (o:=.lst (out.map adb)) kp hsz ?_,rfl,q _ _ (fun v C=>?_) ?_ D (I.hok.fresh hsz)⟩
  ·refine ⟨by rw [aA3,j.length_eq];simp [c];exact g,out,e,d,by rw [he]⟩
  ·have:=(j.map adb).mem_iff.mp C
   rw [O] at this;exact E v this
  ·have:=(j.map adb).map (kH H)
   rw [O,Z] at this;exact this
 refine TS.sorted_gen (Ok:=fun vs=>vs=c) (fun Qc K=>DI.collect_src (DI.src a es ep y) (I.ok.hd hc) ⟨o,h1,m,h3⟩ (by lia) fun h' f l kp hsz items=>K _ h' f kp hsz ?_) (fun vs e=>by subst e;simp [c];exact g) (fun vs e a0 h' f kp=>?_) fun vs e F=>?_
 ·obtain ⟨i1,i2⟩:=items
  apply aF6
  intro i
  simp only [c,aA5]
  by_cases hi:i < ys.length
  ·have ha:l[i]?=some l[i]:=aA4 (by lia)
   have:(es[i]?).map (·.key)=some l[i]:=i2 i _ ha
   have L:es[i]?=some es[i]:=aA4 (by lia)
   rw [L] at this
   have G:es.toList[i]?=some es[i]:=by rw [aD4];exact L
   rw [N,aA5,aA0 hi] at G
   rw [aA0 hi]
   simp at this G
   rw [aD4,ha,← this,← G];rfl
  ·rw [aF1.mpr (by simp;lia),aF1.mpr (by lia)];rfl
 ·subst e
  obtain ⟨⟨fs,k1,k2,k3⟩,S⟩:=ahr I kp M E
  have B:(Value.type "int" != Value.type "tuple")=true:=by rfl
  refine ⟨tuples' true,TS.tS h' (fun a=>kH H (.ref a)),TS.tR (fun a=>kH H (.ref a)),fun Q' K=>?_,TS.cmp_tups (s:={ s with heap:=h',toks:=f }) (fun a=>kH H (.ref a)),fun v d=>?_,fun out j D=>fin out j ?_⟩
  ·refine PySem.W.kat_kind (T:=.type "int") (s:={ s with heap:=h',toks:=f }) k1 (by lia) (fun v d=>?_) (by rfl) ?_
   ·obtain ⟨i,t,rfl⟩:=k3 v d
    exact .now
   ·rw [B];exact K
  ·obtain ⟨a,e,ht⟩:=S v d
   exact ⟨rfl,a,e,ht⟩
  ·rw [aF5]
   refine aH4 ?_ D
   intro x y Y U hr
   obtain ⟨ax,rfl⟩:=b1 x (j.mem_iff.mp Y)
   obtain ⟨ay,rfl⟩:=b1 y (j.mem_iff.mp U)
   exact hr
 ·subst e
  exact fin c (List.Perm.refl _) (amk (by rw [aA3];exact F))
end
end L2
namespace VL
open PySem PySem.Spec L2
section
variable {B:Bs} {env:En} {QI:List PyData->En->Prop} {QO:Sl->En->Prop} {Q':PyData->En->Prop} {K:Frag} {i:Nat} {ta:TA}
theorem RpT.len {G:Hp}:∀ {kvs:List (List Key × V)} {es:List (List Key × PyData)},RpT G kvs es->kvs.length=es.length/\kvs.map (·.1)=es.map (·.1)
 | _,_,.nil=>⟨rfl,rfl⟩
 | _,_,.cons _ t=>by
  obtain ⟨b,a⟩:=RpT.len t
  exact ⟨by simp [b],by simp [a]⟩
@[reducible] def tkD (ks:List Key):PyData:=.tuple (ks.map kD)
@[reducible] def tiD (ns:List Int):PyData:=.tuple (ns.map .int)
def lexS (pss:List (List Int)):Prop:=pss.Pairwise fun x y=>HT.lexLt y x=false
theorem ahv {G H:Hp} (ft:FT G H):∀ {vs:List V},(∀ v∈vs,TupI H v)->Rps G vs ((vs.map (kH H)).map tiD)
 | [],_ => .nil
 | v :: vs,h=>by
  obtain ⟨t,ns,rfl,e,_⟩:=h v aB7
  rw [aD0,aD0,alf e]
  have:(ns.map V.int)=(ns.map (fun i=>(Sum.inl i:Key))).map kV:=by rw [aD8];rfl
  refine .cons (.tup ?_ (Rps.ints ns)) (ahv ft fun u a=>h u (aB4 _ a))
  rw [this];exact ft t _ (by rw [← this];exact e)
theorem ahk {G H:Hp} (gh:Same G H):∀ {vs:List V} {pss:List (List Int)},Rps G vs (pss.map tiD)->(∀ ns∈pss,ns ≠ [])->(∀ v∈vs,TupI H v)/\vs.map (kH H)=pss
 | _,[],.nil,_=>⟨fun v f=>by simp at f,rfl⟩
 | v :: vs,ns :: pss,.cons r t,hn=>by
  obtain ⟨b,d⟩:=ahk gh t fun c hm=>hn c (aB4 _ hm)
  cases r with
  | tup h rs =>
   have:=Rps.ints_inv rs
   subst this
   have e:=gh _ _ h
   refine ⟨fun u a=>?_,by rw [aD0,alf e,d]⟩
   rcases aA8.mp a with rfl | a
   ·exact ⟨_,ns,rfl,e,hn ns aB7⟩
   ·exact b u a
theorem ar6 {pss:List (List Int)} (hn:∀ ns∈pss,ns ≠ []) (h:EvA B ta env fun ds e=>ds=[.list (pss.map tiD)]/\∀ b:List (List Int),b.Perm pss->lexS b->QO (.own (OL (b.map tiD))) e):EvO B (tCB (aig K) ta) env QO:=fun σ G H F Q I k =>
 h σ G H F _ I fun vs A f j ds x c q y w=>by
  obtain ⟨l,s⟩:=w
  subst l
  cases y with
  | cons r t =>
   cases t
   cases r with
   | @lst a us _ ha rs =>
    obtain ⟨d,n⟩:=ahk c.gh rs hn
    refine ⟨a,us,rfl,SqL.of (c.gh _ _ ha),d,fun m p g i hf=>?_⟩
    have u:∀ v∈m,TupI f v:=fun v z=>d v (g.mem_iff.mp z)
    have o:=Out.newL c.gh hf (ahv c.ft u)
    refine k _ _ _ j _ _ x (c.out o).1 (q.trans o.gg) (c.out o).2 (s _ ?_ ?_)
    ·have:=g.map (kH f);rw [n] at this;exact this
    ·unfold lexS;rw [aF5];exact i
theorem ap4 {es:List (List Key × PyData)} {b:List (List Int)} (j:Has env i (OT es)) (f:es.map (·.1)=b.map (fun ns=>ns.map Sum.inl)) (hn:∀ ns∈b,ns ≠ []) (q:∀ c:List (List Int),c.Perm b->lexS c->QO (.own (OL (c.map tiD))) env):EvO B (tCB ag9 (aa2 (tVar i) tNil)) env QO:=fun σ G H F Q I k=>by
 obtain ⟨v,n,a,kvs,rfl,ha,rt,hf⟩:=I.has j
 obtain ⟨s,h⟩:=RpT.len rt
 refine ⟨_,n,a,kvs,b,rfl,ha,by rw [h,f],hn,fun r p m l g d=>?_⟩
 have o:=Out.newL I.gh d (ahv I.ft m)
 refine k _ _ _ F _ _ env (I.out o).1 o.gg (I.out o).2 (q _ l ?_)
 unfold lexS;rw [aF5];exact g
end
section
variable {B:Bs} {env:En} {QO:Sl->En->Prop} {Q':PyData->En->Prop} {K:Frag} {i:Nat} {ta:TA} {R:Sl->Prop}
theorem Rps.bools_inv {G:Hp}:∀ {bs:List Bool} {vs:List V},Rps G vs (bs.map PyData.bool)->vs=bs.map V.bl
 | [],_,.nil=>rfl
 | b :: bs,_,.cons r t=>by
  cases r
  rw [Rps.bools_inv t];rfl
theorem ao0 {bs:List Bool} (h:R (.st (.bool (bs.all id)))):OpA (rAll K) [.list (bs.map .bool)] R:=fun G H vs Q gh rs k=>by
 cases rs with
 | cons r t =>
  cases t
  cases r with
  | lst ha ra =>
   have:=Rps.bools_inv ra
   subst this
   exact ⟨_,bs,rfl,SqL.of (gh _ _ ha),k _ _ _ _ _ (Out.refl gh (.bl _)) h⟩
theorem au1 {ds:List PyData} (h:R (.own (OL ds))):OpA (ams K) [.list ds] R:=fun G H vs Q gh rs k=>by
 cases rs with
 | cons r t =>
  cases t
  cases r with
  | lst ha ra=>exact ⟨_,_,rfl,.inl (SqL.of (gh _ _ ha)),fun p a=>k _ _ _ _ _ (Out.newL gh a ra) h⟩
theorem ar7 {G:Hp} (n:Nat):Rps G ((List.range n).map fun (i:Nat)=>V.int (i:Int)) (rngD 0 n):=by
 unfold rngD
 refine amq (by simp) fun i v d a hd=>?_
 rw [aA5] at a hd
 cases e:(List.range n)[i]? with
 | none=>rw [e] at a;cases a
 | some m=>rw [e] at a hd;cases a;cases hd;show Rp G (.int (m:Int)) (.int (0+(m:Int)));rw [Int.zero_add];exact .int _
theorem akk (h:EvA B ta env fun ds e=>∃ j:Int,ds=[.int j]/\0<=j/\j<=1000000/\QO (.own (OL (rngD 0 j.toNat))) e):EvO B (aiq ta) env QO:=fun σ G H F Q I k =>
 h σ G H F _ I fun vs s r b ds m a f n l=>by
  obtain ⟨j,c,q,d,g⟩:=l
  subst c
  obtain rfl:vs=[V.int j]:=Rps.ints_inv (ns:=[j]) n
  refine ⟨j,rfl,q,d,fun p i=>?_⟩
  have o:=Out.newL a.gh i (ar7 j.toNat)
  exact k _ _ _ b _ _ m (a.out o).1 (f.trans o.gg) (a.out o).2 g
theorem au2 (h:EvA B ta env fun ds e=>∃ j:Int,ds=[.int j]/\0<=j/\j<=1000000/\Q' (.list (rngD 0 j.toNat)) e):Ev B (aiq ta) env Q':=abg (akk fun σ G H F Q I k=>h σ G H F Q I fun vs G' H' F' ds f d g r ⟨j,a,b,c,q⟩=>k vs G' H' F' ds f d g r ⟨j,a,b,c,acz q⟩)
end
section
variable {κ:Type} [DecidableEq κ] {α:Type}
def valD (es:List (κ × α)) (k : κ):Option α:=(es.find? fun e=>decide (e.1=k)).map (·.2)
def putD (es:List (κ × α)) (k : κ) (d : α):List (κ × α):=if (es.any fun e=>decide (e.1=k))=true then es.map (fun e=>if e.1=k then (e.1,d) else e) else es ++ [(k,d)]
end
theorem RpK.val {G:Hp} {k:Key}:∀ {kvs:List (Key × V)} {es:List (Key × PyData)},RpK G kvs es->(valD es k=none->valV kvs k=none)/\∀ d,valD es k=some d->∃ v,valV kvs k=some v/\Rp G v d
 | _,_,.nil=>⟨fun _=>rfl,fun d h=>by cases h⟩
 | _,_,.cons (k:=k') r t=>by
  obtain ⟨a,f⟩:=RpK.val (k:=k) t
  by_cases e:k'=k
  ·refine ⟨fun h=>by simp [valD,e] at h,fun d h=>?_⟩
   simp [valD,e] at h
   subst h
   exact ⟨_,by simp [valV,e],r⟩
  ·refine ⟨fun h=>?_,fun d h=>?_⟩
   ·simp [valV,e];simp [valD,e] at h
    have:=a (by simp [valD];exact h)
    simpa [valV] using this
   ·obtain ⟨v,c,b⟩:=f d (by simpa [valD,e] using h)
    exact ⟨v,by simpa [valV,e] using c,b⟩
theorem RpK.any {G:Hp} {k:Key}:∀ {kvs:List (Key × V)} {es:List (Key × PyData)},RpK G kvs es->(kvs.any fun e=>decide (e.1=k))=es.any fun e=>decide (e.1=k)
 | _,_,.nil=>rfl
 | _,_,.cons r t=>by simp [RpK.any t]
theorem RpK.map {G:Hp} {k:Key} {v:V} {d:PyData} (h:Rp G v d):∀ {kvs:List (Key × V)} {es:List (Key × PyData)},RpK G kvs es->RpK G (kvs.map fun e=>if e.1=k then (e.1,v) else e) (es.map fun e=>if e.1=k then (e.1,d) else e)
 | _,_,.nil => .nil
 | _,_,.cons (k:=k') r t=>by
  by_cases e:k'=k
  ·simp only [aD0,e,if_true];exact .cons h (RpK.map h t)
  ·simp only [aD0,e,if_false];exact .cons r (RpK.map h t)
theorem RpK.append {G:Hp}:∀ {a b:List (Key × V)} {c d:List (Key × PyData)},RpK G a c->RpK G b d->RpK G (a ++ b) (c ++ d)
 | _,_,_,_,.nil,s=>s
 | _,_,_,_,.cons r t,s => .cons r (RpK.append t s)
theorem RpK.put {G:Hp} {k:Key} {v:V} {d:PyData} (h:Rp G v d) {kvs:List (Key × V)} {es:List (Key × PyData)} (r:RpK G kvs es):RpK G (putK kvs k v) (putD es k d):=by
 unfold putK putD
 rw [r.any]
 split
 ·exact r.map h
 ·exact r.append (.cons h .nil)
theorem RpT.any {G:Hp} {k:List Key}:∀ {kvs:List (List Key × V)} {es:List (List Key × PyData)},RpT G kvs es->(kvs.any fun e=>decide (e.1=k))=es.any fun e=>decide (e.1=k)
 | _,_,.nil=>rfl
 | _,_,.cons r t=>by simp [RpT.any t]
theorem RpT.map {G:Hp} {k:List Key} {v:V} {d:PyData} (h:Rp G v d):∀ {kvs:List (List Key × V)} {es:List (List Key × PyData)},RpT G kvs es->RpT G (kvs.map fun e=>if e.1=k then (e.1,v) else e) (es.map fun e=>if e.1=k then (e.1,d) else e)
 | _,_,.nil => .nil
 | _,_,.cons (k:=k') r t=>by
  by_cases e:k'=k
  ·simp only [aD0,e,if_true];exact .cons h (RpT.map h t)
  ·simp only [aD0,e,if_false];exact .cons r (RpT.map h t)
theorem RpT.append {G:Hp}:∀ {a b:List (List Key × V)} {c d:List (List Key × PyData)},RpT G a c->RpT G b d->RpT G (a ++ b) (c ++ d)
 | _,_,_,_,.nil,s=>s
 | _,_,_,_,.cons r t,s => .cons r (RpT.append t s)
theorem RpT.put {G:Hp} {k:List Key} {v:V} {d:PyData} (h:Rp G v d) {kvs:List (List Key × V)} {es:List (List Key × PyData)} (r:RpT G kvs es):RpT G (putK kvs k v) (putD es k d):=by
 unfold putK putD
 rw [r.any]
 split
 ·exact r.map h
 ·exact r.append (.cons h .nil)
theorem RpK.length {G:Hp}:∀ {kvs:List (Key × V)} {es:List (Key × PyData)},RpK G kvs es->kvs.length=es.length
 | _,_,.nil=>rfl
 | _,_,.cons _ t=>by simp [RpK.length t]
theorem air {G:Hp} {v:V} {k:Key} (r:Rp G v (kD k)):v=kV k:=by
 cases k with
 | inl i=>cases r;rfl
 | inr x=>cases r;rfl
theorem amu {G:Hp}:∀ {a:List Key} {vs:List V},Rps G vs (a.map kD)->vs=a.map kV
 | [],_,.nil=>rfl
 | k :: a,_,.cons r t=>by rw [air r,amu t];rfl
section
variable {B:Bs} {env:En} {QO:Sl->En->Prop} {Q':PyData->En->Prop} {D':VEnds} {i:Nat} {te ty tv td:TE}
theorem ar8 (q:QO (.own (OT [])) env):EvO B alv env QO:=fun σ G H F Q I k p a=>by
 have o:=Out.newDT (ds:=[]) I.gh a .nil
 exact k _ _ _ F _ _ env (I.out o).1 o.gg (I.out o).2 q
theorem ar9 {es0:List (List Key × PyData)} (h:Ev B tv env fun d o=>Has o i (OT es0)/\Ev B ty o fun y e2=>∃ es j,e2[i]?=some (some (.own (OT es)))/\y=tkD j/\es.length<=999999/\D'.nx (e2.set i (some (.own (OT (putD es j d)))))):EvS B (ah6 (tVar i) ty tv) D' env:=fun σ G H F D I r =>
 h σ G H F _ I fun v A z x d o q K N M=>by
  obtain ⟨w,L⟩:=M
  obtain ⟨v0,p,a,kvs,rfl,ha,rt,_⟩:=q.has w
  refine ⟨_,p,L σ A z x _ q fun Q C H2 F2 y e2 m s E ⟨es,j,f,J,P,O⟩=>?_⟩
  subst J
  obtain ⟨S,c,⟨R,u,n,l,g,hf⟩,hb⟩:=m.sl i _ f
  rw [p] at c;cases c;cases n
  cases E with
  | tup hk rs =>
   have:=amu rs
   subst this
   refine ⟨a,_,rfl,DPut.t l (m.gh _ _ hk) (by rw [(RpT.len g).1];exact big (by lia)),?_⟩
   exact r.nx σ C _ _ _ (m.upd1 (A':=OT (putD es j d)) f (.inl rfl) p hf ⟨a,_,rfl,aaf,g.put (N.same s),fun b=>Iff.rfl⟩) (K.trans s) O
theorem asa {es0:List (Key × PyData)} (h:Ev B tv env fun d m=>Has m i (OD es0)/\Ev B ty m fun y e2=>∃ es k,e2[i]?=some (some (.own (OD es)))/\y=kD k/\es.length<=999999/\D'.nx (e2.set i (some (.own (OD (putD es k d)))))):EvS B (ah6 (tVar i) ty tv) D' env:=fun σ G H F D I r =>
 h σ G H F _ I fun v z x w d m p J M L=>by
  obtain ⟨u,K⟩:=L
  obtain ⟨v0,n,a,kvs,rfl,ha,rt,_⟩:=p.has u
  refine ⟨_,n,K σ z x w _ p fun Q A H2 F2 y e2 o q C ⟨es,N,f,E,P,O⟩=>?_⟩
  subst E
  obtain ⟨S,c,⟨R,s,l,j,g,hf⟩,hb⟩:=o.sl i _ f
  rw [n] at c;cases c;cases l
  have:=air C
  subst this
  refine ⟨a,_,rfl,DPut.k j (by rw [g.length];exact big (by lia)),?_⟩
  exact r.nx σ A _ _ _ (o.upd1 (A':=OD (putD es N d)) f (.inl rfl) n hf ⟨a,_,rfl,aaf,g.put (M.same q),fun b=>Iff.rfl⟩) (J.trans q) O
theorem ap5 {es0:List (Key × PyData)} (h:Ev B ty env fun y e2=>∃ es k,Has e2 i (OD es)/\y=kD k/\Q' (.bool (!(valD es k).isSome)) e2):Ev B (ag2 ty (tVar i)) env Q':=fun σ G H F Q I k =>
 h σ G H F _ I fun u j H2 F2 y e2 c p l r=>by
  obtain ⟨es,b,n,m,q⟩:=r
  subst m
  obtain ⟨v,s,a,kvs,rfl,ha,rt,_⟩:=c.has n
  have:=air l
  subst this
  refine ⟨_,s,a,_,rfl,DGet.k ha,?_⟩
  have e:(valV kvs b).isSome=(valD es b).isSome:=by
   obtain ⟨o,g⟩:=rt.val (k:=b)
   cases hd:valD es b with
   | none=>rw [o hd];rfl
   | some d=>obtain ⟨v,f,_⟩:=g d hd;rw [f];rfl
  rw [e]
  exact k _ j H2 F2 _ e2 c p (.bl _) q
end
section
variable {B:Bs} {env:En} {QO:Sl->En->Prop} {Q':PyData->En->Prop} {QE:En->Prop} {D':VEnds} {K:Frag} {i:Nat} {ta:TA}
theorem axy {j:Int} {R:Int->Prop} (a:0<=j) (b:j<=1000000) (h:R j):∃ i:Int,[PyData.int j]=[.int i]/\0<=i/\i<=1000000/\R i:=⟨j,rfl,a,b,h⟩
theorem x_dT {es:List (List Key × PyData)} {a b:Int} {e2:En} {R:List (List Key × PyData)->List Key->Prop} (e:e2[i]?=some (some (.own (OT es)))) (d:es.length<=999999) (q:R es [.inl a,.inl b]):∃ es c,e2[i]?=some (some (.own (OT es)))/\PyData.tuple [.int a,.int b]=tkD c/\es.length<=999999/\R es c:=⟨es,_,e,rfl,d,q⟩
theorem x_dK {es:List (Key × PyData)} {a:Int} {e2:En} {R:List (Key × PyData)->Key->Prop} (e:e2[i]?=some (some (.own (OD es)))) (b:es.length<=999999) (q:R es (.inl a)):∃ es k,e2[i]?=some (some (.own (OD es)))/\PyData.int a=kD k/\es.length<=999999/\R es k:=⟨es,_,e,rfl,b,q⟩
theorem x_dN {es:List (Key × PyData)} {a:Int} {e2:En} {R:List (Key × PyData)->Key->Prop} (e:Has e2 i (OD es)) (q:R es (.inl a)):∃ es k,Has e2 i (OD es)/\PyData.int a=kD k/\R es k:=⟨es,_,e,rfl,q⟩
end
def ltP (p q:Int × Int):Prop:=p.1 < q.1\/(p.1=q.1/\p.2 < q.2)
@[reducible] def p2 (p:Int × Int):List Int:=[p.1,p.2]
theorem lex2 (p q:Int × Int):HT.lexLt (p2 p) (p2 q)=true ↔ ltP p q:=by
 obtain ⟨a,b⟩:=p
 obtain ⟨c,d⟩:=q
 simp [p2,HT.lexLt,ltP]
 split <;> lia
theorem ais {a:List (List Int)} {ps:List (Int × Int)} (h:a.Perm (ps.map p2)):∃ qs:List (Int × Int),a=qs.map p2/\qs.Perm ps:=by
 refine ⟨a.map fun l=>(l.getD 0 0,l.getD 1 0),?_,?_⟩
 ·rw [aD8]
  symm
  conv=>rhs;rw [← List.map_id a]
  apply aE4
  intro l b
  obtain ⟨p,_,rfl⟩:=aB6.mp (h.mem_iff.mp b)
  rfl
 ·have:=h.map fun l=>(l.getD 0 0,l.getD 1 0)
  rw [aD8] at this
  have e:((fun l:List Int=>(l.getD 0 0,l.getD 1 0)) ∘ p2)=id:=by funext p;rfl
  rw [e,List.map_id] at this
  exact this
def Rise (es:List (Int × Int)):Prop:=es.Pairwise ltP
theorem aha (p:Int × Int):¬ ltP p p:=by unfold ltP;lia
theorem axz (p q:Int × Int):ltP p q\/p=q\/ltP q p:=by
 obtain ⟨a,b⟩:=p
 obtain ⟨c,d⟩:=q
 unfold ltP
 simp only [Prod.mk.injEq]
 lia
theorem asb {p q r:Int × Int} (h:ltP p q) (g:ltP q r):ltP p r:=by unfold ltP at *;lia
theorem ajv {qs ps:List (Int × Int)} (c:qs.Perm ps) (hn:ps.Nodup) (b:lexS (qs.map p2)):Rise qs:=by
 have a:qs.Nodup:=c.nodup_iff.mpr hn
 unfold lexS at b
 rw [aF5] at b
 unfold Rise
 refine (List.Pairwise.and b a).imp fun {p q} h=>?_
 have d:¬ ltP q p:=fun z=>by rw [(lex2 q p).mpr z] at h;exact absurd h.1 (by simp)
 rcases axz p q with z | z | z
 ·exact z
 ·exact absurd z h.2
 ·exact absurd z d
theorem Rise.nodup {es:List (Int × Int)} (h:Rise es):es.Nodup:=h.imp fun {p q} z (e:p=q)=>aha q (by rw [e] at z;exact z)
theorem Rise.eq:∀ {as bs:List (Int × Int)},Rise as->Rise bs->(∀ p,p∈as ↔ p∈bs)->as=bs
 | [],[],_,_,_=>rfl
 | [],b :: _,_,_,h=>by have:=(h b).mpr aB7;simp at this
 | a :: _,[],_,_,h=>by have:=(h a).mp aB7;simp at this
 | a :: as,b :: bs,ha,hb,h=>by
  obtain ⟨c,g⟩:=List.pairwise_cons.mp ha
  obtain ⟨d,f⟩:=List.pairwise_cons.mp hb
  have e:a=b:=by
   rcases aA8.mp ((h a).mp aB7) with e | e
   ·exact e
   ·rcases aA8.mp ((h b).mpr aB7) with e2 | e2
    ·exact e2.symm
    ·exact absurd (asb (c b e2) (d a e)) (aha a)
  subst e
  have:=Rise.eq g f fun p=>by
   have i:=h p
   simp only [aA8] at i
   constructor
   ·intro m
    rcases i.mp (.inr m) with e | e
    ·subst e;exact absurd (c p m) (aha p)
    ·exact e
   ·intro m
    rcases i.mpr (.inr m) with e | e
    ·subst e;exact absurd (d p m) (aha p)
    ·exact e
  rw [this]
structure WebOk (n:Int) (es:List (Int × Int)):Prop where
 lo:1<=n
 hi:n<=60
 inn:∀ p∈es,0<=p.1/\p.1 < p.2/\p.2 < n
 rise:Rise es
theorem akl {n:Nat} {es:List (Int × Int)} (hn:es.Nodup) (hi:∀ p∈es,0<=p.1/\p.1 < (n:Int)/\0<=p.2/\p.2 < (n:Int)):es.length<=n * n:=by
 have h:(es.map fun (p:Int × Int)=>p.1 * (n:Int)+p.2).Nodup:=by
  unfold List.Nodup
  rw [aF5]
  refine aH4 ?_ hn
  intro p q d i c e
  have a:=hi p d
  have b:=hi q i
  apply c
  have f:p.1=q.1:=by
   rcases Int.lt_trichotomy p.1 q.1 with z | z | z
   ·have:(p.1+1) * n<=q.1 * n:=Int.mul_le_mul_of_nonneg_right (by lia) (by lia)
    rw [Int.add_mul] at this;lia
   ·exact z
   ·have:(q.1+1) * n<=p.1 * n:=Int.mul_le_mul_of_nonneg_right (by lia) (by lia)
    rw [Int.add_mul] at this;lia
  rw [f] at e
  exact Prod.ext f (by lia)
 have:=L2.few_places (n * n) _ h fun v j=>by
  obtain ⟨p,d,rfl⟩:=aB6.mp j
  have a:=hi p d
  have l:0<=p.1 * (n:Int):=Int.mul_nonneg a.1 (by lia)
  have g:(p.1+1) * (n:Int)<=n * n:=Int.mul_le_mul_of_nonneg_right (by lia) (by lia)
  rw [Int.add_mul] at g
  push_cast
  lia
 simpa using this
theorem WebOk.len {n:Int} {es:List (Int × Int)} (h:WebOk n es):es.length<=3600:=by
 have:=akl (n:=n.toNat) h.rise.nodup fun p b=>by have:=h.inn p b;have:=h.lo;lia
 have a:n.toNat<=60:=by have:=h.hi;lia
 exact aC9 this (Nat.mul_le_mul a a)
def kE (ps:List (Int × Int)):List (List Key × PyData):=ps.map fun p=>([Sum.inl p.1,Sum.inl p.2],.bool true)
def addP (ps:List (Int × Int)) (p:Int × Int):List (Int × Int):=if p∈ps then ps else ps ++ [p]
theorem ae2 {ps:List (Int × Int)}:(kE ps).length=ps.length:=by simp [kE]
theorem amv (ps:List (Int × Int)) (a b:Int):putD (kE ps) [Sum.inl a,Sum.inl b] (.bool true)=kE (addP ps (a,b)):=by
 have c:((kE ps).any fun e=>decide (e.1=[Sum.inl a,Sum.inl b]))=decide ((a,b)∈ps):=by
  rw [aH2,List.any_eq_true,decide_eq_true_iff]
  constructor
  ·rintro ⟨e,f,h⟩
   obtain ⟨p,d,rfl⟩:=aB6.mp f
   simp at h
   obtain ⟨g,p2⟩:=p
   simp at h
   rw [← h.1,← h.2];exact d
  ·intro h
   exact ⟨_,aB6.mpr ⟨(a,b),h,rfl⟩,by simp⟩
 unfold putD
 rw [c]
 unfold addP
 by_cases h:(a,b)∈ps
 ·rw [aE9 (by simpa using h),aE9 h]
  unfold kE
  rw [aD8]
  apply aE4
  intro p _
  simp only [Function.comp]
  split <;> rfl
 ·rw [aF0 (by simpa using h),aF0 h]
  simp [kE]
theorem addP_mem {ps:List (Int × Int)} {p q:Int × Int}:q∈addP ps p ↔ q∈ps\/q=p:=by
 unfold addP
 split
 ·rename_i h
  exact ⟨.inl,fun z=>z.elim id fun e=>e ▸ h⟩
 ·simp
theorem ap6 {ps:List (Int × Int)} {p:Int × Int} (h:ps.Nodup):(addP ps p).Nodup:=by
 unfold addP
 split
 ·exact h
 ·rename_i hn
  rw [aE3]
  exact ⟨h,by simp,fun x b y a=>by simp at a;subst a;rintro rfl;exact hn b⟩
theorem ahw {ps:List (Int × Int)} {p:Int × Int}:(addP ps p).length<=ps.length+1:=by
 unfold addP;split <;> simp
theorem ax0 (ps:List (Int × Int)):(kE ps).map (·.1)=(ps.map p2).map (fun ns=>ns.map Sum.inl):=by
 unfold kE;rw [aD8,aD8];rfl
theorem a0h:([]:List (List Key × PyData))=kE []:=rfl
theorem amw (ps:List (Int × Int)):(ps.map p2).map tiD=ps.map prD:=by rw [aD8];rfl
theorem av1 {ps:List (Int × Int)}:∀ ns∈ps.map p2,ns ≠ []:=fun ns h=>by
 obtain ⟨p,_,rfl⟩:=aB6.mp h
 simp
section
variable {B:Bs} {env:En} {QO:Sl->En->Prop} {K:Frag} {i:Nat} {ta:TA}
theorem ae3 {ps:List (Int × Int)} (h:EvA B ta env fun ds e=>ds=[.list (ps.map prD)]/\∀ qs:List (Int × Int),qs.Perm ps->lexS (qs.map p2)->QO (.own (OL (qs.map prD))) e):EvO B (tCB (aig K) ta) env QO :=
 ar6 (pss:=ps.map p2) av1 fun σ G H F Q I k=>h σ G H F Q I fun vs G' H' F' ds e a g r ⟨b,q⟩=>k vs G' H' F' ds e a g r ⟨by rw [amw];exact b,fun d i c=>by
  obtain ⟨qs,rfl,f⟩:=ais i
  rw [amw];exact q qs f c⟩
theorem ait {ps:List (Int × Int)} (d:Has env i (OT (kE ps))) (q:∀ qs:List (Int × Int),qs.Perm ps->lexS (qs.map p2)->QO (.own (OL (qs.map prD))) env):EvO B (tCB ag9 (aa2 (tVar i) tNil)) env QO :=
 ap4 d (ax0 ps) av1 fun c f a=>by
  obtain ⟨qs,rfl,b⟩:=ais f
  rw [amw];exact q qs b a
end
def OW (d:PyData) (ds:List PyData):Own where
 P:=fun G H v F=>∃ t l u vs,v=.ref t/\H t=some (.tup [u,.ref l])/\Rp G u d/\H l=some (.lst vs)/\Rps G vs ds/\∀ b,F b ↔ b=t\/b=l
 mono:=fun ⟨t,l,u,vs,e,h1,r1,h2,r2,f⟩ g hh=>⟨t,l,u,vs,e,hh t _ ((f t).mpr (.inl rfl)) h1,r1.same g,hh l _ ((f l).mpr (.inr rfl)) h2,r2.same g,f⟩
 dom:=fun ⟨t,l,u,vs,e,h1,r1,h2,r2,f⟩ b z=>by
  rcases (f b).mp z with rfl | rfl
  ·exact ⟨_,h1⟩
  ·exact ⟨_,h2⟩
theorem asc {d:PyData} {ds:List PyData}:Frz (OW d ds) (.tuple [d,.list ds]):=fun G H v F ⟨t,l,u,vs,e,b,c,a,h,f⟩ n g=>by
 subst e
 exact .tup (by rw [adc ((f t).mpr (.inl rfl))];exact b) (.cons (c.same (abl n)) (.cons (.lst (by rw [adc ((f l).mpr (.inr rfl))];exact a) (h.same (abl n))) .nil))
theorem ali {d:PyData} {ds:List PyData} {R:PyData->Prop} (h:R (.tuple [d,.list ds])):FQ (.own (OW d ds)) R:=⟨_,asc,h⟩
section
variable {B:Bs} {env:En} {QO:Sl->En->Prop} {Q':PyData->En->Prop} {K:Frag} {i j:Nat} {ta te:TE}
theorem amx {u:V} {l:Addr} {a:List Key}:HO.tup [u,.ref l] ≠ .tup (a.map kV):=by
 intro z
 injection z with z
 match a,z with
 | [],z=>cases z
 | [_],z=>cases z
 | [_,k],z =>
  simp at z
  cases k <;> simp [kV] at z
 | _ :: _ :: _ :: _,z=>simp at z
theorem au3 {n:List PyData} (N:env[j]?=some (some (.own (OL n)))) (h:Ev B ta env fun d g=>∃ ds,g[j]?=some (some (.own (OL ds)))/\QO (.own (OW d ds)) (g.set j none)):EvO B (tTup (aa2 ta (aa2 (tVar j) tNil))) env QO:=fun σ G H F Q I k =>
 h σ G H F _ I fun v u x r d g c C K E=>by
  obtain ⟨ds,L,q⟩:=E
  obtain ⟨w,y,⟨l,vs,rfl,i,rs,hf⟩,hb⟩:=c.sl j _ L
  refine ⟨_,y,⟨by show (2:Nat)<=sizeLine;decide,fun p f=>?_⟩⟩
  have s:r j l:=(hf l).mpr rfl
  have pl:p ≠ l:=(aar i f).symm
  have D:=c.drop j
  have A:∀ m a,(a=p\/a=l)->¬ putF r j (fun _=>False) m a:=fun m a ha z=>by
   by_cases hm:m=j
   ·subst hm;exact putF_same.mp z
   ·rw [aa8 hm] at z
    rcases ha with rfl | rfl
    ·exact c.no_f f m z
    ·exact hm (c.fd m j a z s)
  have J:VI B u (upd x p (.tup [v,.ref l])) σ (g.set j none) (putF r j fun _=>False):=D.grow (Same.refl _) (c.gh.trans (abb f)) (abb f) (fun a o e => .inl e) fun a M e=>by
   by_cases z:a=p
   ·subst z;rw [aaf] at e;exact absurd (aC5 e) amx
   ·rw [aad z] at e;exact c.ft a M e
  refine k _ u _ _ (fun a=>a=p\/a=l) (.own (OW d ds)) _ J C ⟨⟨p,l,v,vs,rfl,aaf,K,by rw [aad pl.symm];exact i,rs,fun b=>Iff.rfl⟩,fun a z=>?_,fun a z=>?_,fun a z=>?_,fun m a z=>A m a z⟩ q
  ·rcases z with rfl | rfl
   ·exact c.no_b f
   ·exact hb a s
  ·rcases z with rfl | rfl
   ·exact c.no_g f
   ·exact c.fg j a s
  ·rcases z with rfl | rfl
   ·exact ⟨_,aaf⟩
   ·exact ⟨_,by rw [aad pl.symm];exact i⟩
theorem x_ow {ds:List PyData} {a:En} {R:List PyData->Prop} (e:a[j]?=some (some (.own (OL ds)))) (q:R ds):∃ ds,a[j]?=some (some (.own (OL ds)))/\R ds:=⟨ds,e,q⟩
end
section
variable {B:Bs} {env:En} {Q':PyData->En->Prop} {D':VEnds} {i:Nat} {ty tv:TE}
theorem ap7 {a:List (List Key × PyData)} (f:env[i]?=some (some (.own (OT a)))) (h:Ev B tv env fun d b=>Has b i (OT a)/\Ev B ty b fun y e2=>∃ es c,e2[i]?=some (some (.own (OT es)))/\y=tkD c/\es.length<=999999/\D'.nx (e2.set i (some (.own (OT (putD es c d)))))):EvS B (ah6 (tVar i) ty tv) D' env:=ar9 h
theorem ap8 {a:List (Key × PyData)} (c:env[i]?=some (some (.own (OD a)))) (h:Ev B tv env fun d b=>Has b i (OD a)/\Ev B ty b fun y e2=>∃ es k,e2[i]?=some (some (.own (OD es)))/\y=kD k/\es.length<=999999/\D'.nx (e2.set i (some (.own (OD (putD es k d)))))):EvS B (ah6 (tVar i) ty tv) D' env:=asa h
theorem an0 {a:List (Key × PyData)} (b:Has env i (OD a)) (h:Ev B ty env fun y e2=>∃ es k,Has e2 i (OD es)/\y=kD k/\Q' (.bool (!(valD es k).isSome)) e2):Ev B (ag2 ty (tVar i)) env Q':=ap5 (es0:=[]) h
end
section
variable {R:Sl->Prop} {K:Frag}
theorem ax1 {p q:Int × Int} (h:R (.st (.bool (HT.lexLt (p2 p) (p2 q))))):Op2 (rLtT K) (prD p) (prD q) R:=fun G H d f Q gh c a k=>by
 cases c with
 | tup ha ra =>
  cases a with
  | tup hb rb =>
   have b:=Rps.ints_inv (ns:=p2 p) ra
   have e2:=Rps.ints_inv (ns:=p2 q) rb
   subst b e2
   exact ⟨_,_,p2 p,p2 q,rfl,rfl,SqT.of (gh _ _ ha),SqT.of (gh _ _ hb),k _ _ _ _ _ (Out.refl gh (.bl _)) h⟩
end
theorem asd (p:Int × Int):aap (prD p)=true:=rfl
theorem aiu (ps:List (Int × Int)):plainDs (ps.map prD)=true:=by
 rw [ae7]
 intro d hd
 obtain ⟨p,_,rfl⟩:=aB6.mp hd
 rfl
theorem ao1 (p q:Int × Int):PyData.eqv (prD p) (prD q)=decide (p=q):=by
 rw [aH2,aey _ _ rfl rfl,decide_eq_true_iff]
 constructor
 ·intro h
  simp [prD] at h
  exact Prod.ext h.1 h.2
 ·rintro rfl;rfl
theorem ax2 (ps:List (Int × Int)) (q:Int × Int):((ps.map prD).any fun z=>PyData.eqv z (prD q))=decide (q∈ps):=by
 rw [aH2,List.any_eq_true,decide_eq_true_iff]
 constructor
 ·rintro ⟨d,hd,e⟩
  obtain ⟨p,a,rfl⟩:=aB6.mp hd
  rw [ao1] at e
  rw [← of_decide_eq_true e];exact a
 ·intro h
  exact ⟨prD q,aB6.mpr ⟨q,h,rfl⟩,by rw [ao1];exact aD6 rfl⟩
theorem ae9 {ds:List PyData} {m:Nat} (h:∀ d∈ds,d.depth<=m):PyData.depthAll ds<=m:=by
 induction ds with
 | nil=>simp [PyData.depthAll]
 | cons d ds ih =>
  simp only [PyData.depthAll]
  exact Nat.max_le.mpr ⟨h d aB7,ih fun e a=>h e (aB4 _ a)⟩
theorem akm (p:Int × Int):(prD p).depth<=1:=by simp [prD,PyData.depth,PyData.depthAll]
theorem aem {d:PyData} (h:aap d=true):PyData.eqv d d=true:=(aey d d h h).mpr rfl
end VL
namespace VL
theorem amy {α:Type} (R : α->α->Prop) (tr:∀ {a b c},R a b->R b c->R a c) {xs:List α}:xs.Pairwise R ↔ ∀ i (h:i+1 < xs.length),R (xs[i]'(by lia)) xs[i+1]:=by
 constructor
 ·intro h i hi
  exact aG1.mp h i (i+1) (by lia) hi (by lia)
 ·intro h
  rw [aG1]
  intro i j hi d f
  induction j with
  | zero=>lia
  | succ j ih =>
   by_cases e:i=j
   ·subst e;exact h i d
   ·exact tr (ih (by lia) (by lia)) (h j d)
end VL
namespace VL
open PySem PySem.Spec L2
section
variable {B:Bs} {env:En} {Q':PyData->En->Prop} {K:Frag} {E:XK} {i:Nat}
theorem au4 {f:VP} {t:TA} {A0:Own} (p:Has env i A0) (h:EvA B t env fun ds g=>∃ A d,Has g i A/\Frz A d/\f (.st d :: ds.map Sl.st) fun s=>∃ d',s=.st d'/\ail d'=true/\Q' d' g):Ev B (abq (spP K f) [] E (aa2 (tVar i) t)) env Q':=fun σ G H F Q I k=>by
 unfold abq
 simp only [aE5]
 obtain ⟨v,m,_⟩:=I.has p
 refine ⟨v,m,h σ G H F _ I fun vs w l j ds g b z J ⟨A,d,C,y,D⟩=>?_⟩
 obtain ⟨N,c,ap⟩:=b.has C
 rw [m] at c;cases c
 have js:=abl (H:=l) (b.fg i)
 refine ⟨jn w l (j i),_,_,apz b.gh,fun a L e=>js _ _ (b.ft a L e),.cons (s:=.st d) (y _ _ _ _ ap (b.fg i) b.gh) (ArgsOk.of (J.same js)),D,fun s q u G' H' Fv o=>?_⟩
 obtain ⟨d',rfl,r,q⟩:=q
 obtain ⟨M,x,n⟩:=b.moment js o
 exact k u M H' j d' g n (z.trans x) (axo o.ok.1 r) q
end
end VL
namespace VL
open PySem L2
theorem a1m {B:Bs} {t:TS} {D':VEnds} {e:En} (h:EvS B t D' e):EvS B t D' e:=h
theorem a1n {B:Bs} {g:TG} {s:Sl} {e:En} {Q:En->Prop} (h:EvG B g s e Q):EvG B g s e Q:=h
theorem a0i {B:Bs} {g:TGs} {s:List PyData} {e:En} {Q:En->Prop} (h:EvGs B g s e Q):EvGs B g s e Q:=h
theorem g_Ev {B:Bs} {t:TE} {e:En} {Q:PyData->En->Prop} (h:Ev B t e Q):Ev B t e Q:=h
theorem a1o {B:Bs} {t:TE} {e:En} {Q:Sl->En->Prop} (h:EvO B t e Q):EvO B t e Q:=h
theorem a1p {B:Bs} {t:TT} {e:En} {Q:Bool->En->Prop} (h:EvT B t e Q):EvT B t e Q:=h
theorem a1q {B:Bs} {t:TA} {e:En} {Q:List PyData->En->Prop} (h:EvA B t e Q):EvA B t e Q:=h
theorem a1r {B:Bs} {t:TI} {e:En} {Q:List PyData->En->Prop} (h:EvI B t e Q):EvI B t e Q:=h
theorem a1s {r:R2} {x y:PyData} {R:Sl->Prop} (h:Op2 r x y R):Op2 r x y R:=h
theorem a1t {r:V->Hp->VK->Prop} {x:PyData} {R:Sl->Prop} (h:Op1 r x R):Op1 r x R:=h
theorem a1u {r:List V->Hp->VK->Prop} {x:List PyData} {R:Sl->Prop} (h:OpA r x R):OpA r x R:=h
theorem g_FQ {s:Sl} {R:PyData->Prop} (h:FQ s R):FQ s R:=h
theorem ax3 {ds:List PyData} {R:List PyData->Prop} (h:alg ds R):alg ds R:=h
theorem ax4 {ds:List PyData} {R:List PyData->Prop} (h:alh ds R):alh ds R:=h
structure PsOk (n:Int) (ps:List (Int × Int)):Prop where
 nd:ps.Nodup
 inn:∀ p∈ps,0<=p.1/\p.1 < p.2/\p.2 < n
theorem PsOk.nil (n:Int):PsOk n []:=⟨List.nodup_nil,fun p a=>by simp at a⟩
theorem PsOk.add {n a b:Int} {ps:List (Int × Int)} (h:PsOk n ps) (c:0<=a) (f:a < b) (d:b < n):PsOk n (addP ps (a,b)) :=
 ⟨ap6 h.nd,fun p g=>by
  rcases addP_mem.mp g with q | q
  ·exact h.inn p q
  ·subst q;exact ⟨c,f,d⟩⟩
theorem PsOk.len {n:Int} {ps:List (Int × Int)} (h:PsOk n ps) (hn:n<=100):ps.length<=10000:=by
 by_cases h0:0<=n
 ·have:=akl (n:=n.toNat) h.nd fun p b=>by have:=h.inn p b;lia
  have a:n.toNat<=100:=by lia
  exact aC9 this (Nat.mul_le_mul a a)
 ·cases ps with
  | nil=>simp
  | cons p r=>have:=h.inn p aB7;lia
def Tr (n:Int) (ps:List (Int × Int)):Prop:=∀ k,1<=k->k < n->∃ h,0<=h/\h < k/\(h,k)∈ps
theorem Tr.add {n:Int} {ps:List (Int × Int)} {p:Int × Int} (h:Tr n ps):Tr n (addP ps p):=fun k d f=>by
 obtain ⟨x,a,b,c⟩:=h k d f
 exact ⟨x,a,b,addP_mem.mpr (.inl c)⟩
def Conn (n:Int) (T:Int->Int->Prop):Prop:=∀ u v,0<=u->u < n->0<=v->v < n->∃ k,Gr.Walk T u k v
theorem Joined.conn {n:Int} {es:List (Int × Int)} (h:Joined n es):Conn n (Tied es):=fun u v a c v0 v1=>by
 obtain ⟨d,hd⟩:=h u a c
 obtain ⟨e,b⟩:=h v v0 v1
 exact ⟨d+e,(hd.1.rev fun _ _ t=>t.symm).app b.1⟩
theorem Conn.mono {n:Int} {T a:Int->Int->Prop} (h:Conn n T) (g:∀ u v,T u v->a u v):Conn n a:=fun u v b d v0 v1=>by
 obtain ⟨k,w⟩:=h u v b d v0 v1
 exact ⟨k,w.rec .refl fun _ t c => .step c (g _ _ t)⟩
def Order (n:Int) (row:List Int):Prop:=row.Perm ((List.range n.toNat).map fun (i:Nat)=>(i:Int))
theorem Order.len {n:Int} {row:List Int} (h:Order n row):row.length=n.toNat:=by have:=h.length_eq;simpa using this
theorem Order.nodup {n:Int} {row:List Int} (h:Order n row):row.Nodup:=by
 refine h.nodup_iff.mpr ?_
 unfold List.Nodup
 rw [aF5]
 exact List.nodup_range.imp fun {a b} c e=>c (by lia)
theorem Order.mem {n:Int} {row:List Int} (h:Order n row) {v:Int}:v∈row ↔ 0<=v/\v < n:=by
 rw [h.mem_iff,aB6]
 constructor
 ·rintro ⟨i,hi,rfl⟩
  have:=aB8.mp hi
  lia
 ·rintro ⟨a,b⟩
  exact ⟨v.toNat,aB8.mpr (by lia),by lia⟩
theorem Order.get {n:Int} {row:List Int} (h:Order n row) {a:Int} (b:0<=a) (d:a < n):∃ x,row[a.toNat]?=some x/\atI row a=some x/\0<=x/\x < n:=by
 have c:a.toNat < row.length:=by rw [h.len];lia
 have e:row[a.toNat]?=some row[a.toNat]:=aA0 c
 have:=h.mem.mp (aA2 e)
 exact ⟨_,e,act b e,this.1,this.2⟩
theorem Order.inj {n:Int} {row:List Int} (h:Order n row) {a b x:Int} (a0:0<=a) (b0:0<=b) (ha:row[a.toNat]?=some x) (hb:row[b.toNat]?=some x):a=b:=by
 obtain ⟨c,f⟩:=aA1.mp ha
 obtain ⟨d,e2⟩:=aA1.mp hb
 have:=nodup_ix h.nodup c d (f.trans e2.symm)
 lia
theorem Order.id (n:Int):Order n ((List.range n.toNat).map fun (i:Nat)=>(i:Int)):=List.Perm.refl _
def aba (row:List Int) (a:Int):Int:=row.getD a.toNat 0
def reP (row:List Int) (p:Int × Int):Int × Int:=if aba row p.1 < aba row p.2 then (aba row p.1,aba row p.2) else (aba row p.2,aba row p.1)
theorem Order.at {n:Int} {row:List Int} (h:Order n row) {a:Int} (b:0<=a) (c:a < n):row[a.toNat]?=some (aba row a)/\0<=aba row a/\aba row a < n:=by
 obtain ⟨x,e,_,f,d⟩:=h.get b c
 have:aba row a=x:=by unfold aba;rw [aD2,e];rfl
 rw [this];exact ⟨e,f,d⟩
theorem Order.ne {n:Int} {row:List Int} (h:Order n row) {a b:Int} (a0:0<=a) (a1:a < n) (b0:0<=b) (b1:b < n) (c:a ≠ b):aba row a ≠ aba row b:=fun e=>by
 have d:=(h.at a0 a1).1
 have f:=(h.at b0 b1).1
 rw [e] at d
 exact c (h.inj a0 b0 d f)
theorem PsOk.re {n:Int} {ps:List (Int × Int)} {row:List Int} (h:PsOk n ps) (o:Order n row):PsOk n (ps.map (reP row)):=by
 have inn:∀ p∈ps,0<=(reP row p).1/\(reP row p).1 < (reP row p).2/\(reP row p).2 < n:=fun p c=>by
  obtain ⟨p0,u,p2⟩:=h.inn p c
  have a:=o.at p0 (by lia)
  have b:=o.at (a:=p.2) (by lia) p2
  have ne:=o.ne p0 (by lia) (by lia) p2 (by lia)
  unfold reP
  split <;> dsimp only <;> lia
 refine ⟨?_,fun q g=>by obtain ⟨p,c,rfl⟩:=aB6.mp g;exact inn p c⟩
 unfold List.Nodup
 rw [aF5]
 refine aH4 ?_ h.nd
 intro p q c g f e
 apply f
 obtain ⟨p0,u,p2⟩:=h.inn p c
 obtain ⟨i,v,s⟩:=h.inn q g
 have inj:∀ a b,0<=a->a < n->0<=b->b < n->aba row a=aba row b->a=b:=fun a b a0 a1 b0 b1 e=>by
  apply aD3
  intro d
  exact o.ne a0 a1 b0 b1 d e
 have m:=inj p.1 q.1 p0 (by lia) i (by lia)
 have l:=inj p.2 q.2 (by lia) p2 (by lia) s
 have r:=inj p.1 q.2 p0 (by lia) (by lia) s
 have j:=inj p.2 q.1 (by lia) p2 i (by lia)
 unfold reP at e
 split at e <;> split at e <;> simp only [Prod.mk.injEq] at e
 ·exact Prod.ext (m e.1) (l e.2)
 ·have:=r e.1;have:=j e.2;lia
 ·have:=j e.1;have:=r e.2;lia
 ·exact Prod.ext (m e.2) (l e.1)
theorem Tied.perm {qs ps:List (Int × Int)} (h:qs.Perm ps) {u v:Int}:Tied qs u v ↔ Tied ps u v:=by unfold Tied;rw [h.mem_iff,h.mem_iff]
theorem WebOk.ps {n:Int} {es:List (Int × Int)} (h:WebOk n es):PsOk n es:=⟨h.rise.nodup,h.inn⟩
theorem aiv {α:Type}:∀ {l:List α} {k:Nat} {x : α},l[k]?=some x->(x :: l.eraseIdx k).Perm l
 | [],_,_,h=>by simp at h
 | a :: l,0,x,h=>by simp at h;subst h;exact List.Perm.refl _
 | a :: l,k+1,x,h=>by
  have b:=aiv (l:=l) (k:=k) (x:=x) (by simpa using h)
  exact (List.Perm.swap a x _).trans (b.cons a)
theorem ap9 {n:Int} {row left:List Int} {k:Nat} {x:Int} (h:Order n (row ++ left)) (a:left[k]?=some x):Order n ((row ++ [x]) ++ left.eraseIdx k):=by
 refine List.Perm.trans ?_ h
 rw [aB3]
 refine List.Perm.append_left row ?_
 exact aiv a
section
variable {B:Bs} {env:En} {g:TG} {tif:TT} {te:TE} {K:Frag} {src:List (Option Nat)} {ds:List PyData} {e1:En} {R:List PyData->En->Prop}
end
theorem ax5 (n:Nat):rngD 0 n=((List.range n).map fun (i:Nat)=>(i:Int)).map PyData.int:=by simp [rngD]
theorem au5 {B:Bs} {t:TS} {D':VEnds} {env:En} (J:En->Prop) (h:EvS B t { D' with nx:=J } env) (k:∀ e,J e->D'.nx e):EvS B t D' env:=fun σ G H F D I r=>h σ G H F D I ⟨fun σ G' H F env a g q=>r.nx _ _ _ _ _ a g (k _ q),r.rt,r.bk,r.ct⟩
theorem adk {B:Bs} {g:TG} {A:Own} {d:PyData} {env:En} {b:En->Prop} (f:Frz A d) (h:EvG B g (.st d) env b):EvG B g (.own A) env b:=fun σ G H F v Fv Q I x k =>
 h σ _ H F v _ Q (I.freeze x.fb x.fd x.fg) (aek (f G H v Fv x.ok x.fg I.gh)) fun a G' H' F' i c g' q=>k a G' H' F' i c ((abl x.fg).trans g') q
theorem cutR {R X:Prop} (h:R->X) (r:R):X:=h r
end VL
namespace VL
open PySem PySem.Spec L2
def Sls (K:Frag) (G:Hp) (σ:St) (e:En):Prop:=∀ (j:Nat) (s:Sl),e[j]?=some (some s)->∃ v,σ[j]?=some (some v)/\((∃ d,s=.st d/\Rp G v d)\/∃ (ns:List Int) (a:Addr),s=.scr ns/\v=.ref a/\SqL K G a (ns.map V.int))
theorem Sls.same {K:Frag} {G G':Hp} {σ:St} {e:En} (h:Sls K G σ e) (g:Same G G'):Sls K G' σ e:=fun j s es=>by
 obtain ⟨v,c,q⟩:=h j s es
 refine ⟨v,c,?_⟩
 rcases q with ⟨d,b,r⟩ | ⟨ns,a,b,e2,r⟩
 ·exact .inl ⟨d,b,r.same g⟩
 ·exact .inr ⟨ns,a,b,e2,g.seq r⟩
section
variable {B:Bs} {env:En}
end
section
variable {B:Bs} {env:En} {Q':PyData->En->Prop} {QO:Sl->En->Prop} {c:TT} {ta tb:TE}
theorem ax6 (h:EvT B c env fun b e=>if b=true then EvO B ta e QO else EvO B tb e QO):EvO B (tIf c ta tb) env QO:=fun σ G H F Q I k =>
 h σ G H F _ I fun b j i f n l m q=>by
  cases b with
  | true=>rw [aE9 rfl] at q ⊢;exact q σ j i f Q l fun v G' H' F' Fv d e a g r z=>k v G' H' F' Fv d e a (m.trans g) r z
  | false=>rw [aF0 aA9] at q ⊢;exact q σ j i f Q l fun v G' H' F' Fv d e a g r z=>k v G' H' F' Fv d e a (m.trans g) r z
end
end VL
namespace VL
open PySem PySem.Spec L2 PyProof.Rows
end VL
namespace VL
open PySem PySem.Spec L2
section
variable {B:Bs} {env:En} {QO:Sl->En->Prop} {i:Nat}
theorem ase {k c:Int} (e:env[i]?=some (some (.st (.int k)))) (q:QO (.own (OD [(.inl k,.int c)])) env):EvO B (avv [(tVar i,tC (.int c))]) env QO:=fun σ G H F Q I f p d=>by
 obtain ⟨v,g,r⟩:=I.sl i _ e
 obtain ⟨r,_⟩:=r
 cases r
 refine ⟨_,g,aaf,[(.inl k,.int c)],rfl,by simp,?_⟩
 have o:=Out.newD (ds:=[(.inl k,.int c)]) (xs:=[(.inl k,.int c)]) I.gh d (.cons (.int c) .nil)
 have a:upd (upd H p (.dK [])) p (.dK (afd [] [(Sum.inl k,V.int c)]))=upd H p (.dK [(.inl k,.int c)]):=by
  funext b
  unfold upd
  split <;> rfl
 rw [a]
 exact f _ _ _ F _ _ env (I.out o).1 o.gg (I.out o).2 q
end
section
variable {X:Cx}
end
section
variable {R:Sl->Prop}
end
end VL
namespace L2
open PySem PySem.Spec PyProof.Rows
def isV (k:Int):Value->Bool
 | .int a _=>decide (a=k)
 | _=>false
theorem amz {ns:List Int} {us:List Value} (r:Vals (ns.map V.int) us) (k:Int):∀ i (h:i < us.length) (h':i < ns.length),isV k us[i]=decide (ns[i]=k):=by
 induction ns generalizing us with
 | nil=>intro i h h';simp at h'
 | cons n ns ih =>
  rw [aD0] at r
  cases r with
  | cons r1 r2 =>
   obtain ⟨t,e⟩:=r1
   subst e
   intro i h h'
   cases i with
   | zero=>rfl
   | succ i=>exact ih r2 i (by simpa using h) (by simpa using h')
theorem aqa {ns:List Int} {us:List Value} (r:Vals (ns.map V.int) us) (k:Int) (t:Tok):∀ y∈us,MeetsSeq.EqGives y (.int k t) (isV k y):=by
 induction ns generalizing us with
 | nil=>rw [List.map_nil] at r;cases r;intro y a;simp at a
 | cons n ns ih =>
  rw [aD0] at r
  cases r with
  | cons r1 r2 =>
   obtain ⟨u,e⟩:=r1
   subst e
   intro y a
   rcases aA8.mp a with rfl | a
   ·exact MeetsSeq.EqGives.int n k u t
   ·exact ih r2 y a
section
variable {X:Cx}
def asf:V->List V->Hp->VK->Prop:=fun x vs H Q=>∃ (l:Addr) (ns:List Int) (k:Int) (j:Nat),x=.ref l/\vs=[.int k]/\H l=some (.lst (ns.map V.int))/\ns[j]?=some k/\(∀ m,m < j->ns[m]? ≠ some k)/\Q (.int j) H
theorem am0:MtM X "list.index" asf:=by
 intro pins s σ H x vs v us Q I o w h
 obtain ⟨l,ns,k,j,rfl,rfl,p,B,f,q⟩:=h
 cases o
 obtain ⟨u,rfl,A⟩:=w.one
 obtain ⟨t,rfl⟩:=A
 obtain ⟨z,its,n,r,g,e⟩:=I.lstM p
 rw [aA3] at g z
 obtain ⟨b,c⟩:=aA1.mp B
 have hz:sizeLine < 2 ^ 62:=by decide
 refine call_meets F.slot_list_index ⟨_,e,rfl⟩ F.entry_list_index (F.args_list_index_2 _ _)
  (MeetsSeq.list_index l its.toArray n (.int k t) (isV k) (fun y i=>aqa r k t y (by simpa using i)) j (by rw [aB1];lia) (by lia) ?_ (fun m hm d=>?_)) ⟨e,?_⟩
 ·rw [List.getElem_toArray,amz r k j (by lia) b,aD6 c]
 ·have a:m < ns.length:=by lia
  rw [List.getElem_toArray,amz r k m (by lia) a]
  exact aD5 fun e=>f m d (by rw [aA0 a,e])
 ·exact ⟨.int j,H,I.tok _,⟨_,rfl⟩,q⟩
variable {e est:Expr} {te:TE} {ts:TO} {pos p2:Pos}
end
end L2
namespace VL
open PySem PySem.Spec L2
section
variable {B:Bs} {env:En} {QO:Sl->En->Prop} {Q':PyData->En->Prop} {te tl:TE} {ts:TO} {K:Frag} {i:Nat}
theorem au6 (h:Ev B tl env fun x i=>∃ ns:List Int,x=.list (ns.map .int)/\Ev B te i fun y e2=>∃ (k:Int) (j:Nat),y=.int k/\ns[j]?=some k/\(∀ m,m < j->ns[m]? ≠ some k)/\Q' (.int j) e2):Ev B (tBM K "list" asf tl (aa2 te tNil)) env Q':=fun σ G H F Q I k =>
 h σ G H F _ I fun v s r o d i f C J E=>by
  obtain ⟨ns,p,D⟩:=E
  subst p
  cases J with
  | @lst a vs _ ha rs =>
   have L:vs=ns.map V.int:=rs.ints_inv
   subst L
   refine ⟨.inl ⟨rfl,_,SqL.of (f.gh _ _ ha)⟩,D σ s r o _ f fun u z H2 F2 y e2 b g w ⟨c,j,A,n,l,q⟩=>?_⟩
   subst A
   cases w
   exact ⟨a,ns,c,j,rfl,rfl,b.gh _ _ (g _ _ ha),n,l,k _ z H2 F2 _ e2 b (C.trans g) (.int _) q⟩
end
theorem av2 {α:Type} [DecidableEq α]:∀ {as bs:List α},as.Nodup->(∀ a∈as,a∈bs)->as.length<=bs.length
 | [],_,_,_=>aF4 _
 | a :: as,bs,hn,hs=>by
  have ha:a∈bs:=hs a (aB7 ..)
  have b:=aH8.mp hn
  have h:=av2 (bs:=bs.erase a) b.2 fun x c=>(List.mem_erase_of_ne (show x ≠ a from fun e=>b.1 (by rw [← e];exact c))).mpr (hs x (aB4 _ c))
  rw [List.length_erase_of_mem ha] at h
  have:0 < bs.length:=List.length_pos_of_mem ha
  simp only [aE1]
  lia
structure But (n:Int) (es rem:List (Int × Int)):Prop where
 rise:Rise es
 inn:∀ p∈es,0<=p.1/\p.1 < p.2/\p.2 < n
 all:∀ p:Int × Int,0<=p.1->p.1 < p.2->p.2 < n->p∈es\/p∈rem
theorem But.len {n:Int} {es rem:List (Int × Int)} (h:But n es rem) (hn:8<=n) (b:rem.length<=5):2<=es.length:=by
 have:=av2 (as:=[((0:Int),(1:Int)),(0,2),(0,3),(0,4),(0,5),(0,6),(0,7)]) (bs:=es ++ rem) (by decide) (fun p a=>by
  have:0<=p.1/\p.1 < p.2/\p.2 < 8:=by
   simp only [aA8,List.not_mem_nil,or_false] at a
   rcases a with rfl | rfl | rfl | rfl | rfl | rfl | rfl <;> decide
  exact aA7.mpr (h.all p this.1 this.2.1 (by lia)))
 simp at this
 lia
end VL
namespace PopT
open PySem PyProof.Rows
section
variable {prog:Program} {w:World} {K:Type} [DecidableEq K] {knd:HeapKind prog w K} {A:Around} {E:Value->Shared->Prop} {s:Shared}
theorem am1 {d a:Addr} {xs:List (K × Addr × Value)} {k:K} {j:Nat} {p:Addr × Value} {Q:Option DictEntry->Shared->Prop} (v:knd.room A) (b:knd.is s.heap k a) (hm:s.heap.DictOfH knd d xs) (m:xs[j]?=some (k,p))
  (C:∀ e h',e.val=p.2->h'.DictOfH knd d (xs.eraseIdx j)->Heap.SameBut d s.heap h'->Q (some e) { s with heap:=h',toks:=s.toks+knd.draws k })
  (hsz:xs.length<=sizeLine):wpAny (model prog w) A (Builtin.Dict.takeOut d (.ref a)) Q E s:=by
 obtain ⟨o,es,ep,g,B,hd,h,c,hn⟩:=hm
 unfold Builtin.Dict.takeOut
 try with_reducible refine aI7 ?_
 refine aI2 (knd.pyHash v b ?_)
 refine aI2 (wpAny_dictFind_heap (s:={ s with toks:=s.toks+knd.draws k }) v b g hd h c hn (fun r=>absurd m (r j p)) ?_)
 intro i q hi
 have u:i=j:=by
  have y:(xs.map (·.1))[i]?=some k:=by rw [aA5,hi];rfl
  have e2:(xs.map (·.1))[j]?=some k:=by rw [aA5,m];rfl
  have F:=(aA1.mp y).1
  have H:=(aA1.mp e2).1
  exact (List.getElem?_inj F hn).mp (y.trans e2.symm)
 subst u
 have n:es.size<=sizeLine:=by have e:=size_of_entries h;lia
 refine aI2 (wpAny_dictEntries (s:={ s with toks:=s.toks+knd.draws k }) g hd ?_)
 rw [entry_at h i,m]
 refine aI2 (wpAny_updateDictKeys (hz:=n) (s:={ s with toks:=s.toks+knd.draws k }) g hd (aI3 (C _ _ rfl ⟨_,_,ep+1,Heap.get?_update_self _ g (Obj.isFreed_of_dict (Obj.data_mapDictKeys hd _)),
  B.mapDictKeys _,Obj.data_mapDictKeys hd _,?_,?_,?_⟩ (Heap.SameBut.update ..))))
 ·have G:∀ {α β:Type} (f : α->β) (l:List α) (k:Nat),(l.map f).eraseIdx k=(l.eraseIdx k).map f:=by
   intro α β f l
   induction l with
   | nil=>intro k;rfl
   | cons a l ih =>
    intro k
    cases k with
    | zero=>rfl
    | succ k=>simp [ih k]
  rw [← G,← h]
  obtain ⟨l⟩:=es
  have z:i < l.length:=by
   have:=(aA1.mp m).1
   have e:=size_of_entries h
   simp at e;lia
  simp [Array.eraseIdxIfInBounds,z]
 ·intro x D
  exact knd.keeps (c x ((List.eraseIdx_sublist xs i).mem D)) g hd (Heap.SameBut.update ..)
 ·exact hn.sublist ((List.eraseIdx_sublist xs i).map _)
theorem meetsH_dict_pop {d a:Addr} (kp:keyPart (.ref a)=none) :
  MeetsIn prog w (Builtin.«dict.pop» ⟨[.ref d,.ref a],[]⟩) (fun A R s=>knd.room A.in1/\∃ k xs j p,knd.is s.heap k a/\s.heap.DictOfH knd d xs/\xs.length<=sizeLine/\xs[j]?=some (k,p) /\
   ∀ h',h'.DictOfH knd d (xs.eraseIdx j)->Heap.SameBut d s.heap h'->R (.ok (.ret p.2)) { s with heap:=h',toks:=s.toks+knd.draws k }) :=
 .of_wp fun A R s v=>by
  obtain ⟨u,k,xs,j,p,b,hm,hsz,m,h⟩:=v
  have i:=hm
  obtain ⟨o,es,ep,r,y,hd,x,n,hn⟩:=i
  have c:es.isEmpty=false:=by
   have e:=size_of_entries x
   have:=(aA1.mp m).1
   cases q:es.isEmpty with
   | false=>rfl
   | true=>have:=Array.isEmpty_iff.mp q;rw [this] at e;simp at e;lia
  unfold Builtin.«dict.pop»
  refine aI2 ?_
  unfold Builtin.Dict.keyAndDefault
  refine aI2 (wpAny_notOrdered_dict hm.typeIs ?_)
  show wpAny _ _ (pure (d,Value.ref a,none)) _ _ s
  refine aI3 ?_
  simp only [kp,Option.isSome_none,Bool.false_eq_true,if_false]
  refine aI2 (wpAny_dictEntries r hd ?_)
  refine aI2 (aI3 ?_)
  simp only [c,Bool.false_eq_true,if_false]
  refine aI2 (am1 u b hm m (fun e h' l g f=>?_) hsz)
  simp only [Option.isNone_some,Bool.false_eq_true,if_false]
  exact aI2 (wpAny_letGo (aI3 ⟨e.val,rfl,by rw [l];exact h h' g f⟩))
end
end PopT
namespace L2
open PySem PySem.Spec PySem.W PyProof.Rows
theorem KT.at {H:Hp} {kvs:List (List Key × V)} {xs:List (List Key × Addr × Value)} (r:KT H kvs xs):∀ {j:Nat} {k:List Key} {v:V},kvs[j]?=some (k,v)->∃ p:Addr × Value,xs[j]?=some (k,p)/\RelV v p.2:=by
 induction r with
 | nil=>intro j k v e;simp at e
 | @cons p q ps qs hq t ih =>
  intro j k v e
  cases j with
  | zero =>
   have e:p=(k,v):=by simpa using e
   subst e
   exact ⟨q.2,by rw [List.getElem?_cons_zero,show k=q.1 from hq.1],hq.2.2⟩
  | succ j=>exact ih (by simpa using e)
theorem KT.erase {H:Hp} {kvs:List (List Key × V)} {xs:List (List Key × Addr × Value)} (r:KT H kvs xs):∀ (j:Nat),KT H (kvs.eraseIdx j) (xs.eraseIdx j):=by
 induction r with
 | nil=>intro j;exact .nil
 | @cons p q ps qs hq t ih =>
  intro j
  cases j with
  | zero=>exact t
  | succ j=>exact .cons hq (ih j)
section
variable {X:Cx} {pins:List (Addr × Obj)} {σ:St} {H:Hp} {s:Shared} {a b:Addr} {A:Around} {E:Value->Shared->Prop}
theorem a0j {kvs:List (List Key × V)} {k:List Key} {j:Nat} {v:V} {Q:Value->Shared->Prop} (o:A.units+1 < cLine) (I:Inv X pins σ H s) (e:H a=some (.dT kvs)) (y:H b=some (.tup (k.map kV))) (l:kvs[j]?=some (k,v))
  (h:∀ i n,Inv X pins σ (upd H a (.dT (kvs.eraseIdx j))) n->RelV v i->Q i n):wpAny (model X.prog X.w) A (call (.builtin "dict.pop") [.ref a,.ref b]) Q E s:=by
 obtain ⟨z,hd,xs,d,dd⟩:=ah5 I.hok e
 have hz:xs.length<=sizeLine:=by rw [← Paired.length d];exact z
 obtain ⟨p,D,u⟩:=KT.at d l
 refine call_meetsIn PySem.F.slot_dict_pop dd.typeIs PySem.F.entry_dict_pop (PySem.F.args_dict_pop_2 _ _) (PopT.meetsH_dict_pop (knd:=tupleKind (aa3 X.prog X.w)) rfl)
  ⟨tupleKind_room_in1 o,k,xs,j,p,afc I.hok y,dd,hz,D,fun h' f x=>h p.2 _ ?_ u⟩
 obtain ⟨q,es,ep,m,G,C,B,_,r⟩:=f
 refine ag1 I (by rw [e];exact True.intro) x ⟨q,m⟩ ⟨aC9 (List.length_eraseIdx_le kvs j) z,hd,_,(KT.erase d j).keeps fun c ys g=>?_,q,es,ep,m,G,C,B,r⟩
 rw [aad (agu g e (fun z=>nomatch z))]
 exact g
end
def asg (td ty:TE):TE:=fun σ H Q=>td σ H fun x H1=>∃ a,x=.ref a/\IsD H1 a/\ty σ H1 fun y H2=>∃ kvs k j v b,H2 a=some (.dT kvs)/\y=.ref b/\H2 b=some (.tup (k.map kV))/\kvs[j]?=some (k,v)/\Q v (upd H2 a (.dT (kvs.eraseIdx j)))
section
variable {X:Cx} {o e f:Expr} {apos cpos:Pos} {td ty tx:TE}
theorem au7 (n:X.A.units+1 < cLine) (g:PE X o td) (L:PE X e ty) (m:M1 X o "pop" apos e cpos):PE X (.Call (.Attribute o "pop" apos) [e] [] cpos) (asg td ty):=by
 intro pins s σ H Q I h
 refine wpAny_Call_method m.base m.few m.line PySem.F.plainAttrs_dict PySem.F.slot_dict_pop PySem.F.type_dict_pop (thn (g pins s σ H _ I h) fun u s1 ⟨x,z,f,w,a,ex,d,J⟩=>?_)
 subst ex
 obtain rfl:u=Value.ref a:=w
 obtain ⟨r,G,_⟩:=arb f d
 refine ⟨r,G,?_⟩
 rw [m.trees]
 refine Calls.callWith_builtin rfl (Calls.evalArgs_plain (Calls.spliced_cons (thn (L pins s1 σ z _ f J) fun q s2 ⟨y,H2,p,E,kvs,k,j,v,b,D,C,B,l,K⟩=>Calls.spliced_nil ?_)))
 subst C
 obtain rfl:q=Value.ref b:=E
 exact a0j n p D B l fun M N i c=>⟨v,_,i,c,K⟩
end
end L2
namespace DNe
open PySem PyProof.Rows
theorem dict_ne_some (l b:Addr) (es:Array DictEntry) (n f:Nat) (dd c:Option Addr) (sl a:Array (Option Value)) (i:(l == sysModules)=false) (j:(b == sysModules)=false) (m:(es.size != 0)=true) :
  Meets (Builtin.«dict.__ne__» ⟨[.ref l,.ref b],[]⟩)
   (fun _ R s=>s.heap.get? l=some { cls:=.type "dict",dict:=dd,data:=.dict es n,slots:=sl }/\s.heap.get? b=some { cls:=.type "dict",dict:=c,data:=.dict #[] f,slots:=a } /\
    R (.ok (.ret (.bool true))) s) :=
 .of_wp fun prog w A R s h=>by
  obtain ⟨r,g,d,p,os⟩:=s;obtain ⟨o,hb,h⟩:=h
  have q:=PySem.F.sub_dict_dict
  wp_walk
  exact ⟨_,rfl,h⟩
theorem ash {prog:Program} {w:World} {A:Around} {E:Value->Shared->Prop} {s:Shared} {Q:Bool->Shared->Prop} {id:String} {l b:Addr} {o g:Obj} {n i:Nat} (c:(l == sysModules)=false) (d:(b == sysModules)=false)
  (f:s.heap.get? l=some o) (hd:o.data=.dict #[] n) (hb:s.heap.get? b=some g) (a:g.data=.dict #[] i) (h:Q true s):wpAny (model prog w) A (Builtin.Dict.samePairs id l b) Q E s:=by
 unfold Builtin.Dict.samePairs Builtin.Dict.showsAll
 rw [c,d]
 simp only [Bool.false_eq_true,if_false]
 refine aI2 (aI3 (aI2 (aI3 ?_)))
 refine aI2 (wpAny_dictEntries f hd (aI2 (wpAny_dictEntries hb a ?_)))
 simp only [bne_self_eq_false,Bool.false_eq_true,if_false]
 refine aI2 (wpAny_dictEpoch f hd ?_)
 rw [Std.Legacy.Range.forIn_eq_forIn_range']
 simp only [Std.Legacy.Range.size]
 exact aI2 (aI3 (aI3 h))
theorem dict_ne_none (l b:Addr) (n m:Nat) (dd f:Option Addr) (sl c:Array (Option Value)) (a:(l == sysModules)=false) (i:(b == sysModules)=false) :
  Meets (Builtin.«dict.__ne__» ⟨[.ref l,.ref b],[]⟩)
   (fun _ R s=>s.heap.get? l=some { cls:=.type "dict",dict:=dd,data:=.dict #[] n,slots:=sl }/\s.heap.get? b=some { cls:=.type "dict",dict:=f,data:=.dict #[] m,slots:=c } /\
    R (.ok (.ret (.bool false))) s) :=
 .of_wp fun prog w A R s h=>by
  obtain ⟨q,g,d,o,os⟩:=s;obtain ⟨j,hb,h⟩:=h
  have p:=PySem.F.sub_dict_dict
  wp_walk using ash a i j rfl hb rfl
  exact ⟨_,rfl,h⟩
end DNe
namespace L2
open PySem PySem.Spec PySem.W PyProof.Rows
def rNeE:R2:=fun x y H Q=>∃ a b kvs,x=.ref a/\y=.ref b/\H a=some (.dT kvs)/\H b=some (.dT [])/\Q (.bl (!kvs.isEmpty)) H
theorem a0k {X:Cx} (R:X.A.units+64 < cLine):OpR X (compareOp .NotEq) rNeE:=by
 intro pins s σ H x y v u Q I L O h
 obtain ⟨a,b,kvs,rfl,rfl,N,K,q⟩:=h
 obtain rfl:v=Value.ref a:=L
 obtain rfl:u=Value.ref b:=O
 obtain ⟨_,f,xs,w,⟨cls,dd,data,sl⟩,es,ep,n,J,C,p,_,_⟩:=ah5 I.hok N
 obtain ⟨_,m,ys,g,⟨d,j,r,i⟩,fs,c,o,P,E,D,_,_⟩:=ah5 I.hok K
 cases g
 have hf:fs = #[]:=by
  obtain ⟨l⟩:=fs
  simp at D
  rw [D]
 subst hf
 have M:cls=.type "dict":=J.1
 have G:d=.type "dict":=P.1
 simp only at C E
 subst M G C E
 have hn:Value.bool true ≠ Value.notImplemented:=fun x=>nomatch x
 have z:Value.bool false ≠ Value.notImplemented:=fun x=>nomatch x
 cases w with
 | nil =>
  have B:es = #[]:=by
   obtain ⟨l⟩:=es
   simp at p
   rw [p]
  subst B
  exact richCompare_meets_room (op:=.NotEq) ⟨_,n,rfl⟩ ⟨_,o,rfl⟩ PySem.F.slot_dict_ne PySem.F.entry_dict_ne (PySem.F.args_dict_ne_2 _ _) (DNe.dict_ne_none a b ep c dd j sl i f m)
   ⟨n,o,show Value.bool false ≠ Value.notImplemented/\_ from ⟨z,⟨.bl false,H,I,rfl,q⟩⟩⟩ (by lia)
 | cons hq t =>
  have B:(es.size != 0)=true:=by
   have:=congrArg List.length p
   simp at this
   simp [this]
  exact richCompare_meets_room (op:=.NotEq) ⟨_,n,rfl⟩ ⟨_,o,rfl⟩ PySem.F.slot_dict_ne PySem.F.entry_dict_ne (PySem.F.args_dict_ne_2 _ _) (DNe.dict_ne_some a b es ep c dd j sl i f m B)
   ⟨n,o,show Value.bool true ≠ Value.notImplemented/\_ from ⟨hn,⟨.bl true,H,I,rfl,q⟩⟩⟩ (by lia)
end L2
namespace DNe
open PySem PyProof.Rows
theorem am2 (l:Addr) (es:Array DictEntry) (n:Nat) (dd:Option Addr) (sl:Array (Option Value)) (a:(l == sysModules)=false) :
  Meets (Builtin.«dict.__len__» ⟨[.ref l],[]⟩)
   (fun _ R s=>s.heap.get? l=some { cls:=.type "dict",dict:=dd,data:=.dict es n,slots:=sl }/\R (.ok (.ret (.int (es.size:Int) s.toks))) { s with toks:=s.toks+1 }) :=
 .of_wp fun prog w A R s h=>by
  obtain ⟨f,g,d,c,os⟩:=s;obtain ⟨b,h⟩:=h
  wp_walk
  exact ⟨_,rfl,h⟩
section
variable {prog:Program} {w:World} {A:Around} {E:Value->Shared->Prop} {s:Shared}
theorem call_len_raw {d:Addr} {es:Array DictEntry} {n:Nat} {dd:Option Addr} {sl:Array (Option Value)} {Q:Value->Shared->Prop} (hd:(d == sysModules)=false) (b:s.heap.get? d=some { cls:=.type "dict",dict:=dd,data:=.dict es n,slots:=sl }) (c:(es.size:Int) < 2 ^ 63)
  (h:Q (.int (es.size:Int) (s.toks+1)) { s with toks:=s.toks+1+1 }):wpAny (model prog w) A (call (.builtin "len") [.ref d]) Q E s:=by
 have a:s.TypeIs (.ref d) "dict":=⟨_,b,rfl⟩
 refine Calls.call_function_entry kind_len plain_len entry_len (args_len1 _) ?_
 unfold Builtin.«len»
 refine aI2 (m:=oneArg "len" _) (aI3 ?_)
 refine aI2 (m:=callSpecial? (.ref d) (Str.ofString "__len__")) (wpAny_callSpecial?_slot (name:=Str.ofString "__len__") a PySem.F.slot_dict_len
  (call_meets PySem.F.slot_dict_len a PySem.F.entry_dict_len (PySem.F.args_dict_len_1 _) (am2 d es n dd sl hd) ⟨b,?_⟩))
 show wpAny _ _ _ _ _ { s with toks:=s.toks+1 }
 refine aI2 (aI7 (aI3 ?_))
 refine aI2 (wpAny_letGo ?_)
 show wpAny _ _ (if (es.size:Int) < 0 then _ else _) _ _ _
 rw [aF0 (by lia)]
 show wpAny _ _ (if (es.size:Int) ≥ 2 ^ 63 then _ else _) _ _ _
 rw [aF0 (by lia)]
 exact aI2 (wpAny_mkInt (aI3 ⟨_,rfl,h⟩))
end
end DNe
namespace L2
open PySem PySem.Spec PySem.W PyProof.Rows
def av3:List V->Hp->VK->Prop:=fun xs H Q=>∃ a kvs,xs=[V.ref a]/\H a=some (.dT kvs)/\Q (.int kvs.length) H
theorem asi {X:Cx}:aa5 X (.builtin "len") av3:=by
 intro pins s σ H xs us Q I r h
 obtain ⟨a,kvs,rfl,ha,q⟩:=h
 obtain ⟨u,rfl,l⟩:=acf r
 cases l
 obtain ⟨z,hd,ys,b,⟨cls,dd,data,sl⟩,es,ep,g,f,c,d,_,_⟩:=ah5 I.hok ha
 have j:cls=.type "dict":=f.1
 simp only at c
 subst j c
 have i:es.size=kvs.length:=by
  have:=congrArg List.length d
  simp at this
  rw [this];exact (Paired.length b).symm
 refine DNe.call_len_raw hd g (by rw [sizeLine_eq] at z;lia) ?_
 rw [i]
 exact ⟨.int kvs.length,H,(I.tok _).tok _,⟨_,rfl⟩,q⟩
end L2
namespace VL
open PySem PySem.Spec L2
section
variable {B:Bs} {env:En} {Q':PyData->En->Prop} {QO:Sl->En->Prop} {i:Nat} {ty:TE}
theorem RpT.at {G:Hp}:∀ {kvs:List (List Key × V)} {es:List (List Key × PyData)},RpT G kvs es->∀ {j:Nat} {a:List Key} {d:PyData},es[j]?=some (a,d)->∃ v,kvs[j]?=some (a,v)/\Rp G v d
 | _,_,.nil,j,a,d,e=>by simp at e
 | _,_,.cons (k:=k) (v:=v) (d:=d0) h t,0,a,d,e=>by
  have e:(k,d0)=(a,d):=by simpa using e
  cases e
  exact ⟨v,rfl,h⟩
 | _,_,.cons h t,j+1,a,d,e=>by
  obtain ⟨v,b,r⟩:=RpT.at t (j:=j) (by simpa using e)
  exact ⟨v,by simpa using b,r⟩
theorem RpT.erase {G:Hp}:∀ {kvs:List (List Key × V)} {es:List (List Key × PyData)},RpT G kvs es->∀ (j:Nat),RpT G (kvs.eraseIdx j) (es.eraseIdx j)
 | _,_,.nil,_ => .nil
 | _,_,.cons _ t,0=>t
 | _,_,.cons h t,j+1 => .cons h (RpT.erase t j)
theorem au8 {es0:List (List Key × PyData)} (s:Has env i (OT es0)) (h:Ev B ty env fun y e2=>∃ es m j d,e2[i]?=some (some (.own (OT es)))/\y=tkD m/\es[j]?=some (m,d)/\Q' d (e2.set i (some (.own (OT (es.eraseIdx j)))))):Ev B (asg (tVar i) ty) env Q':=fun σ G H F Q I k=>by
 obtain ⟨v,r,a,kvs,A,ha,rt,_⟩:=I.has s
 subst A
 refine ⟨_,r,a,rfl,.inr ⟨kvs,.inl ha⟩,h σ G H F _ I fun u w H2 F2 y e2 o E x ⟨es,m,j,d,f,z,K,q⟩=>?_⟩
 subst z
 obtain ⟨M,c,⟨L,l,p,n,g,hf⟩,hb⟩:=o.sl i _ f
 rw [r] at c;cases c;cases p
 cases x with
 | @tup b vs ds hk rs =>
  have:=amu rs
  subst this
  obtain ⟨D,J,C⟩:=RpT.at g K
  refine ⟨l,m,j,D,b,n,rfl,o.gh _ _ hk,J,?_⟩
  exact k _ w _ _ _ _ (o.upd1 (A':=OT (es.eraseIdx j)) f (.inl rfl) r hf ⟨a,_,rfl,aaf,RpT.erase g j,fun b=>Iff.rfl⟩) E C q
theorem a0l {es:List (List Key × PyData)} (d:Has env i (OT es)) (q:Q' (.bool (!es.isEmpty)) env):Ev B (tOp rNeE (tVar i) alv) env Q':=fun σ G H F Q I k=>by
 obtain ⟨v,f,a,kvs,c,ha,rt,_⟩:=I.has d
 subst c
 refine ⟨_,f,fun p b=>⟨a,p,kvs,rfl,rfl,by rw [aad (aar ha b)];exact ha,aaf,?_⟩⟩
 have o:=Out.newDT (xs:=[]) (ds:=[]) I.gh b .nil
 have e:kvs.isEmpty=es.isEmpty:=by cases rt <;> rfl
 rw [e]
 exact k _ G _ F _ env (I.out o).1 (Same.refl _) (.bl _) q
theorem ax7 {es:List (List Key × PyData)} (b:Has env i (OT es)) (q:Q' (.int es.length) env):Ev B (tCB av3 (aa2 (tVar i) tNil)) env Q':=fun σ G H F Q I k=>by
 obtain ⟨v,d,a,kvs,c,ha,rt,_⟩:=I.has b
 subst c
 refine ⟨_,d,a,kvs,rfl,ha,?_⟩
 rw [(RpT.len rt).1]
 exact k _ G H F _ env I (Same.refl _) (.int _) q
@[reducible] def abj (es:List (Key × PyData)):PyData:=.dict (es.map fun p=>(kD p.1,p.2))
theorem ax8 {a b:Key} (h:kD a=kD b):a=b:=by
 cases a <;> cases b <;> simp [kD] at h <;> rw [h]
theorem asj:∀ {es fs:List (Key × PyData)},es.map (fun p=>(kD p.1,p.2))=fs.map (fun p=>(kD p.1,p.2))->es=fs
 | [],[],_=>rfl
 | [],_ :: _,h=>by simp at h
 | _ :: _,[],h=>by simp at h
 | (a,x) :: es,(b,y) :: fs,h=>by
  simp only [aD0,List.cons.injEq,Prod.mk.injEq] at h
  rw [ax8 h.1.1,h.1.2,asj h.2]
theorem ahb {G:Hp} {v:V} {es:List (Key × PyData)} (r:Rp G v (abj es)) (b:es ≠ []):∃ a kvs,v=.ref a/\G a=some (.dK kvs)/\RpK G kvs es:=by
 cases r with
 | dk h rk e=>exact ⟨_,_,rfl,h,by rw [asj e];exact rk⟩
 | @dt a kvs es' ds h rt e =>
  cases es with
  | nil=>exact absurd rfl b
  | cons p es =>
   cases es' with
   | nil=>simp at e
   | cons q es' =>
    simp only [aD0,List.cons.injEq,Prod.mk.injEq] at e
    have:=e.1.1
    obtain ⟨k,x⟩:=p
    cases k <;> simp [kD] at this
theorem au9 {f:TE} (h:Ev B f env fun x j=>Ev B ty j fun y e2=>∃ es k d,x=abj es/\es ≠ []/\y=kD k/\valD es k=some d/\Q' d e2):Ev B (ak8 f ty) env Q':=fun σ G H F Q I K =>
 h σ G H F _ I fun v s r n x j C D J m=>m σ s r n _ C fun u o H2 F2 y e2 g i p E=>by
  obtain ⟨es,k,d,ex,b,z,L,q⟩:=E
  subst ex z
  obtain ⟨a,kvs,rfl,ha,l⟩:=ahb (J.same i) b
  obtain ⟨w,A,c⟩:=(RpK.val l).2 d L
  have:=air p
  subst this
  exact ⟨a,w,rfl,.inl ⟨kvs,k,.inl (g.gh _ _ ha),rfl,A.symm⟩,K _ o H2 F2 _ e2 g (D.trans i) c q⟩
theorem asl {j:TE} (h:Ev B j env fun x p=>∃ es:List (Key × PyData),x=abj es/\es ≠ []/\Ev B ty p fun y e2=>∃ k,y=kD k/\Q' ((valD es k).getD .none) e2):Ev B (aly j ty) env Q':=fun σ G H F Q I r =>
 h σ G H F _ I fun v C A z x p n o L K=>by
  obtain ⟨es,ex,f,s⟩:=K
  subst ex
  obtain ⟨a,kvs,rfl,ha,l⟩:=ahb L f
  refine ⟨a,rfl,.inl ⟨kvs,.inl (n.gh _ _ ha)⟩,s σ C A z _ n fun u m H2 F2 y e2 g c D ⟨k,E,q⟩=>?_⟩
  subst E
  have:=air D
  subst this
  have b:=g.gh _ _ (c _ _ ha)
  cases hv:valD es k with
  | none =>
   rw [hv] at q
   exact ⟨none,.inl ⟨kvs,k,.inl b,rfl,((RpK.val l).1 hv).symm⟩,r _ m H2 F2 _ e2 g (o.trans c) .non q⟩
  | some d =>
   rw [hv] at q
   obtain ⟨w,J,i⟩:=(RpK.val l).2 d hv
   exact ⟨some w,.inl ⟨kvs,k,.inl b,rfl,J.symm⟩,r _ m H2 F2 _ e2 g (o.trans c) (i.same c) q⟩
end
section
variable {B:Bs} {env:En} {QO:Sl->En->Prop} {Q':PyData->En->Prop} {K:Frag} {i:Nat}
end
theorem asm {α:Type} {K:Frag} {src:List (Option Nat)} {a:En} {te:TE} {c:TT} {R:List PyData->En->Prop} {xs:List α} {f : α->PyData} (g : α->PyData) (p : α->Bool) (r:noIo (aau src a)=true) (J:xs.length<=999999)
  (h:∀ x∈xs,∀ j:Bs,j.K=K->EvT j c (some (.st (f x)) :: aau src a) fun b u=>b=p x/\u=some (.st (f x)) :: aau src a/\(b=true->Ev j te (some (.st (f x)) :: aau src a) fun y q=>y=g x/\q=some (.st (f x)) :: aau src a))
  (z:R ((xs.filter p).map g) a):LcV K (none :: src) (abp 0) c te (xs.map f) a R:=by
 have l:noIo (aau (none :: src) a)=true:=by
  show ((none :: aau src a).all fun s => !isIo s)=true
  rw [List.all_cons]
  exact (aG5 _ _).mpr ⟨rfl,r⟩
 refine ⟨fun i ys e=>ys=((xs.take i).filter p).map g/\∃ o,e=stO o :: aau src a,⟨by simp,none,rfl⟩,?_,?_,?_⟩
 ·rintro i ys e ⟨_,o,rfl⟩
  exact ⟨⟨isIo_stO.symm,agn⟩,ae1 ae8⟩
 ·rintro i d ys e hd ⟨rfl,o,rfl⟩ j B
  rw [aA5] at hd
  cases hx:xs[i]? with
  | none=>rw [hx] at hd;cases hd
  | some x =>
  rw [hx] at hd
  cases hd
  have hi:i < xs.length:=(aA1.mp hx).1
  have w:xs.take (i+1)=xs.take i ++ [x]:=by rw [aG8,hx];rfl
  refine abc ?_
  show EvT j c (some (.st (f x)) :: aau src a) _
  intro σ G H F Q I k
  refine h x (aA2 hx) j B σ G H F Q I fun b G' H' F' u m g' ⟨hb,E,C⟩=>k b G' H' F' u m g' ?_
  subst E
  by_cases hp:b=true
  ·rw [aE9 hp]
   intro σ G H F Q I k
   refine C hp σ G H F Q I fun v G' H' F' d' q m g' D ⟨A,n⟩=>k v G' H' F' d' q m g' D ?_
   subst A n
   refine ⟨?_,?_,some _,rfl⟩
   ·have:=List.length_filter_le p (xs.take i)
    simp only [aA3]
    have L:(xs.take i).length<=i:=by simp;lia
    lia
   ·rw [w,List.filter_append,aE0]
    have:p x=true:=by rw [← hb];exact hp
    simp [this]
  ·rw [aF0 hp]
   refine ⟨?_,some _,rfl⟩
   rw [w,List.filter_append,aE0]
   have:p x=false:=by rw [← hb];simpa using hp
   simp [this]
 ·rintro ys e ⟨rfl,o,rfl⟩
  rw [ajs l,aA3,aG2]
  exact z
section
variable {B:Bs} {env:En} {QO:Sl->En->Prop} {Q':PyData->En->Prop} {K:Frag} {i:Nat}
theorem am3 {i j:TE} (h:Ev B i env fun d u=>EvO B j u fun s e2=>∃ ds,s=.own (OL ds)/\QO (.own (OW d ds)) e2):EvO B (tTup (aa2 i (aa2 j tNil))) env QO:=fun σ G H F Q I k =>
 h σ G H F _ I fun v D C A d u E K M y=>y σ D C A _ E fun w n H2 F2 Fv s e2 c r x L=>by
  obtain ⟨ds,es,q⟩:=L
  subst es
  obtain ⟨l,vs,rfl,g,rs,hf⟩:=x.ok
  refine ⟨show (2:Nat)<=sizeLine by rw [sizeLine_eq];decide,fun p f=>?_⟩
  have pl:p ≠ l:=(aar g f).symm
  have J:VI B n (upd H2 p (.tup [v,.ref l])) σ e2 F2:=c.grow (Same.refl _) (c.gh.trans (abb f)) (abb f) (fun a o e => .inl e) fun a N e=>by
   by_cases z:a=p
   ·subst z;rw [aaf] at e;exact absurd (aC5 e) amx
   ·rw [aad z] at e;exact c.ft a N e
  refine k _ n _ _ (fun a=>a=p\/a=l) (.own (OW d ds)) _ J (K.trans r) ⟨⟨p,l,v,vs,rfl,aaf,M.same r,by rw [aad pl.symm];exact g,rs,fun b=>Iff.rfl⟩,fun a z=>?_,fun a z=>?_,fun a z=>?_,fun m a z=>?_⟩ q
  ·rcases z with rfl | rfl
   ·exact c.no_b f
   ·exact x.fb a ((hf a).mpr rfl)
  ·rcases z with rfl | rfl
   ·exact c.no_g f
   ·exact x.fg a ((hf a).mpr rfl)
  ·rcases z with rfl | rfl
   ·exact ⟨_,aaf⟩
   ·exact ⟨_,by rw [aad pl.symm];exact g⟩
  ·rcases z with rfl | rfl
   ·exact c.no_f f m
   ·exact x.fd m a ((hf a).mpr rfl)
end
section
variable {B:Bs} {env:En} {QO:Sl->En->Prop} {Q':PyData->En->Prop} {K:Frag} {E:XK} {i:Nat}
end
inductive RpF (G:Hp):List (Str × V)->List (Str × PyData)->Prop
 | nil:RpF G [] []
 | cons {x:Str} {u:V} {d:PyData} {us:List (Str × V)} {fs:List (Str × PyData)}:Rp G u d->RpF G us fs->RpF G ((x,u) :: us) ((x,d) :: fs)
def putP (x:Str) (d:PyData):List (Str × PyData)->List (Str × PyData)
 | []=>[(x,d)]
 | (y,e) :: fs=>if y=x then (y,d) :: fs else (y,e) :: putP x d fs
theorem RpF.same {G G':Hp} {us:List (Str × V)} {fs:List (Str × PyData)} (h:RpF G us fs) (g:Same G G'):RpF G' us fs:=by
 induction h with
 | nil=>exact .nil
 | cons r _ ih=>exact .cons (r.same g) ih
theorem RpF.get {G:Hp} {x:Str} {d:PyData} {us:List (Str × V)} {fs:List (Str × PyData)} (h:RpF G us fs) (e:fs.lookup x=some d):∃ u,us.lookup x=some u/\Rp G u d:=by
 induction h with
 | nil=>cases e
 | @cons y u d' us fs r _ ih =>
  rw [aG3] at e ⊢
  cases hx:x == y with
  | true=>rw [hx] at e;cases e;exact ⟨u,rfl,r⟩
  | false=>rw [hx] at e;exact ih e
theorem RpF.no {G:Hp} {x:Str} {us:List (Str × V)} {fs:List (Str × PyData)} (h:RpF G us fs) (e:fs.lookup x=none):us.lookup x=none:=by
 induction h with
 | nil=>rfl
 | @cons y u d' us fs r _ ih =>
  rw [aG3] at e ⊢
  cases hx:x == y with
  | true=>rw [hx] at e;cases e
  | false=>rw [hx] at e;exact ih e
theorem RpF.length {G:Hp} {us:List (Str × V)} {fs:List (Str × PyData)} (h:RpF G us fs):us.length=fs.length:=by
 induction h with
 | nil=>rfl
 | cons _ _ ih=>simp [ih]
theorem RpF.put {G:Hp} {x:Str} {u:V} {d:PyData} {us:List (Str × V)} {fs:List (Str × PyData)} (h:RpF G us fs) (r:Rp G u d):RpF G (L2.putF x u us) (putP x d fs):=by
 induction h with
 | nil=>exact .cons r .nil
 | @cons y u' d' us fs r' hh ih =>
  unfold L2.putF putP
  by_cases e:y=x
  ·rw [aE9 e,aE9 e];first | exact .cons r hh | (rw [e];exact .cons r hh)
  ·rw [aF0 e,aF0 e];exact .cons r' ih
def OI (C:Addr) (fs:List (Str × PyData)):Own where
 P:=fun G H v F=>∃ a dx us,v=.ref a/\H a=some (.ins C dx us)/\H dx=some (.own a)/\RpF G us fs/\∀ b,F b ↔ b=a\/b=dx
 mono:=fun ⟨a,dx,us,e,h1,h2,r,f⟩ g hh=>⟨a,dx,us,e,hh a _ ((f a).mpr (.inl rfl)) h1,hh dx _ ((f dx).mpr (.inr rfl)) h2,r.same g,f⟩
 dom:=fun ⟨a,dx,us,e,h1,h2,r,f⟩ b z=>by
  rcases (f b).mp z with rfl | rfl
  ·exact ⟨_,h1⟩
  ·exact ⟨_,h2⟩
section
variable {B:Bs} {env:En} {QO:Sl->En->Prop} {Q':PyData->En->Prop} {D':VEnds} {K:Frag} {C:Addr} {i:Nat} {fs:List (Str × PyData)} {x:Str} {tv:TE}
theorem aen {d:PyData} (h:Has env i (OI C fs)) (c:Cls K C) (n:NoAttr K C x) (hd:fs.lookup x=some d) (q:Q' d env):Ev B (tFld K (tVar i) x) env Q':=fun σ G H F Q I k=>by
 obtain ⟨v,l,a,dx,us,rfl,g,m,r,f⟩:=I.has h
 obtain ⟨u,b,j⟩:=r.get hd
 exact ⟨_,l,a,C,dx,us,u,rfl,g,c,n,b,k u G H F d env I (Same.refl _) j q⟩
theorem ax9 (c:Cls K C) (n:NoAttr K C x) (h:EvO B tv env fun s g=>FQ s fun d=>∃ s0,g[i]?=some (some s0)/\(s0=.own (OI C fs)\/s0=.io (OI C fs))/\fs.length < 1000/\D'.nx (g.set i (some (reS s0 (OI C (putP x d fs)))))):EvS B (sFld K (tVar i) tv x) D' env:=fun σ G H F D I r =>
 abg (te:=tv) (Q':=fun d g=>∃ s0,g[i]?=some (some s0)/\(s0=.own (OI C fs)\/s0=.io (OI C fs))/\fs.length < 1000/\D'.nx (g.set i (some (reS s0 (OI C (putP x d fs)))))) h σ G H F _ I fun y Q M E d g l S R T=>by
  obtain ⟨s0,o,p,O,q⟩:=T
  obtain ⟨v,N,j⟩:=l.sl i _ o
  have ap:(OI C fs).P Q M v (E i):=by
   rcases p with rfl | rfl
   ·exact j.1
   ·exact j.1
  obtain ⟨a,dx,us,rfl,L,u,rf,f⟩:=ap
  refine ⟨_,N,a,C,dx,us,rfl,L,c,n,by rw [rf.length];exact O,?_⟩
  have U:a ≠ dx:=agu L u (by intro z;cases z)
  have J:=l.change (A:=OI C (putP x d fs)) (H2:=upd M a (.ins C dx (L2.putF x y us))) (F2:=E i) (os':=reS s0 (OI C (putP x d fs))) i o N (fun b w hb m=>by rw [aad (fun z:b=a=>hb ((f b).mpr (.inl z)))];exact m)
   (fun b w m=>by
    by_cases z:b=a
    ·rw [z];exact ⟨_,aaf⟩
    ·rw [aad z];exact ⟨w,m⟩)
   (fun b z=>⟨.inl z,by
    by_cases y:b=a
    ·rw [y];exact ⟨_,aaf⟩
    ·rw [aad y];exact l.fo i b z⟩) ⟨a,dx,_,rfl,aaf,by rw [aad U.symm];exact u,rf.put R,f⟩ (fun b W e=>by
    by_cases z:b=a
    ·subst z;rw [aaf] at e;cases e
    ·rw [aad z] at e;exact l.ft b W e) (by
    rcases p with rfl | rfl
    ·exact .inl ⟨rfl,_,rfl⟩
    ·exact .inr ⟨rfl,_,rfl⟩)
  exact r.nx _ _ _ _ _ J S q
theorem aeo {f:VIo} {t:TA} {E:XK} {m:Str} (c:Has env i (OI C fs)) (hm:fs.lookup m=none) (h:EvA B t env fun ds d=>∃ s0 A,d[i]?=some (some s0)/\(s0=.own A\/s0=.io A)/\f A (ds.map Sl.st) fun A' s=>QO s (d.set i (some (reS s0 A')))):EvO B (afk C m (spI K f) [] E (tVar i) t) env QO:=fun σ G H F Q I k=>by
 obtain ⟨v,g,a,dx,us,rfl,j,n,r,p⟩:=I.has c
 have l:∃ s,env[i]?=some (some s):=by rcases c with e | e <;> exact ⟨_,e⟩
 have:=agm (K:=K) (E:=E) l h σ G H F Q I k
 unfold abq at this
 simp only [aE5] at this
 obtain ⟨o,b,q⟩:=this
 rw [g] at b
 cases b
 unfold afk
 simp only [aE5]
 exact ⟨_,g,a,dx,us,rfl,j,r.no hm,q⟩
theorem ajw {f:VIo} {t:TA} {E:XK} {m:Str} (b:Has env i (OI C fs)) (hm:fs.lookup m=none) (h:EvA B t env fun ds a=>∃ s0 A,a[i]?=some (some s0)/\(s0=.own A\/s0=.io A)/\f A (ds.map Sl.st) fun A' s=>FQ s fun d=>Q' d (a.set i (some (reS s0 A')))):Ev B (afk C m (spI K f) [] E (tVar i) t) env Q':=abg (aeo b hm h)
theorem am4 {f:VIo} {t:TA} {E:XK} (O:B.K=K) (h:EvA B t env fun ds i=>f (OI C []) (ds.map Sl.st) fun A' s=>s=.st .none/\QO (.own A') i):EvO B (apo C (spI K f) [] E t) env QO:=fun σ G H F Q I k =>
 h σ G H F _ I fun vs p d u ds i g A L D=>by
  intro x dx nx c n
  simp only [aE5]
  have l:Same d (upd (upd d dx (.own x)) x (.ins C dx [])):=fun a o e=>by rw [aad (aar e nx),aad (aar e c)];exact e
  have m:FT p (upd (upd d dx (.own x)) x (.ins C dx [])):=fun a M e=>by
   by_cases z:a=x
   ·subst z;rw [aaf] at e;cases e
   ·rw [aad z] at e
    by_cases z2:a=dx
    ·subst z2;rw [aaf] at e;cases e
    ·rw [aad z2] at e;exact g.ft a M e
  refine ⟨.ref x,vs,p,d,OI C [],_,fun b=>b=x\/b=dx,_,rfl,g.gh.trans l,m,l,⟨x,dx,[],rfl,aaf,by rw [aad n,aaf],.nil,fun b=>Iff.rfl⟩,fun a z=>?_,fun a z=>?_,ArgsOk.of L,D,fun A' s ⟨es,q⟩ v G' H' F' Fv o=>?_⟩
  ·rcases z with rfl | rfl
   ·exact g.no_g nx
   ·exact g.no_g c
  ·rcases z with rfl | rfl
   ·exact nx
   ·exact c
  ·subst es
   have N:v=.non:=by
    obtain ⟨r,_⟩:=o.ok
    cases r
    rfl
   have hh:Same d H':=o.rs
   have J:=g.grow o.gg o.gh hh (fun a w e=>by
    rcases o.gn a w e with z | z
    ·exact .inl z
    ·refine .inr ?_
     cases i:d a with
     | none=>rfl
     | some w1=>rw [l a w1 i] at z;cases z) o.ft
   have hn:∀ a,F' a->d a=none:=fun a z=>by
    rcases o.fi a z with y | y
    ·rcases y with rfl | rfl
     ·exact nx
     ·exact c
    ·cases i:d a with
     | none=>rfl
     | some w1=>rw [l a w1 i] at y;cases y
   exact ⟨N,k (.ref x) G' H' u F' (.own A') i J (A.trans o.gg) ⟨o.ap,fun a z=>g.no_b (hn a z),fun a z=>o.fg a z,fun a z=>A'.dom o.ap a z,fun j a z=>g.no_f (hn a z) j⟩ q⟩
end
theorem afu {x:Str} {d:PyData}:List.lookup x [(x,d)]=some d:=by rw [aG3,beq_self_eq_true]
theorem afv {x m:Str} {d:PyData} (h:(m == x)=false):List.lookup m [(x,d)]=none:=by rw [aG3,h];rfl
theorem put1 {x:Str} {d e:PyData}:putP x e [(x,d)]=[(x,e)]:=by unfold putP;rw [aE9 rfl]
end VL
namespace L2
open PySem PySem.Spec
structure ObAt (K:Frag) (mg:Str->Option Value) (x:Str) (C:Addr):Prop where
 mgx:mg x=some (.ref C)
 cl:Cls K C
 mks:PySem.W.makesIn K C=true
 kp:keepIn K (.ref C)=true
structure MeAt (K:Frag) (C:Addr) (m qn:Str) (st:Stmt) (ps:List Str) (f:Addr) (fd:FuncData):Prop where
 fn:Fun K m qn st f fd
 me:Meth K C m f
 bd:Binds K fd ps []
structure MeOk (P:Program) (w:World) (K:Frag) (mg:Str->Option Value) (base:Heap) (C:Addr) (m:Str) (k:Nat) (ps:List Str) (sp:Sp) (f:Addr) (fd:FuncData):Prop where
 me:Meth K C m f
 ok:FnOk P w K mg base CX0 k f fd ps sp
 bd:Binds K fd ps []
def CanM (P:Program) (w:World) (K:Frag) (mg:Str->Option Value) (base:Heap) (C:Addr) (m:Str) (k:Nat) (ps:List Str) (sp:Sp):Prop:=∃ f fd,MeOk P w K mg base C m k ps sp f fd
theorem MeAt.can {P:Program} {w:World} {K:Frag} {mg:Str->Option Value} {base:Heap} {C:Addr} {m qn:Str} {st:Stmt} {k:Nat} {ps:List Str} {sp:Sp} {f:Addr} {fd:FuncData} (D:MeAt K C m qn st ps f fd) (ok:FnOk P w K mg base CX0 k f fd ps sp):CanM P w K mg base C m k ps sp:=⟨f,fd,D.me,ok,D.bd⟩
section
variable {X:Cx} {k j:Nat} {ps:List Str} {sp:Sp} {x m:Str} {p pos apos:Pos} {o e:Expr} {es:List Expr} {t:TA} {ta:TE} {C:Addr}
theorem aep {pl:Sem Bool} (F:CanM X.prog X.w X.K X.mg X.base C m k ps sp) (c:Cls X.K C) (g:Room j X.A) (i:PE X o ta) (ha:PA X (e :: es) t) (h:k<=j:=by decide)
  (b:starEach (e :: es) X.env=(false,eval e X.env) :: starEach es X.env:=by rfl) (a:(backTo pos (starEach es X.env)).any (·.1)=false:=by rfl)
  (d:eval (.Call (.Attribute o m apos) (e :: es) [] pos) X.env=(do
   let ov ← eval o X.env
   standAt apos.atName
   let (f,first) ← holding [ov] (getMethod ov m pl)
   callWith pos f first (backTo pos (starEach (e :: es) X.env)) (backToKw pos (keywordEach [] X.env))):=by rfl) :
  PE X (.Call (.Attribute o m apos) (e :: es) [] pos) (afk C m sp [] E0 ta t):=by
 obtain ⟨f,fd,M⟩:=F
 exact awg i c M.me M.ok (g.mono h) M.bd .nil ak9 ha b a d
theorem akn {pl:Sem Bool} (F:CanM X.prog X.w X.K X.mg X.base C m k ps sp) (c:Cls X.K C) (b:Room j X.A) (g:PE X o ta) (d:k<=j:=by decide)
  (a:eval (.Call (.Attribute o m apos) [] [] pos) X.env=(do
   let ov ← eval o X.env
   standAt apos.atName
   let (f,first) ← holding [ov] (getMethod ov m pl)
   callWith pos f first (backTo pos (starEach [] X.env)) (backToKw pos (keywordEach [] X.env))):=by rfl) :
  PE X (.Call (.Attribute o m apos) [] [] pos) (afk C m sp [] E0 ta tNil):=by
 obtain ⟨f,fd,M⟩:=F
 exact ati g c M.me M.ok (b.mono d) M.bd .nil ak9 a
theorem am5 (F:CanM X.prog X.w X.K X.mg X.base C "__init__" k ps sp) (O:ObAt X.K X.mg x C) (c:Room j X.A) (ha:PA X (e :: es) t) (d:k+1<=j:=by decide) (g:Gl X x:=by rfl) (a:(x == ("__debug__" : Str))=false:=by decide)
  (h:starEach (e :: es) X.env=(false,eval e X.env) :: starEach es X.env:=by rfl) (b:(backTo pos (starEach es X.env)).any (·.1)=false:=by rfl) :
  PE X (.Call (.Name x p) (e :: es) [] pos) (apo C sp [] E0 t):=by
 obtain ⟨f,fd,M⟩:=F
 exact awh ⟨O.mks,M.me.at_,M.me.fn,O.kp⟩ M.ok (c.mono d) g O.mgx M.bd .nil ak9 ha a h b
end
end L2
namespace L2
open PySem PySem.W PyProof.Rows
def av4:List V->Hp->VK->Prop:=fun xs H Q=>∃ a kvs,xs=[V.ref a]/\H a=some (.dK kvs)/\Q (.int (kvs.length:Int)) H
section
variable {X:Cx}
theorem aqb:aa5 X (.builtin "len") av4:=arh
end
end L2
namespace VL
open PySem PySem.Spec L2
section
variable {B:Bs} {env:En} {Q':PyData->En->Prop} {R:Sl->Prop} {td:TE}
theorem ava {es:List (Key × PyData)} (b:es ≠ []) (h:R (.st (.int (es.length:Int)))):OpA av4 [abj es] R:=fun G H vs Q gh rs k=>by
 cases rs with
 | cons r t =>
  cases t
  obtain ⟨a,kvs,rfl,ha,c⟩:=ahb r b
  refine ⟨a,kvs,rfl,gh _ _ ha,?_⟩
  rw [RpK.length c]
  exact k _ _ _ _ _ (Out.refl gh (.int _)) h
end
def OGW (C:Addr) (x:Str) (d:PyData) (ds:List PyData):Own where
 P:=fun G H v F=>∃ a dx t l u vs,v=.ref a/\H a=some (.ins C dx [(x,.ref t)])/\H dx=some (.own a)/\H t=some (.tup [u,.ref l])/\Rp G u d/\H l=some (.lst vs)/\Rps G vs ds/\∀ b,F b ↔ (b=a\/b=dx)\/(b=t\/b=l)
 mono:=fun ⟨a,dx,t,l,u,vs,e,h1,h2,h3,r3,h4,r4,f⟩ g hh=>⟨a,dx,t,l,u,vs,e,hh a _ ((f a).mpr (.inl (.inl rfl))) h1,hh dx _ ((f dx).mpr (.inl (.inr rfl))) h2,hh t _ ((f t).mpr (.inr (.inl rfl))) h3,r3.same g,hh l _ ((f l).mpr (.inr (.inr rfl))) h4,r4.same g,f⟩
 dom:=fun ⟨a,dx,t,l,u,vs,e,h1,h2,h3,r3,h4,r4,f⟩ b z=>by
  rcases (f b).mp z with (rfl | rfl) | (rfl | rfl)
  ·exact ⟨_,h1⟩
  ·exact ⟨_,h2⟩
  ·exact ⟨_,h3⟩
  ·exact ⟨_,h4⟩
def OAny:Own where
 P:=fun G H v F=>∀ b,F b->∃ o,H b=some o
 mono:=fun h g hh b z=>by
  obtain ⟨o,e⟩:=h b z
  exact ⟨o,hh b o z e⟩
 dom:=fun h b z=>h b z
theorem am6 {σ:St} {i:Nat} {v:V} (a : σ[i]?=some (some v)) : σ.set i (some v) = σ:=by
 apply aF6
 intro j
 rw [aD1]
 by_cases h:i=j
 ·subst h
  rw [aE9 rfl,a,aE9 (aA1.mp a).1]
 ·rw [aF0 h]
theorem Rps.prs {G G' H:Hp} (gh:Same G H) (ft:FT G' H):∀ {es:List (Int × Int)} {vs:List V},Rps G vs (es.map prD)->Rps G' vs (es.map prD)
 | [],_,.nil => .nil
 | p :: es,_,.cons r t=>by
  refine .cons ?_ (Rps.prs gh ft t)
  cases r with
  | @tup a xs _ h q =>
   obtain rfl:xs=[V.int p.1,V.int p.2]:=Rps.ints_inv (ns:=[p.1,p.2]) q
   exact .tup (ft a [.inl p.1,.inl p.2] (gh _ _ h)) (.cons (.int _) (.cons (.int _) .nil))
theorem aya {C:Addr} {x:Str} {n:Int} {es:List (Int × Int)}:∀ G G' H v F,Same G H->FT G' H->(OGW C x (.int n) (es.map prD)).P G H v F->(OGW C x (.int n) (es.map prD)).P G' H v F:=fun G G' H v F gh ft j=>by
 obtain ⟨a,dx,t,l,u,vs,e,h,g,b,c,d,i,f⟩:=j
 cases c
 exact ⟨a,dx,t,l,_,vs,e,h,g,b,.int _,d,i.prs gh ft,f⟩
section
variable {B:Bs} {env:En} {QO:Sl->En->Prop} {Q':PyData->En->Prop} {D':VEnds} {K:Frag} {C:Addr} {i:Nat} {x:Str} {tv:TE}
theorem avb (c:Cls K C) (n:NoAttr K C x) (h:EvO B tv env fun s S=>∃ d ds s0,s=.own (OW d ds)/\S[i]?=some (some s0)/\(s0=.own (OI C [])\/s0=.io (OI C []))/\D'.nx (S.set i (some (reS s0 (OGW C x d ds))))):EvS B (sFld K (tVar i) tv x) D' env:=fun σ G H F D I r =>
 h σ G H F _ I fun y G1 p M Fv s S m g1 o z_=>by
  obtain ⟨d,ds,s0,es,X,O,q⟩:=z_
  subst es
  obtain ⟨v,U,g⟩:=m.sl i _ X
  have ap:(OI C []).P G1 p v (M i):=by
   rcases O with rfl | rfl
   ·exact g.1
   ·exact g.1
  obtain ⟨a,dx,us,rfl,L,h2,rf,f⟩:=ap
  cases rf
  obtain ⟨t,l,u,vs,rfl,W,r3,Z,r4,f'⟩:=o.ok
  refine ⟨_,U,a,C,dx,[],rfl,L,c,n,by decide,?_⟩
  have ad:a ≠ dx:=agu L h2 (by intro z;cases z)
  have N:a ≠ t:=agu L W (by intro z;cases z)
  have al:a ≠ l:=agu L Z (by intro z;cases z)
  have E:∀ b w,p b=some w->∃ w',upd p a (.ins C dx [(x,.ref t)]) b=some w':=fun b w Q=>by
   by_cases z:b=a
   ·rw [z];exact ⟨_,aaf⟩
   ·rw [aad z];exact ⟨w,Q⟩
  have J:=m.change (A:=OAny) (H2:=upd p a (.ins C dx [(x,.ref t)])) (F2:=M i) (os':=reS s0 OAny) i X U (fun b w hb Q=>by rw [aad (fun z:b=a=>hb ((f b).mpr (.inl z)))];exact Q) E
   (fun b z=>⟨.inl z,by obtain ⟨w,e⟩:=m.fo i b z;exact E b w e⟩) (fun b z=>by obtain ⟨w,e⟩:=m.fo i b z;exact E b w e) (fun b ks e=>by
    by_cases z:b=a
    ·subst z;rw [aaf] at e;cases e
    ·rw [aad z] at e;exact m.ft b ks e) (by
    rcases O with rfl | rfl
    ·exact .inl ⟨rfl,_,rfl⟩
    ·exact .inr ⟨rfl,_,rfl⟩)
  have J2:=J.slot (Fv:=fun b=>M i b\/Fv b) i (some (.ref a)) (some (reS s0 (OGW C x d ds))) (fun b z=>z.elim (m.fg i b) (o.fg b)) (fun b z=>z.elim (m.fr i b) fun z=>by
    cases e:B.R b with
    | none=>rfl
    | some w=>have:=m.rb b w e;rw [o.fb b z] at this;cases this) (fun b z=>z.elim (fun z=>by obtain ⟨w,e⟩:=m.fo i b z;exact E b w e) fun z=>by obtain ⟨w,e⟩:=o.fo b z;exact E b w e) (fun j b hj z T=>by
    rw [aa8 hj] at T
    rcases z with z | z
    ·exact hj (m.fd j i b T z)
    ·exact o.fd j b z T) (fun t' et=>by
    cases et
    have Y:(OGW C x d ds).P G1 (upd p a (.ins C dx [(x,.ref t)])) (.ref a) (fun b=>M i b\/Fv b):=⟨a,dx,t,l,u,vs,rfl,aaf,by rw [aad ad.symm];exact h2,by rw [aad N.symm];exact W,r3,by rw [aad al.symm];exact Z,r4,fun b=>or_congr (f b) (f' b)⟩
    refine ⟨_,rfl,?_⟩
    rcases O with rfl | rfl
    ·exact ⟨Y,fun b z=>z.elim (g.2 b) (o.fb b)⟩
    ·exact ⟨Y,fun b z=>z.elim (g.2.1 b) fun z => .inr (o.fb b z),g.2.2⟩)
  rw [am6 U,List.set_set] at J2
  exact r.nx _ _ _ _ _ J2 g1 q
theorem am7 {t:TS} {d:PyData} {ds:List PyData} (i:Nat) (e:env[i]?=some (some (.own (OGW C x d ds)))) (h:EvS B t D' (env.set i (some (.own (OI C [(x,.tuple [d,.list ds])]))))):EvS B t D' env:=fun σ G H F D I r=>by
 obtain ⟨v,K,⟨a,dx,c,l,u,vs,rfl,p,o,m,q,n,w,f⟩,hb⟩:=I.sl i _ e
 have ft:F i c:=(f c).mpr (.inr (.inl rfl))
 have L:F i l:=(f l).mpr (.inr (.inr rfl))
 have fi:∀ b,b=c\/b=l->F i b:=fun b z=>(f b).mpr (.inr z)
 have fo:∀ b,b=a\/b=dx->F i b:=fun b z=>(f b).mpr (.inl z)
 have js:Same G (jn G H fun b=>b=c\/b=l):=abl fun b z=>I.fg i b (fi b z)
 have s:=(I.drop i).freeze (Fv:=fun b=>b=c\/b=l) (fun b z=>hb b (fi b z)) (fun j b z y=>by
  by_cases g:j=i
  ·subst g;exact putF_same.mp y
  ·rw [aa8 g] at y;exact g (I.fd j i b y (fi b z))) (fun b z=>I.fg i b (fi b z))
 have E:∀ b,b=a\/b=dx->¬ (b=c\/b=l):=fun b z y=>by
  rcases z with rfl | rfl <;> rcases y with rfl | rfl
  ·rw [p] at m;cases m
  ·rw [p] at n;cases n
  ·rw [o] at m;cases m
  ·rw [o] at n;cases n
 have J:=s.slot (Fv:=fun b=>b=a\/b=dx) i (some (.ref a)) (some (.own (OI C [(x,.tuple [d,.list ds])]))) (fun b z=>by rw [aii (E b z)];exact I.fg i b (fo b z)) (fun b z=>I.fr i b (fo b z)) (fun b z=>I.fo i b (fo b z)) (fun j b g z y=>by
  rw [aa8 g] at y;exact g (I.fd j i b y (fo b z))) (fun t A=>by
  cases A
  refine ⟨_,rfl,⟨a,dx,_,rfl,p,o,.cons (.tup (by rw [adc (.inl rfl)];exact m) (.cons (q.same js) (.cons (.lst (by rw [adc (.inr rfl)];exact n) (w.same js)) .nil))) .nil,fun b=>Iff.rfl⟩,fun b z=>hb b (fo b z)⟩)
 rw [am6 K,List.set_set] at J
 exact h σ _ H _ D J (r.later js)
end
end VL
namespace DictL
open PySem PyProof.Rows
theorem aiw:entryFor table "dict.update.loop" = some Builtin.«dict.update.loop»:=entryFor_of_tree (by kernel_rfl)
theorem ad2:plainId "dict.update.loop" = true:=by decide +kernel
section
variable {prog:Program} {w:World} {A:Around} {R:Result->Shared->Prop} {I:Addr} {fp wr:List Addr} {n:Nat} {P:Nat->Value->Prop} {St:Nat->Heap->Prop} {K:Type} [DecidableEq K] {knd:KeyKind prog w K}
theorem ayb {M:Model} {E:Value->Shared->Prop} {s:Shared} {t:Addr} {k v:Value} {Q:List Value->Shared->Prop} {c:Value->Sem (List Value)} (b:s.heap.IsTuple t #[k,v]) (h:Q [k,v] s):wpAny M A ((Builtin.Dict.pairItems (.ref t)).tryCatch c) Q E s:=by
 obtain ⟨⟨cls,dd,data,sl⟩,f,a,m,hd⟩:=b
 simp only at a hd
 subst a hd
 refine wpAny_tryCatch ?_
 unfold Builtin.Dict.pairItems
 obtain ⟨j,g,d,i,os⟩:=s
 wp_walk
 exact h
theorem asn (W:Walks prog w A.in1 I fp wr n P St) (S:Addr) (l:S ∉ fp) (p:Nat->K) (O val:Nat->Value) (tup:Nat->Addr) (g:Nat->List (K × Value)) (Y:∀ i,g (i+1)=stored (g i) (p i) (val i)) (hz:∀ i,i<=n->(g i).length<=sizeLine)
  (hP:∀ i v,P i v->v=.ref (tup i)) (d:∀ i,i < n->tup i ≠ S/\tup i ∉ wr) (u:∀ i,i < n->knd.is (p i) (O i)=true) :
  ∀ (k i:Nat) (s:Shared),n - i=k->i<=n->St i s.heap->(∀ j,i<=j->j < n->s.heap.IsTuple (tup j) #[O j,val j])->s.heap.DictOf knd S (g i) ->
   (∀ h' y,h'.DictOf knd S (g n)->(∀ b o,b ≠ S->b ∉ wr->s.heap.get? b=some o->h'.get? b=some o)->R (.ok (.ret .none)) { s with heap:=h',toks:=y }) ->
   codeAny (model prog w) A (.builtin "dict.update.loop" ⟨[.ref S,.ref I,rawInt i,.none],[]⟩) R s:=by
 have x:S ∉ wr:=fun h=>l (W.sub _ h)
 intro k
 induction k with
 | zero =>
  intro i s D hi f C J F
  have G:i=n:=by lia
  subst G
  refine codeAny_builtin aiw ?_
  rw [aJ1 ad2 _]
  show wpAny _ A.in1 (pyNext (.ref I) >>= _) _ _ s
  refine aI2 (W.done s _ _ f fun h' y hm=>?_)
  dsimp only
  unfold Builtin.Dict.addKeywords
  refine aI2 (aI2 (aI3 (aI3 ?_)))
  refine aI3 ?_
  exact F h' y (by obtain ⟨o,es,ep,c,r⟩:=J;exact ⟨o,es,ep,hm S o x c,r⟩) fun b o _ hb e=>hm b o hb e
 | succ k ih =>
  intro i s D hi f C J F
  have a:i < n:=by lia
  refine codeAny_builtin aiw ?_
  rw [aJ1 ad2 _]
  show wpAny _ A.in1 (pyNext (.ref I) >>= _) _ _ s
  refine aI2 (W.item i s _ _ a f fun v h' y T q hm=>?_)
  have ev:=hP i v T
  subst ev
  dsimp only
  have H:h'.IsTuple (tup i) #[O i,val i]:=by
   obtain ⟨o,c,r⟩:=C i (aA6 _) a
   exact ⟨o,hm _ o (d i a).2 c,r⟩
  have E:h'.DictOf knd S (g i):=by obtain ⟨o,es,ep,c,r⟩:=J;exact ⟨o,es,ep,hm S o x c,r⟩
  refine aI2 (aI7 ?_)
  refine aI2 (ayb H ?_)
  dsimp only
  refine aI7 (wpAny_dictSet_pairs (u i a) E (fun Z N m=>?_) (hz i hi))
  have keep:∀ b o,b ≠ S->b ∉ wr->s.heap.get? b=some o->Z.get? b=some o:=fun b o b1 B e=>by rw [m.2 b b1];exact hm b o B e
  refine aI3 ⟨plainId_quiet ad2 _,ih (i+1) _ (by lia) a ?_ ?_ (by rw [Y];exact N) ?_⟩
  ·exact W.frame _ _ _ q fun b hb o e=>by rw [m.2 b (fun z:b=S=>l (by rw [← z];exact hb))];exact e
  ·intro j j1 U
   obtain ⟨o,c,r⟩:=C j (by lia) U
   exact ⟨o,keep _ o (d j U).1 (d j U).2 c,r⟩
  ·intro X L M Q
   exact F X L M fun b o b1 B e=>Q b o b1 B (keep b o b1 B e)
end
section
variable {prog:Program} {w:World} {A:Around} {E:Value->Shared->Prop} {s:Shared}
theorem a0m:typeLookup (.type "list") (Str.ofString "keys")=pure none:=by rw [typeLookup_type,builtinLookup_eq_fast];kernel_rfl
theorem ayc {a:Addr} {xs:Array Value} {k:Nat} {Q:Option Value->Shared->Prop} (l:s.heap.get? a=some { cls:=.type "list",data:=.seq xs k }) (m:A.handled=none)
  (h:∀ h' j,(∀ b o,s.heap.get? b=some o->h'.get? b=some o)->Q none { s with heap:=h',toks:=j }):wpAny (model prog w) A (getAttr? (.ref a) (Str.ofString "keys")) Q E s:=by
 obtain ⟨n,g,d,j,os⟩:=s
 have i:∀ f,(⟨n,g,d,f,os⟩:Shared).TypeIs (.ref a) "list":=fun _=>⟨_,l,rfl⟩
 have r:=sub_AttributeError
 have u:=PySem.F.slot_list_getattribute.lookup
 have p:=PySem.F.slot_list_getattribute.bind (.ref a)
 have q:=am_list_getattr_none
 unfold getAttr? getAttrBy? getAttrBy
 repeat (any_goals (first | assumption | exact i _ | ((with_reducible show wpAny _ _ (call (Value.builtin "list.__getattribute__") _ _) _ _ _);refine call_meets PySem.F.slot_list_getattribute (i _) am_entry_list_getattribute (PySem.F.args_list_getattribute_2 _ _) (meets_getattribute_miss_list a xs k #[] (Str.ofString "keys") _ a0m (by decide +kernel) (by size_fits)) ⟨l,m,fun h' f e c=>?_⟩) | wp_step))
 obtain ⟨t',v,x⟩:=c.there
 show wpAny _ _ (getattributeRaised _ _ _ _ _ _ _) _ _ _
 unfold getattributeRaised
 repeat (any_goals (first | assumption | wp_step))
 exact h _ _ c.keeps
end
section
variable {prog:Program} {w:World} {A:Around} {E:Value->Shared->Prop} {s:Shared} {K:Type} [DecidableEq K] {knd:KeyKind prog w K}
theorem call_dict_list {l:Addr} {items:Array Value} {nl:Nat} {Q:Value->Shared->Prop} (f:Nat->K) (J val:Nat->Value) (tup:Nat->Addr) (n:Nat->List (K × Value)) (S:n 0=[]) (P:∀ i,n (i+1)=stored (n i) (f i) (val i)) (hz:∀ i,i<=items.size->(n i).length<=sizeLine)
  (hh:A.handled=none) (B:s.heap.get? l=some { cls:=.type "list",data:=.seq items nl }) (U:∀ i v,items[i]?=some v->v=Value.ref (tup i)) (N:∀ j,j < items.size->s.heap.IsTuple (tup j) #[J j,val j]) (u:∀ i,i < items.size->knd.is (f i) (J i)=true)
  (h:∀ (h':Heap) (H:Nat),h'.DictOf knd s.heap.objs.size (n items.size)->(∀ b o,s.heap.get? b=some o->h'.get? b=some o)->Q (.ref s.heap.objs.size) { s with heap:=h',toks:=H }) :
  wpAny (model prog w) A (call (.type "dict") [.ref l]) Q E s:=by
 refine callType_codes (Q₁:=fun obj a=>obj=.ref s.heap.objs.size/\a={ s with heap:=s.heap.push { cls:=.type "dict",data:=.dict #[] } }) F.kt_called_dict (F.kt_typeCall_dict_1 _) F.entry_dict_init (kt_code_dict_new (.ref l) ⟨rfl,rfl⟩) fun obj a z=>?_
 obtain ⟨rfl,rfl⟩:=z
 have O:(s.heap.push { cls:=.type "dict",data:=.dict #[] }).get? s.heap.objs.size=some { cls:=.type "dict",data:=.dict #[] }:=aI6 _ rfl
 refine ⟨⟨_,O,rfl⟩,F.args_dict_init_2 _ _,?_⟩
 have c:(s.heap.push { cls:=.type "dict",data:=.dict #[] }).get? l=some { cls:=.type "list",data:=.seq items nl }:=aI4 _ B
 have R:(Value.type "list" == Value.type "dict")=false:=by decide
 unfold Builtin.«dict.__init__» Builtin.Dict.updateCommon Builtin.Dict.updateFrom
 obtain ⟨p,g,d,H,os⟩:=s
 dsimp only at *
 generalize hPI:pyIter=PI
 generalize hGA:getAttr?=GA
 wp_walk
 subst hGA hPI
 refine ayc (s:={ heap:=p.push { cls:=.type "dict",data:=.dict #[] },gens:=g,drawn:=d,toks:=H,os:=os }) c hh fun m I D=>?_
 rw [aE9 (show (none:Option Value).isNone=true from rfl)]
 refine aI2 (wpAny_rule ?_)
 have q:m.IsList l items:=⟨_,D _ _ c,rfl,nl,rfl⟩
 have y:l < p.objs.size:=aI5 B
 have x:=D _ _ O
 have hsz:p.objs.size < m.objs.size:=aI5 x
 refine aI2 (aJ5 (s:={ heap:=m,gens:=g,drawn:=d,toks:=I,os:=os }) q ?_)
 refine aI3 ⟨plainId_quiet ad2 _,?_⟩
 have C:l ≠ m.objs.size:=aB5 (Nat.lt_trans y hsz)
 have G:p.objs.size ∉ [m.objs.size,l]:=by
  simp only [aA8,List.not_mem_nil,or_false,not_or]
  exact ⟨aB5 hsz,Nat.ne_of_gt y⟩
 have tl:∀ j,j < items.size->tup j < p.objs.size:=fun j L=>let ⟨_,e,_⟩:=N j L;aI5 e
 refine asn (A:=A.in1) (knd:=knd) (Walks.list (A:=A.in1.in1) hh m.objs.size l C items) p.objs.size G f J val tup n P hz U (fun i hi=>⟨aB5 (tl i hi),by simp only [aC1];exact aB5 (Nat.lt_trans (tl i hi) hsz)⟩) u (items.size - 0) 0 _ (by lia) (aF4 _)
  ⟨⟨_,aI6 _ rfl,rfl,rfl⟩,q.push _⟩ (fun j _ L=>?_) ?_ fun h' M T kp=>?_
 ·obtain ⟨o,e,r⟩:=N j L
  exact ⟨o,aI4 _ (D _ _ (aI4 _ e)),r⟩
 ·rw [S]
  exact ⟨_,#[],0,aI4 _ x,⟨rfl,rfl,rfl⟩,rfl,fun e W=>by simp at W,.nil,List.nodup_nil⟩
 ·refine ⟨rfl,h h' M T fun b o e=>kp b o (aB5 (aI5 e)) (by simp only [aC1];exact aB5 (Nat.lt_trans (aI5 e) hsz)) (aI4 _ (D _ _ (aI4 _ e)))⟩
end
end DictL
namespace L2
open PySem PySem.W PyProof.Rows
def dkOf:List (Int × V)->List (Key × V):=fun kvs=>kvs.map fun p=>(.inl p.1,p.2)
def aso:List V->Hp->VK->Prop:=fun xs H Q=>∃ (a:Addr) (ts:List Addr) (kvs:List (Int × V)),xs=[.ref a]/\H a=some (.lst (ts.map V.ref))/\ts.length=kvs.length/\kvs.length < 4000/\(kvs.map (·.1)).Nodup /\
 (∀ (i:Nat) t kv,ts[i]?=some t->kvs[i]?=some kv->H t=some (.tup [.int kv.1,kv.2]))/\∀ p,H p=none->Q (.ref p) (upd H p (.dK (dkOf kvs)))
section
variable {K:Type} [DecidableEq K]
def kfOf (key:Nat->K) (val:Nat->Value):Nat->List (K × Value)
 | 0=>[]
 | i+1=>stored (kfOf key val i) (key i) (val i)
theorem am8 (a:Nat->K) (val:Nat->Value):∀ i,(kfOf a val i).length<=i
 | 0=>aA6 _
 | i+1=>aC9 (stored_length_le _ _ _) (Nat.succ_le_succ (am8 a val i))
theorem am9 {kvs:List (K × Value)} {k:K} (h:∀ p∈kvs,p.1 ≠ k):valueAt kvs k=none:=by
 unfold valueAt
 rw [Option.map_eq_none_iff,List.find?_eq_none]
 intro p a e
 exact h p a (by simpa using e)
theorem ao2 (a:Nat->K) (val:Nat->Value):∀ n,(∀ i j,i < n->j < n->i ≠ j->a i ≠ a j)->kfOf a val n=(List.range n).map fun i=>(a i,val i)
 | 0,_=>rfl
 | n+1,h=>by
  have b:=ao2 a val n fun i j hi d=>h i j (by lia) (by lia)
  show stored (kfOf a val n) (a n) (val n)=_
  rw [b,stored_absent,List.range_succ,aE0]
  ·rfl
  ·refine am9 fun p c=>?_
   obtain ⟨i,hi,rfl⟩:=aB6.mp c
   have:=aB8.mp hi
   exact h i n (by lia) (by lia) (by lia)
end
theorem asp {k:Nat->Key} {g:Nat->V} {g':Nat->Value}:∀ {l:List Nat},(∀ i∈l,RelV (g i) (g' i))->KV (l.map fun i=>(k i,g i)) (l.map fun i=>(k i,g' i))
 | [],_ => .nil
 | i :: l,h => .cons ⟨rfl,h i aB7⟩ (asp fun j a=>h j (aB4 _ a))
section
variable {X:Cx}
theorem aqc (L:X.calm=true):aa5 X (.type "dict") aso:=by
 intro pins s σ H xs us Q I r h
 obtain ⟨a,b,kvs,rfl,ha,R,P,hn,J,q⟩:=h
 obtain ⟨u,rfl,A⟩:=acf r
 cases A
 obtain ⟨hz,its,nl,F,e⟩:=(show ObjOk X.prog X.w H s.heap a (.lst (b.map V.ref)) from I.hok a _ ha)
 have c:its.length=b.length:=by have:=F.length;rw [aA3] at this;lia
 have x:∀ i:Nat,∃ p:Value × Value,i < b.length->s.heap.IsTuple (b.getD i 0) #[p.1,p.2]/\(∃ t,p.1=.int ((kvs.getD i (0,.non)).1) t)/\RelV (kvs.getD i (0,.non)).2 p.2:=fun i=>by
  by_cases hi:i < b.length
  ·have C:b[i]?=some (b.getD i 0):=by rw [aD2,aA0 hi];rfl
   have e2:kvs[i]?=some (kvs.getD i (0,.non)):=by rw [aD2,aA0 (by lia)];rfl
   obtain ⟨_,K,g,p2⟩:=(show ObjOk X.prog X.w H s.heap _ (.tup _) from I.hok _ _ (J i _ _ C e2))
   cases g with
   | cons r1 g =>
    cases g with
    | cons g r3 =>
     cases r3
     exact ⟨(_,_),fun _=>⟨p2,r1,g⟩⟩
  ·exact ⟨(.none,.none),fun h=>absurd h hi⟩
 obtain ⟨f,hf⟩:=Classical.skolem.mp x
 have n:∀ i j,i < b.length->j < b.length->i ≠ j->(Sum.inl (kvs.getD i (0,.non)).1:Key) ≠ Sum.inl (kvs.getD j (0,.non)).1:=fun i j hi G B e=>by
  have e:=Sum.inl.inj e
  have l:=aG1.mp hn
  rw [aD2,aD2,aA0 (show i < kvs.length by lia),aA0 (show j < kvs.length by lia)] at e
  rcases Nat.lt_or_gt_of_ne B with d | d
  ·exact l i j (by rw [aA3];lia) (by rw [aA3];lia) d (by simpa using e)
  ·exact l j i (by rw [aA3];lia) (by rw [aA3];lia) d (by simpa using e.symm)
 refine DictL.call_dict_list (knd:=aa3 X.prog X.w) (items:=its.toArray) (nl:=nl) (fun i => .inl (kvs.getD i (0,.non)).1) (fun i=>(f i).1) (fun i=>(f i).2) (fun i=>b.getD i 0) (kfOf (fun i => .inl (kvs.getD i (0,.non)).1) fun i=>(f i).2) rfl (fun i=>rfl) (fun i hi=>aC9 (am8 _ _ i) (aC9 hi (by rw [sizeLine_eq];simp;lia)))
  (I.ok.hd L) e (fun i v m=>?_) (fun j G=>(hf j (by simpa [c] using G)).1) (fun i hi=>?_) fun h' M E kp=>?_
 ·have m:its[i]?=some v:=by simpa using m
  have hi:=(aA1.mp m).1
  have C:(b.map V.ref)[i]?=some (.ref (b.getD i 0)):=by rw [aA5,aD2,aA0 (by lia)];rfl
  obtain ⟨u,D,A⟩:=F.get C
  rw [m] at D
  cases D
  exact A
 ·obtain ⟨_,⟨t,N⟩,_⟩:=hf i (by simpa [c] using hi)
  rw [N]
  exact ahf _ _ _ _
 ·have y:h'.DictOf (aa3 X.prog X.w) s.heap.objs.size ((List.range b.length).map fun i=>(Sum.inl (kvs.getD i (0,.non)).1,(f i).2)):=by
   rw [show its.toArray.size=b.length by simp [c],ao2 _ _ _ n] at E
   exact E
  have z:KV (dkOf kvs) ((List.range b.length).map fun i=>((Sum.inl (kvs.getD i (0,.non)).1:Key),(f i).2)):=by
   have O:dkOf kvs=(List.range b.length).map fun i=>((Sum.inl (kvs.getD i (0,.non)).1:Key),(kvs.getD i (0,.non)).2):=by
    refine aF6 fun i=>?_
    unfold dkOf
    rw [aA5,aA5]
    by_cases hi:i < b.length
    ·rw [aD7 hi,aA0 (show i < kvs.length by lia),aH6,aH6,aD2,aA0 (show i < kvs.length by lia)]
     rfl
    ·rw [aD9 (show kvs.length<=i by lia),aD9 (show (List.range b.length).length<=i by rw [List.length_range];lia)]
     rfl
   rw [O]
   exact asp fun i hi=>(hf i (aB8.mp hi)).2.2
  refine ⟨.ref s.heap.objs.size,_,I.laid (t':=M) (o:=.dK (dkOf kvs)) kp (aA6 _) ?_,rfl,q _ (I.hok.fresh (aA6 _))⟩
  refine ⟨by unfold dkOf;rw [aA3,sizeLine_eq];lia,beq_eq_false_iff_ne.mpr (Ne.symm (aB5 I.big)),_,z,y⟩
end
end L2
namespace VL
open PySem PySem.Spec L2
def kvI {α:Type}:Nat->List α->List (Int × α)
 | _,[]=>[]
 | k,x :: xs=>((k:Int),x) :: kvI (k+1) xs
theorem ao3 {α:Type}:∀ (k:Nat) (xs:List α),(kvI k xs).length=xs.length
 | _,[]=>rfl
 | k,_ :: xs=>by rw [kvI,aE1,aE1,ao3]
theorem ao4 {α:Type}:∀ (k:Nat) (xs:List α) (i:Nat),(kvI k xs)[i]?=xs[i]?.map fun x=>(((k+i:Nat):Int),x)
 | _,[],i=>by simp [kvI]
 | k,x :: xs,0=>by simp [kvI]
 | k,x :: xs,i+1=>by
  rw [kvI,aH5,aH5,ao4 (k+1) xs i,show k+1+i=k+(i+1) by lia]
theorem ako {α:Type}:∀ (k:Nat) (xs:List α),((kvI k xs).map (·.1)).Nodup/\∀ p∈kvI k xs,(k:Int)<=p.1
 | _,[]=>⟨List.nodup_nil,fun p a=>by simp [kvI] at a⟩
 | k,x :: xs=>by
  obtain ⟨c,b⟩:=ako (k+1) xs
  refine ⟨?_,fun p a=>?_⟩
  ·rw [kvI,aD0,aH8]
   refine ⟨fun hm=>?_,c⟩
   obtain ⟨p,a,e⟩:=aB6.mp hm
   have:=b p a
   simp only at e
   lia
  ·rw [kvI] at a
   rcases aA8.mp a with rfl | a
   ·exact Int.le_refl _
   ·have:=b p a;lia
theorem ao5:∀ (k:Nat) (xs:List V) (i:Nat),valV (dkOf (kvI k xs)) (.inl ((k+i:Nat):Int))=xs[i]?
 | _,[],i=>rfl
 | k,x :: xs,0=>by
  rw [kvI]
  exact afl (p:=(Sum.inl (k:Int),x)) rfl
 | k,x :: xs,i+1=>by
  have e:¬ ((Sum.inl (k:Int):Key)=Sum.inl ((k+(i+1):Nat):Int)):=fun e=>by have:=Sum.inl.inj e;lia
  rw [kvI]
  show valV ((Sum.inl (k:Int),x) :: dkOf (kvI (k+1) xs)) _=_
  rw [afm (p:=(Sum.inl (k:Int),x)) e,aH5,← ao5 (k+1) xs i,show k+1+i=k+(i+1) by lia]
@[reducible] def kvD (ds:List PyData):List (Key × PyData):=(kvI 0 ds).map fun p=>(.inl p.1,p.2)
theorem ana:∀ (k:Nat) (xs:List PyData) (i:Nat),valD ((kvI k xs).map fun p=>((.inl p.1:Key),p.2)) (.inl ((k+i:Nat):Int))=xs[i]?
 | _,[],i=>rfl
 | k,x :: xs,0=>by simp [kvI,valD]
 | k,x :: xs,i+1=>by
  have e:¬ ((k:Int)=((k+(i+1):Nat):Int)):=fun e=>by lia
  rw [kvI,aH5,← ana (k+1) xs i,show k+1+i=k+(i+1) by lia]
  simp only [valD,aD0,List.find?_cons]
  rw [aD5 (fun z:(Sum.inl (k:Int):Key)=Sum.inl ((k+(i+1):Nat):Int)=>e (Sum.inl.inj z))]
theorem ayd {xs:List PyData} {i:Int} {d:PyData} (a:0<=i) (h:xs[i.toNat]?=some d):valD (kvD xs) (.inl i)=some d:=by
 have:=ana 0 xs i.toNat
 rw [show ((0+i.toNat:Nat):Int)=i by lia] at this
 exact this.trans h
theorem a0n {xs:List PyData} (h:xs ≠ []):kvD xs ≠ []:=by
 cases xs with
 | nil=>exact absurd rfl h
 | cons x xs=>exact List.cons_ne_nil _ _
def ODL (dss:List (List PyData)):Own where
 P:=fun G H v F=>∃ (a:Addr) (as:List Addr),v=.ref a/\H a=some (.dK (dkOf (kvI 0 (as.map V.ref))))/\as.Nodup/\a ∉ as/\as.length=dss.length/\(∀ (i:Nat) b ds,as[i]?=some b->dss[i]?=some ds->∃ vs,H b=some (.lst vs)/\Rps G vs ds)/\∀ b,F b ↔ b=a\/b∈as
 mono:=fun ⟨a,as,e,h,n1,n2,l,r,f⟩ g hh=>⟨a,as,e,hh a _ ((f a).mpr (.inl rfl)) h,n1,n2,l,fun i b ds hb hd=>by
  obtain ⟨vs,h1,h2⟩:=r i b ds hb hd
  exact ⟨vs,hh b _ ((f b).mpr (.inr (aA2 hb))) h1,h2.same g⟩,f⟩
 dom:=fun ⟨a,as,e,h,n1,n2,l,r,f⟩ b z=>by
  rcases (f b).mp z with rfl | z
  ·exact ⟨_,h⟩
  ·obtain ⟨i,hi,e⟩:=aH0.mp z
   have hb:as[i]?=some b:=by rw [aA0 hi,e]
   obtain ⟨vs,h1,_⟩:=r i b _ hb (aA0 (by rw [← l];exact hi))
   exact ⟨_,h1⟩
theorem asq {G:Hp}:∀ (k:Nat) {vs:List V} {ds:List PyData},vs.length=ds.length->(∀ (i:Nat) v d,vs[i]?=some v->ds[i]?=some d->Rp G v d)->RpK G (dkOf (kvI k vs)) ((kvI k ds).map fun p=>(.inl p.1,p.2))
 | _,[],[],_,_ => .nil
 | _,[],_ :: _,h,_=>by simp at h
 | _,_ :: _,[],h,_=>by simp at h
 | k,v :: vs,d :: ds,h,q => .cons (q 0 v d rfl rfl) (asq (k+1) (by simpa using h) fun i v d b a=>q (i+1) v d (by simpa using b) (by simpa using a))
theorem aye {c:List (List PyData)}:Frz (ODL c) (abj (kvD (c.map .list))):=fun G H v F ⟨a,as,e,h,q,p,l,r,f⟩ n g=>by
 subst e
 refine .dk (by rw [adc ((f a).mpr (.inl rfl))];exact h) (asq 0 (by simp [l]) fun i u d j hd=>?_) rfl
 rw [aA5] at j hd
 cases hb:as[i]? with
 | none=>rw [hb] at j;cases j
 | some b =>
  cases hds:c[i]? with
  | none=>rw [hds] at hd;cases hd
  | some ds =>
   rw [hb] at j;rw [hds] at hd
   cases j;cases hd
   obtain ⟨vs,o,m⟩:=r i b ds hb hds
   exact .lst (by rw [adc ((f b).mpr (.inr (aA2 hb)))];exact o) (m.same (abl n))
section
variable {B:Bs} {env:En} {QO:Sl->En->Prop} {Q':PyData->En->Prop} {D':VEnds} {K:Frag} {i:Nat}
theorem asr {src:List (Option Nat)} {wi:TI} (h:EvI B wi env fun ds e1=>∃ n:Nat,ds=rngD 0 n/\n<=3000/\QO (.own (ODL (List.replicate n []))) e1) :
  EvO B (tCB aso (aa2 (tLC (none :: src) wi (abp 0) tYes (tTup (aa2 (tVar 0) (aa2 (tLst tNil) tNil)))) tNil)) env QO:=fun σ G H F Q I k=>by
 refine h σ G H F _ I fun J G1 T F1 ds e1 X g1 it ⟨N,ed,a9,q⟩ d r=>?_
 subst ed
 have hL:(rngD 0 N).length=N:=ack
 let W:Nat->List V->St->Hp->Prop:=fun n ys σI H=>∃ (K as:List Addr) (s:Hp),ys=K.map V.ref/\K.length=n/\as.length=n/\as.Nodup/\d ∉ as/\0 < σI.length /\
  (∀ (i:Nat) t b,K[i]?=some t->as[i]?=some b->H t=some (.tup [.int (i:Int),.ref b]))/\(∀ t∈K,T t=none/\t ≠ d/\t ∉ as) /\
  (∀ b∈as,T b=none/\s b=none/\H b=some (.lst []))/\H d=some (.lst ys)/\s d=none/\Same G1 s/\Same s H/\Same T H/\(∀ a o,s a=some o->G1 a=some o\/T a=none)/\FT s H
 refine ⟨fun n m ys σI H=>m=N - n/\n<=N/\W n ys σI H,⟨N,by simp,aF4 _,[],[],G1,rfl,rfl,rfl,List.nodup_nil,by simp,by simp [pick],fun i t b h=>by simp at h,fun t D=>by simp at D,fun b hb=>by simp at hb,aaf,X.no_g r,Same.refl _,X.gh.trans (abb r),abb r,fun a o e => .inl e,fun a ks e=>?_⟩,?_⟩
 ·by_cases z:a=d
  ·subst z;rw [aaf] at e;cases e
  ·rw [aad z] at e;exact X.ft a ks e
 rintro n m ys σI H2 ⟨rfl,hn,K,as,s,rfl,hl,M,nd,na,Z,E,a1,all,l,ga,U,L,C,Y,O⟩
 refine ⟨l,?_⟩
 by_cases hlt:n < N
 ·refine .inr ⟨it.go n s H2 U L (by lia),fun a2 a0 H'=>W (n+1) a2 a0 H',fun a2 a0 H' hw=>⟨N - (n+1),by lia,rfl,hlt,hw⟩,fun x H3 y=>?_⟩
  obtain ⟨G3,o⟩:=it.yld n s H2 x H3 (.int (0+(n:Int))) U L O (by unfold rngD;rw [aA5,aD7 hlt];rfl) y
  have rx:=o.ok.1
  cases rx
  refine ai9 (al1 (aci (aze (aja (arj (v:=.int (0+(n:Int))) (by rw [aD1,aE9 rfl,aE9 Z]) (aja (ark (agf ⟨by decide,fun p g=>agf ⟨show (2:Nat)<=sizeLine by rw [sizeLine_eq];decide,fun t D=>?_⟩⟩))))))))
  have n2:H2 p=none:=aa9 o.hh g
  have n1:T p=none:=aa9 C n2
  have tp:t ≠ p:=fun e=>by rw [e,aaf] at D;cases D
  rw [aad tp] at D
  have t2:H2 t=none:=aa9 o.hh D
  have t1:T t=none:=aa9 C t2
  have pa:p ≠ d:=(aar (o.hh _ _ l) g).symm
  have ta:t ≠ d:=(aar (o.hh _ _ l) D).symm
  have a6:p ∉ as:=fun z=>by
   have:=o.hh _ _ (all p z).2.2
   rw [this] at g;cases g
  have a5:t ∉ as:=fun z=>by
   have:=o.hh _ _ (all t z).2.2
   rw [this] at D;cases D
  have old:∀ a u,H2 a=some u->a ≠ d->upd (upd (upd H3 p (.lst [])) t (.tup [.int (0+(n:Int)),.ref p])) d (.lst (K.map V.ref ++ [.ref t])) a=some u:=fun a u e aa=>by
   have e3:=o.hh _ _ e
   rw [aad aa,aad (aar e3 D),aad (aar e3 g)]
   exact e3
  have a4:∀ c∈K,∃ u,H2 c=some u:=fun c f=>by
   obtain ⟨i,hi,e⟩:=aH0.mp f
   have S:K[i]?=some c:=by rw [aA0 hi,e]
   exact ⟨_,E i c _ S (aA0 (by lia))⟩
  refine ⟨by rw [aad ta.symm,aad pa.symm];exact o.hh _ _ l,by rw [aA3,hl];exact big (by lia),K ++ [t],as ++ [p],G3,by simp,by simp [hl],by simp [M],?_,?_,by rw [List.length_set];exact Z,fun i c b f hb=>?_,fun c f=>?_,fun b hb=>?_,aaf,?_,U.trans o.gg,fun a u e=>?_,fun a u e=>?_,fun a u e=>?_,fun a ks e=>?_⟩
  ·rw [aE3]
   exact ⟨nd,by simp,fun x hx y hy=>by simp at hy;subst hy;intro e;subst e;exact a6 hx⟩
  ·intro z
   rcases aA7.mp z with z | z
   ·exact na z
   ·exact pa (aC1.mp z).symm
  ·by_cases hi:i < n
   ·rw [aC2 (by lia)] at f hb
    have R:=E i c b f hb
    exact old c _ R (a1 c (aA2 f)).2.1
   ·have a7:i=n:=by
     have:=(aA1.mp f).1
     simp at this
     lia
    subst a7
    rw [aC7 (by lia),hl,aH9] at f
    rw [aC7 (by lia),M,aH9] at hb
    cases f
    cases hb
    rw [aad ta,aaf,Int.zero_add]
  ·rcases aA7.mp f with f | f
   ·obtain ⟨S,R,h3⟩:=a1 c f
    refine ⟨S,R,fun z=>?_⟩
    rcases aA7.mp z with z | z
    ·exact h3 z
    ·have e:=aC1.mp z
     subst e
     obtain ⟨u,e⟩:=a4 c f
     rw [e] at n2;cases n2
   ·have e:=aC1.mp f
    subst e
    refine ⟨t1,ta,fun z=>?_⟩
    rcases aA7.mp z with z | z
    ·exact a5 z
    ·exact tp (aC1.mp z)
  ·have gb:∀ b,s b=none->(∃ u,H2 b=some u)->G3 b=none:=fun b S z_=>by
    obtain ⟨u,R⟩:=z_
    cases e:G3 b with
    | none=>rfl
    | some w =>
     rcases o.gn b w e with e | e
     ·rw [S] at e;cases e
     ·rw [R] at e;cases e
   rcases aA7.mp hb with hb | hb
   ·obtain ⟨S,R,h3⟩:=all b hb
    exact ⟨S,gb b R ⟨_,h3⟩,old b _ h3 (fun z:b=d=>na (by rw [← z];exact hb))⟩
   ·have e:b=p:=by simpa using hb
    subst e
    exact ⟨n1,aa9 o.gh g,by rw [aad pa,aad tp.symm,aaf]⟩
  ·cases e:G3 d with
   | none=>rfl
   | some w =>
    rcases o.gn d w e with e | e
    ·rw [ga] at e;cases e
    ·rw [l] at e;cases e
  ·have ap:a ≠ p:=aar (o.gh a u e) g
   have a3:a ≠ t:=aar (o.gh a u e) D
   have aa:a ≠ d:=by
    rintro rfl
    rcases o.gn _ u e with e | e
    ·rw [ga] at e;cases e
    ·rw [l] at e;cases e
   rw [aad aa,aad a3,aad ap];exact o.gh a u e
  ·exact old a u (C a u e) (aar e r)
  ·rcases o.gn a u e with e | e
   ·exact Y a u e
   ·exact .inr (aa9 C e)
  ·by_cases z:a=d
   ·subst z;rw [aaf] at e;cases e
   ·rw [aad z] at e
    by_cases y:a=t
    ·subst y
     rw [aaf] at e
     exfalso
     have e:=HO.tup.inj (aC5 e)
     match ks,e with
     | [],e=>simp at e
     | [_],e=>simp at e
     | [_,.inl _],e=>simp [kV] at e
     | [_,.inr _],e=>simp [kV] at e
     | _ :: _ :: _ :: _,e=>simp at e
    ·rw [aad y] at e
     by_cases y:a=p
     ·subst y;rw [aaf] at e;cases e
     ·rw [aad y] at e;exact o.ft O a ks e
 ·have e:n=N:=by lia
  subst e
  refine .inl ⟨it.stop _ s H2 U L hL.symm,?_⟩
  have P:=X.grow U L C Y O
  have ke:(kvI 0 (as.map V.ref)).length=n:=by rw [ao3,aA3];exact M
  refine agf ⟨d,K,kvI 0 (as.map V.ref),rfl,l,by lia,by lia,(ako 0 _).1,fun i c kv f A=>?_,fun p g=>?_⟩
  ·rw [ao4,aA5] at A
   cases hb:as[i]? with
   | none=>rw [hb] at A;cases A
   | some b =>
    rw [hb] at A
    cases A
    rw [Nat.zero_add]
    exact E i c b f hb
  ·have J:=P.aside (p:=p) (o:=.dK (dkOf (kvI 0 (as.map V.ref)))) (fun _ z=>nomatch z) (P.no_g g) (fun j z=>P.no_f g j z) (P.no_b g)
   have pn:p ∉ as:=fun z=>by have:=(all p z).2.2;rw [this] at g;cases g
   refine k (.ref p) s _ F1 (fun b=>b=p\/b∈as) (.own (ODL (List.replicate n []))) e1 J (g1.trans U) ⟨⟨p,as,rfl,aaf,nd,pn,by simp [M],fun i b a8 hb hd=>?_,fun b=>Iff.rfl⟩,fun b z=>?_,fun b z=>?_,fun b z=>?_,fun j b z y=>?_⟩ q
   ·rw [aH1] at hd
    split at hd
    ·cases hd
     have hm:=aA2 hb
     exact ⟨[],by rw [aad (fun z:b=p=>pn (z ▸ hm))];exact (all b hm).2.2,.nil⟩
    ·cases hd
   ·rcases z with rfl | z
    ·exact P.no_b g
    ·exact X.no_b (all b z).1
   ·rcases z with rfl | z
    ·exact P.no_g g
    ·exact (all b z).2.1
   ·rcases z with rfl | z
    ·exact ⟨_,aaf⟩
    ·exact ⟨_,by rw [aad (fun e:b=p=>pn (e ▸ z))];exact (all b z).2.2⟩
   ·rcases z with rfl | z
    ·exact P.no_f g j y
    ·exact X.no_f (all b z).1 j y
theorem aix {d:List (List PyData)} {l j n:Nat} {k:Int} {y:PyData} {ds:List PyData} (e:env[i]?=some (some (.own (ODL d)))) (ek:env[l]?=some (some (.st (.int k)))) (Z:env[j]?=some (some (.st y)))
  (R:(n:Int)=k) (hd:d[n]?=some ds) (hl:ds.length<=999999) (q:Q' .none (env.set i (some (.own (ODL (d.set n (ds ++ [y]))))))):Ev B (tBM K "list" ad4 (ak8 (tVar i) (tVar l)) (aa2 (tVar j) tNil)) env Q':=fun σ G H F Q I kk=>by
 obtain ⟨v,O,⟨a,as,rfl,h,N,E,ln,r,f⟩,_⟩:=I.sl i _ e
 obtain ⟨vk,C,X,_⟩:=I.sl l _ ek
 obtain ⟨W,x,ry,_⟩:=I.sl j _ Z
 cases X
 have hn:n < d.length:=(aA1.mp hd).1
 have hb:as[n]?=some (as[n]'(by lia)):=aA0 _
 generalize as[n]'(by lia)=b at hb
 have s:b∈as:=aA2 hb
 obtain ⟨vs,M,L⟩:=r n b ds hb hd
 have D:valV (dkOf (kvI 0 (as.map V.ref))) (.inl k)=some (.ref b):=by
  have:=ao5 0 (as.map V.ref) n
  rw [Nat.zero_add,R,aA5,hb] at this
  exact this
 refine ⟨_,O,_,C,a,.ref b,rfl,.inl ⟨_,.inl k,.inl h,rfl,D.symm⟩,.inl ⟨rfl,_,SqL.of M⟩,_,x,aex M (by rw [L.length];exact big (by lia)) ?_⟩
 have u:a ≠ b:=fun z=>E (z ▸ s)
 have J:=I.change (A:=ODL (d.set n (ds ++ [y]))) (H2:=upd H b (.lst (vs ++ [W]))) (F2:=F i) (os':=.own (ODL (d.set n (ds ++ [y])))) i e O (fun c o p w=>by rw [aad (fun z:c=b=>p ((f c).mpr (.inr (by rw [z];exact s))))];exact w)
  (fun c o w=>by
   by_cases z:c=b
   ·rw [z];exact ⟨_,aaf⟩
   ·rw [aad z];exact ⟨o,w⟩)
  (fun c z=>⟨.inl z,by
   by_cases y:c=b
   ·rw [y];exact ⟨_,aaf⟩
   ·rw [aad y];exact I.fo i c z⟩) ?_ (fun c ks e=>by
   by_cases z:c=b
   ·subst z;rw [aaf] at e;cases e
   ·rw [aad z] at e;exact I.ft c ks e) (.inl ⟨rfl,_,rfl⟩)
 ·exact kk _ G _ _ _ _ J (Same.refl _) .non q
 ·refine ⟨a,as,rfl,by rw [aad u];exact h,N,E,by simp [ln],fun m c es p g=>?_,f⟩
  by_cases hm:m=n
  ·subst hm
   rw [hb] at p;cases p
   rw [aD1,aE9 rfl,aE9 hn] at g
   cases g
   exact ⟨_,aaf,L.append (.cons ry .nil)⟩
  ·rw [aD1,aF0 (fun z=>hm z.symm)] at g
   obtain ⟨us,P,U⟩:=r m c es p g
   refine ⟨us,?_,U⟩
   rw [aad]
   ·exact P
   ·rintro rfl
    have i1:=(aA1.mp hb)
    have S:=(aA1.mp p)
    obtain ⟨l1,T⟩:=i1
    obtain ⟨Y,e2⟩:=S
    exact hm (nodup_ix N Y l1 (e2.trans T.symm))
end
end VL
namespace L2
open PySem PySem.W PyProof.Rows
def aqd:V->List V->Hp->VK->Prop:=fun x vs H Q=>∃ (a:Addr) (kvs:List (Key × V)),x=.ref a/\vs=[]/\H a=some (.dK kvs)/\∀ p,H p=none->Q (.ref p) (upd H p (.ext fun h=>h.IsValuesView p a))
def anb:List V->Hp->VK->Prop:=fun xs H Q=>∃ (p a:Addr) (kvs:List (Key × V)),xs=[.ref p]/\H p=some (.ext fun h=>h.IsValuesView p a)/\H a=some (.dK kvs)/\∀ q,H q=none->Q (.ref q) (upd H q (.lst (kvs.map (·.2))))
section
variable {X:Cx}
theorem ayf:MtR X "dict.values" aqd:=by
 intro pins s σ H x xs v us Q I f rs h
 obtain ⟨a,kvs,rfl,rfl,ha,q⟩:=h
 cases f
 cases rs
 obtain ⟨z,hd,vs,d,dd⟩:=ak7 I.hok ha
 refine call_meetsIn PySem.F.slot_dict_values dd.typeIs PySem.F.entry_dict_values (PySem.F.args_dict_values_1 _) (meets_dict_values (aa3 X.prog X.w) a hd) ⟨⟨vs,dd⟩,?_⟩
 have g:(s.heap.push { cls:=.type "dict_values",data:=.fields #[.ref a] }).IsValuesView s.heap.objs.size a:=⟨_,aI6 _ rfl,rfl,rfl⟩
 refine ⟨.ref s.heap.objs.size,_,I.laid (t':=s.toks) (o:=.ext fun h=>h.IsValuesView s.heap.objs.size a) (fun b o e=>aI4 _ e) (aA6 _) ⟨g,⟨_,aI6 _ rfl⟩,fun j i ⟨o,c,r⟩ k=>⟨o,k o c,r⟩⟩,rfl,q _ (I.hok.fresh (aA6 _))⟩
theorem ao6:∀ {kvs:List (Key × V)} {vs:List (Key × Value)},KV kvs vs->Vals (kvs.map (·.2)) (vs.map (·.2))
 | _,_,.nil => .nil
 | _,_,.cons h t => .cons h.2 (ao6 t)
theorem aqe (i:X.calm=true):aa5 X (.type "list") anb:=by
 intro pins s σ H xs us Q I r h
 obtain ⟨p,a,kvs,rfl,x,ha,q⟩:=h
 obtain ⟨u,rfl,y⟩:=acf r
 cases y
 obtain ⟨z,hd,vs,f,dd⟩:=ak7 I.hok ha
 obtain ⟨ep,A⟩:=dd.dictAt
 obtain ⟨n,_,_⟩:=(show ObjOk X.prog X.w H s.heap p (.ext fun h=>h.IsValuesView p a) from I.hok p _ x)
 have g:=f.length
 refine kdl_call (kdl_values (knd:=aa3 X.prog X.w) (kvs:=vs) (ep:=ep)) (I.ok.hd i) ⟨n,A⟩ (by rw [← g];exact z) fun h' l d c kp m b=>?_
 have e:d.toList=vs.map (·.2):=kdl_vals_eq d.toList (by rw [Array.length_toList];exact b.1) fun j v e=>b.2 j v (by rw [← aD4];exact e)
 refine ⟨.ref s.heap.objs.size,_,I.laid (t':=l) (o:=.lst (kvs.map (·.2))) kp (aA6 _) ⟨by rw [aA3];exact z,d.toList,c,by rw [e];exact ao6 f,by rw [Array.toArray_toList];exact m⟩,rfl,q _ (I.hok.fresh (aA6 _))⟩
end
end L2
namespace VL
open PySem PySem.Spec L2
theorem RpK.vals {G:Hp}:∀ {kvs:List (Key × V)} {es:List (Key × PyData)},RpK G kvs es->Rps G (kvs.map (·.2)) (es.map (·.2))
 | _,_,.nil => .nil
 | _,_,.cons h t => .cons h (RpK.vals t)
section
variable {B:Bs} {env:En} {QO:Sl->En->Prop} {K:Frag} {i:Nat}
theorem ass {es:List (Key × PyData)} (e:env[i]?=some (some (.st (abj es)))) (d:es ≠ []) (q:QO (.own (OL (es.map (·.2)))) env):EvO B (tCB anb (aa2 (tBM0 K "dict" aqd (tVar i)) tNil)) env QO:=fun σ G H F Q I k=>by
 obtain ⟨v,n,r,_⟩:=I.sl i _ e
 obtain ⟨a,kvs,rfl,ha,g⟩:=ahb r d
 have b:=I.gh _ _ ha
 refine ⟨_,n,.inr (.inr (.inl ⟨rfl,.inl ⟨_,b⟩⟩)),a,kvs,rfl,rfl,b,fun p c=>⟨p,a,kvs,rfl,aaf,by rw [aad (aar b c)];exact b,fun l f=>?_⟩⟩
 have m:G p=none:=I.no_g c
 have J:=I.aside (p:=p) (o:=.ext fun h=>h.IsValuesView p a) (fun _ z=>nomatch z) m (fun j z=>I.no_f c j z) (I.no_b c)
 have o:=Out.newL J.gh f (RpK.vals g)
 exact k _ _ _ F _ _ env (J.out o).1 o.gg (J.out o).2 q
end
def stS:Option Sl->Option Sl
 | some (.st d)=>some (.st d)
 | some (.scr ns)=>some (.scr ns)
 | _=>none
def momE (env:En) (i:Nat) (d:PyData):En:=(env.map stS).set i (some (.st d))
section
variable {B:Bs} {env:En} {QO:Sl->En->Prop} {Q':PyData->En->Prop} {K:Frag} {i j:Nat} {ta te:TE}
end
abbrev VJ:=List Sl->(En->Sl->Prop)->Prop
def ioO:Option Sl->Option Sl
 | some (.io A)=>some (.io A)
 | _=>none
def cutE:Nat->En->En
 | 0,_=>[]
 | n+1,[]=>none :: cutE n []
 | n+1,x :: xs=>ioO x :: cutE n xs
theorem afa:∀ (n:Nat) (e:En),(cutE n e).length=n
 | 0,_=>rfl
 | n+1,[]=>by unfold cutE;rw [aE1,afa n []]
 | n+1,_ :: xs=>by unfold cutE;rw [aE1,afa n xs]
theorem ahx:∀ {n:Nat} {e:En} {i:Nat} {s:Sl},(cutE n e)[i]?=some (some s)->∃ A,s=.io A/\e[i]?=some (some (.io A))
 | 0,_,_,_,h=>by simp [cutE] at h
 | n+1,[],0,_,h=>by simp [cutE] at h
 | n+1,[],i+1,_,h=>by
  unfold cutE at h
  rw [aH5] at h
  obtain ⟨A,_,a⟩:=ahx h
  simp at a
 | n+1,x :: xs,0,s,h=>by
  unfold cutE at h
  rw [List.getElem?_cons_zero] at h
  have h:=aC5 h
  match x,h with
  | some (.io A),h=>cases h;exact ⟨A,rfl,rfl⟩
  | some (.st _),h=>cases h
  | some (.own _),h=>cases h
  | some (.scr _),h=>cases h
  | none,h=>cases h
 | n+1,x :: xs,i+1,s,h=>by
  unfold cutE at h
  rw [aH5] at h
  rw [aH5]
  exact ahx h
def spJ (K:Frag) (f:VJ):Sp:=fun vs H Q _=>∃ (B:Bs) (ss:List Sl) (Q':En->Sl->Prop),B.K=K/\B.S=vs.map some/\VI B B.G H (vs.map some) (ss.map some) B.F/\f ss Q' /\
 ∀ e s,Q' e s->∀ v G' H' F' Fv,VI B G' H' (vs.map some) e F'->RsX B G' H' v Fv s F'->Q v H'
theorem a0o {c:Prop} [Decidable c] {s:Sl} (e:(if c then some (none:Option Sl) else none)=some (some s)):False:=by
 split at e <;> cases e
theorem VI.pad {B:Bs} {G H:Hp} {σ:St} {env:En} {F:Nat->Addr->Prop} (I:VI B G H σ env F) (n:Nat):VI B G H (σ ++ List.replicate n none) (env ++ List.replicate n none) F :=
 ⟨I.gh,I.g0,I.gn,I.rs,I.rb,I.bh,I.fg,I.fr,I.fd,I.fo,fun i s e=>by
  by_cases h:i < env.length
  ·rw [aC2 h] at e
   obtain ⟨v,b,a⟩:=I.sl i s e
   exact ⟨v,by rw [aC2 (by rw [I.ln];exact h)];exact b,a⟩
  ·rw [aC7 (by lia),aH1] at e
   exact (a0o e).elim,by rw [aB0,aB0,I.ln];simp,I.ft⟩
theorem VI.cut {B:Bs} {G H:Hp} {σ:St} {env:En} {F:Nat->Addr->Prop} (I:VI B G H σ env F):VI B G H B.S (cutE B.S.length env) (fun i a=>(∃ A,(cutE B.S.length env)[i]?=some (some (.io A)))/\F i a) :=
 ⟨I.gh,I.g0,I.gn,I.rs,I.rb,I.bh,fun i a z=>I.fg i a z.2,fun i a z=>I.fr i a z.2,fun i j a y z=>I.fd i j a y.2 z.2,fun i a z=>I.fo i a z.2,fun i s e=>by
  obtain ⟨A,rfl,h⟩:=ahx e
  obtain ⟨v,f,d,c,b⟩:=I.sl i _ h
  have:(fun a=>(∃ A,(cutE B.S.length env)[i]?=some (some (.io A)))/\F i a)=F i:=by
   funext a
   exact propext ⟨fun z=>z.2,fun z=>⟨⟨A,e⟩,z⟩⟩
  exact ⟨v,b,by rw [this];exact d,fun a z=>c a z.2,b⟩,(afa _ _).symm,I.ft⟩
theorem RsX.cut {B:Bs} {G H:Hp} {v:V} {Fv:Addr->Prop} {s:Sl} {F F2:Nat->Addr->Prop} (r:RsX B G H v Fv s F) (h:∀ i a,F2 i a->F i a):RsX B G H v Fv s F2:=⟨r.ok,r.fb,r.fg,r.fo,fun j a z y=>r.fd j a z (h j a y)⟩
theorem av5 {K:Frag} {f:VJ} {j:TS} {N:List Str} {vs:List V} {H:Hp} {Q:VK} {E:XK} (h:spJ K f vs H Q E)
  (hb:∀ ss Q',f ss Q'->∀ B,B.K=K->EvS B j { nx:=fun e=>Q' (cutE ss.length e) (.st .none),rt:=fun s e=>Q' (cutE ss.length e) s } (ss.map some ++ List.replicate (N.length - ss.length) none)):j { nx:=fun _ H'=>Q .non H',rt:=Q } (L2.start N vs) H:=by
 obtain ⟨B,ss,Q',m,l,I,hf,n⟩:=h
 have d:vs.length=ss.length:=by have:=I.ln;simpa using this
 have c:B.S.length=ss.length:=by rw [l,aA3,d]
 have fin:∀ {σ G' H' F env v Fv s},VI B G' H' σ env F->RsX B G' H' v Fv s F->Q' (cutE ss.length env) s->Q v H':=fun {σ G' H' F env v Fv s} b r q=>by
  have J:=b.cut
  have X:=r.cut (F2:=fun i a=>(∃ A,(cutE B.S.length env)[i]?=some (some (.io A)))/\F i a) fun i a z=>z.2
  rw [c] at J X
  rw [l] at J
  exact n _ s q v G' H' _ Fv J X
 refine hb ss Q' hf B m (L2.start N vs) B.G H B.F _ ?_ ⟨fun σ G' H' F env b g q=>fin b (aek .non) q,fun σ G' H' F env v Fv s b g r q=>fin b r q,fun _ _ _ _ _ _ _ q=>q,fun _ _ _ _ _ _ _ q=>q⟩
 unfold L2.start
 rw [d]
 exact I.pad _
theorem lenJ {K:Frag} {f:VJ} {n:Nat} {vs:List V} {H:Hp} {Q:VK} {E:XK} (h:spJ K f vs H Q E) (hf:∀ ss Q',f ss Q'->ss.length=n):vs.length=n:=by
 obtain ⟨B,ss,Q',_,_,I,q,_⟩:=h
 have:=I.ln
 rw [aA3,aA3] at this
 rw [this];exact hf ss Q' q
inductive AJ where
 | pl (d:PyData)
 | rf (i:Nat)
def ab4:List AJ->List Nat
 | []=>[]
 | .pl _ :: js=>ab4 js
 | .rf i :: js=>i :: ab4 js
def ArgJ (σ:St) (G:Hp):V->AJ->Prop
 | v,.pl d=>Rp G v d
 | v,.rf i => σ[i]?=some (some v)
inductive ArgsJ (σ:St) (G:Hp):List V->List AJ->Prop
 | nil:ArgsJ σ G [] []
 | cons {v:V} {j:AJ} {vs:List V} {js:List AJ}:ArgJ σ G v j->ArgsJ σ G vs js->ArgsJ σ G (v :: vs) (j :: js)
inductive SlJ (e:En):List AJ->List Sl->Prop
 | nil:SlJ e [] []
 | pl {d:PyData} {js:List AJ} {ss:List Sl}:SlJ e js ss->SlJ e (.pl d :: js) (.st d :: ss)
 | rf {i:Nat} {A:Own} {js:List AJ} {ss:List Sl}:Has e i A->SlJ e js ss->SlJ e (.rf i :: js) (.io A :: ss)
inductive PutJ:En->List AJ->En->En->Prop
 | nil {e:En}:PutJ e [] [] e
 | pl {e r e2:En} {d:PyData} {x:Option Sl} {js:List AJ}:PutJ e js r e2->PutJ e (.pl d :: js) (x :: r) e2
 | rf {e r e2:En} {i:Nat} {s0:Sl} {A A':Own} {js:List AJ}:e[i]?=some (some s0)->(s0=.own A\/s0=.io A)->PutJ (e.set i (some (reS s0 A'))) js r e2->PutJ e (.rf i :: js) (some (.io A') :: r) e2
theorem adl:∀ {js:List AJ} {j i:Nat},js[j]?=some (.rf i)->i∈ab4 js
 | [],_,_,h=>by simp at h
 | .pl _ :: js,0,_,h=>by simp at h
 | .rf k :: js,0,_,h=>by simp at h;simp [ab4,h]
 | .pl _ :: js,j+1,_,h=>by rw [aH5] at h;exact adl (js:=js) h
 | .rf k :: js,j+1,_,h=>by rw [aH5] at h;exact aB4 _ (adl h)
theorem ahy:∀ {js:List AJ} {i:Nat},i∈ab4 js->∃ j:Nat,js[j]?=some (AJ.rf i)
 | [],_,h=>by simp [ab4] at h
 | .pl _ :: js,i,h=>by
  obtain ⟨j,a⟩:=ahy (js:=js) h
  exact ⟨j+1,by rw [aH5];exact a⟩
 | .rf k :: js,i,h=>by
  rcases aA8.mp h with rfl | h
  ·exact ⟨0,rfl⟩
  ·obtain ⟨j,a⟩:=ahy (js:=js) h
   exact ⟨j+1,by rw [aH5];exact a⟩
theorem agp:∀ {js:List AJ} {j a i:Nat},(ab4 js).Nodup->js[j]?=some (.rf i)->js[a]?=some (.rf i)->j=a
 | [],_,_,_,_,h,_=>by simp at h
 | x :: js,0,0,_,_,_,_=>rfl
 | .pl _ :: js,0,_+1,_,_,h,_=>by simp at h
 | .pl _ :: js,_+1,0,_,_,_,h=>by simp at h
 | .rf k :: js,0,a+1,i,n,h,h'=>by
  simp at h;subst h
  rw [aH5] at h'
  exact absurd (adl h') (aH8.mp n).1
 | .rf k :: js,j+1,0,i,n,h,h'=>by
  simp at h';subst h'
  rw [aH5] at h
  exact absurd (adl h) (aH8.mp n).1
 | .pl _ :: js,j+1,a+1,i,n,h,h'=>by
  rw [aH5] at h h'
  rw [agp (js:=js) n h h']
 | .rf k :: js,j+1,a+1,i,n,h,h'=>by
  rw [aH5] at h h'
  rw [agp (js:=js) (aH8.mp n).2 h h']
theorem PutJ.io {e r e2:En} {js:List AJ} (h:PutJ e js r e2):∀ {i j:Nat},js[j]?=some (.rf i)->∃ A',r[j]?=some (some (.io A')):=by
 induction h with
 | nil=>intro i j h;simp at h
 | pl _ ih =>
  intro i j h
  cases j with
  | zero=>simp at h
  | succ j=>rw [aH5] at h ⊢;exact ih h
 | rf _ _ _ ih =>
  intro i j h
  cases j with
  | zero=>exact ⟨_,rfl⟩
  | succ j=>rw [aH5] at h ⊢;exact ih h
theorem PutJ.length {e r e2:En} {js:List AJ} (h:PutJ e js r e2):e2.length=e.length:=by
 induction h with
 | nil=>rfl
 | pl _ ih=>exact ih
 | rf _ _ _ ih=>rw [ih,List.length_set]
theorem PutJ.at {e r e2:En} {js:List AJ} (h:PutJ e js r e2):(ab4 js).Nodup->∀ {i:Nat} {s:Sl},e2[i]?=some (some s)->(i ∉ ab4 js/\e[i]?=some (some s))\/∃ (j:Nat) (A A':Own),js[j]?=some (AJ.rf i)/\r[j]?=some (some (.io A'))/\((e[i]?=some (some (.own A))/\s=.own A')\/(e[i]?=some (some (.io A))/\s=.io A')):=by
 induction h with
 | nil=>intro _ i s h;exact .inl ⟨by simp [ab4],h⟩
 | pl _ ih =>
  intro n i s h
  rcases ih n h with z | ⟨j,A,A',d,f,c⟩
  ·exact .inl z
  ·exact .inr ⟨j+1,A,A',by rw [aH5];exact d,by rw [aH5];exact f,c⟩
 | @rf e r e2 k s0 A A' js h0 hs _ ih =>
  intro n i s h
  have l:=aH8.mp n
  rcases ih l.2 h with ⟨m,a⟩ | ⟨j,A1,g,d,f,c⟩
  ·rw [aD1] at a
   by_cases b:k=i
   ·subst b
    rw [aE9 rfl,aE9 (aA1.mp h0).1] at a
    cases a
    refine .inr ⟨0,A,A',rfl,rfl,?_⟩
    rcases hs with rfl | rfl
    ·exact .inl ⟨h0,rfl⟩
    ·exact .inr ⟨h0,rfl⟩
   ·rw [aF0 b] at a
    exact .inl ⟨fun z=>by
     rcases aA8.mp z with y | y
     ·exact b y.symm
     ·exact m y,a⟩
  ·have b:k ≠ i:=fun z=>l.1 (z ▸ adl d)
   rw [aD1,aF0 b] at c
   exact .inr ⟨j+1,A1,g,by rw [aH5];exact d,by rw [aH5];exact f,c⟩
theorem SlJ.length {e:En} {js:List AJ} {ss:List Sl} (h:SlJ e js ss):ss.length=js.length:=by
 induction h with
 | nil=>rfl
 | pl _ ih=>simp [ih]
 | rf _ _ ih=>simp [ih]
theorem ArgsJ.length {σ:St} {G:Hp} {vs:List V} {js:List AJ} (h:ArgsJ σ G vs js):vs.length=js.length:=by
 induction h with
 | nil=>rfl
 | cons _ _ ih=>simp [ih]
theorem ArgsJ.get {σ:St} {G:Hp} {vs:List V} {js:List AJ} (h:ArgsJ σ G vs js):∀ {j:Nat} {x:AJ},js[j]?=some x->∃ v,vs[j]?=some v/\ArgJ σ G v x:=by
 induction h with
 | nil=>intro j x h;simp at h
 | cons q _ ih =>
  intro j x h
  cases j with
  | zero=>simp at h;subst h;exact ⟨_,rfl,q⟩
  | succ j=>rw [aH5] at h ⊢;exact ih h
theorem SlJ.get {e:En} {js:List AJ} {ss:List Sl} (h:SlJ e js ss):∀ {j:Nat} {s:Sl},ss[j]?=some s->(∃ d,js[j]?=some (AJ.pl d)/\s=.st d)\/∃ i A,js[j]?=some (AJ.rf i)/\s=.io A/\Has e i A:=by
 induction h with
 | nil=>intro j s h;simp at h
 | pl _ ih =>
  intro j s h
  cases j with
  | zero=>simp at h;exact .inl ⟨_,rfl,h.symm⟩
  | succ j=>rw [aH5] at h ⊢;exact ih h
 | rf q _ ih =>
  intro j s h
  cases j with
  | zero=>simp at h;exact .inr ⟨_,_,rfl,h.symm,q⟩
  | succ j=>rw [aH5] at h ⊢;exact ih h
section
variable {B:Bs} {env:En} {QO:Sl->En->Prop} {Q':PyData->En->Prop} {QJ:List AJ->En->Prop} {K:Frag} {E:XK} {t:TA} {te:TE} {i:Nat}
theorem ArgsJ.same {σ:St} {G G':Hp} {vs:List V} {js:List AJ} (h:ArgsJ σ G vs js) (g:Same G G'):ArgsJ σ G' vs js:=by
 induction h with
 | nil=>exact .nil
 | @cons v j vs js q _ ih =>
  refine .cons ?_ ih
  cases j with
  | pl d=>exact (show Rp G v d from q).same g
  | rf i=>exact q
theorem a0p {js:List AJ} (nd:(ab4 js).Nodup):∃ inv:Nat->Option Nat,(∀ i j,inv i=some j ↔ js[j]?=some (AJ.rf i))/\∀ i,inv i=none ↔ i ∉ ab4 js:=by
 have a:∀ i,∃ o:Option Nat,(∀ j,o=some j ↔ js[j]?=some (AJ.rf i))/\(o=none ↔ i ∉ ab4 js):=fun i=>by
  by_cases hh:i∈ab4 js
  ·obtain ⟨j,b⟩:=ahy hh
   exact ⟨some j,fun k=>⟨fun z=>by cases z;exact b,fun z=>congrArg some (agp nd b z)⟩,⟨fun z=>(nomatch z),fun z=>absurd hh z⟩⟩
  ·exact ⟨none,fun k=>⟨fun z=>(nomatch z),fun z=>absurd (adl z) hh⟩,⟨fun _=>hh,fun _=>rfl⟩⟩
 exact ⟨fun i=>Classical.choose (a i),fun i j=>(Classical.choose_spec (a i)).1 j,fun i=>(Classical.choose_spec (a i)).2⟩
end
def OO2 (v0 v1:V) (A0 A1:Own):Own where
 P:=fun G H v F=>∃ (a:Addr) (F0 F1:Addr->Prop),v=.ref a/\H a=some (.lst [v0,v1])/\A0.P G H v0 F0/\A1.P G H v1 F1/\¬ F0 a/\¬ F1 a/\(∀ b,F0 b->¬ F1 b)/\∀ b,F b ↔ b=a\/F0 b\/F1 b
 mono:=fun ⟨a,F0,F1,e,h,p0,p1,n0,n1,nd,f⟩ g hh=>⟨a,F0,F1,e,hh a _ ((f a).mpr (.inl rfl)) h,A0.mono p0 g fun b o z=>hh b o ((f b).mpr (.inr (.inl z))),A1.mono p1 g fun b o z=>hh b o ((f b).mpr (.inr (.inr z))),n0,n1,nd,f⟩
 dom:=fun ⟨a,F0,F1,e,h,p0,p1,n0,n1,nd,f⟩ b z=>by
  rcases (f b).mp z with rfl | z | z
  ·exact ⟨_,h⟩
  ·exact A0.dom p0 b z
  ·exact A1.dom p1 b z
def OSh (v0 v1:V):Own where
 P:=fun G H v F=>∃ a,v=.ref a/\H a=some (.lst [v0,v1])/\∀ b,F b ↔ b=a
 mono:=fun ⟨a,e,h,f⟩ g hh=>⟨a,e,hh a _ ((f a).mpr rfl) h,f⟩
 dom:=fun ⟨a,e,h,f⟩ b z=>by rw [(f b).mp z];exact ⟨_,h⟩
def spl (env:En) (i:Nat) (v0 v1:V) (A0 A1:Own):En:=env.set i (some (.own (OSh v0 v1))) ++ [some (.own A0),some (.own A1)]
section
variable {B:Bs} {G H:Hp} {σ:St} {env:En} {F:Nat->Addr->Prop} {i:Nat} {v0 v1:V} {A0 A1:Own}
theorem VI.split (I:VI B G H σ env F) (e:env[i]?=some (some (.own (OO2 v0 v1 A0 A1)))):∃ F',VI B G H (σ ++ [some v0,some v1]) (spl env i v0 v1 A0 A1) F':=by
 obtain ⟨v,J,⟨a,F0,r,rfl,h,p0,D,A,C,nd,f⟩,hb⟩:=I.sl i _ e
 have hi:i < env.length:=(aA1.mp e).1
 have m:=I.ln
 let F':Nat->Addr->Prop:=fun j b=>if j=i then b=a else if j=env.length then F0 b else if j=env.length+1 then r b else F j b
 have p:F i a:=(f a).mpr (.inl rfl)
 have x:∀ b,F0 b->F i b:=fun b z=>(f b).mpr (.inr (.inl z))
 have u:∀ b,r b->F i b:=fun b z=>(f b).mpr (.inr (.inr z))
 have cs:∀ j b,F' j b->(j=i/\b=a)\/(j=env.length/\F0 b)\/(j=env.length+1/\r b)\/(j ≠ i/\F j b):=fun j b z=>by
  simp only [F'] at z
  by_cases d:j=i
  ·rw [aE9 d] at z;exact .inl ⟨d,z⟩
  ·rw [aF0 d] at z
   by_cases c:j=env.length
   ·rw [aE9 c] at z;exact .inr (.inl ⟨c,z⟩)
   ·rw [aF0 c] at z
    by_cases h3:j=env.length+1
    ·rw [aE9 h3] at z;exact .inr (.inr (.inl ⟨h3,z⟩))
    ·rw [aF0 h3] at z;exact .inr (.inr (.inr ⟨d,z⟩))
 have own:∀ j b,F' j b->∃ k,F k b/\((k=i/\(j=i\/j=env.length\/j=env.length+1))\/(k=j/\k ≠ i)):=fun j b z=>by
  rcases cs j b z with ⟨d,rfl⟩ | ⟨d,c⟩ | ⟨d,c⟩ | ⟨d,c⟩
  ·exact ⟨i,p,.inl ⟨rfl,.inl d⟩⟩
  ·exact ⟨i,x b c,.inl ⟨rfl,.inr (.inl d)⟩⟩
  ·exact ⟨i,u b c,.inl ⟨rfl,.inr (.inr d)⟩⟩
  ·exact ⟨j,c,.inr ⟨rfl,d⟩⟩
 refine ⟨F',I.gh,I.g0,I.gn,I.rs,I.rb,I.bh,fun j b z=>?_,fun j b z=>?_,fun j k b y z=>?_,fun j b z=>?_,fun j s es=>?_,?_,I.ft⟩
 ·obtain ⟨k,o,_⟩:=own j b z;exact I.fg k b o
 ·obtain ⟨k,o,_⟩:=own j b z;exact I.fr k b o
 ·rcases cs j b y with ⟨d,c⟩ | ⟨d,c⟩ | ⟨d,c⟩ | ⟨d,c⟩ <;> rcases cs k b z with ⟨l,g⟩ | ⟨l,g⟩ | ⟨l,g⟩ | ⟨l,g⟩
  ·rw [d,l]
  ·subst c;exact absurd g A
  ·subst c;exact absurd g C
  ·subst c;exact absurd (I.fd k i b g p) l
  ·subst g;exact absurd c A
  ·rw [d,l]
  ·exact absurd g (nd b c)
  ·exact absurd (I.fd k i b g (x b c)) l
  ·subst g;exact absurd c C
  ·exact absurd c (nd b g)
  ·rw [d,l]
  ·exact absurd (I.fd k i b g (u b c)) l
  ·subst g;exact absurd (I.fd j i b c p) d
  ·exact absurd (I.fd j i b c (x b g)) d
  ·exact absurd (I.fd j i b c (u b g)) d
  ·exact I.fd j k b c g
 ·obtain ⟨k,o,_⟩:=own j b z;exact I.fo k b o
 ·unfold spl at es
  by_cases hj:j < env.length
  ·rw [aC2 (by rw [List.length_set];exact hj),aD1] at es
   by_cases hji:i=j
   ·subst hji
    rw [aE9 rfl,aE9 hj] at es
    cases es
    refine ⟨.ref a,by rw [aC2 (by lia)];exact J,⟨a,rfl,h,fun b=>?_⟩,fun b z=>?_⟩
    ·show F' i b ↔ _
     simp only [F',aE9]
    ·have:b=a:=by simpa [F'] using z
     subst this
     exact hb b p
   ·rw [aF0 hji] at es
    obtain ⟨w,E,q⟩:=I.sl j s es
    have n:F' j=F j:=by
     funext b
     simp only [F']
     rw [aF0 (fun z=>hji z.symm),aF0 (by lia),aF0 (by lia)]
    exact ⟨w,by rw [aC2 (by lia)];exact E,by rw [n];exact q⟩
  ·rw [aC7 (by rw [List.length_set];lia),List.length_set] at es
   by_cases c:j=env.length
   ·subst c
    rw [aH9] at es
    cases es
    have n:F' env.length=F0:=by
     funext b
     simp only [F']
     rw [aF0 (by lia),aE9 trivial]
    refine ⟨v0,by rw [aC7 (by lia),m,aH9];rfl,?_,fun b z=>?_⟩
    ·rw [n];exact p0
    ·rw [n] at z;exact hb b (x b z)
   ·by_cases h3:j=env.length+1
    ·subst h3
     rw [show env.length+1 - env.length=1 by lia] at es
     cases es
     have n:F' (env.length+1)=r:=by
      funext b
      simp only [F']
      rw [aF0 (by lia),aF0 (by lia),aE9 trivial]
     refine ⟨v1,by rw [aC7 (by lia),m,show env.length+1 - env.length=1 by lia];rfl,?_,fun b z=>?_⟩
     ·rw [n];exact D
     ·rw [n] at z;exact hb b (u b z)
    ·rw [aD9 (by simp;lia)] at es
     cases es
 ·unfold spl
  simp [m]
theorem VI.join {L:En} {n:Nat} (I:VI B G H (σ ++ [some v0,some v1]) L F) (X : σ.length=n) (S:L[n]?=some (some (.own A0))) (T:L[n+1]?=some (some (.own A1))) (es:(L.take n)[i]?=some (some (.own (OSh v0 v1)))):∃ F',VI B G H σ ((L.take n).set i (some (.own (OO2 v0 v1 A0 A1)))) F'/\∀ j b,F' j b->∃ k,F k b:=by
 have Y:L.length=n+2:=by have:=I.ln;simp at this;lia
 have hi:i < n:=by have:=(aA1.mp es).1;simp at this;lia
 have r:L[i]?=some (some (.own (OSh v0 v1))):=by rw [aG9 hi] at es;exact es
 obtain ⟨v,K,⟨a,rfl,h,f⟩,hb⟩:=I.sl i _ r
 obtain ⟨O,l,p0,x⟩:=I.sl n _ S
 obtain ⟨R,m,P,u⟩:=I.sl (n+1) _ T
 have:O=v0:=by
  rw [aC7 (by lia),show n - σ.length=0 by lia] at l
  simpa using l.symm
 subst this
 have:R=v1:=by
  rw [aC7 (by lia),show n+1 - σ.length=1 by lia] at m
  simpa using m.symm
 subst this
 let F':Nat->Addr->Prop:=fun j b=>if j=i then (b=a\/F n b\/F (n+1) b) else if j=n\/j=n+1 then False else F j b
 have o:F i a:=(f a).mpr rfl
 have cs:∀ j b,F' j b->(j=i/\∃ k,F k b/\(k=i\/k=n\/k=n+1))\/(j ≠ i/\j ≠ n/\j ≠ n+1/\F j b):=fun j b z=>by
  simp only [F'] at z
  by_cases c:j=i
  ·rw [aE9 c] at z
   rcases z with rfl | z | z
   ·exact .inl ⟨c,i,o,.inl rfl⟩
   ·exact .inl ⟨c,n,z,.inr (.inl rfl)⟩
   ·exact .inl ⟨c,n+1,z,.inr (.inr rfl)⟩
  ·rw [aF0 c] at z
   by_cases g:j=n\/j=n+1
   ·rw [aE9 g] at z;exact z.elim
   ·rw [aF0 g] at z;exact .inr ⟨c,fun z=>g (.inl z),fun z=>g (.inr z),z⟩
 have ex:∀ j b,F' j b->∃ k,F k b:=fun j b z=>by
  rcases cs j b z with ⟨_,k,d,_⟩ | ⟨_,_,_,h⟩
  ·exact ⟨k,d⟩
  ·exact ⟨j,h⟩
 refine ⟨F',⟨I.gh,I.g0,I.gn,I.rs,I.rb,I.bh,fun j b z=>?_,fun j b z=>?_,fun j k b y z=>?_,fun j b z=>?_,fun j s e=>?_,?_,I.ft⟩,ex⟩
 ·obtain ⟨k,d⟩:=ex j b z;exact I.fg k b d
 ·obtain ⟨k,d⟩:=ex j b z;exact I.fr k b d
 ·rcases cs j b y with ⟨c,W,g,M⟩ | ⟨c,g,M,A⟩ <;> rcases cs k b z with ⟨E,N,J,Q⟩ | ⟨E,J,Q,C⟩
  ·rw [c,E]
  ·have:=I.fd W k b g C;lia
  ·have:=I.fd N j b J A;lia
  ·exact I.fd j k b A C
 ·obtain ⟨k,d⟩:=ex j b z;exact I.fo k b d
 ·have U:j < n:=by have:=(aA1.mp e).1;simp at this;lia
  rw [aD1] at e
  by_cases hji:i=j
  ·subst hji
   rw [aE9 rfl,aE9 (by simp;lia)] at e
   cases e
   have p:∀ b,F' i b ↔ b=a\/F n b\/F (n+1) b:=fun b=>by simp only [F',aE9]
   refine ⟨.ref a,by rw [aC2 (by lia)] at K;exact K,⟨a,F n,F (n+1),rfl,h,p0,P,fun z=>?_,fun z=>?_,fun b y z=>?_,p⟩,fun b z=>?_⟩
   ·have:=I.fd n i a z o;lia
   ·have:=I.fd (n+1) i a z o;lia
   ·have:=I.fd n (n+1) b y z;lia
   ·rcases (p b).mp z with rfl | z | z
    ·exact hb b o
    ·exact x b z
    ·exact u b z
  ·rw [aF0 hji,aG9 U] at e
   obtain ⟨w,D,q⟩:=I.sl j s e
   have p:F' j=F j:=by
    funext b
    simp only [F']
    rw [aF0 (fun z=>hji z.symm),aF0 (by lia)]
   exact ⟨w,by rw [aC2 (by lia)] at D;exact D,by rw [p];exact q⟩
 ·simp;lia
end
section
variable {B:Bs} {env:En} {QO:Sl->En->Prop} {Q':PyData->En->Prop} {QJ:List AJ->En->Prop} {K:Frag} {E:XK} {t:TA} {te te1 te2:TE} {i l:Nat} {ws:List (Option V)}
theorem aqf {f:VJ} {σ:St} {o h:Hp} {m:Nat->Addr->Prop} {D:En} {vs:List V} {js:List AJ} {ss:List Sl} {Q:VK} (r:VI B o h σ D m) (a1:ArgsJ σ o vs js) (F:SlJ D js ss) (nd:(ab4 js).Nodup) (hf:f ss fun e s=>∃ e2,PutJ D js e e2/\QO s e2)
  (k:∀ v G' H' F' Fv s e2,VI B G' H' σ e2 F'->Same o G'->RsX B G' H' v Fv s F'->QO s e2->Q v H'):spJ B.K f vs h Q E:=by
 obtain ⟨inv,c,M⟩:=a0p nd
 have inj:∀ i g j,inv i=some j->inv g=some j->i=g:=fun i g j x y=>by
  have x:=(c i j).mp x
  have y:=(c g j).mp y
  rw [x] at y
  cases y
  rfl
 have J:=r.enter (inv:=inv) (σI:=vs.map some) (envI:=ss.map some) inj (by rw [aA3,aA3,a1.length,F.length]) (fun j s e=>by
  rw [aA5] at e
  obtain ⟨O,P,e2⟩:=Option.map_eq_some_iff.mp e
  cases e2
  rcases F.get P with ⟨d,b,rfl⟩ | ⟨i,A,b,rfl,p⟩
  ·obtain ⟨v,l,q⟩:=a1.get b
   refine ⟨v,by rw [aA5,l];rfl,.inl ⟨d,rfl,q,fun i z=>?_⟩⟩
   rw [(c i j).mp z] at b
   cases b
  ·obtain ⟨v,l,q⟩:=a1.get b
   exact ⟨v,by rw [aA5,l];rfl,.inr (.inr ⟨i,A,(c i j).mpr b,rfl,q,p⟩)⟩)
 refine ⟨⟨B.K,o,h,ab8 h m inv,vs.map some,fun j a=>∃ i,inv i=some j/\m i a⟩,ss,_,rfl,rfl,J,hf,fun e s ⟨e2,w,q⟩ v G' H' F' Fv G X=>?_⟩
 have L:=r.leave (inv:=inv) (env2:=e2) inj rfl rfl (fun a u e n=>by show ab8 h m inv a=_;rw [afr n];exact e) (fun i j hi a z=>by
   obtain ⟨g,C,z⟩:=z
   rw [inj i g j hi C]
   exact z) (fun i j hi=>by
   obtain ⟨v,l,q⟩:=a1.get ((c i j).mp hi)
   show (vs.map some)[j]? = σ[i]?
   rw [aA5,l,q]
   rfl) G (fun i j hi=>w.io ((c i j).mp hi)) w.length (fun i O e=>by
   rcases w.at nd e with ⟨N,I⟩ | ⟨j,A,A',b,p,H⟩
   ·exact .inl ⟨(M i).mpr N,I⟩
   ·exact .inr ⟨j,A,A',(c i j).mpr b,p,H⟩)
 exact k v G' H' _ Fv s _ L G.g0 (X.leave (inv:=inv) r rfl) q
def EvX (B:Bs) (ws:List (Option V)) (ta:TA) (env:En) (Q':List AJ->En->Prop):Prop:=∀ (σ:St) (G H:Hp) (F:Nat->Addr->Prop) (Q:List V->Hp->Prop),VI B G H σ env F ->
 (∀ vs G' H' F' js env',VI B G' H' σ env' F'->Same G G'->ArgsJ (σ ++ ws) G' vs js->Q' js env'->Q vs H')->ta σ H Q
theorem acl (q:QJ [] env):EvX B ws tNil env QJ:=fun σ G H F Q I k=>k [] G H F [] env I (Same.refl _) .nil q
theorem ab7 (h:Ev B te env fun x b=>EvX B ws t b fun xs e2=>QJ (.pl x :: xs) e2):EvX B ws (aa2 te t) env QJ:=fun σ G H F Q I k =>
 h σ G H F _ I fun v1 l i d x b m n p o=>o σ l i d _ m fun vs f H2 F2 js e2 c a g q=>k _ f H2 F2 _ e2 c (n.trans a) (.cons (j:=.pl x) (p.same a) g) q
theorem ac8 {s:Sl} (c:env[i]?=some (some s)) (h:EvX B ws t env fun xs e2=>QJ (.rf i :: xs) e2):EvX B ws (aa2 (tVar i) t) env QJ:=fun σ G H F Q I k=>by
 obtain ⟨v,b,_⟩:=I.sl i _ c
 have a:(σ ++ ws)[i]?=some (some v):=by rw [aC2 (aA1.mp b).1];exact b
 exact ⟨v,b,h σ G H F _ I fun vs f H2 F2 js e2 d l g m=>k _ f H2 F2 _ e2 d l (.cons (j:=.rf i) a g) m⟩
theorem acx {v0 v1:V} {A0 A1:Own} {m:Nat} (n:env[i]?=some (some (.own (OO2 v0 v1 A0 A1)))) (f:env[l]?=some (some (.st (.int (m:Int))))) (hm:m < 2) (h:EvX B [some v0,some v1] t env fun xs e2=>QJ (.rf (env.length+m) :: xs) e2):EvX B [some v0,some v1] (aa2 (tOp (acr K) (tVar i) (tVar l)) t) env QJ:=fun σ G H F Q I k=>by
 obtain ⟨v,y,⟨a,F0,z,rfl,ha,_⟩,_⟩:=I.sl i _ n
 obtain ⟨w,r,c,_⟩:=I.sl l _ f
 cases c
 have b:=I.ln
 obtain ⟨u,g,d⟩:∃ u,atI [v0,v1] (m:Int)=some u/\(σ ++ [some v0,some v1])[env.length+m]?=some (some u):=by
  rcases (show m=0\/m=1 by lia) with rfl | rfl
  ·exact ⟨v0,rfl,by rw [aC7 (by lia),b,show env.length+0 - env.length=0 by lia];rfl⟩
  ·exact ⟨v1,rfl,by rw [aC7 (by lia),b,show env.length+1 - env.length=1 by lia];rfl⟩
 refine ⟨_,y,_,r,aej ha g ?_⟩
 exact h σ G H F _ I fun vs p H2 F2 js e2 o s q x=>k _ p H2 F2 _ e2 o s (.cons (j:=.rf (env.length+m)) d q) x
theorem aqg {f:VJ} {v0 v1:V} (i:Nat) (C:B.K=K) (h:EvX B [some v0,some v1] t env fun js d=>∃ A0 A1 ss,d[i]?=some (some (.own (OO2 v0 v1 A0 A1)))/\SlJ (spl d i v0 v1 A0 A1) js ss/\(ab4 js).Nodup/\f ss fun e s=>∃ L b c,PutJ (spl d i v0 v1 A0 A1) js e L/\L[d.length]?=some (some (.own b))/\L[d.length+1]?=some (some (.own c))/\(L.take d.length)[i]?=some (some (.own (OSh v0 v1)))/\QO s ((L.take d.length).set i (some (.own (OO2 v0 v1 b c))))):EvO B (abq (spJ K f) [] E t) env QO:=fun σ G H F Q I k=>by
 subst C
 unfold abq
 simp only [aE5]
 refine h σ G H F _ I fun vs S R P js d p N a1 ⟨A0,A1,ss,O,D,nd,hf⟩=>?_
 obtain ⟨F2,A⟩:=p.split O
 refine aqf (QO:=fun s L=>∃ b c,L[d.length]?=some (some (.own b))/\L[d.length+1]?=some (some (.own c))/\(L.take d.length)[i]?=some (some (.own (OSh v0 v1)))/\QO s ((L.take d.length).set i (some (.own (OO2 v0 v1 b c))))) A a1 D nd ?_ fun v G' H' F' Fv s L J g' X ⟨b,c,x,l,g,q⟩=>?_
 ·refine cast ?_ hf
  congr 1
  funext e s
  apply propext
  constructor
  ·rintro ⟨L,b,c,l,g,m,n,o⟩;exact ⟨L,l,b,c,g,m,n,o⟩
  ·rintro ⟨L,l,b,c,g,m,n,o⟩;exact ⟨L,b,c,l,g,m,n,o⟩
 ·obtain ⟨r,u,sub⟩:=J.join p.ln x l g
  exact k v G' H' r Fv s _ u (N.trans g') ⟨X.ok,X.fb,X.fg,X.fo,fun j a z y=>by obtain ⟨M,w⟩:=sub j a y;exact X.fd M a z w⟩ q
theorem abx {f:VJ} {v0 v1:V} (i:Nat) (g:B.K=K) (h:EvX B [some v0,some v1] t env fun js a=>∃ A0 A1 ss,a[i]?=some (some (.own (OO2 v0 v1 A0 A1)))/\SlJ (spl a i v0 v1 A0 A1) js ss/\(ab4 js).Nodup/\f ss fun e s=>∃ L c b,PutJ (spl a i v0 v1 A0 A1) js e L/\L[a.length]?=some (some (.own c))/\L[a.length+1]?=some (some (.own b))/\(L.take a.length)[i]?=some (some (.own (OSh v0 v1)))/\FQ s fun d=>Q' d ((L.take a.length).set i (some (.own (OO2 v0 v1 c b))))):Ev B (abq (spJ K f) [] E t) env Q':=abg (aqg (QO:=fun s e=>FQ s fun d=>Q' d e) i g h)
theorem VI.moment3 {G f c H H3:Hp} {σ:St} {F:Nat->Addr->Prop} {v:V} {s:Sl} {Fv:Addr->Prop} (I:VI B G H σ env F) (j:Same G f) (o:Out f H v c H3 s Fv):∃ b,Same G b/\VI B b H3 σ env F/\(∀ a,H a=none->b a=c a)/\∀ a,H a ≠ none->b a=G a:=by
 refine ⟨fun a=>if H a=none then c a else G a,fun a u e=>?_,I.grow (fun a u e=>?_) (fun a u e=>?_) o.hh (fun a u e=>?_) (fun a d e=>?_),fun a h=>aE9 h,fun a h=>aF0 h⟩
 ·show (if H a=none then c a else G a)=some u;rw [aF0 (by rw [I.gh a u e];simp)];exact e
 ·rw [aF0 (by rw [I.gh a u e];simp)];exact e
 ·by_cases h:H a=none
  ·rw [aE9 h] at e;exact o.gh a u e
  ·rw [aF0 h] at e;exact o.hh _ _ (I.gh a u e)
 ·by_cases h:H a=none
  ·exact .inr h
  ·rw [aF0 h] at e;exact .inl e
 ·have i:FT f H:=fun a d e=>j _ _ (I.ft a d e)
  by_cases h:H a=none
  ·rw [aE9 h];exact o.ft i a d e
  ·rw [aF0 h]
   obtain ⟨u,g⟩:=aih h
   have:=o.hh _ _ g
   rw [e] at this
   exact I.ft a d (by rw [g,← this])
theorem ast (h:EvO B te1 env fun s1 n=>∃ A1 A d,s1=.own A1/\Has n i A/\Frz A d/\∀ N:Bs,N.K=B.K->EvO N te2 (momE n i d) fun s2 _=>∃ l,s2=.own l/\(∀ G G' H v F,Same G H->FT G' H->l.P G H v F->l.P G' H v F)/\∀ v0 v1,QO (.own (OO2 v0 v1 A1 l)) n):EvO B (tLst (aa2 te1 (aa2 te2 tNil))) env QO:=fun σ G H F Q I k=>by
 refine h σ G H F _ I fun L G1 f M x s1 n c g1 E ⟨A1,A,d,a2,hA,fz,h2⟩=>?_
 subst a2
 obtain ⟨v,hv,ap⟩:=c.has hA
 have js:=abl (H:=f) (c.fg i)
 have hi:i < n.length:=by
  rcases hA with e | e <;> exact (aA1.mp e).1
 let N:Bs:={ K:=B.K,G:=jn G1 f (M i),H:=f,R:=f,S:=σ,F:=fun _ _=>False }
 have J:VI N (jn G1 f (M i)) f σ (momE n i d) (fun _ _=>False):={
  gh:=apz c.gh
  g0:=Same.refl _
  gn:=fun a o e => .inl e
  rs:=Same.refl _
  rb:=Same.refl _
  bh:=fun a o e=>⟨o,e⟩
  fg:=fun _ _ z=>z.elim
  fr:=fun _ _ z=>z.elim
  fd:=fun _ _ _ z=>z.elim
  fo:=fun _ _ z=>z.elim
  sl:=fun m s e=>by
   unfold momE at e
   by_cases hm:m=i
   ·subst hm
    rw [aD1,aE9 rfl,aE9 (by simpa using hi)] at e
    cases e
    exact ⟨v,hv,fz _ _ _ _ ap (c.fg m) c.gh,fun _ z=>z⟩
   ·rw [aD1,aF0 (fun z=>hm z.symm),aA5] at e
    cases em:n[m]? with
    | none=>rw [em] at e;cases e
    | some o =>
     rw [em] at e
     cases o with
     | none=>cases e
     | some t =>
      obtain ⟨u,hu,q⟩:=c.sl m t em
      cases t with
      | st d'=>cases e;exact ⟨u,hu,q.1.same js,fun _ z=>z⟩
      | scr ns =>
       cases e
       obtain ⟨⟨a,ea,sq⟩,_⟩:=q
       exact ⟨u,hu,⟨a,ea,js.seq sq⟩,fun _ z=>z⟩
      | own A'=>cases e
      | io A'=>cases e
  ln:=by simp [momE,c.ln]
  ft:=fun a ks e=>js _ _ (c.ft a ks e) }
 refine h2 N rfl σ _ f _ _ J fun C G2 H2 F2 Fv s2 e2 D g2 g ⟨l,Y,gr,q⟩=>?_
 subst Y
 have o:Out (jn G1 f (M i)) f C G2 H2 (.own l) Fv:={
  gg:=g2
  gh:=D.gh
  hh:=D.rs
  gn:=D.gn
  fn:=g.fb
  fg:=g.fg
  fo:=g.fo
  ok:=g.ok
  ft:=fun _=>D.ft }
 obtain ⟨T,g4,w,h4,h5⟩:=c.moment3 js o
 have O:A1.P T H2 L x:=A1.mono E.ok g4 fun a o' z e=>D.rs a o' e
 have Z:l.P T H2 C Fv:=gr _ _ _ _ _ D.gh w.ft g.ok
 refine ⟨show 2<=sizeLine by decide,fun p r=>?_⟩
 have X:Same H2 (upd H2 p (.lst [L,C])):=abb r
 have gp:T p=none:=aa9 w.gh r
 have I4:VI B T (upd H2 p (.lst [L,C])) σ n M:=w.aside (fun xs z=>by cases z) gp (w.no_f r) (w.no_b r)
 have U:∀ a,x a->∃ o',H2 a=some o':=fun a z=>A1.dom O a z
 have a1:¬ x p:=fun z=>by obtain ⟨o',e⟩:=U p z;rw [r] at e;cases e
 have a0:¬ Fv p:=fun z=>by obtain ⟨o',e⟩:=g.fo p z;rw [r] at e;cases e
 have W:∀ b,Fv b->f b=none:=fun b z=>g.fb b z
 have dj:∀ b,x b->¬ Fv b:=fun b y z=>by
  obtain ⟨o',e⟩:=E.fo b y
  rw [W b z] at e;cases e
 refine k (.ref p) T _ M (fun b=>b=p\/x b\/Fv b) (.own (OO2 L C A1 l)) n I4 (g1.trans g4) ⟨⟨p,x,Fv,rfl,aaf,A1.mono O (Same.refl _) fun a o' _ e=>X a o' e,l.mono Z (Same.refl _) fun a o' _ e=>X a o' e,a1,a0,dj,fun b=>Iff.rfl⟩,fun b z=>?_,fun b z=>?_,fun b z=>?_,fun j b z y=>?_⟩ (q L C)
 ·rcases z with rfl | z | z
  ·exact w.no_b r
  ·exact E.fb b z
  ·exact c.no_b (W b z)
 ·rcases z with rfl | z | z
  ·exact gp
  ·rw [h5 b (by obtain ⟨o',e⟩:=E.fo b z;rw [e];simp)];exact E.fg b z
  ·rw [h4 b (W b z)];exact g.fg b z
 ·rcases z with rfl | z | z
  ·exact ⟨_,aaf⟩
  ·obtain ⟨o',e⟩:=U b z;exact ⟨o',X b o' e⟩
  ·obtain ⟨o',e⟩:=g.fo b z;exact ⟨o',X b o' e⟩
 ·rcases z with rfl | z | z
  ·exact w.no_f r j y
  ·exact E.fd j b z y
  ·exact c.no_f (W b z) j y
end
section
variable {B:Bs} {env:En} {D':VEnds} {i:Nat} {C:Addr} {x:Str} {v0 v1:V}
theorem asu {t:TS} {c f:PyData} {b a:List PyData} (i:Nat) (e:env[i]?=some (some (.own (OO2 v0 v1 (OGW C x c b) (OGW C x f a))))) (h:EvS B t D' (env.set i (some (.own (OO2 v0 v1 (OI C [(x,.tuple [c,.list b])]) (OI C [(x,.tuple [f,.list a])])))))):EvS B t D' env:=fun σ G H F D I r=>by
 have hi:i < env.length:=(aA1.mp e).1
 have o:=I.ln
 obtain ⟨F2,y⟩:=I.split e
 have l:EvS B (fun z m H2 => m = σ ++ [some v0,some v1]->t z σ H2) D' (spl env i v0 v1 (OGW C x c b) (OGW C x f a)):=by
  refine am7 env.length (d:=c) (ds:=b) (C:=C) (x:=x) ?_ (am7 (env.length+1) (d:=f) (ds:=a) (C:=C) (x:=x) ?_ ?_)
  ·unfold spl
   rw [aC7 (by simp),List.length_set,aH9]
   rfl
  ·unfold spl
   rw [aD1,aF0 (by lia),aC7 (by simp),List.length_set,show env.length+1 - env.length=1 by lia]
   rfl
  ·intro w A H3 E u v p g
   subst g
   obtain ⟨q,s,_⟩:=v.join (i:=i) (n:=env.length) (A0:=OI C [(x,.tuple [c,.list b])]) (A1:=OI C [(x,.tuple [f,.list a])]) o (by
     unfold spl
     rw [aD1,aF0 (by lia),aD1,aE9 rfl,aE9 (by simp)]) (by
     unfold spl
     rw [aD1,aE9 rfl,aE9 (by simp)]) (by
     unfold spl
     rw [aG9 hi,aD1,aF0 (by lia),aD1,aF0 (by lia),aC2 (by simpa using hi),aD1,aE9 rfl,aE9 hi])
   refine h σ A H3 q u ?_ p
   refine cast ?_ s
   congr 1
   unfold spl
   refine aF6 fun j=>?_
   rw [aD1,aD1,aG4,List.length_set,List.length_set,aB0,List.length_set]
   by_cases hj:i=j
   ·subst hj
    rw [aE9 rfl,aE9 rfl,aE9 (by simp;lia),aE9 hi]
   ·rw [aF0 hj,aF0 hj]
    by_cases hjl:j < env.length
    ·rw [aG9 hjl,aD1,aF0 (by lia),aD1,aF0 (by lia),aC2 (by simpa using hjl),aD1,aF0 hj]
    ·rw [aD9 (by simp;lia),aD9 (by lia)]
 exact l _ G H F2 D y r rfl
end
end VL
namespace G
open PySem L2 VL
def top (i:Nat):Stmt:=PySem.Challenge.pw_fewties_k44_growers_apart.main.body.getD i (.Pass ⟨0,0,0,0⟩)
abbrev s_is_whole:Stmt:=top 8
abbrev s_is_between:Stmt:=top 9
abbrev s_need_number:Stmt:=top 10
abbrev s_is_place:Stmt:=top 11
abbrev s_is_tie:Stmt:=top 12
abbrev s_are_ties:Stmt:=top 13
abbrev s_is_rising:Stmt:=top 14
abbrev s_tied_places:Stmt:=top 15
abbrev s_far_from:Stmt:=top 16
abbrev s_need_place:Stmt:=top 17
abbrev s_all_far:Stmt:=top 18
abbrev s_how_far:Stmt:=top 19
abbrev s_is_joined:Stmt:=top 20
abbrev s_need_joined:Stmt:=top 22
abbrev s_far_rows:Stmt:=top 23
abbrev s_most_far:Stmt:=top 24
abbrev s_farthest_two:Stmt:=top 25
abbrev s_with_ties:Stmt:=top 27
abbrev s_far_or_none:Stmt:=top 29
abbrev s_law_deck:Stmt:=top 32
abbrev s_law_draw:Stmt:=top 33
abbrev s_law_tied:Stmt:=top 34
abbrev s_law_fars:Stmt:=top 35
abbrev s_law_order:Stmt:=top 36
abbrev s_law_crowds:Stmt:=top 37
abbrev s_law_web:Stmt:=top 38
abbrev s_law_deed:Stmt:=top 39
abbrev s_law_behind:Stmt:=top 40
abbrev s_law_done:Stmt:=top 41
abbrev s_law_far_of:Stmt:=top 42
abbrev s_law_looks:Stmt:=top 43
abbrev s_law:Stmt:=top 44
abbrev s_Grower____init__:Stmt:=adi (top 30) 0
abbrev s_Grower__put_place:Stmt:=adi (top 30) 1
abbrev s_Grower__put_tie:Stmt:=adi (top 30) 2
abbrev s_Grower__become:Stmt:=adi (top 30) 3
abbrev s_Grower__web:Stmt:=adi (top 30) 4
abbrev s_Grower__farthest:Stmt:=adi (top 30) 5
abbrev s_Grower__far:Stmt:=adi (top 30) 6
structure Txt (K:Frag) (mg:Str->Option Value):Prop where
 b_ValueError:mg "ValueError" = none
 b_all:mg "all" = none
 b_max:mg "max" = none
 b_sorted:mg "sorted" = none
 b_range:mg "range" = none
 b_dict:mg "dict" = none
 b_list:mg "list" = none
 b_isinstance:mg "isinstance" = none
 b_int:mg "int" = none
 b_len:mg "len" = none
 b_sum:mg "sum" = none
 b_min:mg "min" = none
 b_bool:mg "bool" = none
 b_tuple:mg "tuple" = none
 v_MOST_PLACES:∃ t,mg "MOST_PLACES" = some (.int 60 t)
 d_is_whole:∃ f fd,DefAt K mg "is_whole" s_is_whole ["thing"] f fd
 d_is_between:∃ f fd,DefAt K mg "is_between" s_is_between ["least","most","thing"] f fd
 d_need_number:∃ f fd,DefAt K mg "need_number" s_need_number ["least","most","thing"] f fd
 d_is_place:∃ f fd,DefAt K mg "is_place" s_is_place ["n","thing"] f fd
 d_is_tie:∃ f fd,DefAt K mg "is_tie" s_is_tie ["n","thing"] f fd
 d_are_ties:∃ f fd,DefAt K mg "are_ties" s_are_ties ["n","thing"] f fd
 d_is_rising:∃ f fd,DefAt K mg "is_rising" s_is_rising ["things"] f fd
 d_tied_places:∃ f fd,DefAt K mg "tied_places" s_tied_places ["web"] f fd
 d_far_from:∃ f fd,DefAt K mg "far_from" s_far_from ["tied","start"] f fd
 d_need_place:∃ f fd,DefAt K mg "need_place" s_need_place ["web","thing"] f fd
 d_all_far:∃ f fd,DefAt K mg "all_far" s_all_far ["web","a"] f fd
 d_how_far:∃ f fd,DefAt K mg "how_far" s_how_far ["web","a","b"] f fd
 d_is_joined:∃ f fd,DefAt K mg "is_joined" s_is_joined ["web"] f fd
 d_need_joined:∃ f fd,DefAt K mg "need_joined" s_need_joined ["web"] f fd
 d_far_rows:∃ f fd,DefAt K mg "far_rows" s_far_rows ["web"] f fd
 d_most_far:∃ f fd,DefAt K mg "most_far" s_most_far ["rows"] f fd
 d_farthest_two:∃ f fd,DefAt K mg "farthest_two" s_farthest_two ["web"] f fd
 d_with_ties:∃ f fd,DefAt K mg "with_ties" s_with_ties ["web","ties"] f fd
 d_far_or_none:∃ f fd,DefAt K mg "far_or_none" s_far_or_none ["web"] f fd
 d_law_deck:∃ f fd,DefAt K mg "_law_deck" s_law_deck ["script"] f fd
 d_law_draw:∃ f fd,DefAt K mg "_law_draw" s_law_draw ["deck","many"] f fd
 d_law_tied:∃ f fd,DefAt K mg "_law_tied" s_law_tied ["web"] f fd
 d_law_fars:∃ f fd,DefAt K mg "_law_fars" s_law_fars ["web"] f fd
 d_law_order:∃ f fd,DefAt K mg "_law_order" s_law_order ["deck","n"] f fd
 d_law_crowds:∃ f fd,DefAt K mg "_law_crowds" s_law_crowds ["deck"] f fd
 d_law_web:∃ f fd,DefAt K mg "_law_web" s_law_web ["deck"] f fd
 d_law_deed:∃ f fd,DefAt K mg "_law_deed" s_law_deed ["deck","web"] f fd
 d_law_behind:∃ f fd,DefAt K mg "_law_behind" s_law_behind ["web","deed"] f fd
 d_law_done:∃ f fd,DefAt K mg "_law_done" s_law_done ["grower","deed"] f fd
 d_law_far_of:∃ f fd,DefAt K mg "_law_far_of" s_law_far_of ["web"] f fd
 d_law_looks:∃ f fd,DefAt K mg "_law_looks" s_law_looks ["deck","grower","web"] f fd
 d_law:∃ f fd,DefAt K mg "law" s_law ["script"] f fd
 o_Grower:∃ C,ObAt K mg "Grower" C
 n_Grower_held:∀ C,mg "Grower" = some (.ref C)->NoAttr K C "held"
 m_Grower____init__:∀ C,mg "Grower" = some (.ref C)->∃ f fd,MeAt K C "__init__" "Grower.__init__" s_Grower____init__ ["self","web"] f fd
 m_Grower__put_place:∀ C,mg "Grower" = some (.ref C)->∃ f fd,MeAt K C "put_place" "Grower.put_place" s_Grower__put_place ["self","a"] f fd
 m_Grower__put_tie:∀ C,mg "Grower" = some (.ref C)->∃ f fd,MeAt K C "put_tie" "Grower.put_tie" s_Grower__put_tie ["self","a","b"] f fd
 m_Grower__become:∀ C,mg "Grower" = some (.ref C)->∃ f fd,MeAt K C "become" "Grower.become" s_Grower__become ["self","grown"] f fd
 m_Grower__web:∀ C,mg "Grower" = some (.ref C)->∃ f fd,MeAt K C "web" "Grower.web" s_Grower__web ["self"] f fd
 m_Grower__farthest:∀ C,mg "Grower" = some (.ref C)->∃ f fd,MeAt K C "farthest" "Grower.farthest" s_Grower__farthest ["self"] f fd
 m_Grower__far:∀ C,mg "Grower" = some (.ref C)->∃ f fd,MeAt K C "far" "Grower.far" s_Grower__far ["self","a","b"] f fd
local macro_rules | `(tactic| row_cond sc) => `(tactic| exact ⟨rfl,rfl,rfl,by decide +kernel,rfl,by decide +kernel,by decide +kernel⟩)
local macro_rules | `(tactic| row_cond gn) => `(tactic| first | (with_reducible first | refine evg_n0 ?_ | refine az7 ?_ | refine az8 ?_ | refine az9 ?_ | refine a0a ?_ | refine a0b ?_ | refine a0c ?_ | refine a0d ?_ | refine a0e ?_ | refine a0f ?_ | refine axr ?_ | refine evg_n11 ?_ | refine evg_n12 ?_ | refine evg_n13 ?_ | refine evg_n14 ?_ | refine evg_n15 ?_ | refine evg_n16 ?_ | refine evg_n17 ?_ | refine evg_n18 ?_ | refine evg_n19 ?_ | refine evg_n20 ?_ | refine evg_n21 ?_ | refine evg_n22 ?_ | refine evg_n23 ?_ | refine evg_n24 ?_ | refine evg_n25 ?_) | ((with_reducible refine abc ?_); dsimp only [List.set_cons_zero, List.set_cons_succ]))
local macro_rules | `(tactic| row_cond dc) => `(tactic| first | assumption | lia | (with_reducible rfl))
local macro_rules | `(tactic| row_cond ar) => `(tactic| first | assumption | (refine ⟨?_, ?_, ?_⟩ <;> decide) | (constructor <;> first | assumption | lia) | (show (0 : Int) < _; first | assumption | lia) | (left; constructor <;> first | assumption | lia) | (right; constructor <;> first | assumption | lia))
local macro_rules | `(tactic| row_cond hs) => `(tactic| first | exact Or.inl rfl | exact Or.inr rfl)
local macro_rules | `(tactic| row_cond fz) => `(tactic| first | exact acp | exact azp | exact frz_OT | exact asc | exact ajt | assumption)
local macro_rules | `(tactic| row_cond le) => `(tactic| first | exact Nat.le_of_ble_eq_true rfl | assumption | lia | (simp only [List.length_append, List.length_map, List.length_cons, List.length_nil, List.length_set, List.length_replicate]; lia))
local macro_rules | `(tactic| row_cond ia) => `(tactic| first | assumption | exact at0 | exact at1 | exact at2 | exact rfl)
local macro_rules | `(tactic| row_cond ty) => `(tactic| first | exact az5 | exact axp | exact auw | exact axq | exact ty_str | exact ty_dict)
local macro_rules | `(tactic| row_cond sEvS) => `(tactic| first | (with_reducible refine amn (fun c_ hc_ => ?_)) | (with_reducible first | refine axc ?_ | refine arx ?_ | refine amm ?_) | ((with_reducible refine' aux ?h0 ?_); (case h0 => exact rfl)) | (with_reducible first | refine aop ?_ | refine axe ?_ | refine aue ?_) | ((with_reducible refine' ap7 ?h0 ?_); (case h0 => exact rfl)) | ((with_reducible refine' ap8 ?h0 ?_); (case h0 => exact rfl)) | ((with_reducible refine' ajr ?h0 ?_); (case h0 => assumption)))
local macro_rules | `(tactic| row_cond sEvG) => `(tactic| first | row_cond gn | ((with_reducible refine' axd ?h0 ?_); (case h0 => exact rfl)) | ((with_reducible refine' auv ?h0 ?_); (case h0 => row_cond hs)) | (with_reducible refine evg_st ?_))
local macro_rules | `(tactic| row_cond sEvGs) => `(tactic| first | (with_reducible first | refine arw ?_ | refine auf ?_))
local macro_rules | `(tactic| row_cond sEv) => `(tactic| first | ((with_reducible refine' azq ?h0 ?_); (case h0 => exact rfl)) | (with_reducible refine azr ?_) | ((with_reducible refine' az3 ?h0 ?_); (case h0 => row_cond hs)) | (with_reducible refine avy ?_) | ((with_reducible refine' az4 ?h0 ?_); (case h0 => row_cond ty)) | ((with_reducible refine' aki ?h0 ?_); (case h0 => exact rfl)) | ((with_reducible refine' ar2 ?h0 ?_); (case h0 => exact rfl)) | (with_reducible refine auj ?_) | ((with_reducible refine' aw7 ?h0 ?h1 ?_); (case h0 => exact rfl); (case h1 => row_cond fz); dsimp only [List.set_cons_zero, List.set_cons_succ]) | (with_reducible first | refine azu ?_ | refine azv ?_ | refine a1d ?_ | refine azs ?_ | refine a1e ?_ | refine axa ?_ | refine azx ?_ | refine axb ?_ | refine aud ?_ | refine abg (te:=tCB (aig _) _) ?_ | refine abg (te:=tCB ag9 _) ?_ | refine avz ?_) | ((with_reducible refine' ap1 ?h0 ?_); (case h0 => row_cond hs)) | ((with_reducible refine' ap2 ?h0 ?_); (case h0 => row_cond hs)) | ((with_reducible refine' an0 ?h0 ?_); (case h0 => row_cond hs)) | (with_reducible refine au2 ?_) | ((with_reducible refine' a1l ?h0 ?_); (case h0 => decide)) | (with_reducible first | refine au6 ?_))
local macro_rules | `(tactic| row_cond sEvO) => `(tactic| first | (with_reducible first | refine aml (r:=rCat) ?_ | refine aml (r:=rRep) ?_ | refine aa7 (te:=tOp _ _ _) ?_ | refine aa7 (te:=tVar _) ?_ | refine aa7 (te:=tC _) ?_ | refine aom ?_) | ((with_reducible refine' au3 ?h0 ?_); (case h0 => exact rfl)) | (with_reducible refine aol ?_) | ((with_reducible refine' aim ?h0 ?_); (case h0 => exact rfl)) | ((with_reducible refine' ain ?h0 ?_); (case h0 => exact rfl)) | ((with_reducible refine' arz ?h0 ?h1 ?_); (case h0 => exact rfl); (case h1 => assumption)) | (with_reducible first | refine akf ?_ | refine axt ?_) | ((with_reducible refine' ar0 ?h0 ?_); (case h0 => decide)) | (with_reducible first | refine ax6 ?_) | (with_reducible first | refine ar8 ?_ | refine akk ?_ | refine arv (r:=ams _) ?_ | refine aa7 (te:=tUn _ _) ?_ | refine aa7 (te:=tIf _ _ _) ?_ | refine aa7 (te:=ao9 _ _) ?_ | refine aa7 (te:=tOrV _ _) ?_ | refine aa7 (te:=apa _) ?_ | refine aa7 (te:=aln _ _ _ _ _) ?_ | refine aa7 (te:=ak8 _ _) ?_ | refine aa7 (te:=ag2 _ _) ?_ | refine aa7 (te:=aly _ _) ?_ | refine aa7 (te:=tCB (rLen _) _) ?_ | refine aa7 (te:=tCB (rIsi _) _) ?_ | refine aa7 (te:=tCB ala _) ?_ | refine aa7 (te:=tCB alb _) ?_ | refine aa7 (te:=tCB alc _) ?_ | refine aa7 (te:=tCB (aez _) _) ?_ | refine aa7 (te:=tCB (ale _) _) ?_ | refine aa7 (te:=tCB (apx _) _) ?_ | refine aa7 (te:=tCB (rAll _) _) ?_ | refine aa7 (te:=tBM _ _ _ _ _) ?_))
local macro_rules | `(tactic| row_cond sEvT) => `(tactic| first | (with_reducible first | refine aht ?_ | refine a1f ?_ | refine aw8 ?_ | refine azw ?_ | refine aon ?_ | refine ajq ?_) | (with_reducible refine aw9 ?_))
local macro_rules | `(tactic| row_cond sEvA) => `(tactic| first | (with_reducible first | refine ahs ?_ | refine aok ?_))
local macro_rules | `(tactic| row_cond sEvI) => `(tactic| first | (with_reducible first | refine auh ?_ | refine aui ?_ | refine evi_down ?_ | refine aug ?_) | (with_reducible refine evi_tup ?_))
local macro_rules | `(tactic| row_cond sOp2) => `(tactic| first | (with_reducible first | refine axf ?_ | refine axg ?_) | ((with_reducible refine' az1 ?h0 ?_); (case h0 => row_cond ar)) | (with_reducible first | refine axh ?_ | refine axi ?_) | ((with_reducible refine' axj ?h0 ?_); (case h0 => row_cond ia)) | ((with_reducible refine' axk ?h0 ?_); (case h0 => row_cond ia)) | (with_reducible first | refine axl ?_ | refine aun ?_) | ((with_reducible refine' axm ?h0 ?_); (case h0 => row_cond le)))
local macro_rules | `(tactic| row_cond sOp1) => `(tactic| first | (with_reducible refine az2 ?_))
local macro_rules | `(tactic| row_cond sOpA) => `(tactic| first | (with_reducible first | refine auo ?_ | refine aup ?_ | refine auq ?_ | refine aur ?_ | refine aus ?_ | refine au1 ?_))
local macro_rules | `(tactic| row_cond sFQ) => `(tactic| first | (with_reducible first | refine ade ?_ | refine acz ?_ | refine ali ?_))
local macro_rules | `(tactic| row_cond sRngA1) => `(tactic| first | ((with_reducible refine' azz ?h0 ?h1 ?_); (case h0 => lia); (case h1 => lia)))
local macro_rules | `(tactic| row_cond sRngA2) => `(tactic| first | ((with_reducible refine' az0 ?h0 ?_); (case h0 => lia)))
local macro_rules | `(tactic| row_cond sRest) => `(tactic| first | (with_reducible first | refine x_bl ?_ | refine x_st ?_ | refine azy ?_) | ((with_reducible refine' a1j ?h0 ?h1 ?_); (case h0 => row_cond hs); (case h1 => row_cond ia)) | ((with_reducible refine' x_sc ?h0 ?_); (case h0 => exact rfl)) | ((with_reducible refine' a1i ?h0 ?_); (case h0 => row_cond le)) | (with_reducible first | refine aci ?_ | refine acw ?_ | refine aji ?_ | refine ajj ?_) | ((with_reducible refine' ajb ?h0 ?_); (case h0 => row_cond dc)) | ((with_reducible refine' ajc ?h0 ?_); (case h0 => row_cond dc)) | ((with_reducible refine' aua ?h0 ?_); (case h0 => row_cond dc)) | ((with_reducible refine' aub ?h0 ?_); (case h0 => row_cond dc)) | ((with_reducible refine' a1k ?h0 ?_); (case h0 => first | exact rfl | row_cond hs)) | ((with_reducible refine' x_rt ?h0 ?_); (case h0 => exact rfl)) | ((with_reducible refine' az6 ?h0 ?h1 ?_); (case h0 => exact rfl); (case h1 => row_cond le); dsimp only [List.set_cons_zero, List.set_cons_succ]) | ((with_reducible refine' ap3 ?h0 ?h1 ?_); (case h0 => exact rfl); (case h1 => first | exact ixN0 | exact ixN1 | exact ixN2 | assumption); dsimp only [List.set_cons_zero, List.set_cons_succ, reS]) | (with_reducible first | refine auy ?_) | ((with_reducible refine' x_dT ?h0 ?h1 ?_); (case h0 => exact rfl); (case h1 => row_cond le); dsimp only [List.set_cons_zero, List.set_cons_succ]) | ((with_reducible refine' x_dK ?h0 ?h1 ?_); (case h0 => exact rfl); (case h1 => row_cond le); dsimp only [List.set_cons_zero, List.set_cons_succ]) | ((with_reducible refine' x_dN ?h0 ?_); (case h0 => row_cond hs)) | ((with_reducible refine' axy ?h0 ?h1 ?_); (case h0 => lia); (case h1 => lia)) | ((with_reducible refine' x_ow ?h0 ?_); (case h0 => exact rfl); dsimp only [List.set_cons_zero, List.set_cons_succ]))
local macro_rules | `(tactic| row_cond st) => `(tactic| first | ((with_reducible refine a1m ?_); row_cond sEvS) | ((with_reducible refine a1n ?_); row_cond sEvG) | ((with_reducible refine a0i ?_); row_cond sEvGs) | ((with_reducible refine g_Ev ?_); row_cond sEv) | ((with_reducible refine a1o ?_); row_cond sEvO) | ((with_reducible refine a1p ?_); row_cond sEvT) | ((with_reducible refine a1q ?_); row_cond sEvA) | ((with_reducible refine a1r ?_); row_cond sEvI) | ((with_reducible refine g_EvOp ?_); row_cond sEvOp) | ((with_reducible refine a1s ?_); row_cond sOp2) | ((with_reducible refine a1t ?_); row_cond sOp1) | ((with_reducible refine a1u ?_); row_cond sOpA) | ((with_reducible refine g_FQ ?_); row_cond sFQ) | ((with_reducible refine ax3 ?_); row_cond sRngA1) | ((with_reducible refine ax4 ?_); row_cond sRngA2) | row_cond sRest)
local macro_rules | `(tactic| row_cond go) => `(tactic| repeat row_cond st)
local macro_rules | `(tactic| row_cond hnx) => `(tactic| first | assumption | (apply Ne.symm; assumption) | exact aar (by assumption) (by assumption) | exact (aar (by assumption) (by assumption)).symm)
local macro_rules | `(tactic| row_cond hhp) => `(tactic| first | assumption | exact aaf | (rw [aad (by row_cond hnx)]; row_cond hhp) | ((refine' Same.at ?ss ?hh); (case ss => assumption); (case hh => row_cond hhp)))
local macro_rules | `(tactic| row_cond hix) => `(tactic| first | assumption | exact at0 | exact at1 | exact at2)
local macro_rules | `(tactic| row_cond hst) => `(tactic| first | (with_reducible first | refine ay9 ?_ | refine aza ?_ | refine ai9 ?_ | refine a05 ?_ | refine go_c ?_ | refine a08 ?_ | refine go_U ?_ | refine arl ?_ | refine aws ?_ | refine a06 ?_ | refine azc ?_ | refine azd ?_ | refine azb ?_ | refine awp ?_ | refine awq ?_ | refine a07 ?_ | refine aja ?_ | refine agf ?_ | refine awt ?_ | refine aob ?_ | refine aoc ?_ | refine aod ?_ | refine awr ?_ | refine aw4 ?_ | refine azi ?_ | refine azk ?_ | refine a09 ?_ | refine atu ?_ | refine al1 ?_ | refine aci ?_ | refine acw ?_) | ((with_reducible refine' arj ?hv ?_); (case hv => exact rfl)) | ((with_reducible refine' aej ?ha ?hv ?_); (case ha => row_cond hhp); (case hv => row_cond hix)) | ((with_reducible refine go_I ?hc ?_); (case hc => row_cond ar)) | ((with_reducible refine' aoa ?ha ?_); (case ha => row_cond hhp)) | ((with_reducible refine' an9 ?ha ?hj ?_); (case ha => row_cond hhp); (case hj => first | exact ixN0 | exact ixN1 | exact ixN2)) | ((with_reducible refine' azm ?ha ?_); (case ha => row_cond hhp)) | ((with_reducible refine' aex ?ha ?hl ?_); (case ha => row_cond hhp); (case hl => exact aet (by simp; lia))) | ((with_reducible refine' ajb ?hc ?_); (case hc => row_cond dc)) | ((with_reducible refine' ajc ?hc ?_); (case hc => row_cond dc)) | dsimp only [List.set_cons_zero, List.set_cons_succ])
local macro_rules | `(tactic| row_cond hgo) => `(tactic| repeat row_cond hst)
def isInt:PyData->Bool
 | .int _=>true
 | _=>false
def btwD (a b:Int):PyData->Bool
 | .int i=>decide (a<=i/\i<=b)
 | _=>false
def ayg:VP:=fun ss Q=>∃ d,ss=[.st d]/\Q (.st (.bool (isInt d)))
def asv:VP:=fun ss Q=>∃ (a b:Int) (d:PyData),ss=[.st (.int a),.st (.int b),.st d]/\Q (.st (.bool (btwD a b d)))
def ayh:VP:=fun ss Q=>∃ (n:Int) (d:PyData),ss=[.st (.int n),.st d]/\Q (.st (.bool (btwD 0 (n - 1) d)))
section
variable {P:Program} {w:World} {K:Frag} {mg:Str->Option Value} {base:Heap}
theorem sc_is_whole:FnScope ["thing"] ["thing"] (aai s_is_whole):=by row_cond sc
theorem anc (T:Txt K mg):Can P w K mg base "is_whole" 1 ["thing"] (spP K (ayg)):=by
 obtain ⟨f,fd,D⟩:=T.d_is_whole
 obtain ⟨j,a⟩:=T.o_Grower
 have c:=a.mgx
 have l:=T.n_Grower_held _ c
 refine D.can (D.fn.ok sc_is_whole (fun vs H Q E h=>lenP h fun ss Q' q=>by obtain ⟨d,rfl,k⟩:=q;rfl) (fun cdv A outer s H vs Q E n h=>?_))
 have nd:=sc_is_whole.nd
 refine ⟨_,(aah (aas (af8 (aak afp (by rfl) T.b_isinstance acy (aaa (pv 0) (aaa (agv (v:=.ty "int") rfl T.b_int al2 rfl) aab))) (af7 (ayz (aak afp (by rfl) T.b_isinstance acy (aaa (pv 0) (aaa (agv (v:=.ty "bool") rfl T.b_bool awx rfl) aab)))))))),?_⟩
 refine abi h fun ss Q' q B m=>?_
 refine exS1 ss q fun d g=>?_
 have k:=g
 clear g q
 show EvS B _ _ [some (.st d)]
 row_cond go
 cases d with
 | int i => refine aci ?_; row_cond go; exact k
 | bool b => refine aci ?_; row_cond go; exact k
 | _=>refine acw ?_;exact k
theorem sc_is_between:FnScope ["least","most","thing"] ["least","most","thing"] (aai s_is_between):=by row_cond sc
theorem afg (T:Txt K mg):Can P w K mg base "is_between" 2 ["least","most","thing"] (spP K (asv)):=by
 obtain ⟨f,fd,D⟩:=T.d_is_between
 obtain ⟨l,c⟩:=T.o_Grower
 have g:=c.mgx
 have m:=T.n_Grower_held _ g
 refine D.can (D.fn.ok sc_is_between (fun vs H Q E h=>lenP h fun ss Q' q=>by obtain ⟨a,b,d,rfl,k⟩:=q;rfl) (fun cdv A outer s H vs Q E o h=>?_))
 have nd:=sc_is_between.nd
 refine ⟨_,(aah (aas (af8 (aag (anc T) o (aaa (pv 2) aab)) (af7 (ate avs avs (pv 0) (pv 2) (pv 1)))))),?_⟩
 refine abi h fun ss Q' q B p=>?_
 refine exS3 ss q fun a b d j=>?_
 have k:=j
 clear j q
 show EvS B _ _ [some (.st (.int a)),some (.st (.int b)),some (.st d)]
 row_cond go
 refine ⟨d,rfl,?_⟩
 row_cond go
 cases d with
 | int i =>
  refine aci ?_
  row_cond go
  refine adu (fun n=>?_) (fun n=>?_)
  ·row_cond go
   have e:decide (i<=b)=btwD a b (.int i):=by
    show _=decide (a<=i/\i<=b)
    rw [aH2];simp [n]
   rw [e];exact k
  ·have e:false=btwD a b (.int i):=by
    show _=decide (a<=i/\i<=b)
    exact (aD5 (fun z=>n z.1)).symm
   rw [e];exact k
 | _=>exact acw k
theorem sc_is_place:FnScope ["n","thing"] ["n","thing"] (aai s_is_place):=by row_cond sc
theorem aeq (T:Txt K mg):Can P w K mg base "is_place" 3 ["n","thing"] (spP K (ayh)):=by
 obtain ⟨f,fd,D⟩:=T.d_is_place
 obtain ⟨g,a⟩:=T.o_Grower
 have b:=a.mgx
 have i:=T.n_Grower_held _ b
 refine D.can (D.fn.ok sc_is_place (fun vs H Q E h=>lenP h fun ss Q' q=>by obtain ⟨n,d,rfl,k⟩:=q;rfl) (fun cdv A outer s H vs Q E j h=>?_))
 have nd:=sc_is_place.nd
 refine ⟨_,(aah (aas (aag (afg T) j (aaa aae (aaa (aat aed (pv 0) aae) (aaa (pv 1) aab)))))),?_⟩
 refine abi h fun ss Q' q B l=>?_
 refine exS2 ss q fun n d c=>?_
 have k:=c
 clear c q
 show EvS B _ _ [some (.st (.int n)),some (.st d)]
 row_cond go
 exact ⟨_,_,_,rfl,k⟩
def a0q:VP:=fun ss Q=>∃ (n:Int) (es:List (Int × Int)),ss=[.st (webD n es)]/\0<=n/\n<=100/\InN n es/\es.length<=10000/\∀ tl,TiedL n (Tied es) tl->(∀ us∈tl,us.length<=20000)->Q (.own (OLL (tlD tl)))
theorem sc_tied_places:FnScope ["web","n","ties","tied","a","b"] ["web"] (aai s_tied_places):=by row_cond sc
theorem ae4 (T:Txt K mg):Can P w K mg base "tied_places" 1 ["web"] (spP K (a0q)):=by
 obtain ⟨f,fd,D⟩:=T.d_tied_places
 obtain ⟨z,o⟩:=T.o_Grower
 have p:=o.mgx
 have G:=T.n_Grower_held _ p
 refine D.can (D.fn.ok sc_tied_places (fun vs H Q E h=>lenP h fun ss Q' q=>by obtain ⟨n,es,rfl,O,U,y,I,k⟩:=q;rfl) (fun cdv A outer s H vs Q E X h=>?_))
 have nd:=sc_tied_places.nd
 refine ⟨_,(aac (ab2 (pv 0) (acv rfl (aa4 (aao (i:=1) nd rfl (Or.inl rfl)) (aa4 (aao (i:=2) nd rfl (Or.inl rfl)) acj))))
  (aac (al0 (i:=3) nd rfl (Or.inl rfl) rfl (N:=["place"]) (src:=[none]) (by exact ab0 rfl rfl rfl rfl rfl rfl) (abm rfl T.b_range (aaa (pv 1) aab)) (fun _ _ _ _=>(aao (i:=0) (show List.Nodup (["place"]:List Str) by decide +kernel) rfl (Or.inl rfl) (hf:=Or.inr rfl))) (fun _ _ _ _=>ab9) (fun _ _ _ _=>(aay aab)))
  (aac (abu aI8 rfl (abz (pv 2)) (acv rfl (aa4 (aao (i:=4) nd rfl (Or.inl rfl)) (aa4 (aao (i:=5) nd rfl (Or.inl rfl)) acj)))
   (aac (abd (acq PySem.F.plainAttrs_list PySem.F.slot_list_append PySem.F.type_list_append abv (aal aam (pv 3) (pv 4) (fun _ _=>rfl)) (aaa (pv 5) aab)))
    (aah (abd (acq PySem.F.plainAttrs_list PySem.F.slot_list_append PySem.F.type_list_append abv (aal aam (pv 3) (pv 5) (fun _ _=>rfl)) (aaa (pv 4) aab))))))
  (aah (aas (pv 3)))))),?_⟩
 refine abi h fun ss Q' q B W=>?_
 refine exS2 ss q fun n es c=>?_
 have O:=c.1
 have U:=c.2.1
 have y:=c.2.2.1
 have I:=c.2.2.2.1
 have k:=c.2.2.2.2
 clear c q
 show EvS B _ _ [some (.st (webD n es)),none,none,none,none,none]
 row_cond go
 rw [ack]
 refine ⟨by lia,?_⟩
 row_cond go
 refine ac1 (fun i e=>∃ M J tl,e=[some (.st (webD n es)),some (.st (.int n)),some (.st (.list (es.map prD))),some (.own (OLL (tlD tl))),M,J]/\TiedL n (Tied (es.take i)) tl/\∀ j∈tl,j.length<=2 * i)
  ⟨none,none,List.replicate n.toNat [],by simp [tlD],⟨by simp;lia,fun i j hi w=>?_⟩,fun j R=>?_⟩ ?_ ?_
 ·rw [aH1] at hi
  split at hi
  ·cases hi;simp [Tied]
  ·cases hi
 ·have:=List.eq_of_mem_replicate R
  subst this;simp
 ·rintro i ⟨a,b⟩ e L m
  refine exS3 e m fun M J tl c=>?_
  have r:=c.1
  have l:=c.2
  clear c m
  have hi:i < es.length:=(aA1.mp L).1
  obtain ⟨a0,a1,b0,b1⟩:=y _ (aA2 L)
  dsimp only at a0 a1 b0 b1
  row_cond go
  obtain ⟨j,g,_⟩:=r.get a0 a1
  have S:=l j (aA2 g)
  refine aio (n:=a.toNat) (ds:=j.map .int) rfl rfl rfl (by rw [aA3];exact aip a0 (by rw [r.1];exact a1)) (ad9 g) (by rw [aA3];lia) ?_
  dsimp only [List.set_cons_zero,List.set_cons_succ]
  have C:=r.put (q:=b) a0 a1 g
  rw [show j.map PyData.int ++ [.int b]=(j ++ [b]).map .int by simp,ag8]
  have d:∀ us∈tl.set a.toNat (j ++ [b]),us.length<=2 * i+1:=fun us x=>by
   rcases List.mem_or_eq_of_mem_set x with h | h
   ·have:=l us h;lia
   ·subst h;simp;lia
  generalize tl.set a.toNat (j ++ [b])=tl2 at C d
  row_cond go
  obtain ⟨j,g,_⟩:=C.get b0 b1
  have S:=d j (aA2 g)
  refine aio (n:=b.toNat) (ds:=j.map .int) rfl rfl rfl (by rw [aA3];exact aip b0 (by rw [C.1];exact b1)) (ad9 g) (by rw [aA3];lia) ?_
  dsimp only [List.set_cons_zero,List.set_cons_succ]
  rw [show j.map PyData.int ++ [.int a]=(j ++ [a]).map .int by simp,ag8]
  refine ⟨_,_,_,rfl,(C.put (q:=a) b0 b1 g).iff fun u v=>(Tied.snoc L u v).symm,fun us x=>?_⟩
  rcases List.mem_or_eq_of_mem_set x with h | h
  ·have:=d us h;lia
  ·subst h;simp;lia
 ·rintro e m
  refine exS3 e m fun M J tl c=>?_
  have r:=c.1
  have l:=c.2
  clear c m
  rw [aG2] at r
  row_cond go
  exact k tl r fun us x=>by have:=l us x;lia
end
@[reducible] def tlV (tl:List (List Int)):PyData:=.list ((tlD tl).map .list)
def a1v:VP:=fun ss Q=>∃ (n a:Int) (T:Int->Int->Prop) (tl:List (List Int)),ss=[.st (tlV tl),.st (.int a)]/\n<=100/\TiedL n T tl/\(∀ u v,T u v->0<=v/\v < n)/\0<=a/\a < n/\Q (.own (OL (lab n.toNat (Gr.farO T a))))
section
variable {P:Program} {w:World} {K:Frag} {mg:Str->Option Value} {base:Heap}
theorem sc_far_from:FnScope ["tied","start","far","edge","beyond","place","other"] ["tied","start"] (aai s_far_from):=by row_cond sc
theorem agq (T:Txt K mg):Can P w K mg base "far_from" 1 ["tied","start"] (spP K (a1v)):=by
 obtain ⟨f,fd,D⟩:=T.d_far_from
 obtain ⟨U,G⟩:=T.o_Grower
 have z:=G.mgx
 have Y:=T.n_Grower_held _ z
 refine D.can (D.fn.ok sc_far_from (fun vs H Q E h=>lenP h fun ss Q' q=>by obtain ⟨n,a,T,tl,rfl,n1,ht,hT,a0,a1,k⟩:=q;rfl) (fun cdv A outer s H vs Q E hr h=>?_))
 have nd:=sc_far_from.nd
 refine ⟨_,(aac (aan (i:=2) nd rfl (Or.inl rfl) (aat ay7 (aay (aaa ads aab)) (aak abt (by rfl) T.b_len aca (aaa (pv 0) aab))))
  (aac (ab2 aae (afb (pv 2) (pv 1) adh))
  (aac (aan (i:=3) nd rfl (Or.inl rfl) (aay (aaa (pv 1) aab)))
  (aac (alk aI8 (azo (pv 3))
   (aac (aan (i:=4) nd rfl (Or.inl rfl) (aay aab))
    (aac (abu aI8 rfl (abz (pv 3)) (aao (i:=5) nd rfl (Or.inl rfl))
     (aah (abu aI8 rfl (abz (aal aam (pv 0) (pv 5) (fun _ _=>rfl))) (aao (i:=6) nd rfl (Or.inl rfl))
       (aah (abh (aa1 aoi (aal aam (pv 2) (pv 6) (fun _ _=>rfl)) ads (aaz _))
         (aac (ab2 (aat abe (aal aam (pv 2) (pv 5) (fun _ _=>rfl)) aae) (afb (pv 2) (pv 6) adh))
          (aah (abd (acq PySem.F.plainAttrs_list PySem.F.slot_list_append PySem.F.type_list_append abv (pv 4) (aaa (pv 6) aab)))))
         aa0)))))
    (aah (aan (i:=3) nd rfl (Or.inl rfl) (pv 4))))))
  (aah (aas (pv 2))))))),?_⟩
 refine abi h fun ss Q' q B hK=>?_
 refine exS4 ss q fun n a T tl b=>?_
 have n1:=b.1
 have ht:=b.2.1
 have hT:=b.2.2.1
 have a0:=b.2.2.2.1
 have a1:=b.2.2.2.2.1
 have k:=b.2.2.2.2.2
 clear b q
 show EvS B _ _ [some (.st (tlV tl)),some (.st (.int a)),none,none,none,none,none]
 have hl:tl.length=n.toNat:=by have:=ht.1;lia
 row_cond go
 refine axn (by first | lia | (simp;done) | (simp;lia)) (by first | lia | (simp;done) | (simp;lia)) (by first | lia | (simp;done) | (simp;lia)) ?_
 simp only [aA3,hl]
 rw [show ((n.toNat:Nat):Int).toNat=n.toNat by lia,axv]
 row_cond go
 refine ap3 (j:=a.toNat) rfl (by rw [acs];exact aip a0 (by lia)) ?_
 dsimp only [List.set_cons_zero,List.set_cons_succ,reS]
 rw [show (PyData.int 0)=.int ((0:Nat):Int) from rfl,aoy a0 (by lia)]
 row_cond go
 refine aox 3 rfl acp ?_
 dsimp only [List.set_cons_zero,List.set_cons_succ]
 refine ake (fun m e=>∃ v4 N y far edge r,e=[some (.st (tlV tl)),some (.st (.int a)),some (.own (OL (lab n.toNat far))),some (.st (.list (edge.map .int))),v4,N,y]/\Gr.Ring T a r far edge/\(∀ v∈edge,0<=v/\v < n)/\m=2 * cnt far n.toNat+(if edge=[] then 0 else 1))
  ⟨_,none,none,none,_,[a],0,rfl,Gr.Ring.start,fun v R=>by simp at R;subst R;exact ⟨a0,a1⟩,rfl⟩ ?_
 rintro m e l
 refine exS6 e l fun v4 N y far edge r b=>?_
 have W:=b.1
 have hb:=b.2.1
 have X:=b.2.2
 clear b l
 subst X
 row_cond go
 rw [anx]
 cases hedge:edge with
 | nil =>
  subst hedge
  refine acw ?_
  row_cond go
  rw [ar3 (g:=Gr.farO T a) fun v _ _=>W.fin v]
  exact k
 | cons e0 er =>
  refine aci ?_
  rw [← hedge]
  have a3:edge ≠ []:=by rw [hedge];simp
  row_cond go
  refine ac1 (fun i e=>∃ N y c beyond,e=[some (.st (tlV tl)),some (.st (.int a)),some (.own (OL (lab n.toNat c))),some (.st (.list (edge.map .int))),some (.own (OL (beyond.map .int))),N,y]/\Gr.Mid T r far edge (fun u=>u∈edge.take i) c beyond/\cnt c n.toNat+beyond.length=cnt far n.toNat/\∀ v∈beyond,0<=v/\v < n)
   ⟨N,y,far,[],rfl,Gr.Mid.start.imp fun u L=>by simp at L,rfl,fun v R=>by simp at R⟩ ?_ ?_
  ·rintro i p e hp l
   refine exS4 e l fun N y c beyond b=>?_
   have I:=b.1
   have J:=b.2.1
   have o:=b.2.2
   clear b l
   have M:=aA2 hp
   obtain ⟨p0,p1⟩:=hb p M
   obtain ⟨ws,a2,hw⟩:=ht.get p0 p1
   have a8:atI ((tlD tl).map PyData.list) p=some (.list (ws.map .int)):=ago (f:=PyData.list) (act p0 (ad9 a2))
   row_cond go
   have Z:far p=some r:=(W.lab p r).mpr ⟨(W.edg p).mp M,aA6 _⟩
   refine ac1 (fun j e=>∃ y c beyond,e=[some (.st (tlV tl)),some (.st (.int a)),some (.own (OL (lab n.toNat c))),some (.st (.list (edge.map .int))),some (.own (OL (beyond.map .int))),some (.st (.int p)),y]/\Gr.Mid T r far edge (fun u=>u∈edge.take i) c beyond/\cnt c n.toNat+beyond.length=cnt far n.toNat/\(∀ v∈beyond,0<=v/\v < n)/\∀ x∈ws.take j,c x ≠ none)
    ⟨y,c,beyond,rfl,I,J,o,fun x O=>by simp at O⟩ ?_ ?_
   ·rintro j u e L l
    refine exS3 e l fun y c beyond b=>?_
    have I:=b.1
    have J:=b.2.1
    have o:=b.2.2.1
    have C:=b.2.2.2
    clear b l
    have tu:T p u:=(hw u).mp (aA2 L)
    obtain ⟨S,u1⟩:=hT _ _ tu
    have a7:atI (lab n.toNat c) u=some (oD (c u)):=amr S (by lia)
    have a9:atI (lab n.toNat c) p=some (.int (r:Int)):=by
     rw [amr p0 (by lia),I.old p r Z];rfl
    row_cond go
    rw [axu]
    cases hf:c u with
    | none =>
     refine aci ?_
     row_cond go
     refine ap3 (j:=u.toNat) rfl (by rw [acs];exact aip S (by lia)) ?_
     dsimp only [List.set_cons_zero,List.set_cons_succ,reS]
     rw [show (PyData.int ((r:Int)+1))=.int ((r+1:Nat):Int) by simp,aoy S (by lia)]
     have a6:=adx (d:=r+1) S hf (n:=n.toNat) (by lia)
     have a5:beyond.length<=cnt far n.toNat:=by lia
     have a4:∀ m,cnt far m<=m:=fun m=>by
      induction m with
      | zero=>exact aA6 _
      | succ m ih=>unfold cnt;split <;> lia
     have:=a4 n.toNat
     row_cond go
     refine ⟨some (.st (.int u)),Gr.label c u (r+1),beyond ++ [u],by simp,I.add M tu hf,by simp;lia,fun v R=>?_,fun x O=>?_⟩
     ·rcases aA7.mp R with h | h
      ·exact o v h
      ·have:v=u:=by simpa using h
       subst this;exact ⟨S,u1⟩
     ·by_cases hx2:x=u
      ·subst hx2;rw [Gr.label_same];simp
      ·rw [Gr.label_ne hx2]
       rcases ab1 L O with h | h
       ·exact C x h
       ·exact absurd h hx2
    | some d =>
     refine acw ?_
     row_cond go
     refine ⟨_,c,beyond,rfl,I,J,o,fun x O=>?_⟩
     rcases ab1 L O with h | h
     ·exact C x h
     ·subst h;rw [hf];simp
   ·rintro e l
    refine exS3 e l fun y c beyond b=>?_
    have I:=b.1
    have J:=b.2.1
    have o:=b.2.2.1
    have C:=b.2.2.2
    clear b l
    rw [aG2] at C
    refine ⟨_,_,c,beyond,rfl,?_,J,o⟩
    refine (I.did (u:=p) fun x tx=>C x ((hw x).mpr tx)).imp fun x O=>?_
    exact ab1 hp O
  ·rintro e l
   refine exS4 e l fun N y c beyond b=>?_
   have I:=b.1
   have J:=b.2.1
   have o:=b.2.2
   clear b l
   row_cond go
   refine ⟨_,?_,_,_,_,c,beyond,r+1,rfl,W.next I fun u L=>by rw [aG2];exact L,o,rfl⟩
   rw [aF0 a3]
   cases beyond with
   | nil=>rw [aE9 rfl];simp at J;lia
   | cons b0 br=>rw [aF0 (by simp)];simp at J;lia
end
def an1:VP:=fun ss Q=>∃ (n a:Int) (es:List (Int × Int)),ss=[.st (webD n es),.st (.int a)]/\0<=a/\a < n/\Q (.st .none)
def avc:VP:=fun ss Q=>∃ (n a:Int) (es:List (Int × Int)),ss=[.st (webD n es),.st (.int a)]/\n<=100/\InN n es/\es.length<=10000/\0<=a/\a < n/\Q (.own (OL (lab n.toNat (Gr.farO (Tied es) a))))
def avd:VP:=fun ss Q=>∃ (n a b:Int) (es:List (Int × Int)),ss=[.st (webD n es),.st (.int a),.st (.int b)]/\n<=100/\InN n es/\es.length<=10000/\0<=a/\a < n/\0<=b/\b < n/\Q (.st (oD (Gr.farO (Tied es) a b)))
def ave:VP:=fun ss Q=>∃ (n:Int) (es:List (Int × Int)),ss=[.st (webD n es)]/\1<=n/\n<=100/\InN n es/\es.length<=10000/\∀ b:Bool,(b=true ↔ Joined n es)->Q (.st (.bool b))
section
variable {P:Program} {w:World} {K:Frag} {mg:Str->Option Value} {base:Heap}
theorem sc_need_place:FnScope ["web","thing"] ["web","thing"] (aai s_need_place):=by row_cond sc
theorem acu (T:Txt K mg):Can P w K mg base "need_place" 4 ["web","thing"] (spP K (an1)):=by
 obtain ⟨f,fd,D⟩:=T.d_need_place
 obtain ⟨g,b⟩:=T.o_Grower
 have c:=b.mgx
 have i:=T.n_Grower_held _ c
 refine D.can (D.fn.ok sc_need_place (fun vs H Q E h=>lenP h fun ss Q' q=>by obtain ⟨n,a,es,rfl,a0,a1,k⟩:=q;rfl) (fun cdv A outer s H vs Q E j h=>?_))
 have nd:=sc_need_place.nd
 refine ⟨_,(aah (abh (aeb (adt (aag (aeq T) j (aaa (aal aam (pv 0) aae (fun _ _=>rfl)) (aaa (pv 1) aab)))))
   (aah aec)
   aa0)),?_⟩
 refine abi h fun ss Q' q B l=>?_
 refine exS3 ss q fun n a es d=>?_
 have a0:=d.1
 have a1:=d.2.1
 have k:=d.2.2
 clear d q
 show EvS B _ _ [some (.st (webD n es)),some (.st (.int a))]
 row_cond go
 refine ⟨_,_,rfl,?_⟩
 row_cond go
 have e:btwD 0 (n - 1) (.int a)=true:=aD6 ⟨a0,by lia⟩
 rw [e]
 row_cond go
 exact k
theorem sc_all_far:FnScope ["web","a"] ["web","a"] (aai s_all_far):=by row_cond sc
theorem ahl (T:Txt K mg):Can P w K mg base "all_far" 5 ["web","a"] (spP K (avc)):=by
 obtain ⟨f,fd,D⟩:=T.d_all_far
 obtain ⟨j,c⟩:=T.o_Grower
 have d:=c.mgx
 have l:=T.n_Grower_held _ d
 refine D.can (D.fn.ok sc_all_far (fun vs H Q E h=>lenP h fun ss Q' q=>by obtain ⟨n,a,es,rfl,m,g,i,a0,a1,k⟩:=q;rfl) (fun cdv A outer s H vs Q E o h=>?_))
 have nd:=sc_all_far.nd
 refine ⟨_,(aac (abd (aag (acu T) o (aaa (pv 0) (aaa (pv 1) aab))))
  (aah (aas (aag (agq T) o (aaa (aag (ae4 T) o (aaa (pv 0) aab)) (aaa (pv 1) aab)))))),?_⟩
 refine abi h fun ss Q' q B r=>?_
 refine exS3 ss q fun n a es b=>?_
 have m:=b.1
 have g:=b.2.1
 have i:=b.2.2.1
 have a0:=b.2.2.2.1
 have a1:=b.2.2.2.2.1
 have k:=b.2.2.2.2.2
 clear b q
 show EvS B _ _ [some (.st (webD n es)),some (.st (.int a))]
 row_cond go
 refine ⟨n,a,es,rfl,a0,a1,?_⟩
 row_cond go
 refine ⟨n,es,rfl,by lia,m,g,i,fun tl p _=>?_⟩
 refine a0g ?_
 row_cond go
 exact ⟨n,a,Tied es,tl,rfl,m,p,fun u v h=>(h.in g).2,a0,a1,k⟩
theorem sc_how_far:FnScope ["web","a","b"] ["web","a","b"] (aai s_how_far):=by row_cond sc
theorem an2 (T:Txt K mg):Can P w K mg base "how_far" 6 ["web","a","b"] (spP K (avd)):=by
 obtain ⟨f,fd,D⟩:=T.d_how_far
 obtain ⟨l,d⟩:=T.o_Grower
 have g:=d.mgx
 have m:=T.n_Grower_held _ g
 refine D.can (D.fn.ok sc_how_far (fun vs H Q E h=>lenP h fun ss Q' q=>by obtain ⟨n,a,b,es,rfl,p,j,i,a0,a1,b0,b1,k⟩:=q;rfl) (fun cdv A outer s H vs Q E o h=>?_))
 have nd:=sc_how_far.nd
 refine ⟨_,(aac (abd (aag (acu T) o (aaa (pv 0) (aaa (pv 1) aab))))
  (aac (abd (aag (acu T) o (aaa (pv 0) (aaa (pv 2) aab))))
  (aah (aas (aal aam (aag (ahl T) o (aaa (pv 0) (aaa (pv 1) aab))) (pv 2) (fun _ _=>rfl)))))),?_⟩
 refine abi h fun ss Q' q B u=>?_
 refine exS4 ss q fun n a b es c=>?_
 have p:=c.1
 have j:=c.2.1
 have i:=c.2.2.1
 have a0:=c.2.2.2.1
 have a1:=c.2.2.2.2.1
 have b0:=c.2.2.2.2.2.1
 have b1:=c.2.2.2.2.2.2.1
 have k:=c.2.2.2.2.2.2.2
 clear c q
 show EvS B _ _ [some (.st (webD n es)),some (.st (.int a)),some (.st (.int b))]
 row_cond go
 refine ⟨n,a,es,rfl,a0,a1,?_⟩
 row_cond go
 refine ⟨n,b,es,rfl,b0,b1,?_⟩
 row_cond go
 refine ⟨n,a,es,rfl,p,j,i,a0,a1,?_⟩
 have r:atI (lab n.toNat (Gr.farO (Tied es) a)) b=some (oD (Gr.farO (Tied es) a b)):=amr b0 (by lia)
 row_cond go
 exact k
theorem sc_is_joined:FnScope ["web"] ["web"] (aai s_is_joined):=by row_cond sc
theorem af2 (T:Txt K mg):Can P w K mg base "is_joined" 6 ["web"] (spP K (ave)):=by
 obtain ⟨f,fd,D⟩:=T.d_is_joined
 obtain ⟨j,b⟩:=T.o_Grower
 have c:=b.mgx
 have l:=T.n_Grower_held _ c
 refine D.can (D.fn.ok sc_is_joined (fun vs H Q E h=>lenP h fun ss Q' q=>by obtain ⟨n,es,rfl,p,m,i,g,k⟩:=q;rfl) (fun cdv A outer s H vs Q E o h=>?_))
 have nd:=sc_is_joined.nd
 refine ⟨_,(aah (aas (ac5 (akc o.units) ads (aag (ahl T) o (aaa (pv 0) (aaa aae aab))) rfl))),?_⟩
 refine abi h fun ss Q' q B r=>?_
 refine exS2 ss q fun n es a=>?_
 have p:=a.1
 have m:=a.2.1
 have i:=a.2.2.1
 have g:=a.2.2.2.1
 have k:=a.2.2.2.2
 clear a q
 show EvS B _ _ [some (.st (webD n es))]
 row_cond go
 refine ⟨n,0,es,rfl,m,i,g,by lia,by lia,?_⟩
 row_cond go
 refine aou rfl ar4 (by simp [PyData.depth]) ?_
 row_cond go
 refine k _ ?_
 rw [aE9 rfl,Bool.not_eq_true',← Bool.not_eq_true,axw]
 constructor
 ·intro h v v0 v1
  cases e:Gr.farO (Tied es) 0 v with
  | some d=>exact ⟨d,Gr.farO_some.mp e⟩
  | none=>exact absurd ⟨v,v0,by lia,e⟩ h
 ·rintro h ⟨v,v0,v1,e⟩
  obtain ⟨d,hd⟩:=h v v0 (by lia)
  exact Gr.farO_none.mp e d hd
end
def dsF (es:List (Int × Int)) (u v:Int):Int:=(((Gr.farO (Tied es) u v).getD 0:Nat):Int)
def rowD (n:Nat) (r:Int->Int):List PyData:=(List.range n).map fun (i:Nat) => .int (r (i:Int))
def matD (n:Nat) (m:Int->Int->Int):List PyData:=(List.range n).map fun (u:Nat) => .list (rowD n (m (u:Int)))
theorem a0r {n:Nat} {m:Int->Int->Int} {x:Int} (a:0<=x) (b:x < n):atI (matD n m) x=some (.list (rowD n (m x))):=by
 have:=ad3 (xs:=matD n m) (j:=x.toNat) (v:=.list (rowD n (m x))) (by
  unfold matD
  rw [aA5,aA0 (by simp;lia)]
  simp [Int.max_eq_left a])
 rwa [show ((x.toNat:Nat):Int)=x by lia] at this
theorem ahz {n:Nat} {r:Int->Int}:rowD n r=((List.range n).map fun (i:Nat)=>r (i:Int)).map .int:=by simp [rowD]
theorem aiy {n:Int} {es:List (Int × Int)} (c:Joined n es) {u v:Int} (b:0<=u) (f:u < n) (v0:0<=v) (v1:v < n):∃ d,Gr.farO (Tied es) u v=some d:=by
 cases e:Gr.farO (Tied es) u v with
 | some d=>exact ⟨d,rfl⟩
 | none =>
  obtain ⟨k,a⟩:=c.conn u v b f v0 v1
  obtain ⟨d,_,hd⟩:=Gr.Dist.of_walk a
  exact absurd hd (Gr.farO_none.mp e d)
theorem ayi {n:Int} {es:List (Int × Int)} (b:Joined n es) {u:Int} (a:0<=u) (c:u < n):lab n.toNat (Gr.farO (Tied es) u)=rowD n.toNat (dsF es u):=by
 unfold lab rowD
 refine aE4 fun i hi=>?_
 obtain ⟨d,e⟩:=aiy b a c (show 0<=(i:Int) by lia) (by have:=aB8.mp hi;lia)
 simp only [dsF,e,oD,Option.getD_some]
theorem adm {α:Type} {K:Frag} {src:List (Option Nat)} {a:En} {te:TE} {R:List PyData->En->Prop} {xs:List α} {f : α->PyData} (g : α->PyData) (m:noIo (aau src a)=true) (z:xs.length<=999999)
  (h:∀ x∈xs,∀ c:Bs,c.K=K->Ev c te (some (.st (f x)) :: aau src a) fun y j=>y=g x/\j=some (.st (f x)) :: aau src a)
  (q:R (xs.map g) a):LcV K (none :: src) (abp 0) tYes te (xs.map f) a R:=by
 have b:noIo (aau (none :: src) a)=true:=by
  show ((none :: aau src a).all fun s => !isIo s)=true
  rw [List.all_cons]
  exact (aG5 _ _).mpr ⟨rfl,m⟩
 refine ⟨fun i ys e=>ys=(xs.take i).map g/\∃ o,e=stO o :: aau src a,⟨by simp,none,rfl⟩,?_,?_,?_⟩
 ·rintro i ys e ⟨_,o,rfl⟩
  exact ⟨⟨isIo_stO.symm,agn⟩,ae1 ae8⟩
 ·rintro i d ys e hd ⟨rfl,o,rfl⟩ c n
  rw [aA5] at hd
  cases hx:xs[i]? with
  | none=>rw [hx] at hd;cases hd
  | some x =>
   rw [hx] at hd
   cases hd
   have hi:i < xs.length:=(aA1.mp hx).1
   have r:xs.take (i+1)=xs.take i ++ [x]:=by rw [aG8,hx];rfl
   refine abc (ajq ?_)
   rw [aE9 rfl]
   intro σ G H F Q I k
   refine h x (aA2 hx) c n σ G H F Q I fun v G' H' F' d' j p g' w ⟨u,l⟩=>k v G' H' F' d' j p g' w ?_
   subst u l
   refine ⟨by simp;lia,by rw [r];simp,some _,rfl⟩
 ·rintro ys e ⟨rfl,o,rfl⟩
  rw [ajs b]
  simpa using q
theorem ah0 {ns:List Int} {x y:Int} (h:ada ns x) (g:ada ns y):x=y:=Int.le_antisymm (g.2 x h.1) (h.2 y g.1)
theorem ajx:∀ {ns:List Int},ns ≠ []->∃ x,ada ns x
 | [a],_=>⟨a,by simp [ada]⟩
 | a :: b :: r,_=>by
  obtain ⟨x,d,hm⟩:=ajx (ns:=b :: r) (by simp)
  by_cases h:a<=x
  ·exact ⟨x,aB4 _ d,fun y c=>by
    rcases aA8.mp c with rfl | c
    ·exact h
    ·exact hm y c⟩
  ·exact ⟨a,aB7,fun y c=>by
    rcases aA8.mp c with rfl | c
    ·exact Int.le_refl _
    ·have:=hm y c;lia⟩
theorem ajy {n:Nat} (b:1<=n) (m:Int->Int->Int):∃ a:Nat->Int,∀ u:Nat,ada ((List.range n).map fun (i:Nat)=>m (u:Int) (i:Int)) (a u) :=
 ⟨fun u=>Classical.choose (ajx (ns:=(List.range n).map fun (i:Nat)=>m (u:Int) (i:Int)) (by simp;lia)),fun u=>Classical.choose_spec (ajx (ns:=(List.range n).map fun (i:Nat)=>m (u:Int) (i:Int)) (by simp;lia))⟩
def ane:VP:=fun ss Q=>∃ (n:Int) (es:List (Int × Int)),ss=[.st (webD n es)]/\1<=n/\n<=100/\InN n es/\es.length<=10000/\Joined n es/\Q (.st .none)
def asw:VP:=fun ss Q=>∃ (n:Int) (es:List (Int × Int)),ss=[.st (webD n es)]/\1<=n/\n<=100/\InN n es/\es.length<=10000/\Joined n es/\Q (.own (OL (matD n.toNat (dsF es))))
def aqh (n:Nat) (m:Int->Int->Int) (x:Int):Prop:=(∃ u v:Int,0<=u/\u < n/\0<=v/\v < n/\m u v=x)/\∀ u v:Int,0<=u->u < n->0<=v->v < n->m u v<=x
def asx:VP:=fun ss Q=>∃ (n:Nat) (m:Int->Int->Int),ss=[.st (.list (matD n m))]/\1<=n/\n<=1000/\∀ x,aqh n m x->Q (.st (.int x))
structure FreeAll (n:Int) (es fs:List (Int × Int)):Prop where
 mem:∀ p:Int × Int,p∈fs ↔ (0<=p.1/\p.1 < p.2/\p.2 < n/\p ∉ es)
 rise:Rise fs
theorem FreeAll.eq {n:Int} {es fs a:List (Int × Int)} (h:FreeAll n es fs) (g:FreeAll n es a):fs=a:=h.rise.eq g.rise fun p=>by rw [h.mem,g.mem]
theorem FreeAll.len {n:Int} {es fs:List (Int × Int)} (h:FreeAll n es fs) (a:n<=100):fs.length<=10000:=PsOk.len ⟨h.rise.nodup,fun p b=>by have:=(h.mem p).mp b;lia⟩ a
section
variable {P:Program} {w:World} {K:Frag} {mg:Str->Option Value} {base:Heap}
theorem sc_need_joined:FnScope ["web"] ["web"] (aai s_need_joined):=by row_cond sc
theorem aiz (T:Txt K mg):Can P w K mg base "need_joined" 7 ["web"] (spP K (ane)):=by
 obtain ⟨f,fd,D⟩:=T.d_need_joined
 obtain ⟨j,c⟩:=T.o_Grower
 have d:=c.mgx
 have l:=T.n_Grower_held _ d
 refine D.can (D.fn.ok sc_need_joined (fun vs H Q E h=>lenP h fun ss Q' q=>by obtain ⟨n,es,rfl,m,p,i,g,o,k⟩:=q;rfl) (fun cdv A outer s H vs Q E r h=>?_))
 have nd:=sc_need_joined.nd
 refine ⟨_,(aah (abh (aeb (adt (aag (af2 T) r (aaa (pv 0) aab))))
   (aah aec)
   aa0)),?_⟩
 refine abi h fun ss Q' q B u=>?_
 refine exS2 ss q fun n es a=>?_
 have m:=a.1
 have p:=a.2.1
 have i:=a.2.2.1
 have g:=a.2.2.2.1
 have o:=a.2.2.2.2.1
 have k:=a.2.2.2.2.2
 clear a q
 show EvS B _ _ [some (.st (webD n es))]
 row_cond go
 refine ⟨n,es,rfl,m,p,i,g,fun b hb=>?_⟩
 have:b=true:=hb.mpr o
 subst this
 row_cond go
 exact k
theorem sc_far_rows:FnScope ["web","tied"] ["web"] (aai s_far_rows):=by row_cond sc
theorem anf (T:Txt K mg):Can P w K mg base "far_rows" 8 ["web"] (spP K (asw)):=by
 obtain ⟨f,fd,D⟩:=T.d_far_rows
 obtain ⟨j,b⟩:=T.o_Grower
 have c:=b.mgx
 have m:=T.n_Grower_held _ c
 refine D.can (D.fn.ok sc_far_rows (fun vs H Q E h=>lenP h fun ss Q' q=>by obtain ⟨n,es,rfl,z,l,d,g,r,k⟩:=q;rfl) (fun cdv A outer s H vs Q E x h=>?_))
 have nd:=sc_far_rows.nd
 refine ⟨_,(aac (abd (aag (aiz T) x (aaa (pv 0) aab)))
  (aac (aan (i:=1) nd rfl (Or.inr rfl) (aag (ae4 T) x (aaa (pv 0) aab)))
  (aah (aas (adp rfl (N:=["place","tied"]) (src:=[none,some 1]) (by exact ab0 rfl rfl rfl rfl rfl rfl) (abm rfl T.b_range (aaa (aak abt (by rfl) T.b_len aca (aaa (pv 1) aab)) aab)) (fun _ _ _ _=>(aao (i:=0) (show List.Nodup (["place","tied"]:List Str) by decide +kernel) rfl (Or.inl rfl) (hf:=Or.inr rfl))) (fun _ _ _ _=>ab9) (fun _ _ _ _=>(aag (agq T) x (aaa (pv 1) (aaa (pv 0) aab))))))))),?_⟩
 refine abi h fun ss Q' q B I=>?_
 refine exS2 ss q fun n es a=>?_
 have z:=a.1
 have l:=a.2.1
 have d:=a.2.2.1
 have g:=a.2.2.2.1
 have r:=a.2.2.2.2.1
 have k:=a.2.2.2.2.2
 clear a q
 show EvS B _ _ [some (.st (webD n es)),none]
 row_cond go
 refine ⟨n,es,rfl,z,l,d,g,r,?_⟩
 row_cond go
 refine ⟨n,es,rfl,by lia,l,d,g,fun tl y _=>?_⟩
 refine adk ajt ?_
 have C:tl.length=n.toNat:=by have:=y.1;lia
 have o:((tlD tl).map PyData.list).length=n.toNat:=by simp [tlD,C]
 row_cond go
 rw [o,show (((n.toNat:Nat):Int)).toNat=n.toNat by lia]
 unfold rngD
 refine adm (fun u:Nat => .list (rowD n.toNat (dsF es (u:Int)))) rfl (by simp;lia) (fun u F G J=>?_) ?_
 ·have p:(u:Int) < n:=by have:=aB8.mp F;lia
  row_cond go
  refine ⟨n,0+(u:Int),Tied es,tl,rfl,l,y,fun u v h=>(h.in d).2,by lia,by lia,acz ⟨?_,rfl⟩⟩
  rw [Int.zero_add,ayi r (by lia) p]
 ·row_cond go
  exact k
theorem sc_most_far:FnScope ["rows"] ["rows"] (aai s_most_far):=by row_cond sc
theorem ang (T:Txt K mg):Can P w K mg base "most_far" 1 ["rows"] (spP K (asx)):=by
 obtain ⟨f,fd,D⟩:=T.d_most_far
 obtain ⟨g,a⟩:=T.o_Grower
 have b:=a.mgx
 have p:=T.n_Grower_held _ b
 refine D.can (D.fn.ok sc_most_far (fun vs H Q E h=>lenP h fun ss Q' q=>by obtain ⟨n,m,rfl,r,z,k⟩:=q;rfl) (fun cdv A outer s H vs Q E R h=>?_))
 have nd:=sc_most_far.nd
 refine ⟨_,(aah (aas (aak (ac7 rfl) (by rfl) T.b_max acb (aaa (adp rfl (N:=["row"]) (src:=[none]) (by exact ab0 rfl rfl rfl rfl rfl rfl) (abz (pv 0)) (fun _ _ _ _=>(aao (i:=0) (show List.Nodup (["row"]:List Str) by decide +kernel) rfl (Or.inl rfl) (hf:=Or.inr rfl))) (fun _ _ _ _=>ab9) (fun _ _ _ _=>(aak (show aa5 _ (.builtin "max") (aez K) from (ac7 rfl)) (by rfl) T.b_max acb (aaa (pv 0) aab)))) aab)))),?_⟩
 refine abi h fun ss Q' q B L=>?_
 refine exS2 ss q fun n m c=>?_
 have r:=c.1
 have z:=c.2.1
 have k:=c.2.2
 clear c q
 show EvS B _ _ [some (.st (.list (matD n m)))]
 obtain ⟨l,d⟩:=ajy r m
 row_cond go
 unfold matD
 refine adm (fun u:Nat => .int (l u)) rfl (by simp;lia) (fun u F G M=>?_) ?_
 ·row_cond go
  rw [ahz]
  exact ael (by simp;lia) fun x o=>⟨by rw [ah0 o (d u)],rfl⟩
 ·row_cond go
  rw [show (List.range n).map (fun u:Nat=>PyData.int (l u))=((List.range n).map l).map .int by rw [aD8];rfl]
  refine ael (by simp;lia) fun x o=>?_
  row_cond go
  refine k x ⟨?_,fun u v J O v0 v1=>?_⟩
  ·obtain ⟨i,hi,e⟩:=aB6.mp o.1
   obtain ⟨j,C,e2⟩:=aB6.mp (d i).1
   exact ⟨i,j,by lia,by have:=aB8.mp hi;lia,by lia,by have:=aB8.mp C;lia,e2.trans e⟩
  ·have y:=(d u.toNat).2 (m ((u.toNat:Nat):Int) ((v.toNat:Nat):Int)) (aB6.mpr ⟨v.toNat,aB8.mpr (by lia),rfl⟩)
   have I:=o.2 (l u.toNat) (aB6.mpr ⟨u.toNat,aB8.mpr (by lia),rfl⟩)
   rw [show ((u.toNat:Nat):Int)=u by lia,show ((v.toNat:Nat):Int)=v by lia] at y
   lia
end
structure FarOk (n:Int) (es:List (Int × Int)) (x a b:Int):Prop where
 top:aqh n.toNat (dsF es) x
 a0:0<=a
 a1:a < n
 b0:0<=b
 b1:b < n
 eq:dsF es a b=x
 fst:∀ u v:Int,0<=u->u < n->0<=v->v < n->dsF es u v=x->a < u\/(a=u/\b<=v)
def aqi:VP:=fun ss Q=>∃ (n:Int) (es:List (Int × Int)),ss=[.st (webD n es)]/\1<=n/\n<=100/\InN n es/\es.length<=10000/\Joined n es/\∀ x a b,FarOk n es x a b->Q (.st (.tuple [.int x,.int a,.int b]))
theorem anh {ns:List Int} {k:Int} (h:k∈ns):∃ j:Nat,ns[j]?=some k/\∀ m:Nat,m < j->ns[m]? ≠ some k:=by
 induction ns with
 | nil=>simp at h
 | cons n ns ih =>
  by_cases e:n=k
  ·exact ⟨0,by rw [e];rfl,fun m hm=>by lia⟩
  ·obtain ⟨j,b,a⟩:=ih ((aA8.mp h).resolve_left fun z=>e z.symm)
   refine ⟨j+1,b,fun m hm=>?_⟩
   cases m with
   | zero=>simpa using e
   | succ m=>exact a m (by lia)
section
variable {P:Program} {w:World} {K:Frag} {mg:Str->Option Value} {base:Heap}
theorem sc_farthest_two:FnScope ["web","rows","far","a"] ["web"] (aai s_farthest_two):=by row_cond sc
theorem aer (T:Txt K mg):Can P w K mg base "farthest_two" 9 ["web"] (spP K (aqi)):=by
 obtain ⟨f,fd,D⟩:=T.d_farthest_two
 obtain ⟨p,m⟩:=T.o_Grower
 have l:=m.mgx
 have M:=T.n_Grower_held _ l
 refine D.can (D.fn.ok sc_farthest_two (fun vs H Q E h=>lenP h fun ss Q' q=>by obtain ⟨n,es,rfl,Z,n1,o,r,hJ,k⟩:=q;rfl) (fun cdv A outer s H vs Q E hr h=>?_))
 have nd:=sc_farthest_two.nd
 refine ⟨_,(aac (aan (i:=1) nd rfl (Or.inl rfl) (aag (anf T) hr (aaa (pv 0) aab)))
  (aac (aan (i:=2) nd rfl (Or.inl rfl) (aag (ang T) hr (aaa (pv 1) aab)))
  (aac (aan (i:=3) nd rfl (Or.inl rfl) (acq PySem.F.plainAttrs_list PySem.F.slot_list_index PySem.F.type_list_index am0 (adp rfl (N:=["row"]) (src:=[none]) (by exact ab0 rfl rfl rfl rfl rfl rfl) (abz (pv 1)) (fun _ _ _ _=>(aao (i:=0) (show List.Nodup (["row"]:List Str) by decide +kernel) rfl (Or.inl rfl) (hf:=Or.inr rfl))) (fun _ _ _ _=>ab9) (fun _ _ _ _=>(aak (show aa5 _ (.builtin "max") (aez K) from (ac7 rfl)) (by rfl) T.b_max acb (aaa (pv 0) aab)))) (aaa (pv 2) aab)))
  (aah (aas (aa6 (aaa (pv 2) (aaa (pv 3) (aaa (acq PySem.F.plainAttrs_list PySem.F.slot_list_index PySem.F.type_list_index am0 (aal aam (pv 1) (pv 3) (fun _ _=>rfl)) (aaa (pv 2) aab)) aab))))))))),?_⟩
 refine abi h fun ss Q' q B hK=>?_
 refine exS2 ss q fun n es c=>?_
 have Z:=c.1
 have n1:=c.2.1
 have o:=c.2.2.1
 have r:=c.2.2.2.1
 have hJ:=c.2.2.2.2.1
 have k:=c.2.2.2.2.2
 clear c q
 show EvS B _ _ [some (.st (webD n es)),none,none,none]
 have hn:1<=n.toNat:=by lia
 obtain ⟨G,d⟩:=ajy hn (dsF es)
 row_cond go
 refine ⟨n,es,rfl,Z,n1,o,r,hJ,adk acp ?_⟩
 row_cond go
 refine ⟨n.toNat,dsF es,rfl,hn,by lia,fun x y=>?_⟩
 have U:x∈(List.range n.toNat).map G:=by
  obtain ⟨⟨u,v,O,u1,v0,v1,e⟩,g⟩:=y
  refine aB6.mpr ⟨u.toNat,aB8.mpr (by lia),?_⟩
  have R:=(d u.toNat).2 (dsF es ((u.toNat:Nat):Int) ((v.toNat:Nat):Int)) (aB6.mpr ⟨v.toNat,aB8.mpr (by lia),rfl⟩)
  rw [show ((u.toNat:Nat):Int)=u by lia,show ((v.toNat:Nat):Int)=v by lia,e] at R
  obtain ⟨j,Y,e2⟩:=aB6.mp (d u.toNat).1
  have:=g u j O u1 (by lia) (by have:=aB8.mp Y;lia)
  rw [show ((u.toNat:Nat):Int)=u by lia] at e2
  lia
 obtain ⟨a,ha,z⟩:=anh U
 have I:a < n.toNat:=by have:=(aA1.mp ha).1;simpa using this
 have S:G a=x:=by
  rw [aA5,aD7 I] at ha
  simpa using ha
 have W:x∈(List.range n.toNat).map fun (i:Nat)=>dsF es (a:Int) (i:Int):=by rw [← S];exact (d a).1
 obtain ⟨b,hb,C⟩:=anh W
 have X:b < n.toNat:=by have:=(aA1.mp hb).1;simpa using this
 have L:dsF es (a:Int) (b:Int)=x:=by
  rw [aA5,aD7 X] at hb
  simpa using hb
 have a0:atI (matD n.toNat (dsF es)) (a:Int)=some (.list (rowD n.toNat (dsF es (a:Int)))):=a0r (by lia) (by lia)
 row_cond go
 unfold matD
 refine adm (fun u:Nat => .int (G u)) rfl (by simp;lia) (fun u hu B' hB=>?_) ?_
 ·row_cond go
  rw [ahz]
  exact ael (by simp;lia) fun x y=>⟨by rw [ah0 y (d u)],rfl⟩
 ·refine ⟨(List.range n.toNat).map G,by rw [aD8];rfl,?_⟩
  row_cond go
  refine ⟨x,a,rfl,ha,z,?_⟩
  row_cond go
  refine ⟨(List.range n.toNat).map fun (i:Nat)=>dsF es (a:Int) (i:Int),by rw [ahz],?_⟩
  row_cond go
  refine ⟨x,b,rfl,hb,C,?_⟩
  row_cond go
  refine k x a b ⟨y,by lia,by lia,by lia,by lia,L,fun u v O u1 v0 v1 e=>?_⟩
  have hu:(a:Int)<=u:=by
   apply aD3
   intro J
   refine z u.toNat (by lia) ?_
   rw [aA5,aD7 (by lia)]
   have R:=(d u.toNat).2 (dsF es ((u.toNat:Nat):Int) ((v.toNat:Nat):Int)) (aB6.mpr ⟨v.toNat,aB8.mpr (by lia),rfl⟩)
   rw [show ((u.toNat:Nat):Int)=u by lia,show ((v.toNat:Nat):Int)=v by lia,e] at R
   obtain ⟨j,Y,e2⟩:=aB6.mp (d u.toNat).1
   have:=y.2 u j O (by lia) (by lia) (by have:=aB8.mp Y;lia)
   rw [show ((u.toNat:Nat):Int)=u by lia] at e2
   simp only [aH6,Option.some.injEq]
   lia
  by_cases hau:(a:Int) < u
  ·exact .inl hau
  ·refine .inr ⟨by lia,?_⟩
   apply aD3
   intro J
   refine C v.toNat (by lia) ?_
   rw [aA5,aD7 (by lia)]
   simp only [aH6,Option.some.injEq]
   rw [show ((v.toNat:Nat):Int)=v by lia,show (a:Int)=u by lia]
   exact e
end
def ace (n:Int):PyData->Bool
 | .tuple [.int a,.int b]=>decide (0<=a/\a<=n - 1) && decide (0<=b/\b<=n - 1) && decide (a < b)
 | _=>false
def afw (n:Int):PyData->Bool
 | .list ds=>ds.all (ace n)
 | _=>false
def a1w:VP:=fun ss Q=>∃ (n:Int) (d:PyData),ss=[.st (.int n),.st d]/\Q (.st (.bool (ace n d)))
def a0s:VP:=fun ss Q=>∃ (n:Int) (d:PyData),ss=[.st (.int n),.st d]/\(∀ ds,d=.list ds->ds.length<=100000)/\Q (.st (.bool (afw n d)))
def avf:VP:=fun ss Q=>∃ (ps:List (Int × Int)),ss=[.st (.list (ps.map prD))]/\ps.length<=100000/\∀ b:Bool,(b=true ↔ Rise ps)->Q (.st (.bool b))
structure PutOk (n:Int) (es fs:List (Int × Int)):Prop where
 inn:∀ p∈fs,0<=p.1/\p.1 < p.2/\p.2 < n
 nd:(es ++ fs).Nodup
def a0t:VP:=fun ss Q=>∃ (n:Int) (es fs:List (Int × Int)),ss=[.st (webD n es),.st (.list (fs.map prD))]/\es.length<=10000/\fs.length<=10000/\PutOk n es fs/\∀ qs,Rise qs->qs.Perm (es ++ fs)->Q (.own (OW (.int n) (qs.map prD)))
section
variable {P:Program} {w:World} {K:Frag} {mg:Str->Option Value} {base:Heap}
theorem sc_is_tie:FnScope ["n","thing","a","b"] ["n","thing"] (aai s_is_tie):=by row_cond sc
theorem aqj (T:Txt K mg):Can P w K mg base "is_tie" 4 ["n","thing"] (spP K (a1w)):=by
 obtain ⟨f,fd,D⟩:=T.d_is_tie
 obtain ⟨m,g⟩:=T.o_Grower
 have j:=g.mgx
 have o:=T.n_Grower_held _ j
 refine D.can (D.fn.ok sc_is_tie (fun vs H Q E h=>lenP h fun ss Q' q=>by obtain ⟨n,d,rfl,k⟩:=q;rfl) (fun cdv A outer s H vs Q E r h=>?_))
 have nd:=sc_is_tie.nd
 refine ⟨_,(aac (abh (PW.pt (avm (aeb (adt (aak afp (by rfl) T.b_isinstance acy (aaa (pv 1) (aaa (agv (v:=.ty "tuple") rfl T.b_tuple atw rfl) aab))))) (aqq (aa1 apf (aak abt (by rfl) T.b_len aca (aaa (pv 1) aab)) aae (aaz _)))))
   (aah (aas afi))
   aa0)
  (aac (ab2 (pv 1) (acv rfl (aa4 (aao (i:=2) nd rfl (Or.inl rfl)) (aa4 (aao (i:=3) nd rfl (Or.inl rfl)) acj))))
  (aah (aas (af8 (aag (aeq T) r (aaa (pv 0) (aaa (pv 2) aab))) (af8 (aag (aeq T) r (aaa (pv 0) (aaa (pv 3) aab))) (af7 (ac5 ak6 (pv 2) (pv 3) (aaz _))))))))),?_⟩
 refine abi h fun ss Q' q B u=>?_
 refine exS2 ss q fun n d l=>?_
 have k:=l
 clear l q
 show EvS B _ _ [some (.st (.int n)),some (.st d),none,none]
 row_cond go
 cases d with
 | tuple xs =>
  refine aji ?_
  row_cond go
  rcases (show xs.length=2\/xs.length ≠ 2 by lia) with p | p
  ·match xs,p with
   | [x,y],_ =>
    row_cond go
    refine ⟨n,x,rfl,?_⟩
    row_cond go
    have c:ace n (.tuple [x,y])=(btwD 0 (n - 1) x && (btwD 0 (n - 1) y && match x,y with | .int a,.int b=>decide (a < b) | _,_=>false)):=by
     cases x <;> cases y <;> simp [ace,btwD,Bool.and_assoc]
    cases hx:btwD 0 (n - 1) x with
    | false =>
     rw [hx,Bool.false_and] at c
     refine acw ?_
     rw [← c];exact k
    | true =>
     refine aci ?_
     row_cond go
     refine ⟨n,y,rfl,?_⟩
     row_cond go
     cases hy:btwD 0 (n - 1) y with
     | false =>
      rw [hx,hy] at c
      refine acw ?_
      rw [show false=ace n (.tuple [x,y]) by rw [c];rfl];exact k
     | true =>
      refine aci ?_
      cases x with
      | int a =>
       cases y with
       | int b =>
        row_cond go
        rw [hx,hy] at c
        rw [show decide (a < b)=ace n (.tuple [.int a,.int b]) by rw [c];rfl];exact k
       | _=>simp [btwD] at hy
      | _=>simp [btwD] at hx
  ·row_cond go
   have:ace n (.tuple xs)=false:=by
    match xs,p with
    | [],_=>rfl
    | [x],_=>cases x <;> rfl
    | [_,_],h=>exact absurd rfl h
    | x :: y :: _ :: _,_=>cases x <;> cases y <;> rfl
   rw [← this];exact k
 | _ =>
  refine ajj ?_
  row_cond go
  exact k
theorem sc_are_ties:FnScope ["n","thing"] ["n","thing"] (aai s_are_ties):=by row_cond sc
theorem ani (T:Txt K mg):Can P w K mg base "are_ties" 5 ["n","thing"] (spP K (a0s)):=by
 obtain ⟨f,fd,D⟩:=T.d_are_ties
 obtain ⟨g,a⟩:=T.o_Grower
 have b:=a.mgx
 have j:=T.n_Grower_held _ b
 refine D.can (D.fn.ok sc_are_ties (fun vs H Q E h=>lenP h fun ss Q' q=>by obtain ⟨n,d,rfl,l,k⟩:=q;rfl) (fun cdv A outer s H vs Q E m h=>?_))
 have nd:=sc_are_ties.nd
 refine ⟨_,(aah (aas (af8 (aak afp (by rfl) T.b_isinstance acy (aaa (pv 1) (aaa (agv (v:=.ty "list") rfl T.b_list ad5 rfl) aab))) (af7 (aak (akj rfl) (by rfl) T.b_all aro (aaa (adp rfl (N:=["tie","n"]) (src:=[none,some 0]) (by exact ab0 rfl rfl rfl rfl rfl rfl) (abz (pv 1)) (fun _ _ _ _=>(aao (i:=0) (show List.Nodup (["tie","n"]:List Str) by decide +kernel) rfl (Or.inl rfl) (hf:=Or.inr rfl))) (fun _ _ _ _=>ab9) (fun _ _ _ _=>(aag (aqj T) m (aaa (pv 1) (aaa (pv 0) aab))))) aab)))))),?_⟩
 refine abi h fun ss Q' q B p=>?_
 refine exS2 ss q fun n d c=>?_
 have l:=c.1
 have k:=c.2
 clear c q
 show EvS B _ _ [some (.st (.int n)),some (.st d)]
 row_cond go
 cases d with
 | list ds =>
  have l:=l ds rfl
  refine aci ?_
  row_cond go
  refine aos (fun t => .bool (ace n t)) rfl (by lia) (fun t _ o r=>?_) ?_
  ·row_cond go
   exact ⟨n,t,rfl,rfl,rfl⟩
  ·row_cond go
   rw [show (ds.map fun t=>PyData.bool (ace n t))=(ds.map (ace n)).map .bool by rw [aD8];rfl]
   refine ao0 ?_
   row_cond go
   rw [show (ds.map (ace n)).all id=afw n (.list ds) by simp [afw,List.all_map]]
   exact k
 | _ =>
  refine acw ?_
  exact k
theorem sc_is_rising:FnScope ["things"] ["things"] (aai s_is_rising):=by row_cond sc
theorem ak4 (T:Txt K mg):Can P w K mg base "is_rising" 1 ["things"] (spP K (avf)):=by
 obtain ⟨f,fd,D⟩:=T.d_is_rising
 obtain ⟨j,a⟩:=T.o_Grower
 have b:=a.mgx
 have m:=T.n_Grower_held _ b
 refine D.can (D.fn.ok sc_is_rising (fun vs H Q E h=>lenP h fun ss Q' q=>by obtain ⟨ps,rfl,r,k⟩:=q;rfl) (fun cdv A outer s H vs Q E u h=>?_))
 have nd:=sc_is_rising.nd
 refine ⟨_,(aah (aas (aak (akj rfl) (by rfl) T.b_all aro (aaa (adp rfl (N:=["at","things"]) (src:=[none,some 0]) (by exact ab0 rfl rfl rfl rfl rfl rfl) (abm rfl T.b_range (aaa (aat aed (aak abt (by rfl) T.b_len aca (aaa (pv 0) aab)) aae) aab)) (fun _ _ _ _=>(aao (i:=0) (show List.Nodup (["at","things"]:List Str) by decide +kernel) rfl (Or.inl rfl) (hf:=Or.inr rfl))) (fun _ _ _ _=>ab9) (fun _ _ _ _=>(ac5 (show OpR _ (compareOp .Lt) (rLtT K) from ay4 u.units0) (aal (show IxR _ (acr K) from aam) (pv 1) (pv 0) (fun _ _=>rfl)) (aal (show IxR _ (acr K) from aam) (pv 1) (aat abe (pv 0) aae) (fun _ _=>rfl)) (aaz _)))) aab)))),?_⟩
 refine abi h fun ss Q' q B y=>?_
 refine exS1 ss q fun ps c=>?_
 have r:=c.1
 have k:=c.2
 clear c q
 show EvS B _ _ [some (.st (.list (ps.map prD)))]
 row_cond go
 rw [aA3]
 row_cond go
 refine aos (fun d=>match d with | .int i => .bool (match ps[i.toNat]?,ps[i.toNat+1]? with | some p,some q=>HT.lexLt (p2 p) (p2 q) | _,_=>false) | _ => .none) rfl (by rw [ack];lia) (fun d hd v z=>?_) ?_
 ·obtain ⟨i,hi⟩:=List.mem_iff_getElem?.mp hd
  obtain ⟨hi,rfl⟩:=ahu hi
  have o:i < ps.length:=by lia
  have n:i+1 < ps.length:=by lia
  have a1:atI (ps.map prD) (0+(i:Int))=some (prD ps[i]):=ago (f:=prD) (act (by lia) (by rw [show (0+(i:Int)).toNat=i by lia];exact aA0 o))
  have x:atI (ps.map prD) (0+(i:Int)+1)=some (prD ps[i+1]):=ago (f:=prD) (act (by lia) (by rw [show (0+(i:Int)+1).toNat=i+1 by lia];exact aA0 n))
  row_cond go
  refine ax1 ?_
  row_cond go
  refine ⟨?_,rfl⟩
  simp [o,n]
 ·row_cond go
  have e:(rngD 0 ((ps.length:Int) - 1).toNat).map (fun d=>match d with | .int i=>PyData.bool (match ps[i.toNat]?,ps[i.toNat+1]? with | some p,some q=>HT.lexLt (p2 p) (p2 q) | _,_=>false) | _ => .none)=((List.range (ps.length - 1)).map fun i=>match ps[i]?,ps[i+1]? with | some p,some q=>HT.lexLt (p2 p) (p2 q) | _,_=>false).map .bool:=by
   unfold rngD
   rw [aD8,aD8,show ((ps.length:Int) - 1).toNat=ps.length - 1 by lia]
   apply aE4
   intro i _
   simp
  rw [e]
  refine ao0 ?_
  row_cond go
  refine k _ ?_
  rw [List.all_map,aE8]
  unfold Rise
  rw [amy ltP (fun h g=>asb h g)]
  constructor
  ·intro h i hi
   have:=h i (aB8.mpr (by lia))
   simp [show i < ps.length by lia,hi] at this
   exact (lex2 _ _).mp this
  ·intro h i hi
   have l:i+1 < ps.length:=by have:=aB8.mp hi;lia
   have:=(lex2 _ _).mpr (h i l)
   simp [show i < ps.length by lia,l,this]
theorem sc_with_ties:FnScope ["web","ties","n","there","every"] ["web","ties"] (aai s_with_ties):=by row_cond sc
theorem af3 (T:Txt K mg):Can P w K mg base "with_ties" 6 ["web","ties"] (spP K (a0t)):=by
 obtain ⟨f,fd,D⟩:=T.d_with_ties
 obtain ⟨g,c⟩:=T.o_Grower
 have d:=c.mgx
 have m:=T.n_Grower_held _ d
 refine D.can (D.fn.ok sc_with_ties (fun vs H Q E h=>lenP h fun ss Q' q=>by obtain ⟨n,es,fs,rfl,x,v,o,k⟩:=q;rfl) (fun cdv A outer s H vs Q E l h=>?_))
 have nd:=sc_with_ties.nd
 refine ⟨_,(aac (ab2 (pv 0) (acv rfl (aa4 (aao (i:=2) nd rfl (Or.inl rfl)) (aa4 (aao (i:=3) nd rfl (Or.inl rfl)) acj))))
  (aac (abh (aeb (adt (aag (ani T) l (aaa (pv 2) (aaa (pv 1) aab)))))
   (aah aec)
   aa0)
  (aac (aan (i:=4) nd rfl (Or.inl rfl) (aak ad1 (by rfl) T.b_sorted ac6 (aaa (aat ah4 (pv 3) (pv 1)) aab)))
  (aac (abh (aeb (adt (aag (ak4 T) l (aaa (pv 4) aab))))
   (aah aec)
   aa0)
  (aah (aas (aa6 (aaa (pv 2) (aaa (pv 4) aab))))))))),?_⟩
 refine abi h fun ss Q' q B y=>?_
 refine exS3 ss q fun n es fs a=>?_
 have x:=a.1
 have v:=a.2.1
 have o:=a.2.2.1
 have k:=a.2.2.2
 clear a q
 show EvS B _ _ [some (.st (webD n es)),some (.st (.list (fs.map prD))),none,none,none]
 row_cond go
 refine ⟨n,_,rfl,fun ds e=>by cases e;rw [aA3];lia,?_⟩
 row_cond go
 have r:afw n (.list (fs.map prD))=true:=by
  show ((fs.map prD).all (ace n))=true
  rw [List.all_map,aE8]
  intro p j
  have:=o.inn p j
  simp [ace,prD];lia
 rw [r]
 row_cond go
 refine ae3 (ps:=es ++ fs) ?_
 row_cond go
 rw [← aE0]
 refine ⟨rfl,fun qs j u=>?_⟩
 have l:Rise qs:=ajv j o.nd u
 refine abc ?_
 dsimp only [List.set_cons_zero,List.set_cons_succ]
 try refine' ajr (by assumption) ?_
 refine aoo (arx (aon (aht (au4 (.inl rfl) (aok ⟨_,_,.inl rfl,acp,qs,rfl,by rw [j.length_eq,aB0];lia,fun b hb=>?_⟩)))))
 row_cond go
 rw [hb.mpr l]
 row_cond go
 exact k qs l j
end
def asz:VP:=fun ss Q=>∃ (a b c:Int),ss=[.st (.int a),.st (.int b),.st (.int c)]/\a<=c/\c<=b/\Q (.st .none)
section
variable {P:Program} {w:World} {K:Frag} {mg:Str->Option Value} {base:Heap}
theorem sc_need_number:FnScope ["least","most","thing"] ["least","most","thing"] (aai s_need_number):=by row_cond sc
theorem ai0 (T:Txt K mg):Can P w K mg base "need_number" 3 ["least","most","thing"] (spP K (asz)):=by
 obtain ⟨f,fd,D⟩:=T.d_need_number
 obtain ⟨j,d⟩:=T.o_Grower
 have g:=d.mgx
 have l:=T.n_Grower_held _ g
 refine D.can (D.fn.ok sc_need_number (fun vs H Q E h=>lenP h fun ss Q' q=>by obtain ⟨a,b,c,rfl,n,m,k⟩:=q;rfl) (fun cdv A outer s H vs Q E o h=>?_))
 have nd:=sc_need_number.nd
 refine ⟨_,(aah (abh (aeb (adt (aag (afg T) o (aaa (pv 0) (aaa (pv 1) (aaa (pv 2) aab))))))
   (aah aec)
   aa0)),?_⟩
 refine abi h fun ss Q' q B p=>?_
 refine exS3 ss q fun a b c i=>?_
 have n:=i.1
 have m:=i.2.1
 have k:=i.2.2
 clear i q
 show EvS B _ _ [some (.st (.int a)),some (.st (.int b)),some (.st (.int c))]
 row_cond go
 refine ⟨a,b,.int c,rfl,?_⟩
 have:btwD a b (.int c)=true:=by simp [btwD];lia
 rw [this]
 row_cond go
 exact k
end
def FarN (n:Int) (es:List (Int × Int)) (d:PyData):Prop:=(Joined n es/\∃ x,aqh n.toNat (dsF es) x/\d=.int x)\/(¬ Joined n es/\d=.none)
structure GW (n:Int) (es:List (Int × Int)):Prop where
 lo:1<=n
 hi:n<=61
 inn:InN n es
 len:es.length<=4000
def as0:VP:=fun ss Q=>∃ (n:Int) (es:List (Int × Int)),ss=[.st (webD n es)]/\GW n es/\∀ d,FarN n es d->Q (.st d)
abbrev gF (n:Int) (es:List (Int × Int)):List (Str × PyData):=[("held",webD n es)]
def ayj (mg:Str->Option Value):VIo:=fun A ss Q=>∃ (C:Addr) (n:Int) (es:List (Int × Int)),mg "Grower" = some (.ref C)/\A=OI C []/\ss=[.st (webD n es)]/\Q (OGW C "held" (.int n) (es.map prD)) (.st .none)
def avg (mg:Str->Option Value):VIo:=fun A ss Q=>∃ (C:Addr) (n m:Int) (es qs:List (Int × Int)),mg "Grower" = some (.ref C)/\A=OI C (gF n es)/\ss=[.st (webD m qs)]/\GW n es/\GW m qs/\∀ d0 d1,FarN n es d0->FarN m qs d1->Q (OI C (gF m qs)) (.st (.tuple [d0,d1]))
def aqk (mg:Str->Option Value):VIo:=fun A ss Q=>∃ (C:Addr) (n a:Int) (es:List (Int × Int)),mg "Grower" = some (.ref C)/\A=OI C (gF n es)/\ss=[.st (.int a)]/\GW n es/\n < 60/\PsOk n es/\es.length<=2500/\0<=a/\a < n/\∀ qs d0 d1,Rise qs->qs.Perm (es ++ [(a,n)])->FarN n es d0->FarN (n+1) qs d1->Q (OI C (gF (n+1) qs)) (.st (.tuple [d0,d1]))
def avh (mg:Str->Option Value):VIo:=fun A ss Q=>∃ (C:Addr) (n a b:Int) (es:List (Int × Int)),mg "Grower" = some (.ref C)/\A=OI C (gF n es)/\ss=[.st (.int a),.st (.int b)]/\GW n es/\PutOk n es [(a,b)]/\es.length<=2500/\∀ qs d0 d1,Rise qs->qs.Perm (es ++ [(a,b)])->FarN n es d0->FarN n qs d1->Q (OI C (gF n qs)) (.st (.tuple [d0,d1]))
theorem as4 {n m a b:Int} {es qs:List (Int × Int)} (h:GW n es) (hm:n<=m) (c:m<=61) (o:es.length<=2500) (i:0<=a) (l:a < m) (j:0<=b) (f:b < m) (d:qs.Perm (es ++ [(a,b)])):GW m qs :=
 ⟨by have:=h.lo;lia,c,fun p g=>by
  rcases aA7.mp (d.mem_iff.mp g) with z | z
  ·have:=h.inn p z
   exact ⟨by lia,by lia,by lia,by lia⟩
  ·cases aC1.mp z
   exact ⟨i,l,j,f⟩,by rw [d.length_eq,aB0];simp;lia⟩
section
variable {P:Program} {w:World} {K:Frag} {mg:Str->Option Value} {base:Heap}
theorem sc_far_or_none:FnScope ["web"] ["web"] (aai s_far_or_none):=by row_cond sc
theorem ae5 (T:Txt K mg):Can P w K mg base "far_or_none" 10 ["web"] (spP K (as0)):=by
 obtain ⟨f,fd,D⟩:=T.d_far_or_none
 obtain ⟨l,c⟩:=T.o_Grower
 have d:=c.mgx
 have m:=T.n_Grower_held _ d
 refine D.can (D.fn.ok sc_far_or_none (fun vs H Q E h=>lenP h fun ss Q' q=>by obtain ⟨n,es,rfl,j,o⟩:=q;rfl) (fun cdv A outer s H vs Q E r h=>?_))
 have nd:=sc_far_or_none.nd
 refine ⟨_,(aah (aas (atd (adt (aag (af2 T) r (aaa (pv 0) aab))) (aal aam (aag (aer T) r (aaa (pv 0) aab)) aae (fun _ _=>rfl)) ads))),?_⟩
 refine abi h fun ss Q' q B y=>?_
 refine exS2 ss q fun n es g=>?_
 have j:=g.1
 have o:=g.2
 clear g q
 show EvS B _ _ [some (.st (webD n es))]
 have hn:=j.lo
 have v:=j.hi
 have i:=j.inn
 have p:=j.len
 row_cond go
 refine ⟨n,es,rfl,hn,by lia,i,by lia,fun b hb=>?_⟩
 cases b with
 | true =>
  row_cond go
  refine ⟨n,es,rfl,hn,by lia,i,by lia,hb.mp rfl,fun x a b u=>?_⟩
  row_cond go
  exact o _ (.inl ⟨hb.mp rfl,x,u.top,rfl⟩)
 | false =>
  row_cond go
  exact o _ (.inr ⟨fun z=>(by have:=hb.mpr z;cases this),rfl⟩)
theorem sc_Grower____init__:FnScope ["self","web","n","ties"] ["self","web"] (aai s_Grower____init__):=by row_cond sc
theorem adg (T:Txt K mg) {a:Addr} (b:mg "Grower" = some (.ref a)):CanM P w K mg base a "__init__" 1 ["self","web"] (spI K (ayj mg)):=by
 obtain ⟨f,fd,D⟩:=T.m_Grower____init__ _ b
 have d:ObAt K mg "Grower" a:=by
  obtain ⟨c,o⟩:=T.o_Grower
  have:=o.mgx.symm.trans b
  cases this
  exact o
 have g:=T.n_Grower_held _ b
 refine D.can (D.fn.ok sc_Grower____init__ (fun vs H Q E h=>lenI h fun A ss Q' q=>by obtain ⟨C,n,es,j,rfl,rfl,l⟩:=q;rfl) (fun cdv A outer s H vs Q E p h=>?_))
 have nd:=sc_Grower____init__.nd
 refine ⟨_,(aac (ab2 (pv 1) (acv rfl (aa4 (aao (i:=2) nd rfl (Or.inl rfl)) (aa4 (aao (i:=3) nd rfl (Or.inl rfl)) acj))))
  (aah (aq2 (pv 0) (aa6 (aaa (pv 2) (aaa (acm aft (by rfl) T.b_list ad5 (aaa (pv 3) aab)) aab))) rfl))),?_⟩
 refine adr h fun A0 ss Q' q B m=>?_
 obtain ⟨C,n,es,j,rfl,rfl,l⟩:=q
 show EvS B _ _ [some (.io (OI C [])),some (.st (webD n es)),none,none]
 obtain rfl:a=C:=by have:=b.symm.trans j;cases this;rfl
 repeat (first | (refine avb d.cl g ?_) | (refine am3 ?_) | row_cond st)
 exact ⟨_,rfl,_,_,_,rfl,rfl,.inr rfl,_,rfl,l⟩
theorem sc_Grower__become:FnScope ["self","grown","before"] ["self","grown"] (aai s_Grower__become):=by row_cond sc
theorem ady (T:Txt K mg) {a:Addr} (b:mg "Grower" = some (.ref a)):CanM P w K mg base a "become" 11 ["self","grown"] (spI K (avg mg)):=by
 obtain ⟨f,fd,D⟩:=T.m_Grower__become _ b
 have d:ObAt K mg "Grower" a:=by
  obtain ⟨c,o⟩:=T.o_Grower
  have:=o.mgx.symm.trans b
  cases this
  exact o
 have g:=T.n_Grower_held _ b
 refine D.can (D.fn.ok sc_Grower__become (fun vs H Q E h=>lenI h fun A ss Q' q=>by obtain ⟨C,n,m,es,qs,l,rfl,rfl,p,j,u⟩:=q;rfl) (fun cdv A outer s H vs Q E r h=>?_))
 have nd:=sc_Grower__become.nd
 refine ⟨_,(aac (aan (i:=2) nd rfl (Or.inl rfl) (aag (ae5 T) r (aaa (aef (pv 0) rfl) aab)))
  (aac (aq2 (pv 0) (pv 1) rfl)
  (aah (aas (aa6 (aaa (pv 2) (aaa (aag (ae5 T) r (aaa (pv 1) aab)) aab))))))),?_⟩
 refine adr h fun A0 ss Q' q B F=>?_
 obtain ⟨C,n,m,es,qs,l,rfl,rfl,p,j,u⟩:=q
 show EvS B _ _ [some (.io (OI C (gF n es))),some (.st (webD m qs)),none]
 obtain rfl:a=C:=by have:=b.symm.trans l;cases this;rfl
 repeat (first | (refine aen (.inr rfl) d.cl g afu ?_) | row_cond st)
 refine ⟨n,es,rfl,p,fun v x=>?_⟩
 repeat (first | (refine ax9 (fs:=gF n es) d.cl g ?_) | row_cond st)
 refine ⟨_,rfl,.inr rfl,Nat.le_of_ble_eq_true rfl,?_⟩
 rw [put1]
 dsimp only [List.set_cons_zero,List.set_cons_succ,reS]
 row_cond go
 refine ⟨m,qs,rfl,j,fun z y=>?_⟩
 row_cond go
 exact u v z x y
theorem sc_Grower__put_place:FnScope ["self","a","n","ties"] ["self","a"] (aai s_Grower__put_place):=by row_cond sc
theorem afh (T:Txt K mg) {d:Addr} (b:mg "Grower" = some (.ref d)):CanM P w K mg base d "put_place" 12 ["self","a"] (spI K (aqk mg)):=by
 obtain ⟨f,fd,D⟩:=T.m_Grower__put_place _ b
 obtain ⟨l,j⟩:=T.v_MOST_PLACES
 have g:ObAt K mg "Grower" d:=by
  obtain ⟨c,o⟩:=T.o_Grower
  have:=o.mgx.symm.trans b
  cases this
  exact o
 have r:=T.n_Grower_held _ b
 refine D.can (D.fn.ok sc_Grower__put_place (fun vs H Q E h=>lenI h fun A ss Q' q=>by obtain ⟨C,n,a,es,M,rfl,rfl,G,z,J,L,a0,a1,O⟩:=q;rfl) (fun cdv A outer s H vs Q E u h=>?_))
 have nd:=sc_Grower__put_place.nd
 refine ⟨_,(aac (abd (aag (acu T) u (aaa (aef (pv 0) rfl) (aaa (pv 1) aab))))
  (aac (ab2 (aef (pv 0) rfl) (acv rfl (aa4 (aao (i:=2) nd rfl (Or.inl rfl)) (aa4 (aao (i:=3) nd rfl (Or.inl rfl)) acj))))
  (aac (abd (aag (ai0 T) u (aaa aae (aaa (aat aed (awa (v:=.int 60) rfl j ⟨_,rfl⟩) aae) (aaa (pv 2) aab)))))
  (aah (aas (aep (ady T b) g.cl u (pv 0) (aaa (aag (af3 T) u (aaa (aa6 (aaa (aat abe (pv 2) aae) (aaa (pv 3) aab))) (aaa (aay (aaa (aa6 (aaa (pv 1) (aaa (pv 2) aab))) aab)) aab))) aab))))))),?_⟩
 refine adr h fun A0 ss Q' q B hK=>?_
 obtain ⟨C,n,a,es,M,rfl,rfl,G,z,J,L,a0,a1,O⟩:=q
 show EvS B _ _ [some (.io (OI C (gF n es))),some (.st (.int a)),none,none]
 obtain rfl:d=C:=by have:=b.symm.trans M;cases this;rfl
 have hn:=G.lo
 have F:PutOk (n+1) es [(a,n)]:=⟨fun p Z=>by cases aC1.mp Z;exact ⟨a0,a1,by simp only;lia⟩,aE3.mpr ⟨J.nd,by simp,fun x X y U e=>by
  cases aC1.mp U
  have:=J.inn x X
  rw [e] at this
  simp only at this
  lia⟩⟩
 repeat (first | (refine aen (.inr rfl) g.cl r afu ?_) | row_cond st)
 refine ⟨n,a,es,rfl,a0,a1,?_⟩
 repeat (first | (refine aa7 (aen (.inr rfl) g.cl r afu ?_)) | row_cond st)
 refine ⟨1,60 - 1,n,rfl,hn,by lia,?_⟩
 repeat (first | (refine aeo (.inr rfl) (afv (by decide +kernel)) ?_) | row_cond st)
 refine ⟨n+1,es,[(a,n)],rfl,by lia,by simp,F,fun qs u N=>ali ?_⟩
 have I:=as4 G (m:=n+1) (by lia) (by lia) L a0 (by lia) (by lia) (by lia) N
 row_cond go
 refine ⟨_,_,rfl,.inr rfl,d,n,n+1,es,qs,b,rfl,rfl,G,I,fun R Y S W=>?_⟩
 exact ⟨_,rfl,O qs R Y u N S W⟩
theorem sc_Grower__put_tie:FnScope ["self","a","b"] ["self","a","b"] (aai s_Grower__put_tie):=by row_cond sc
theorem af6 (T:Txt K mg) {g:Addr} (d:mg "Grower" = some (.ref g)):CanM P w K mg base g "put_tie" 12 ["self","a","b"] (spI K (avh mg)):=by
 obtain ⟨f,fd,D⟩:=T.m_Grower__put_tie _ d
 have i:ObAt K mg "Grower" g:=by
  obtain ⟨c,o⟩:=T.o_Grower
  have:=o.mgx.symm.trans d
  cases this
  exact o
 have l:=T.n_Grower_held _ d
 refine D.can (D.fn.ok sc_Grower__put_tie (fun vs H Q E h=>lenI h fun A ss Q' q=>by obtain ⟨C,n,a,b,es,y,rfl,rfl,r,j,x,F⟩:=q;rfl) (fun cdv A outer s H vs Q E u h=>?_))
 have nd:=sc_Grower__put_tie.nd
 refine ⟨_,(aah (aas (aep (ady T d) i.cl u (pv 0) (aaa (aag (af3 T) u (aaa (aef (pv 0) rfl) (aaa (aay (aaa (aa6 (aaa (pv 1) (aaa (pv 2) aab))) aab)) aab))) aab)))),?_⟩
 refine adr h fun A0 ss Q' q B N=>?_
 obtain ⟨C,n,a,b,es,y,rfl,rfl,r,j,x,F⟩:=q
 show EvS B _ _ [some (.io (OI C (gF n es))),some (.st (.int a)),some (.st (.int b))]
 obtain rfl:g=C:=by have:=d.symm.trans y;cases this;rfl
 have hn:=r.lo
 have L:=r.hi
 have p:=j.inn (a,b) (by simp)
 simp only at p
 repeat (first | (refine aen (.inr rfl) i.cl l afu ?_) | (refine aeo (.inr rfl) (afv (by decide +kernel)) ?_) | row_cond st)
 refine ⟨n,es,[(a,b)],rfl,by lia,by simp,j,fun qs u z=>ali ?_⟩
 have v:=as4 r (m:=n) (by lia) (by lia) x p.1 (by lia) (by lia) p.2.2 z
 row_cond go
 refine ⟨_,_,rfl,.inr rfl,g,n,n,es,qs,d,rfl,rfl,r,v,fun G M I J=>?_⟩
 exact ⟨_,rfl,F qs G M u z I J⟩
end
def a0u (mg:Str->Option Value):VIo:=fun A ss Q=>∃ (C:Addr) (n:Int) (es:List (Int × Int)),mg "Grower" = some (.ref C)/\A=OI C (gF n es)/\ss=[]/\es.length<=10000/\Q (OI C (gF n es)) (.own (OW (.int n) (es.map prD)))
def an3 (mg:Str->Option Value):VIo:=fun A ss Q=>∃ (C:Addr) (n:Int) (es:List (Int × Int)),mg "Grower" = some (.ref C)/\A=OI C (gF n es)/\ss=[]/\GW n es/\Joined n es/\∀ x a b,FarOk n es x a b->Q (OI C (gF n es)) (.st (.tuple [.int x,.int a,.int b]))
def a0v (mg:Str->Option Value):VIo:=fun A ss Q=>∃ (C:Addr) (n a b:Int) (es:List (Int × Int)),mg "Grower" = some (.ref C)/\A=OI C (gF n es)/\ss=[.st (.int a),.st (.int b)]/\GW n es/\0<=a/\a < n/\0<=b/\b < n/\Q (OI C (gF n es)) (.st (oD (Gr.farO (Tied es) a b)))
section
variable {P:Program} {w:World} {K:Frag} {mg:Str->Option Value} {base:Heap}
theorem sc_Grower__web:FnScope ["self","n","ties"] ["self"] (aai s_Grower__web):=by row_cond sc
theorem ai1 (T:Txt K mg) {a:Addr} (b:mg "Grower" = some (.ref a)):CanM P w K mg base a "web" 1 ["self"] (spI K (a0u mg)):=by
 obtain ⟨f,fd,D⟩:=T.m_Grower__web _ b
 have d:ObAt K mg "Grower" a:=by
  obtain ⟨c,o⟩:=T.o_Grower
  have:=o.mgx.symm.trans b
  cases this
  exact o
 have g:=T.n_Grower_held _ b
 refine D.can (D.fn.ok sc_Grower__web (fun vs H Q E h=>lenI h fun A ss Q' q=>by obtain ⟨C,n,es,j,rfl,rfl,m,l⟩:=q;rfl) (fun cdv A outer s H vs Q E r h=>?_))
 have nd:=sc_Grower__web.nd
 refine ⟨_,(aac (ab2 (aef (pv 0) rfl) (acv rfl (aa4 (aao (i:=1) nd rfl (Or.inl rfl)) (aa4 (aao (i:=2) nd rfl (Or.inl rfl)) acj))))
  (aah (aas (aa6 (aaa (pv 1) (aaa (acm aft (by rfl) T.b_list ad5 (aaa (pv 2) aab)) aab)))))),?_⟩
 refine adr h fun A0 ss Q' q B p=>?_
 obtain ⟨C,n,es,j,rfl,rfl,m,l⟩:=q
 show EvS B _ _ [some (.io (OI C (gF n es))),none,none]
 obtain rfl:a=C:=by have:=b.symm.trans j;cases this;rfl
 repeat (first | (refine aa7 (aen (.inr rfl) d.cl g afu ?_)) | (refine am3 ?_) | row_cond st)
 exact ⟨_,rfl,_,rfl,l⟩
theorem sc_Grower__farthest:FnScope ["self"] ["self"] (aai s_Grower__farthest):=by row_cond sc
theorem afx (T:Txt K mg) {d:Addr} (g:mg "Grower" = some (.ref d)):CanM P w K mg base d "farthest" 10 ["self"] (spI K (an3 mg)):=by
 obtain ⟨f,fd,D⟩:=T.m_Grower__farthest _ g
 have i:ObAt K mg "Grower" d:=by
  obtain ⟨c,o⟩:=T.o_Grower
  have:=o.mgx.symm.trans g
  cases this
  exact o
 have j:=T.n_Grower_held _ g
 refine D.can (D.fn.ok sc_Grower__farthest (fun vs H Q E h=>lenI h fun A ss Q' q=>by obtain ⟨C,n,es,m,rfl,rfl,l,r,u⟩:=q;rfl) (fun cdv A outer s H vs Q E z h=>?_))
 have nd:=sc_Grower__farthest.nd
 refine ⟨_,(aah (aas (aag (aer T) z (aaa (aef (pv 0) rfl) aab)))),?_⟩
 refine adr h fun A0 ss Q' q B F=>?_
 obtain ⟨C,n,es,m,rfl,rfl,l,r,u⟩:=q
 show EvS B _ _ [some (.io (OI C (gF n es)))]
 obtain rfl:d=C:=by have:=g.symm.trans m;cases this;rfl
 have hn:=l.lo
 have y:=l.hi
 have p:=l.len
 repeat (first | (refine aen (.inr rfl) i.cl j afu ?_) | row_cond st)
 refine ⟨n,es,rfl,hn,by lia,l.inn,by lia,r,fun x a b v=>?_⟩
 row_cond go
 exact u x a b v
theorem sc_Grower__far:FnScope ["self","a","b"] ["self","a","b"] (aai s_Grower__far):=by row_cond sc
theorem ai2 (T:Txt K mg) {d:Addr} (g:mg "Grower" = some (.ref d)):CanM P w K mg base d "far" 7 ["self","a","b"] (spI K (a0v mg)):=by
 obtain ⟨f,fd,D⟩:=T.m_Grower__far _ g
 have i:ObAt K mg "Grower" d:=by
  obtain ⟨c,o⟩:=T.o_Grower
  have:=o.mgx.symm.trans g
  cases this
  exact o
 have j:=T.n_Grower_held _ g
 refine D.can (D.fn.ok sc_Grower__far (fun vs H Q E h=>lenI h fun A ss Q' q=>by obtain ⟨C,n,a,b,es,m,rfl,rfl,l,a0,a1,b0,b1,r⟩:=q;rfl) (fun cdv A outer s H vs Q E v h=>?_))
 have nd:=sc_Grower__far.nd
 refine ⟨_,(aah (aas (aag (an2 T) v (aaa (aef (pv 0) rfl) (aaa (pv 1) (aaa (pv 2) aab)))))),?_⟩
 refine adr h fun A0 ss Q' q B x=>?_
 obtain ⟨C,n,a,b,es,m,rfl,rfl,l,a0,a1,b0,b1,r⟩:=q
 show EvS B _ _ [some (.io (OI C (gF n es))),some (.st (.int a)),some (.st (.int b))]
 obtain rfl:d=C:=by have:=g.symm.trans m;cases this;rfl
 have u:=l.hi
 have p:=l.len
 repeat (first | (refine aen (.inr rfl) i.cl j afu ?_) | row_cond st)
 refine ⟨n,a,b,es,rfl,by lia,l.inn,by lia,a0,a1,b0,b1,?_⟩
 exact ⟨_,rfl,r⟩
end
structure Dk (H:Hp) (d p:Addr) (i:Int) (qs:List Addr):Prop where
 dd:H d=some (.lst [.ref p,.int i])
 pp:H p=some (.lst (qs.map V.ref))
 ne:qs ≠ []
 le:qs.length<=63
 dp:d ≠ p
 dq:d ∉ qs
 pq:p ∉ qs
 ql:∀ q∈qs,∃ c f k:Int,H q=some (.lst [.int c,.int f,.int k])
def ao7:Sp:=fun vs H Q _=>∃ (d p:Addr) (i many:Int) (qs:List Addr),vs=[.ref d,.int many]/\Dk H d p i qs/\0 < many/\many < 1073741824 /\
 ∀ (r:Int) (H':Hp) (i':Int),0<=r->r < many->Dk H' d p i' qs->(∀ a,a ≠ d->a ∉ qs->H' a=H a)->Q (.int r) H'
theorem Dk.pick {H:Hp} {d p:Addr} {i:Int} {qs:List Addr} (h:Dk H d p i qs) (j:Int):∃ q,q∈qs/\atI (qs.map V.ref) (j % ((qs.map V.ref).length:Int))=some (.ref q):=by
 have c:0 < qs.length:=aF3.mpr h.ne
 have a:=Int.emod_nonneg j (show ((qs.map V.ref).length:Int) ≠ 0 by rw [aA3];lia)
 have b:=aE2 j (show (0:Int) < ((qs.map V.ref).length:Int) by rw [aA3];lia)
 generalize j % ((qs.map V.ref).length:Int)=m at a b
 have hm:m.toNat < qs.length:=by rw [aA3] at b;lia
 exact ⟨qs[m.toNat],List.getElem_mem _,act a (by rw [aA5,aA0 hm];rfl)⟩
theorem Dk.put {H:Hp} {d p q:Addr} {i b:Int} {qs:List Addr} (h:Dk H d p i qs) (a:q∈qs) (c f k:Int):Dk (upd (upd H d (.lst [.ref p,.int b])) q (.lst [.int c,.int f,.int k])) d p b qs:=by
 have g:d ≠ q:=fun e=>h.dq (e ▸ a)
 have j:p ≠ q:=fun e=>h.pq (e ▸ a)
 refine ⟨by rw [aad g,aaf],by rw [aad j,aad h.dp.symm];exact h.pp,h.ne,h.le,h.dp,h.dq,h.pq,fun z hz=>?_⟩
 by_cases e:z=q
 ·subst e;exact ⟨c,f,k,aaf⟩
 ·rw [aad e,aad (show z ≠ d from fun e=>h.dq (e ▸ hz))];exact h.ql z hz
def ODk:Own where
 P:=fun _ H v F=>∃ d p i qs,v=.ref d/\Dk H d p i qs/\∀ b,F b ↔ b=d\/b=p\/b∈qs
 mono:=fun ⟨d,p,i,qs,e,h,f⟩ _ hh=>⟨d,p,i,qs,e,⟨hh d _ ((f d).mpr (.inl rfl)) h.dd,hh p _ ((f p).mpr (.inr (.inl rfl))) h.pp,h.ne,h.le,h.dp,h.dq,h.pq,fun q hq=>by
  obtain ⟨c,g,k,e⟩:=h.ql q hq
  exact ⟨c,g,k,hh q _ ((f q).mpr (.inr (.inr hq))) e⟩⟩,f⟩
 dom:=fun ⟨d,p,i,qs,e,h,f⟩ b z=>by
  rcases (f b).mp z with rfl | rfl | z
  ·exact ⟨_,h.dd⟩
  ·exact ⟨_,h.pp⟩
  ·obtain ⟨c,g,k,e⟩:=h.ql b z
   exact ⟨_,e⟩
theorem ayk {P:Program} {w:World} {K:Frag} {mg:Str->Option Value} {base:Heap} {x:Str} {k:Nat} {ps:List Str} {sp a:Sp} (c:Can P w K mg base x k ps sp) (h:∀ vs H Q E,a vs H Q E->sp vs H Q E):Can P w K mg base x k ps a:=by
 obtain ⟨f,fd,ok,m,kp,b⟩:=c
 exact ⟨f,fd,ok.imp h,m,kp,b⟩
def as6:VIo:=fun A ss Q=>∃ many:Int,A=ODk/\ss=[.st (.int many)]/\0 < many/\many < 1073741824/\∀ r:Int,0<=r->r < many->Q ODk (.st (.int r))
theorem ayl {K:Frag} {vs:List V} {H:Hp} {Q:VK} {E:XK} (h:spI K as6 vs H Q E):ao7 vs H Q E:=by
 obtain ⟨v0,C,G,R,A,ss,F0,Q',rfl,gh,ft,v,ap,fg,fr,w,⟨many,rfl,rfl,n,m,k⟩,l⟩:=h
 obtain ⟨d,p,i,qs,rfl,q,j⟩:=ap
 cases w with
 | cons ha hr =>
  cases hr
  cases (show Rp G _ (.int many) from ha)
  refine ⟨d,p,i,many,qs,rfl,q,n,m,fun r H' u s x b B=>l ODk _ (k r s x) _ G H' F0 (fun _=>False) ?_⟩
  have out:∀ a,¬ F0 a->H' a=H a:=fun a z=>B a (fun e=>z ((j a).mpr (.inl e))) (fun e=>z ((j a).mpr (.inr (.inr e))))
  have g:∀ a,F0 a->(∃ o,H' a=some o)/\∀ xs,H' a ≠ some (.tup xs):=fun a z=>by
   rcases (j a).mp z with rfl | rfl | z
   ·rw [b.dd];exact ⟨⟨_,rfl⟩,fun xs e=>by cases e⟩
   ·rw [b.pp];exact ⟨⟨_,rfl⟩,fun xs e=>by cases e⟩
   ·obtain ⟨c,f,D,e⟩:=b.ql a z
    rw [e];exact ⟨⟨_,rfl⟩,fun xs e=>by cases e⟩
  refine ⟨Same.refl _,fun a o e=>?_,fun a y e=>?_,fun a o e => .inl e,fun a o e=>?_,fun a o e=>?_,⟨d,p,u,qs,rfl,b,j⟩,fun a z => .inl z,fg,⟨.int _,fun a z=>z⟩,fun a z=>z.elim⟩
  ·rw [out a fun z=>by rw [fg a z] at e;cases e];exact gh a o e
  ·by_cases z:F0 a
   ·exact absurd e ((g a z).2 _)
   ·rw [out a z] at e;exact ft a y e
  ·rw [out a fun z=>by rw [fr a z] at e;cases e];exact v a o e
  ·by_cases z:F0 a
   ·exact (g a z).1
   ·rw [out a z];exact ⟨o,e⟩
def as7:VP:=fun ss Q=>∃ ns:List Int,ss=[.scr ns]/\ns.length<=63/\Q (.own ODk)
theorem ao8 {K:Frag} {vs:List V} {H:Hp} {Q:VK} {E:XK} (h:spP K as7 vs H Q E):∃ (a:Addr) (ns:List Int),vs=[.ref a]/\SqL K H a (ns.map V.int)/\ns.length<=63 /\
  ∀ (d p:Addr) (i:Int) (qs:List Addr) (H':Hp),Dk H' d p i qs->(∀ b,b=d\/b=p\/b∈qs->H b=none)->(∀ b,b ≠ d->b ≠ p->b ∉ qs->H' b=H b)->Q (.ref d) H':=by
 obtain ⟨G,ss,Q',gh,ft,q,⟨ns,rfl,hn,k⟩,n⟩:=h
 cases q with
 | cons ha hr =>
  cases hr
  obtain ⟨a,rfl,s⟩:=(show ∃ a,_=V.ref a/\SqL K G a (ns.map V.int) from ha)
  refine ⟨a,ns,rfl,gh.seq s,hn,fun d p i qs H' l g m=>n _ k _ G H' (fun b=>b=d\/b=p\/b∈qs) ?_⟩
  have hh:Same H H':=fun a o e=>by
   rw [m a (fun z=>by rw [g a (.inl z)] at e;cases e) (fun z=>by rw [g a (.inr (.inl z))] at e;cases e) (fun z=>by rw [g a (.inr (.inr z))] at e;cases e)];exact e
  have j:∀ a,a=d\/a=p\/a∈qs->(∃ o,H' a=some o)/\∀ xs,H' a ≠ some (.tup xs):=fun a z=>by
   rcases z with rfl | rfl | z
   ·rw [l.dd];exact ⟨⟨_,rfl⟩,fun xs e=>by cases e⟩
   ·rw [l.pp];exact ⟨⟨_,rfl⟩,fun xs e=>by cases e⟩
   ·obtain ⟨c,f,u,e⟩:=l.ql a z
    rw [e];exact ⟨⟨_,rfl⟩,fun xs e=>by cases e⟩
  refine ⟨Same.refl _,gh.trans hh,hh,fun a o e => .inl e,g,fun a z=>?_,fun a z=>(j a z).1,⟨d,p,i,qs,rfl,l,fun b=>Iff.rfl⟩,fun _ a r e=>?_⟩
  ·cases e:G a with
   | none=>rfl
   | some o=>have:=gh a o e;rw [g a z] at this;cases this
  ·by_cases z:a=d\/a=p\/a∈qs
   ·exact absurd e ((j a z).2 _)
   ·rw [m a (fun y=>z (.inl y)) (fun y=>z (.inr (.inl y))) (fun y=>z (.inr (.inr y)))] at e;exact ft a r e
section
variable {P:Program} {w:World} {K:Frag} {mg:Str->Option Value} {base:Heap}
theorem sc_law_draw:FnScope ["deck","many","pool","found","number"] ["deck","many"] (aai s_law_draw):=by row_cond sc
theorem af4 (T:Txt K mg):Can P w K mg base "_law_draw" 1 ["deck","many"] ao7:=by
 obtain ⟨f,fd,D⟩:=T.d_law_draw
 refine D.can (D.fn.ok sc_law_draw (fun vs H Q E h=>by obtain ⟨d,p,i,many,qs,rfl,b,j,m,k⟩:=h;rfl) (fun cdv A outer s H vs Q E B h=>?_))
 obtain ⟨d,p,i,many,qs,rfl,b,j,m,k⟩:=h
 have nd:=sc_law_draw.nd
 refine ⟨_,(aac (aan (i:=2) nd rfl (Or.inl rfl) (aal aam (aal aam (pv 0) aae (fun _ _=>rfl)) (aat aee (aal aam (pv 0) aae (fun _ _=>rfl)) (aak abt (by rfl) T.b_len aca (aaa (aal aam (pv 0) aae (fun _ _=>rfl)) aab))) (fun _ _=>rfl)))
  (aac (ab2 (aat abe (aal aam (pv 0) aae (fun _ _=>rfl)) aae) (afb (pv 0) aae adh))
  (aac (abh (PW.pt (ah1 (aa1 afj (aal aam (pv 2) aae (fun _ _=>rfl)) aae (aaz _)) (agw (aa1 apg (aal aam (pv 2) aae (fun _ _=>rfl)) aae (aaz _)))))
   (aac (aan (i:=3) nd rfl (Or.inl rfl) (aat aee (aal aam (pv 2) aae (fun _ _=>rfl)) (pv 1)))
    (aac (ab2 (aat ai4 (aal aam (pv 2) aae (fun _ _=>rfl)) (pv 1)) (afb (pv 2) aae adh))
    (aah (aas (pv 3)))))
   aa0)
  (aac (ab2 (aat abe (aal aam (pv 2) aae (fun _ _=>rfl)) aae) (afb (pv 2) aae adh))
  (aac (aan (i:=4) nd rfl (Or.inl rfl) (aat aee (aat abe (aat aee (aal aam (pv 2) aae (fun _ _=>rfl)) aae) (aat aga aae (aal aam (pv 2) aae (fun _ _=>rfl)))) aae))
  (aac (aan (i:=4) nd rfl (Or.inl rfl) (aat aee (aat aga (pv 4) (pv 4)) aae))
  (aac (aan (i:=4) nd rfl (Or.inl rfl) (aat aee (aat aga (pv 4) (aat abe (pv 4) aae)) aae))
  (aah (aas (aat aee (aat ai4 (pv 4) aae) (pv 1))))))))))),?_⟩
 show (_:TS) _ [some (.ref d),some (.int many),none,none,none] H
 obtain ⟨q,g,y⟩:=b.pick i
 obtain ⟨c,f,C,v⟩:=b.ql q g
 have o:=b.dd
 have n:=b.pp
 have u:(0:Int) < ((qs.map V.ref).length:Int):=by have:=aF3.mpr b.ne;rw [aA3];lia
 have z:q ≠ d:=fun e=>b.dq (e ▸ g)
 have fin:∀ (c f k:Int) (a:Addr),a ≠ d->a ∉ qs->upd (upd H d (.lst [.ref p,.int (i+1)])) q (.lst [.int c,.int f,.int k]) a=H a:=fun c f k a x r=>by
  rw [aad (show a ≠ q from fun e=>r (e ▸ g)),aad x]
 row_cond hgo
 refine adu (fun hf=>?_) (fun hf=>?_)
 ·row_cond hgo
  refine adu (fun l=>?_) (fun l=>?_)
  ·row_cond hgo
   exact k _ _ (i+1) (Int.emod_nonneg _ (by lia)) (aE2 _ j) (b.put g _ _ _) (fin _ _ _)
  ·row_cond hgo
   exact k _ _ (i+1) (Int.emod_nonneg _ (by lia)) (aE2 _ j) (b.put g _ _ _) (fin _ _ _)
 ·row_cond hgo
  exact k _ _ (i+1) (Int.emod_nonneg _ (by lia)) (aE2 _ j) (b.put g _ _ _) (fin _ _ _)
theorem aaj (T:Txt K mg):Can P w K mg base "_law_draw" 1 ["deck","many"] (spI K as6):=ayk (af4 T) fun _ _ _ _ h=>ayl h
theorem sc_law_deck:FnScope ["script","pools","k","cell"] ["script"] (aai s_law_deck):=by row_cond sc
theorem anj (T:Txt K mg):Can P w K mg base "_law_deck" 1 ["script"] (spP K as7):=by
 obtain ⟨f,fd,D⟩:=T.d_law_deck
 refine D.can (D.fn.ok sc_law_deck (fun vs H Q E h=>by obtain ⟨a,ns,rfl,B,hn,k⟩:=ao8 h;rfl) (fun cdv A outer s H vs Q E hr h=>?_))
 obtain ⟨a,ns,rfl,B,hn,k⟩:=ao8 h
 have nd:=sc_law_deck.nd
 refine ⟨_,(aac (aan (i:=1) nd rfl (Or.inl rfl) (aay aab))
  (aac (abu aI8 rfl (abm rfl T.b_range (aaa (aak (acg rfl) (by rfl) T.b_max acb (aaa aae (aaa (aak (ach rfl) (by rfl) T.b_min adv (aaa aae (aaa (aak abt (by rfl) T.b_len aca (aaa (pv 0) aab)) aab))) aab))) aab)) (aao (i:=2) nd rfl (Or.inl rfl))
   (aac (aan (i:=3) nd rfl (Or.inl rfl) aae)
    (aac (abh (aa1 ak6 (pv 2) (aak abt (by rfl) T.b_len aca (aaa (pv 0) aab)) (aaz _))
     (aah (aan (i:=3) nd rfl (Or.inl rfl) (aal aam (pv 0) (pv 2) (fun _ _=>rfl))))
     aa0)
    (aah (abd (acq PySem.F.plainAttrs_list PySem.F.slot_list_append PySem.F.type_list_append abv (pv 1) (aaa (aay (aaa (pv 3) (aaa (acm aia (by rfl) T.b_int al2 (aaa (ac5 a02 (pv 3) (aw3 (n:=1000000000000000000) (by decide) (by refine ⟨by decide,by decide,by decide⟩)) (aaz _)) aab)) (aaa (aat aga aae (pv 2)) aab)))) aab)))))))
  (aah (aas (aay (aaa (pv 1) (aaa aae aab))))))),?_⟩
 show (_:TS) _ [some (.ref a),none,none,none] H
 row_cond hgo
 refine ⟨by show 0<=sizeLine;decide,fun p G=>?_⟩
 row_cond hgo
 refine aof ((abb G).seq B) ?_
 rw [aA3]
 row_cond hgo
 refine aoe (by split <;> split <;> lia) (by split <;> split <;> lia) ?_
 refine aqu (fun i σ H2=>∃ (v1 r:Option V) (qs:List Addr),σ=[some (.ref a),some (.ref p),v1,r]/\H2 p=some (.lst (qs.map V.ref))/\qs.length=i/\p ∉ qs/\(∀ q∈qs,H q=none/\∃ c f k:Int,H2 q=some (.lst [.int c,.int f,.int k]))/\∀ b,b ≠ p->b ∉ qs->H2 b=H b)
  ⟨_,_,[],rfl,aaf,rfl,by simp,(fun q m=>nomatch m),fun b hb _=>aad hb⟩ ?_ ?_
 ·rintro i σ H2 hi ⟨v1,r,qs,rfl,j,u,pq,m,x⟩
  have R:i < 63:=by
   revert hi
   split <;> split <;> lia
  have s2:Same H H2:=fun b o e=>by
   rw [x b (fun z=>by rw [z,G] at e;cases e) (fun z=>by rw [(m b z).1] at e;cases e)];exact e
  have fin:∀ (c f k:Int) (q:Addr) (v1 r:Option V),H2 q=none->∃ (M L:Option V) (l:List Addr),[some (V.ref a),some (.ref p),v1,r]=[some (.ref a),some (.ref p),M,L]/\upd (upd H2 q (.lst [.int c,.int f,.int k])) p (.lst (qs.map V.ref ++ [.ref q])) p=some (.lst (l.map V.ref))/\l.length=i+1/\p ∉ l/\(∀ z∈l,H z=none/\∃ c' Z W:Int,upd (upd H2 q (.lst [.int c,.int f,.int k])) p (.lst (qs.map V.ref ++ [.ref q])) z=some (.lst [.int c',.int Z,.int W]))/\∀ b,b ≠ p->b ∉ l->upd (upd H2 q (.lst [.int c,.int f,.int k])) p (.lst (qs.map V.ref ++ [.ref q])) b=H b:=fun c f k q v1 r g=>by
   have C:q ≠ p:=fun e=>by rw [e,j] at g;cases g
   have N:H q=none:=by
    cases e:H q with
    | none=>rfl
    | some o=>rw [s2 q o e] at g;cases g
   refine ⟨v1,r,qs ++ [q],rfl,by rw [aaf,aE0];rfl,by simp [u],fun z=>?_,fun z hz=>?_,fun b hb v=>?_⟩
   ·rcases aA7.mp z with z | z
    ·exact pq z
    ·exact C (aC1.mp z).symm
   ·have X:z ≠ p:=fun e=>by
     subst e
     rcases aA7.mp hz with z | z
     ·exact pq z
     ·exact C (aC1.mp z).symm
    rw [aad X]
    by_cases zq:z=q
    ·subst zq;exact ⟨N,c,f,k,aaf⟩
    ·rw [aad zq]
     exact m z ((aA7.mp hz).resolve_right fun y=>zq (aC1.mp y))
   ·rw [aad hb,aad (show b ≠ q from fun e=>v (aA7.mpr (.inr (aC1.mpr e))))]
    exact x b hb fun z=>v (aA7.mpr (.inl z))
  row_cond hgo
  refine aof (s2.seq B) ?_
  rw [aA3]
  row_cond hgo
  refine adu (fun S=>?_) (fun S=>?_)
  ·have J:i < ns.length:=by lia
   have O:atI (ns.map V.int) (0+(i:Int))=some (.int ns[i]):=act (by lia) (by rw [aA5,show (0+(i:Int)).toNat=i by lia,aA0 J];rfl)
   row_cond hgo
   refine at9 (s2.seq B) O ?_
   row_cond hgo
   refine ⟨by show 3<=sizeLine;decide,fun q g=>?_⟩
   have C:p ≠ q:=fun e=>by rw [← e,j] at g;cases g
   row_cond hgo
   exact fin _ _ _ q _ _ g
  ·row_cond hgo
   refine ⟨by show 3<=sizeLine;decide,fun q g=>?_⟩
   have C:p ≠ q:=fun e=>by rw [← e,j] at g;cases g
   row_cond hgo
   exact fin _ _ _ q _ _ g
 ·rintro σ H2 ⟨v1,r,qs,rfl,j,u,pq,m,x⟩
  have s2:Same H H2:=fun b o e=>by
   rw [x b (fun z=>by rw [z,G] at e;cases e) (fun z=>by rw [(m b z).1] at e;cases e)];exact e
  row_cond hgo
  refine ⟨by show 2<=sizeLine;decide,fun d hd=>?_⟩
  have dp:d ≠ p:=fun e=>by rw [e,j] at hd;cases hd
  have dq:d ∉ qs:=fun z=>by obtain ⟨_,c,f,k,e⟩:=m d z;rw [e] at hd;cases hd
  have I:H d=none:=by
   cases e:H d with
   | none=>rfl
   | some o=>rw [s2 d o e] at hd;cases hd
  refine k d p 0 qs _ ⟨aaf,by rw [aad dp.symm];exact j,?_,?_,dp,dq,pq,fun q z=>?_⟩ ?_ ?_
  ·intro e
   rw [e] at u
   revert u
   simp only [aI1]
   split <;> split <;> lia
  ·rw [u]
   split <;> split <;> lia
  ·rw [aad (show q ≠ d from fun e=>dq (e ▸ z))];exact (m q z).2
  ·rintro b (rfl | rfl | z)
   ·exact I
   ·exact G
   ·exact (m b z).1
  ·intro b b1 Y U
   rw [aad b1];exact x b Y U
end
theorem agr {α β:Type} (f : α->β):∀ (l:List α) (k:Nat),(l.map f).eraseIdx k=(l.eraseIdx k).map f
 | [],_=>rfl
 | _ :: _,0=>rfl
 | a :: l,k+1=>by simp [agr f l k]
theorem a0w {j:Int} {n:Nat} (a:0<=j) (b:j < n):seqIndex? j n=some j.toNat:=by unfold seqIndex?;simp;lia
theorem Dk.frame {H H':Hp} {d p:Addr} {i:Int} {qs:List Addr} (h:Dk H d p i qs) (e:∀ a,a=d\/a=p\/a∈qs->H' a=H a):Dk H' d p i qs :=
 ⟨(e d (.inl rfl)).trans h.dd,(e p (.inr (.inl rfl))).trans h.pp,h.ne,h.le,h.dp,h.dq,h.pq,fun q b=>by rw [e q (.inr (.inr b))];exact h.ql q b⟩
def ank:VIo:=fun A ss Q=>∃ n:Int,A=ODk/\ss=[.st (.int n)]/\0<=n/\n<=61/\∀ row:List Int,Order n row->Q ODk (.own (OL (row.map .int)))
theorem anl {K:Frag} {vs:List V} {H:Hp} {Q:VK} {E:XK} (h:spI K ank vs H Q E):∃ (d p:Addr) (i n:Int) (qs:List Addr),vs=[.ref d,.int n]/\Dk H d p i qs/\0<=n/\n<=61 /\
  ∀ (row:List Int) (l:Addr) (H':Hp) (s:Int),Order n row->Dk H' d p s qs->H l=none->H' l=some (.lst (row.map V.int))->(∀ a o,a ≠ d->a ∉ qs->H a=some o->H' a=some o)->(∀ a xs,H' a=some (.tup xs)->H a=some (.tup xs))->Q (.ref l) H':=by
 obtain ⟨v0,L,G,R,A,ss,F0,Q',rfl,gh,ft,C,ap,fg,fr,D,⟨n,rfl,rfl,B,y,k⟩,x⟩:=h
 obtain ⟨d,p,i,qs,rfl,r,q⟩:=ap
 cases D with
 | cons ha hr =>
  cases hr
  cases (show Rp G _ (.int n) from ha)
  refine ⟨d,p,i,n,qs,rfl,r,B,y,fun row l H' s v j g m J w=>x ODk _ (k row v) _ G H' F0 (fun b=>b=l) ?_⟩
  have out:∀ a o,¬ F0 a->H a=some o->H' a=some o:=fun a o z=>J a o (fun e=>z ((q a).mpr (.inl e))) (fun e=>z ((q a).mpr (.inr (.inr e))))
  have u:G l=none:=by
   cases e:G l with
   | none=>rfl
   | some o=>rw [gh l o e] at g;cases g
  refine ⟨Same.refl _,fun a o e=>?_,fun a F e=>?_,fun a o e => .inl e,fun a o e=>?_,fun a o e=>?_,⟨d,p,s,qs,rfl,j,q⟩,fun a z => .inl z,fg,⟨l,row.map V.int,rfl,m,Rps.ints row,fun b=>Iff.rfl⟩,fun a z=>?_⟩
  ·exact out a o (fun z=>by rw [fg a z] at e;cases e) (gh a o e)
  ·exact ft a F (w a _ e)
  ·exact out a o (fun z=>by rw [fr a z] at e;cases e) (C a o e)
  ·by_cases z:F0 a
   ·rcases (q a).mp z with rfl | rfl | z
    ·exact ⟨_,j.dd⟩
    ·exact ⟨_,j.pp⟩
    ·obtain ⟨c,f,I,e⟩:=j.ql a z
     exact ⟨_,e⟩
   ·exact ⟨o,out a o z e⟩
  ·subst z
   refine ⟨g,u,⟨_,m⟩,fun z=>?_⟩
   rcases (q a).mp z with rfl | rfl | z
   ·rw [r.dd] at g;cases g
   ·rw [r.pp] at g;cases g
   ·obtain ⟨c,f,I,e⟩:=r.ql a z
    rw [e] at g;cases g
section
variable {P:Program} {w:World} {K:Frag} {mg:Str->Option Value} {base:Heap}
theorem sc_law_order:FnScope ["deck","n","left"] ["deck","n"] (aai s_law_order):=by row_cond sc
theorem af5 (T:Txt K mg):Can P w K mg base "_law_order" 2 ["deck","n"] (spI K ank):=by
 obtain ⟨f,fd,D⟩:=T.d_law_order
 refine D.can (D.fn.ok sc_law_order (fun vs H Q E h=>by obtain ⟨d,p,i,n,qs,rfl,I,h1,h2,k⟩:=anl h;rfl) (fun cdv A outer s H vs Q E hr h=>?_))
 obtain ⟨d,p,i,n,qs,rfl,I,h1,h2,k⟩:=anl h
 have nd:=sc_law_order.nd
 refine ⟨_,(aac (aan (i:=2) nd rfl (Or.inr rfl) (amt rfl T.b_list rfl T.b_range rfl (aaa (pv 1) aab)))
  (aah (aas (adp rfl (N:=["k","left","deck"]) (src:=[none,some 2,some 0]) (by exact ab0 rfl rfl rfl rfl rfl rfl) (abm rfl T.b_range (aaa (pv 1) aab)) (fun _ _ _ _=>(aao (i:=0) (show List.Nodup (["k","left","deck"]:List Str) by decide +kernel) rfl (Or.inl rfl) (hf:=Or.inr rfl))) (fun _ _ _ _=>ab9) (fun _ _ _ _=>(show PE _ _ (tBM K "list" alt _ _) from (acq PySem.F.plainAttrs_list PySem.F.slot_list_pop PySem.F.type_list_pop atm (pv 1) (aaa (aag (af4 T) hr (aaa (pv 2) (aaa (aak (show aa5 _ (.builtin "len") (rLen K) from abt) (by rfl) T.b_len aca (aaa (pv 1) aab)) aab))) aab)))))))),?_⟩
 show (_:TS) _ [some (.ref d),some (.int n),none] H
 row_cond hgo
 unfold aiq
 row_cond hgo
 refine ⟨n,rfl,h1,by lia,fun m hm=>?_⟩
 row_cond hgo
 refine aoe (by lia) (by lia) ?_
 intro g b
 have O:∀ a,a=d\/a=p\/a∈qs->∃ o,H a=some o:=fun a z=>by
  rcases z with rfl | rfl | z
  ·exact ⟨_,I.dd⟩
  ·exact ⟨_,I.pp⟩
  ·obtain ⟨c,f,kk,e⟩:=I.ql a z
   exact ⟨_,e⟩
 have S:∀ a,a=d\/a=p\/a∈qs->a ≠ m:=fun a z e=>by
  obtain ⟨o,M⟩:=O a z
  rw [e,hm] at M;cases M
 have U:g ≠ m:=fun e=>by rw [e,aaf] at b;cases b
 rw [aad U] at b
 have R:∀ a,a=d\/a=p\/a∈qs->a ≠ g:=fun a z e=>by
  obtain ⟨o,M⟩:=O a z
  rw [e,b] at M;cases M
 refine att (fun j ys σ H2=>∃ (v:Option V) (row left:List Int) (C:Int),σ=[v,some (.ref m),some (.ref d)]/\ys=row.map V.int/\row.length=j/\Order n (row ++ left)/\H2 m=some (.lst (left.map V.int))/\H2 g=some (.lst ys)/\Dk H2 d p C qs/\∀ a,a ≠ d->a ∉ qs->a ≠ m->a ≠ g->H2 a=H a)
  ⟨_,[],(List.range n.toNat).map fun (i:Nat)=>(i:Int),i,rfl,rfl,rfl,?_,?_,aaf,?_,?_⟩ (fun j ys σ H2 h=>by obtain ⟨v,row,left,C,_,_,_,_,_,e,_⟩:=h;exact e) ?_ ?_
 ·exact Order.id n
 ·rw [aad U.symm,aaf,aD8];rfl
 ·exact I.frame fun a z=>by rw [aad (R a z),aad (S a z)]
 ·intro a _ _ a1 W
  rw [aad W,aad a1]
 ·rintro j ys σ H2 hj ⟨v,row,left,C,rfl,rfl,J,G,x,u,l,q⟩
  have L:left.length=n.toNat - j:=by have:=G.len;simp at this;lia
  have md:m ≠ d:=(S d (.inl rfl)).symm
  have mq:m ∉ qs:=fun z=>S m (.inr (.inr z)) rfl
  have ad:g ≠ d:=(R d (.inl rfl)).symm
  have aq:g ∉ qs:=fun z=>R g (.inr (.inr z)) rfl
  row_cond hgo
  refine ⟨d,p,C,_,qs,rfl,l,by rw [aA3];lia,by rw [aA3];lia,fun r H3 i3 r0 Z X B=>?_⟩
  rw [aA3] at Z
  row_cond hgo
  obtain ⟨y,hy⟩:∃ y,left[r.toNat]?=some y:=⟨_,aA0 (show r.toNat < left.length by lia)⟩
  refine atv (y:=.int y) ((B m md mq).trans x) (by lia) (by lia) (a0w r0 (by rw [aA3];exact Z)) (by rw [aA5,hy];rfl) ?_
  refine ⟨by rw [aad U];exact (B g ad aq).trans u,aet (by simp;lia),_,row ++ [y],left.eraseIdx r.toNat,i3,rfl,by simp,by simp [J],ap9 G hy,?_,aaf,?_,?_⟩
  ·rw [aad U.symm,aaf,agr]
  ·exact X.frame fun a z=>by rw [aad (R a z),aad (S a z)]
  ·intro a b1 b2 Y b4
   rw [aad b4,aad Y,B a b1 b2];exact q a b1 b2 Y b4
 ·rintro ys σ H2 ⟨v,row,left,C,rfl,rfl,J,G,x,u,l,q⟩
  have L:left=[]:=by have:=G.len;simp at this;exact List.length_eq_zero_iff.mp (by lia)
  subst L
  rw [aE5] at G
  row_cond hgo
  refine k row g H2 C G l b u (fun a o a1 W e=>?_) fun a xs e=>?_
  ·rw [q a a1 W (fun z=>by rw [z,hm] at e;cases e) (fun z=>by rw [z,b] at e;cases e)];exact e
  ·rw [← q a (fun z=>?_) (fun z=>?_) (fun z=>?_) (fun z=>?_)]
   ·exact e
   ·rw [z,l.dd] at e;cases e
   ·obtain ⟨c,f,kk,e2⟩:=l.ql a z
    rw [e2] at e;cases e
   ·rw [z,x] at e;cases e
   ·rw [z,u] at e;cases e
end
def as8:VIo:=fun A ss Q=>A=ODk/\ss=[]/\∀ (n:Int) (es:List (Int × Int)),1<=n->n<=60->PsOk n es->es.length<=1900->Q ODk (.st (webD n es))
def mmP (p:Int × Int):Int × Int:=if p.2 < p.1 then (p.2,p.1) else p
theorem a0x {p:Int × Int} {x y:Int} (b:apw [p.1,p.2] x) (a:ada [p.1,p.2] y):mmP p=(x,y):=by
 have a1:=b.2 p.1 (by simp)
 have g:=b.2 p.2 (by simp)
 have f:=a.2 p.1 (by simp)
 have h:=a.2 p.2 (by simp)
 have c:=b.1
 have d:=a.1
 simp only [aA8,List.not_mem_nil,or_false] at c d
 unfold mmP
 split
 ·exact Prod.ext (by show p.2=x;lia) (by show p.1=y;lia)
 ·exact Prod.ext (by lia) (by lia)
def ixR (row:List Int) (p:Int × Int):Int × Int:=(aba row p.1,aba row p.2)
theorem a1x {n:Int} {row:List Int} {c:List (Int × Int)} (g:Order n row) (h:PsOk n c):(c.map (ixR row)).map mmP=c.map (reP row):=by
 rw [aD8]
 refine aE4 fun p f=>?_
 have:=h.inn p f
 have d:=g.ne (a:=p.1) (b:=p.2) (by lia) (by lia) (by lia) (by lia) (by lia)
 show mmP (aba row p.1,aba row p.2)=reP row p
 unfold mmP reP
 by_cases h1:aba row p.1 < aba row p.2
 ·rw [aF0 (by simp only;lia),aE9 h1]
 ·rw [aE9 (by simp only;lia),aF0 h1]
theorem as9 {n:Int} {ps qs:List (Int × Int)} (h:PsOk n ps) (g:PsOk n qs) (d:∀ p∈ps,∀ q∈qs,p ≠ q):PsOk n (ps ++ qs) :=
 ⟨aE3.mpr ⟨h.nd,g.nd,d⟩,fun p a=>by
  rcases aA7.mp a with z | z
  ·exact h.inn p z
  ·exact g.inn p z⟩
theorem ata {l:List Int} (h:∀ x∈l,2<=x):0<=l.sum:=by
 induction l with
 | nil=>simp
 | cons a l ih =>
  have:=h a (by simp)
  have:=ih fun x b=>h x (by simp [b])
  simp;lia
theorem avi {sz:List Int} (h:∀ x∈sz,2<=x) {i:Nat} {x:Int} (b:sz[i]?=some x):(sz.take (i+1)).sum=(sz.take i).sum+x/\(sz.take (i+1)).sum<=sz.sum/\0<=(sz.take i).sum:=by
 refine ⟨by rw [aG8,b];simp,?_,ata fun y a=>h y (aB9 a)⟩
 have:=congrArg List.sum (aC0 (i+1) sz)
 rw [List.sum_append] at this
 have:=ata fun y (a:y∈sz.drop (i+1))=>h y (aC3 a)
 lia
section
variable {P:Program} {w:World} {K:Frag} {mg:Str->Option Value} {base:Heap}
theorem sc_law_crowds:FnScope ["deck","sizes","n","row","ties","at","size","a","b"] ["deck"] (aai s_law_crowds):=by row_cond sc
theorem ajz (T:Txt K mg):Can P w K mg base "_law_crowds" 3 ["deck"] (spI K (as8)):=by
 obtain ⟨f,fd,D⟩:=T.d_law_crowds
 obtain ⟨X,I⟩:=T.o_Grower
 have v:=I.mgx
 have a0:=T.n_Grower_held _ v
 refine D.can (D.fn.ok sc_law_crowds (fun vs H Q E h=>lenI h fun A ss Q' q=>by obtain ⟨rfl,rfl,k⟩:=q;rfl) (fun cdv A outer s H vs Q E L h=>?_))
 have nd:=sc_law_crowds.nd
 refine ⟨_,(aac (aan (i:=1) nd rfl (Or.inl rfl) (aal aam (aay (aaa (aay (aaa (aat abe aae (aag (aaj T) L (aaa (pv 0) (aaa aae aab)))) aab)) (aaa (aay (aaa (aat abe aae (aag (aaj T) L (aaa (pv 0) (aaa aae aab)))) (aaa (aat abe aae (aag (aaj T) L (aaa (pv 0) (aaa aae aab)))) aab))) aab))) (aag (aaj T) L (aaa (pv 0) (aaa aae aab))) (fun _ _=>rfl)))
  (aac (aan (i:=2) nd rfl (Or.inl rfl) (aat abe (aak (akd rfl) (by rfl) T.b_sum arn (aaa (pv 1) aab)) (aag (aaj T) L (aaa (pv 0) (aaa (aat aed aae (aak (akd rfl) (by rfl) T.b_sum arn (aaa (pv 1) aab))) aab)))))
  (aac (aan (i:=3) nd rfl (Or.inr rfl) (aag (af5 T) L (aaa (pv 0) (aaa (pv 2) aab))))
  (aac (aan (i:=4) nd rfl (Or.inl rfl) (aay aab))
  (aac (aan (i:=5) nd rfl (Or.inl rfl) aae)
  (aac (abu aI8 rfl (abz (pv 1)) (aao (i:=6) nd rfl (Or.inl rfl))
   (aac (abu aI8 rfl (aes rfl T.b_range (aaa (pv 5) (aaa (aat abe (pv 5) (pv 6)) aab))) (aao (i:=7) nd rfl (Or.inr rfl))
     (aah (abd (acq PySem.F.plainAttrs_list PySem.F.slot_list_extend PySem.F.type_list_extend aq6 (pv 4) (aaa (adp rfl (N:=["b","row","a"]) (src:=[none,some 3,some 7]) (by exact ab0 rfl rfl rfl rfl rfl rfl) (aes rfl T.b_range (aaa (aat abe (pv 7) aae) (aaa (aat abe (pv 5) (pv 6)) aab))) (fun _ _ _ _=>(aao (i:=0) (show List.Nodup (["b","row","a"]:List Str) by decide +kernel) rfl (Or.inl rfl) (hf:=Or.inr rfl))) (fun _ _ _ _=>ab9) (fun _ _ _ _=>(aa6 (aaa (aal (show IxR _ (acr K) from aam) (pv 1) (pv 2) (fun _ _=>rfl)) (aaa (aal (show IxR _ (acr K) from aam) (pv 1) (pv 0) (fun _ _=>rfl)) aab))))) aab)))))
    (aah (aan (i:=5) nd rfl (Or.inl rfl) (aat abe (pv 5) (pv 6))))))
  (aac (abu aI8 rfl (aes rfl T.b_range (aaa (pv 5) (aaa (pv 2) aab))) (aao (i:=8) nd rfl (Or.inl rfl))
   (aah (abh (aa1 apg (aag (aaj T) L (aaa (pv 0) (aaa aae aab))) aae (aaz _))
     (aah (abd (acq PySem.F.plainAttrs_list PySem.F.slot_list_append PySem.F.type_list_append abv (pv 4) (aaa (aa6 (aaa (aal aam (pv 3) (aag (aaj T) L (aaa (pv 0) (aaa (pv 8) aab))) (fun _ _=>rfl)) (aaa (aal aam (pv 3) (pv 8) (fun _ _=>rfl)) aab))) aab))))
     aa0)))
  (aah (aas (aa6 (aaa (pv 2) (aaa (aak ad1 (by rfl) T.b_sorted ac6 (aaa (adp rfl (N:=["tie"]) (src:=[none]) (by exact ab0 rfl rfl rfl rfl rfl rfl) (abz (pv 4)) (fun _ _ _ _=>(aao (i:=0) (show List.Nodup (["tie"]:List Str) by decide +kernel) rfl (Or.inl rfl) (hf:=Or.inr rfl))) (fun _ _ _ _=>ab9) (fun _ _ _ _=>(aa6 (aaa (aak (show aa5 _ (.builtin "min") (ale K) from (art rfl)) (by rfl) T.b_min adv (aaa (pv 0) aab)) (aaa (aak (show aa5 _ (.builtin "max") (aez K) from (ac7 rfl)) (by rfl) T.b_max acb (aaa (pv 0) aab)) aab))))) aab)) aab)))))))))))),?_⟩
 refine adr h fun A0 ss Q' q B hK=>?_
 obtain ⟨rfl,rfl,k⟩:=q
 show EvS B _ _ [some (.io ODk),none,none,none,none,none,none,none,none]
 row_cond go
 refine ⟨11,rfl,rfl,by lia,by lia,fun r1 b8 c6=>?_⟩
 row_cond go
 refine ⟨15,rfl,rfl,by lia,by lia,fun r2 c5 c3=>?_⟩
 row_cond go
 refine ⟨15,rfl,rfl,by lia,by lia,fun r3 b4 b3=>?_⟩
 row_cond go
 refine ⟨2,rfl,rfl,by lia,by lia,fun r4 c4 c7=>?_⟩
 obtain ⟨sz,J,U,a9,a8⟩:∃ sz:List Int,atI [PyData.list [.int (12+r1)],.list [.int (2+r2),.int (2+r3)]] r4=some (.list (sz.map .int))/\(∀ x∈sz,2<=x)/\(2<=sz.sum/\sz.sum<=32)/\sz.length<=2:=by
  rcases (show r4=0\/r4=1 by lia) with rfl | rfl
  ·exact ⟨[12+r1],rfl,fun x S=>by simp at S;lia,by simp;lia,by simp⟩
  ·exact ⟨[2+r2,2+r3],rfl,fun x S=>by simp at S;lia,by simp;lia,by simp⟩
 row_cond go
 refine aow rfl ?_
 row_cond go
 refine aow rfl ?_
 row_cond go
 refine ⟨61 - sz.sum,rfl,rfl,by lia,by lia,fun r5 c2 c0=>?_⟩
 row_cond go
 refine ⟨sz.sum+r5,rfl,rfl,by lia,by lia,fun row M=>adk acp ?_⟩
 obtain ⟨n,hn,b6,a2⟩:∃ n,n=sz.sum+r5/\sz.sum<=n/\n<=60:=⟨_,rfl,by lia,by lia⟩
 rw [← hn] at M
 rw [← hn]
 have J:∀ j:Int,0<=j->j < n->∃ x,atI (row.map PyData.int) j=some (.int x)/\0<=x/\x < n/\x=aba row j:=fun j Z j1=>⟨aba row j,act Z (by rw [aA5,(M.at Z j1).1];rfl),(M.at Z j1).2.1,(M.at Z j1).2.2,rfl⟩
 row_cond go
 refine ac1 (fun i e=>∃ O G C ps,e=[some (.io ODk),some (.st (.list (sz.map .int))),some (.st (.int n)),some (.st (.list (row.map .int))),some (.own (OL ((ps.map (ixR row)).map prD))),some (.st (.int (sz.take i).sum)),O,G,C]/\PsOk n ps/\(ps.length:Int)<=32 * (sz.take i).sum/\∀ p∈ps,p.2 < (sz.take i).sum) ⟨none,none,none,[],rfl,PsOk.nil n,by simp,fun p l=>by cases l⟩ ?_ ?_
 ·rintro i x e S g
  refine exS4 e g fun O G C ps d=>?_
  have o:=d.1
  have r:=d.2.1
  have m:=d.2.2
  clear d g
  have b5:=U x (aA2 S)
  obtain ⟨t1,t2,t3⟩:=avi U S
  rw [t1] at t2
  rw [t1]
  generalize (sz.take i).sum=c at r t2 t3 m
  row_cond go
  refine aby (fun j e=>∃ G C ps,e=[some (.io ODk),some (.st (.list (sz.map .int))),some (.st (.int n)),some (.st (.list (row.map .int))),some (.own (OL ((ps.map (ixR row)).map prD))),some (.st (.int c)),some (.st (.int x)),G,C]/\PsOk n ps/\(ps.length:Int)<=32 * (c+j)/\∀ p∈ps,p.1 < c+(j:Int)/\p.2 < c+x) ⟨_,_,ps,rfl,o,by simpa using r,fun p l=>by have:=m p l;have:=o.inn p l;lia⟩ ?_ ?_
  ·clear o r m ps
   rintro j e hj g
   refine exS3 e g fun G C ps d=>?_
   have o:=d.1
   have r:=d.2.1
   have m:=d.2.2
   clear d g
   have b2:c+(j:Int) < c+x:=by lia
   obtain ⟨xa,ea,b1,b9,a7⟩:=J (c+(j:Int)) (by lia) (by lia)
   row_cond go
   unfold rngD
   refine adm (fun u:Nat=>prD (xa,aba row (c+(j:Int)+1+(u:Int)))) rfl (by simp;lia) (fun u R B' hB=>?_) ?_
   ·have W:=aB8.mp R
    have hb:=M.at (a:=c+(j:Int)+1+(u:Int)) (by lia) (by lia)
    have eb:atI (row.map PyData.int) (c+(j:Int)+1+(u:Int))=some (.int (aba row (c+(j:Int)+1+(u:Int)))):=act (by lia) (by rw [aA5,hb.1];rfl)
    row_cond go
    rfl
   ·refine ⟨_,_,rfl,rfl,by simp;lia,?_⟩
    dsimp only [List.set_cons_zero,List.set_cons_succ]
    subst a7
    refine ⟨_,_,ps ++ (List.range (c+x - (c+(j:Int)+1)).toNat).map fun u:Nat=>(c+(j:Int),c+(j:Int)+1+(u:Int)),by simp only [aE0,aD8];rfl,as9 o ⟨?_,fun p l=>?_⟩ fun p l q Y e=>?_,by simp;lia,fun p l=>?_⟩
    ·exact aF5.mpr (List.nodup_range.imp fun {a b} h e=>h (by have:=congrArg Prod.snd e;simp only at this;lia))
    ·obtain ⟨u,R,rfl⟩:=aB6.mp l
     have W:=aB8.mp R
     exact ⟨by simp only;lia,by simp only;lia,by simp only;lia⟩
    ·obtain ⟨u,R,rfl⟩:=aB6.mp Y
     have:=m p l
     rw [e] at this
     simp only at this
     lia
    ·rcases aA7.mp l with z | z
     ·have:=m p z
      lia
     ·obtain ⟨u,R,rfl⟩:=aB6.mp z
      have W:=aB8.mp R
      exact ⟨by simp only;lia,by simp only;lia⟩
  ·clear o r m ps
   rintro e g
   refine exS3 e g fun G C ps d=>?_
   have o:=d.1
   have r:=d.2.1
   have m:=d.2.2
   clear d g
   row_cond go
   exact ⟨_,_,_,ps,rfl,o,by lia,fun p l=>(m p l).2⟩
 ·rintro e g
  refine exS4 e g fun O G C ps d=>?_
  have o:=d.1
  have r:=d.2.1
  have m:=d.2.2
  clear d g
  rw [aG2] at r m ⊢
  row_cond go
  refine aby (fun j e=>∃ O G C ps,e=[some (.io ODk),some (.st (.list (sz.map .int))),some (.st (.int n)),some (.st (.list (row.map .int))),some (.own (OL ((ps.map (ixR row)).map prD))),some (.st (.int sz.sum)),O,G,C]/\PsOk n ps/\(ps.length:Int)<=1024+j/\∀ p∈ps,p.2 < sz.sum+(j:Int)) ⟨_,_,_,ps,rfl,o,by lia,fun p l=>by have:=m p l;lia⟩ ?_ ?_
  ·clear o r m ps
   rintro j e hj g
   refine exS4 e g fun O G C ps d=>?_
   have o:=d.1
   have r:=d.2.1
   have m:=d.2.2
   clear d g
   obtain ⟨xb,eb,b0,c1,a4⟩:=J (sz.sum+(j:Int)) (by lia) (by lia)
   row_cond go
   refine ⟨5,rfl,rfl,by lia,by lia,fun q qa qb=>?_⟩
   row_cond go
   refine adu (fun Y=>?_) (fun Y=>?_)
   ·row_cond go
    refine ⟨sz.sum+(j:Int),rfl,rfl,by lia,by lia,fun y ya yb=>?_⟩
    obtain ⟨xy,ey,b7,c8,a3⟩:=J y ya (by lia)
    row_cond go
    subst a3 a4
    refine ⟨_,_,_,ps ++ [(y,sz.sum+(j:Int))],by rw [aE0,aE0];rfl,as9 o ⟨by simp,fun p l=>by cases aC1.mp l;exact ⟨by simp only;lia,by simp only;lia,by simp only;lia⟩⟩ fun p l q Y e=>?_,by simp;lia,fun p l=>?_⟩
    ·cases aC1.mp Y
     have:=m p l
     rw [e] at this
     simp only at this
     lia
    ·rcases aA7.mp l with z | z
     ·have:=m p z
      push_cast
      lia
     ·cases aC1.mp z
      simp only
      push_cast
      lia
   ·row_cond go
    exact ⟨_,_,_,ps,rfl,o,by push_cast;lia,fun p l=>by have:=m p l;push_cast;lia⟩
  ·clear o r m ps
   rintro e g
   refine exS4 e g fun O G C ps d=>?_
   have o:=d.1
   have r:=d.2.1
   have m:=d.2.2
   clear d g
   row_cond go
   refine ae3 (ps:=ps.map (reP row)) ?_
   row_cond go
   refine adm (xs:=ps.map (ixR row)) (fun p:Int × Int=>prD (mmP p)) rfl (by rw [aA3];lia) (fun p l B' hB=>?_) ?_
   ·row_cond go
    refine auu (ns:=[p.1,p.2]) rfl (by simp) fun m1 a5=>?_
    row_cond go
    refine aut (ns:=[p.1,p.2]) rfl (by simp) fun m2 a6=>?_
    row_cond go
    exact ⟨by rw [a0x a5 a6],rfl⟩
   ·row_cond go
    refine ⟨by rw [← a1x M o];simp only [aD8];rfl,fun qs l hs=>acz ?_⟩
    row_cond go
    have hR:=o.re M
    exact k n qs (by lia) a2 ⟨l.nodup_iff.mpr hR.nd,fun p a1=>hR.inn p (l.mem_iff.mp a1)⟩ (by rw [l.length_eq,aA3];lia)
end
section
variable {P:Program} {w:World} {K:Frag} {mg:Str->Option Value} {base:Heap}
theorem sc_law_web:FnScope ["deck","n","row","kind","ties","k","heads","head","a","b"] ["deck"] (aai s_law_web):=by row_cond sc
theorem ahm (T:Txt K mg):Can P w K mg base "_law_web" 4 ["deck"] (spI K (as8)):=by
 obtain ⟨f,fd,D⟩:=T.d_law_web
 obtain ⟨S,C⟩:=T.o_Grower
 have y:=C.mgx
 have a0:=T.n_Grower_held _ y
 refine D.can (D.fn.ok sc_law_web (fun vs H Q E h=>lenI h fun A ss Q' q=>by obtain ⟨rfl,rfl,k⟩:=q;rfl) (fun cdv A outer s H vs Q E c h=>?_))
 have nd:=sc_law_web.nd
 refine ⟨_,(aac (abh (aa1 afj (aag (aaj T) c (aaa (pv 0) (aaa aae aab))) aae (aaz _))
   (aah (aas (aag (ajz T) c (aaa (pv 0) aab))))
   aa0)
  (aac (aan (i:=1) nd rfl (Or.inl rfl) (aat abe aae (aag (aaj T) c (aaa (pv 0) (aaa (aal aam (aay (aaa aae (aaa aae (aaa aae (aaa aae aab))))) (aag (aaj T) c (aaa (pv 0) (aaa aae aab))) (fun _ _=>rfl)) aab)))))
  (aac (aan (i:=2) nd rfl (Or.inl rfl) (aal aam (aay (aaa (amt rfl T.b_list rfl T.b_range rfl (aaa (pv 1) aab)) (aaa (aag (af5 T) c (aaa (pv 0) (aaa (pv 1) aab))) aab))) (aag (aaj T) c (aaa (pv 0) (aaa aae aab))) (fun _ _=>rfl)))
  (aac (aan (i:=3) nd rfl (Or.inl rfl) (aag (aaj T) c (aaa (pv 0) (aaa aae aab))))
  (aac (aan (i:=4) nd rfl (Or.inl rfl) alw)
  (aac (abu aI8 rfl (aes rfl T.b_range (aaa aae (aaa (pv 1) aab))) (aao (i:=5) nd rfl (Or.inl rfl))
   (aac (aan (i:=6) nd rfl (Or.inl rfl) (aay (aaa (aat aed (pv 5) aae) (aaa (aag (aaj T) c (aaa (pv 0) (aaa (pv 5) aab))) (aaa (aak (acg rfl) (by rfl) T.b_max acb (aaa aae (aaa (aat aed (aat aed (pv 5) aae) (aag (aaj T) c (aaa (pv 0) (aaa aae aab)))) aab))) (aaa aae (aaa (aat ai4 (pv 5) aae) aab)))))))
    (aac (aan (i:=7) nd rfl (Or.inl rfl) (aal aam (aat ah4 (pv 6) (aay (aaa (aag (aaj T) c (aaa (pv 0) (aaa (aak (ach rfl) (by rfl) T.b_min adv (aaa (pv 5) (aaa aae aab))) aab))) aab))) (pv 3) (fun _ _=>rfl)))
    (aah (ag3 (ado c) (pv 4) (aa6 (aaa (aak (ach rfl) (by rfl) T.b_min adv (aaa (aal aam (pv 2) (pv 5) (fun _ _=>rfl)) (aaa (aal aam (pv 2) (pv 7) (fun _ _=>rfl)) aab))) (aaa (aak (acg rfl) (by rfl) T.b_max acb (aaa (aal aam (pv 2) (pv 5) (fun _ _=>rfl)) (aaa (aal aam (pv 2) (pv 7) (fun _ _=>rfl)) aab))) aab))) afi rfl)))))
  (aac (abh (PW.pt (ah1 (aa1 afj (aag (aaj T) c (aaa (pv 0) (aaa aae aab))) aae (aaz _)) (agw (aa1 apg (pv 1) aae (aaz _)))))
   (aah (ag3 (ado c) (pv 4) (aa6 (aaa (aak (ach rfl) (by rfl) T.b_min adv (aaa (aal aam (pv 2) aae (fun _ _=>rfl)) (aaa (aal aam (pv 2) (avr aqv aae) (fun _ _=>rfl)) aab))) (aaa (aak (acg rfl) (by rfl) T.b_max acb (aaa (aal aam (pv 2) aae (fun _ _=>rfl)) (aaa (aal aam (pv 2) (avr aqv aae) (fun _ _=>rfl)) aab))) aab))) afi rfl))
   aa0)
  (aac (abu aI8 rfl (abm rfl T.b_range (aaa (aal aam (aay (aaa aae (aaa (aag (aaj T) c (aaa (pv 0) (aaa aae aab))) (aaa (aag (aaj T) c (aaa (pv 0) (aaa (aat abe (pv 1) aae) aab))) (aaa (aag (aaj T) c (aaa (pv 0) (aaa (aat aga aae (pv 1)) aab))) aab))))) (aag (aaj T) c (aaa (pv 0) (aaa aae aab))) (fun _ _=>rfl)) aab)) (aao (i:=5) nd rfl (Or.inl rfl))
   (aac (aan (i:=8) nd rfl (Or.inl rfl) (aag (aaj T) c (aaa (pv 0) (aaa (pv 1) aab))))
    (aac (aan (i:=9) nd rfl (Or.inl rfl) (aag (aaj T) c (aaa (pv 0) (aaa (pv 1) aab))))
    (aah (abh (aa1 apf (pv 8) (pv 9) (aaz _))
     (aah (ag3 (ado c) (pv 4) (aa6 (aaa (aak (ach rfl) (by rfl) T.b_min adv (aaa (pv 8) (aaa (pv 9) aab))) (aaa (aak (acg rfl) (by rfl) T.b_max acb (aaa (pv 8) (aaa (pv 9) aab))) aab))) afi rfl))
     aa0)))))
  (aac (abu aI8 rfl (abm rfl T.b_range (aaa (aal aam (aay (aaa aae (aaa aae (aaa (aag (aaj T) c (aaa (pv 0) (aaa aae aab))) (aaa (aag (aaj T) c (aaa (pv 0) (aaa (aat abe (pv 1) aae) aab))) aab))))) (aag (aaj T) c (aaa (pv 0) (aaa aae aab))) (fun _ _=>rfl)) aab)) (aao (i:=5) nd rfl (Or.inl rfl))
   (aah (abh (aa1 (a0k c.units) (pv 4) alw (aaz _))
     (aah (abd (au7 (ado c) (pv 4) (aal aam (aak (ahj rfl) (by rfl) T.b_sorted ac6 (aaa (pv 4) aab)) (aag (aaj T) c (aaa (pv 0) (aaa (aak asi (by rfl) T.b_len aca (aaa (pv 4) aab)) aab))) (fun _ _=>rfl)) ⟨rfl,rfl,rfl,rfl⟩)))
     aa0)))
  (aah (aas (aa6 (aaa (pv 1) (aaa (aak (ahj rfl) (by rfl) T.b_sorted ac6 (aaa (pv 4) aab)) aab)))))))))))))),?_⟩
 refine adr h fun A0 ss Q' q B hK=>?_
 obtain ⟨rfl,rfl,k⟩:=q
 show EvS B _ _ [some (.io ODk),none,none,none,none,none,none,none,none,none]
 row_cond go
 refine ⟨8,rfl,rfl,by lia,by lia,fun r0 e4 h1=>?_⟩
 row_cond go
 refine adu (fun a6=>?_) (fun a6=>?_)
 ·row_cond go
  exact ⟨rfl,rfl,fun n es W n1 d z=>⟨ODk,rfl,k n es W n1 d z⟩⟩
 ·row_cond go
  refine ⟨4,rfl,rfl,by lia,by lia,fun O e7 g2=>?_⟩
  obtain ⟨M,f2,h0,g4⟩:∃ M:Int,atI [PyData.int 4,PyData.int 12,PyData.int 12,PyData.int 60] O=some (.int M)/\4<=M/\M<=60:=by
   rcases (show O=0\/O=1\/O=2\/O=3 by lia) with rfl | rfl | rfl | rfl
   ·exact ⟨4,rfl,by lia,by lia⟩
   ·exact ⟨12,rfl,by lia,by lia⟩
   ·exact ⟨12,rfl,by lia,by lia⟩
   ·exact ⟨60,rfl,by lia,by lia⟩
  row_cond go
  refine ⟨M,rfl,rfl,by lia,by lia,fun r2 f9 f5=>?_⟩
  row_cond go
  obtain ⟨n,hn,W,n1⟩:∃ n,1+r2=n/\1<=n/\n<=60:=⟨_,rfl,by lia,by lia⟩
  rw [hn]
  row_cond go
  refine ⟨n,rfl,rfl,by lia,by lia,fun I b7=>acz ?_⟩
  row_cond go
  refine ⟨2,rfl,rfl,by lia,by lia,fun Z d6 d5=>?_⟩
  obtain ⟨row,c0,L⟩:∃ row:List Int,atI [PyData.list (rngD 0 n.toNat),PyData.list (I.map .int)] Z=some (.list (row.map .int))/\Order n row:=by
   rcases (show Z=0\/Z=1 by lia) with rfl | rfl
   ·exact ⟨(List.range n.toNat).map fun (i:Nat)=>(i:Int),by show some _=some _;rw [ax5],Order.id n⟩
   ·exact ⟨I,rfl,b7⟩
  have F:∀ j:Int,0<=j->j < n->∃ x,atI (row.map PyData.int) j=some (.int x)/\0<=x/\x < n/\x=aba row j:=fun j U j1=>⟨aba row j,act U (by rw [aA5,(L.at U j1).1];rfl),(L.at U j1).2.1,(L.at U j1).2.2,rfl⟩
  row_cond go
  refine ⟨6,rfl,rfl,by lia,by lia,fun kind ka kb=>?_⟩
  row_cond go
  rw [a0h]
  refine aby (fun i e=>∃ l u o g v ps,e=[some (.io ODk),some (.st (.int n)),some (.st (.list (row.map .int))),some (.st (.int kind)),some (.own (OT (kE ps))),l,u,o,g,v]/\PsOk n ps/\ps.length<=i) ⟨_,_,_,_,_,[],rfl,PsOk.nil n,aA6 _⟩ ?_ ?_
  ·rintro i e hi b
   refine exS6 e b fun l u o g v ps a=>?_
   have d:=a.1
   have z:=a.2
   clear a b
   have X:1+(i:Int) < n:=by lia
   obtain ⟨xk,ek,g5,c9,a5⟩:=F (1+(i:Int)) (by lia) X
   have J:(kE ps).length<=999999:=by rw [ae2];lia
   row_cond go
   refine ⟨1+(i:Int),rfl,rfl,by lia,by lia,fun d1 d9 d7=>?_⟩
   row_cond go
   refine ⟨3,rfl,rfl,by lia,by lia,fun d2 c3 g0=>?_⟩
   iterate 16 row_cond st
   refine adk acp ?_
   row_cond go
   refine ⟨_,rfl,rfl,by split <;> lia,by split <;> lia,fun d3 f7 b8=>?_⟩
   have c5:d3 < 1+(i:Int):=by split at b8 <;> lia
   obtain ⟨hd,f4,b5,e3⟩:∃ hd:Int,atI ([PyData.int (1+(i:Int) - 1),PyData.int d1,PyData.int (if 1+(i:Int) - 1 - d2 > 0 then 1+(i:Int) - 1 - d2 else 0),PyData.int 0,PyData.int ((1+(i:Int)) / 2)] ++ [PyData.int d3]) kind=some (.int hd)/\0<=hd/\hd < 1+(i:Int):=by
    rcases (show kind=0\/kind=1\/kind=2\/kind=3\/kind=4\/kind=5 by lia) with rfl | rfl | rfl | rfl | rfl | rfl
    ·exact ⟨_,rfl,by lia,by lia⟩
    ·exact ⟨_,rfl,by lia,by lia⟩
    ·exact ⟨_,rfl,by split <;> lia,by split <;> lia⟩
    ·exact ⟨_,rfl,by lia,by lia⟩
    ·exact ⟨_,rfl,by lia,by lia⟩
    ·exact ⟨_,rfl,by lia,by lia⟩
   obtain ⟨xh,eh,c7,f8,b0⟩:=F hd b5 (by lia)
   have a8:xk ≠ xh:=by rw [a5,b0];exact L.ne (by lia) (by lia) (by lia) (by lia) (by lia)
   row_cond go
   rw [amv]
   exact ⟨_,_,_,_,_,_,rfl,d.add (by split <;> lia) (by split <;> split <;> lia) (by split <;> lia),aC9 ahw (by lia)⟩
  ·rintro e b
   refine exS6 e b fun l u o g v ps a=>?_
   have d:=a.1
   have z:=a.2
   clear a b
   have J:(kE ps).length<=999999:=by rw [ae2];lia
   obtain ⟨x0,e0,g9,f1,b4⟩:=F 0 (by lia) (by lia)
   obtain ⟨xl,el,e5,e6,Y⟩:∃ x,atI (row.map PyData.int) (-1)=some (.int x)/\0<=x/\x < n/\x=aba row (n - 1):=by
    obtain ⟨x,ex,x0,x1,a7⟩:=F (n - 1) (by lia) (by lia)
    refine ⟨x,?_,x0,x1,a7⟩
    have hl:(row.map PyData.int).length=n.toNat:=by rw [aA3];exact L.len
    have h2:ixN n.toNat (-1)=some (n.toNat - 1):=by unfold ixN;rw [aF0 (by lia),aE9 (by lia)];congr 1;lia
    have h3:ixN n.toNat (n - 1)=some (n.toNat - 1):=by unfold ixN;rw [aE9 (by lia),aE9 (by lia)];congr 1;lia
    unfold atI at ex ⊢
    rw [hl,h3] at ex
    rw [hl,h2]
    exact ex
   refine' ajr (by assumption) ?_
   refine amn (fun c_ c1=>?_)
   refine au5 (fun e=>∃ ps,e=[some (.io ODk),some (.st (.int n)),some (.st (.list (row.map .int))),some (.st (.int kind)),some (.own (OT (kE ps))),l,u,o,g,v]/\PsOk n ps/\ps.length<=61) ?_ ?_
   ·row_cond go
    refine ⟨4,rfl,rfl,by lia,by lia,fun q qa qb=>?_⟩
    row_cond go
    refine adu (fun h=>?_) (fun h=>?_)
    ·row_cond go
     refine adu (fun h=>?_) (fun h=>?_)
     ·row_cond go
      rw [amv]
      have a8:x0 ≠ xl:=by rw [b4,Y];exact L.ne (by lia) (by lia) (by lia) (by lia) (by lia)
      exact ⟨_,rfl,d.add (by split <;> lia) (by split <;> split <;> lia) (by split <;> lia),aC9 ahw (by lia)⟩
     ·row_cond go
      exact ⟨ps,rfl,d,by lia⟩
    ·row_cond go
     exact ⟨ps,rfl,d,by lia⟩
   ·clear d z J ps
    rintro e b
    refine exS1 e b fun ps a=>?_
    have d:=a.1
    have z:=a.2
    clear a b
    row_cond go
    refine ⟨4,rfl,rfl,by lia,by lia,fun a1 e9 h4=>?_⟩
    row_cond go
    refine ⟨n+1,rfl,rfl,by lia,by lia,fun a2 g7 e1=>?_⟩
    row_cond go
    refine ⟨4 * n,rfl,rfl,by lia,by lia,fun a3 d4 f3=>?_⟩
    row_cond go
    refine ⟨4,rfl,rfl,by lia,by lia,fun R c6 c2=>?_⟩
    obtain ⟨m,em,m0,m1⟩:∃ m:Int,atI [PyData.int 0,PyData.int a1,PyData.int a2,PyData.int a3] R=some (.int m)/\0<=m/\m<=240:=by
     rcases (show R=0\/R=1\/R=2\/R=3 by lia) with rfl | rfl | rfl | rfl <;> exact ⟨_,rfl,by lia,by lia⟩
    row_cond go
    refine aby (fun i e=>∃ l u o g v ps,e=[some (.io ODk),some (.st (.int n)),some (.st (.list (row.map .int))),some (.st (.int kind)),some (.own (OT (kE ps))),l,u,o,g,v]/\PsOk n ps/\ps.length<=61+i) ⟨_,_,_,_,_,ps,rfl,d,z⟩ ?_ ?_
    ·rintro i e hi b
     refine exS6 e b fun l u o g v ps a=>?_
     have d:=a.1
     have z:=a.2
     clear a b
     have J:(kE ps).length<=999999:=by rw [ae2];lia
     row_cond go
     refine ⟨n,rfl,rfl,by lia,by lia,fun ba e2 g1=>?_⟩
     row_cond go
     refine ⟨n,rfl,rfl,by lia,by lia,fun bb g8 g3=>?_⟩
     row_cond go
     refine awv (fun h=>?_) (fun h=>?_)
     ·row_cond go
      rw [amv]
      exact ⟨_,_,_,_,_,_,rfl,d.add (by split <;> lia) (by split <;> split <;> lia) (by split <;> lia),aC9 ahw (by lia)⟩
     ·row_cond go
      exact ⟨_,_,_,_,_,ps,rfl,d,by lia⟩
    ·rintro e b
     refine exS6 e b fun l u o g v ps a=>?_
     have d:=a.1
     have z:=a.2
     clear a b
     row_cond go
     refine ⟨6,rfl,rfl,by lia,by lia,fun b1 d8 e8=>?_⟩
     row_cond go
     refine ⟨n+1,rfl,rfl,by lia,by lia,fun b2 h5 d0=>?_⟩
     row_cond go
     refine ⟨4,rfl,rfl,by lia,by lia,fun N g6 c8=>?_⟩
     obtain ⟨m',f0,c4,f6⟩:∃ m:Int,atI [PyData.int 0,PyData.int 1,PyData.int b1,PyData.int b2] N=some (.int m)/\0<=m/\m<=61:=by
      rcases (show N=0\/N=1\/N=2\/N=3 by lia) with rfl | rfl | rfl | rfl <;> exact ⟨_,rfl,by lia,by lia⟩
     row_cond go
     have b6:ps.length<=301:=by lia
     refine aby (fun i e=>∃ l u o g v ps,e=[some (.io ODk),some (.st (.int n)),some (.st (.list (row.map .int))),some (.st (.int kind)),some (.own (OT (kE ps))),l,u,o,g,v]/\PsOk n ps/\ps.length<=301) ⟨_,_,_,_,_,ps,rfl,d,b6⟩ ?_ ?_
     ·rintro i e hi b
      refine exS6 e b fun l u o g v ps a=>?_
      have d:=a.1
      have z:=a.2
      clear a b
      iterate 3 row_cond st
      refine a0l (.inl rfl) ?_
      row_cond go
      cases hps:ps with
      | nil =>
       refine acw ?_
       row_cond go
       exact ⟨_,_,_,_,_,[],rfl,PsOk.nil n,by simp⟩
      | cons p0 pr =>
       have b9:0 < ps.length:=by rw [hps];simp
       rw [← hps]
       rw [aE9 (show (!(kE ps).isEmpty)=true by rw [hps];rfl)]
       refine amm (aa7 ?_)
       refine au8 (.inl rfl) ?_
       refine avy ?_
       refine abg (ait (.inl rfl) fun qs G hs=>acz ?_)
       refine aki rfl ?_
       refine ahs (ax7 (.inl rfl) ?_)
       row_cond go
       rw [ae2]
       refine ⟨_,rfl,rfl,by lia,by lia,fun r ra rb=>?_⟩
       obtain ⟨q,hq⟩:∃ q,qs[r.toNat]?=some q:=⟨_,aA0 (show r.toNat < qs.length by rw [G.length_eq];lia)⟩
       have eq:atI (qs.map prD) r=some (prD q):=act ra (by rw [aA5,hq];rfl)
       obtain ⟨j,hj⟩:=List.getElem?_of_mem (G.mem_iff.mp (aA2 hq))
       row_cond go
       refine ⟨kE ps,[Sum.inl q.1,Sum.inl q.2],j,.bool true,rfl,rfl,by unfold kE;rw [aA5,hj];rfl,?_⟩
       dsimp only [List.set_cons_zero,List.set_cons_succ]
       row_cond go
       exact ⟨_,_,_,_,_,ps.eraseIdx j,by rw [show (kE ps).eraseIdx j=kE (ps.eraseIdx j) from agr _ _ _],⟨d.nd.sublist (List.eraseIdx_sublist ps j),fun p G=>d.inn p ((List.eraseIdx_sublist ps j).mem G)⟩,aC9 (List.length_eraseIdx_le ps j) z⟩
     ·rintro e b
      refine exS6 e b fun l u o g v ps a=>?_
      have d:=a.1
      have z:=a.2
      clear a b
      iterate 6 row_cond st
      refine abg (ait (.inl rfl) fun qs G hs=>acz ?_)
      row_cond go
      exact k n qs W n1 ⟨G.nodup_iff.mpr d.nd,fun p a9=>d.inn p (G.mem_iff.mp a9)⟩ (by rw [G.length_eq];lia)
end
structure FarD (n:Int) (f:Int->Option Nat) (es:List (Key × PyData)):Prop where
 mem:∀ k d,(k,d)∈es->∃ (v:Int) (j:Nat),k=.inl v/\d=.int (j:Int)/\0<=v/\v < n/\f v=some j
 all:∀ (v:Int) (j:Nat),f v=some j->((.inl v:Key),PyData.int (j:Int))∈es
 nd:(es.map (·.1)).Nodup
 len:es.length+cnt f n.toNat=n.toNat
theorem FarD.val {n:Int} {f:Int->Option Nat} {es:List (Key × PyData)} (h:FarD n f es) (v:Int):valD es (.inl v)=(f v).map fun j => .int (j:Int):=by
 unfold valD
 cases e:es.find? fun e=>decide (e.1=(.inl v:Key)) with
 | none =>
  rw [List.find?_eq_none] at e
  cases hf:f v with
  | none=>rfl
  | some j=>exact absurd (aD6 rfl) (e _ (h.all v j hf))
 | some p =>
  obtain ⟨k,d⟩:=p
  have g:k=.inl v:=by simpa using List.find?_some e
  obtain ⟨u,j,a,b,_,_,c⟩:=h.mem k d (List.mem_of_find?_eq_some e)
  rw [g] at a
  cases a
  rw [c,b]
  rfl
theorem avj (n:Nat):cnt (fun _=>none) n=n:=by
 induction n with
 | zero=>rfl
 | succ n ih=>unfold cnt;rw [ih,aE9 rfl]
theorem FarD.start {n a:Int} (a0:0<=a) (a1:a < n):FarD n (Gr.label (fun _=>none) a 0) [(.inl a,.int 0)]:=by
 refine ⟨fun k d hm=>?_,fun v j b=>?_,by simp,?_⟩
 ·have:(k,d)=((.inl a:Key),PyData.int 0):=by simpa using hm
  cases this
  exact ⟨a,0,rfl,rfl,a0,a1,Gr.label_same⟩
 ·by_cases e:v=a
  ·subst e
   rw [Gr.label_same] at b
   cases b
   exact aC1.mpr rfl
  ·rw [Gr.label_ne e] at b
   cases b
 ·have f:=adx (far:=fun _=>none) (d:=0) a0 rfl (n:=n.toNat) (by lia)
  have c:=avj n.toNat
  simp only [aE1,aI1]
  lia
theorem FarD.put {n v:Int} {f:Int->Option Nat} {es:List (Key × PyData)} {j:Nat} (h:FarD n f es) (v0:0<=v) (v1:v < n) (r:f v=none):FarD n (Gr.label f v j) (putD es (.inl v) (.int (j:Int))):=by
 have a:∀ p∈es,p.1 ≠ (.inl v:Key):=fun p g e=>by
  obtain ⟨u,i,b,_,_,_,l⟩:=h.mem p.1 p.2 g
  rw [e] at b
  cases b
  rw [r] at l
  cases l
 have c:putD es (.inl v) (.int (j:Int))=es ++ [(.inl v,.int (j:Int))]:=by
  unfold putD
  rw [aF0]
  rw [List.any_eq_true]
  rintro ⟨p,g,e⟩
  exact a p g (by simpa using e)
 rw [c]
 refine ⟨fun k d hm=>?_,fun u i m=>?_,?_,?_⟩
 ·rcases aA7.mp hm with hm | hm
  ·obtain ⟨u,i,b,q,l,s,A⟩:=h.mem k d hm
   have o:u ≠ v:=fun e=>a (k,d) hm (by rw [← e];exact b)
   exact ⟨u,i,b,q,l,s,by rw [Gr.label_ne o];exact A⟩
  ·have:(k,d)=((.inl v:Key),PyData.int (j:Int)):=by simpa using hm
   cases this
   exact ⟨v,j,rfl,rfl,v0,v1,Gr.label_same⟩
 ·by_cases e:u=v
  ·subst e
   rw [Gr.label_same] at m
   cases m
   exact aB2 _ (aC1.mpr rfl)
  ·rw [Gr.label_ne e] at m
   exact aC6 _ (h.all u i m)
 ·rw [aE0,aE3]
  refine ⟨h.nd,by simp,fun x z y w=>?_⟩
  obtain ⟨p,g,rfl⟩:=aB6.mp z
  have:y=.inl v:=by simpa using w
  rw [this]
  exact a p g
 ·have b:=adx (d:=j) v0 r (n:=n.toNat) (by lia)
  have q:=h.len
  rw [aB0]
  simp only [aE1,aI1]
  lia
theorem FarD.ne {n:Int} {f:Int->Option Nat} {es:List (Key × PyData)} (h:FarD n f es) {v:Int} {j:Nat} (a:f v=some j):es ≠ []:=fun e=>by
 have:=h.all v j a
 rw [e] at this
 cases this
theorem FarD.congr {n:Int} {f g:Int->Option Nat} {es:List (Key × PyData)} (h:FarD n f es) (e:∀ v,f v=g v):FarD n g es:=by
 have:f=g:=funext e
 rw [← this]
 exact h
theorem av6:∀ (ns:List Int),aap (.list (ns.map .int))=true
 | []=>rfl
 | a :: ns=>by have:=av6 ns;simp only [aap,aD0,plainDs] at *;simp [this]
theorem a0y (ns:List Int):(PyData.list (ns.map .int)).depth<=60:=by
 have:PyData.depthAll (ns.map .int)<=1:=ae9 fun d hd=>by
  obtain ⟨_,_,rfl⟩:=aB6.mp hd
  simp [PyData.depth]
 simp only [PyData.depth]
 lia
theorem aym (ns:List Int):PyData.eqv (.list (ns.map .int)) (.list [])=ns.isEmpty:=by cases ns <;> rfl
structure FarsD (n:Int) (es:List (Int × Int)) (ess:List (List (Key × PyData))):Prop where
 len:(ess.length:Int)=n
 row:∀ (v:Int) fs,0<=v->ess[v.toNat]?=some fs->FarD n (Gr.farO (Tied es) v) fs
def ayn:VP:=fun ss Q=>∃ (n:Int) (es:List (Int × Int)),ss=[.st (webD n es)]/\0<=n/\n<=100/\InN n es/\es.length<=10000/\∀ tl,TiedL n (Tied es) tl->Q (.own (ODL (tlD tl)))
def ayo:VP:=fun ss Q=>∃ (n:Int) (es:List (Int × Int)),ss=[.st (webD n es)]/\1<=n/\n<=100/\InN n es/\es.length<=10000/\∀ ess,FarsD n es ess->Q (.own (OL (ess.map abj)))
section
variable {P:Program} {w:World} {K:Frag} {mg:Str->Option Value} {base:Heap}
theorem sc_law_tied:FnScope ["web","found","a","b"] ["web"] (aai s_law_tied):=by row_cond sc
theorem anm (T:Txt K mg):Can P w K mg base "_law_tied" 1 ["web"] (spP K (ayn)):=by
 obtain ⟨f,fd,D⟩:=T.d_law_tied
 obtain ⟨y,o⟩:=T.o_Grower
 have p:=o.mgx
 have z:=T.n_Grower_held _ p
 refine D.can (D.fn.ok sc_law_tied (fun vs H Q E h=>lenP h fun ss Q' q=>by obtain ⟨n,es,rfl,R,W,x,G,k⟩:=q;rfl) (fun cdv A outer s H vs Q E O h=>?_))
 have nd:=sc_law_tied.nd
 refine ⟨_,(aac (aan (i:=1) nd rfl (Or.inl rfl) (acm (aqc rfl) (by rfl) T.b_dict aww (aaa (adp rfl (N:=["place"]) (src:=[none]) (by exact ab0 rfl rfl rfl rfl rfl rfl) (abm rfl T.b_range (aaa (aal aam (pv 0) aae (fun _ _=>rfl)) aab)) (fun _ _ _ _=>(aao (i:=0) (show List.Nodup (["place"]:List Str) by decide +kernel) rfl (Or.inl rfl) (hf:=Or.inr rfl))) (fun _ _ _ _=>ab9) (fun _ _ _ _=>(aa6 (aaa (pv 0) (aaa (aay aab) aab))))) aab)))
  (aac (abu aI8 rfl (abz (aal aam (pv 0) aae (fun _ _=>rfl))) (acv rfl (aa4 (aao (i:=2) nd rfl (Or.inl rfl)) (aa4 (aao (i:=3) nd rfl (Or.inl rfl)) acj)))
   (aac (abd (acq PySem.F.plainAttrs_list PySem.F.slot_list_append PySem.F.type_list_append abv (ai8 (ado O) (pv 1) (pv 2) (fun _ _=>rfl)) (aaa (pv 3) aab)))
    (aah (abd (acq PySem.F.plainAttrs_list PySem.F.slot_list_append PySem.F.type_list_append abv (ai8 (ado O) (pv 1) (pv 3) (fun _ _=>rfl)) (aaa (pv 2) aab))))))
  (aah (aas (pv 1))))),?_⟩
 refine abi h fun ss Q' q B X=>?_
 refine exS2 ss q fun n es c=>?_
 have R:=c.1
 have W:=c.2.1
 have x:=c.2.2.1
 have G:=c.2.2.2.1
 have k:=c.2.2.2.2
 clear c q
 show EvS B _ _ [some (.st (webD n es)),none,none,none]
 row_cond go
 refine asr ?_
 row_cond go
 refine ⟨n.toNat,rfl,by lia,?_⟩
 row_cond go
 refine ac1 (fun i e=>∃ L I tl,e=[some (.st (webD n es)),some (.own (ODL (tlD tl))),L,I]/\TiedL n (Tied (es.take i)) tl/\∀ j∈tl,j.length<=2 * i)
  ⟨none,none,List.replicate n.toNat [],by simp [tlD],⟨by simp;lia,fun i j hi w=>?_⟩,fun j S=>?_⟩ ?_ ?_
 ·rw [aH1] at hi
  split at hi
  ·cases hi;simp [Tied]
  ·cases hi
 ·have:=List.eq_of_mem_replicate S
  subst this;simp
 ·rintro i ⟨a,b⟩ e J l
  refine exS3 e l fun L I tl c=>?_
  have r:=c.1
  have m:=c.2
  clear c l
  have hi:i < es.length:=(aA1.mp J).1
  obtain ⟨a0,a1,b0,b1⟩:=x _ (aA2 J)
  dsimp only at a0 a1 b0 b1
  row_cond go
  obtain ⟨j,g,_⟩:=r.get a0 a1
  have U:=m j (aA2 g)
  refine aix (n:=a.toNat) (ds:=j.map .int) rfl rfl rfl (by lia) (ad9 g) (by rw [aA3];lia) ?_
  dsimp only [List.set_cons_zero,List.set_cons_succ]
  have M:=r.put (q:=b) a0 a1 g
  rw [show j.map PyData.int ++ [.int b]=(j ++ [b]).map .int by simp,ag8]
  have d:∀ us∈tl.set a.toNat (j ++ [b]),us.length<=2 * i+1:=fun us C=>by
   rcases List.mem_or_eq_of_mem_set C with h | h
   ·have:=m us h;lia
   ·subst h;simp;lia
  generalize tl.set a.toNat (j ++ [b])=tl2 at M d
  row_cond go
  obtain ⟨j,g,_⟩:=M.get b0 b1
  have U:=d j (aA2 g)
  refine aix (n:=b.toNat) (ds:=j.map .int) rfl rfl rfl (by lia) (ad9 g) (by rw [aA3];lia) ?_
  dsimp only [List.set_cons_zero,List.set_cons_succ]
  rw [show j.map PyData.int ++ [.int a]=(j ++ [a]).map .int by simp,ag8]
  refine ⟨_,_,_,rfl,(M.put (q:=a) b0 b1 g).iff fun u v=>(Tied.snoc J u v).symm,fun us C=>?_⟩
  rcases List.mem_or_eq_of_mem_set C with h | h
  ·have:=d us h;lia
  ·subst h;simp;lia
 ·rintro e l
  refine exS3 e l fun L I tl c=>?_
  have r:=c.1
  have m:=c.2
  clear c l
  rw [aG2] at r
  row_cond go
  exact k tl r
theorem sc_law_fars:FnScope ["web","tied","table","place","found","ring","far","later","one","other"] ["web"] (aai s_law_fars):=by row_cond sc
theorem ags (T:Txt K mg):Can P w K mg base "_law_fars" 2 ["web"] (spP K (ayo)):=by
 obtain ⟨f,fd,D⟩:=T.d_law_fars
 obtain ⟨a4,L⟩:=T.o_Grower
 have C:=L.mgx
 have a8:=T.n_Grower_held _ C
 refine D.can (D.fn.ok sc_law_fars (fun vs H Q E h=>lenP h fun ss Q' q=>by obtain ⟨n,es,rfl,n0,n1,X,a5,k⟩:=q;rfl) (fun cdv A outer s H vs Q E hr h=>?_))
 have nd:=sc_law_fars.nd
 refine ⟨_,(aac (aan (i:=1) nd rfl (Or.inl rfl) (aag (anm T) hr (aaa (pv 0) aab)))
  (aac (aan (i:=2) nd rfl (Or.inl rfl) (aay aab))
  (aac (abu aI8 rfl (abm rfl T.b_range (aaa (aal aam (pv 0) aae (fun _ _=>rfl)) aab)) (aao (i:=3) nd rfl (Or.inl rfl))
   (aac (aan (i:=4) nd rfl (Or.inl rfl) (awm (atp (pv 3) aae awl) rfl rfl (by simp) (by decide)))
    (aac (aan (i:=5) nd rfl (Or.inl rfl) (aay (aaa (pv 3) aab)))
    (aac (aan (i:=6) nd rfl (Or.inl rfl) aae)
    (aac (alk aI8 (aa1 (agi hr.units) (pv 5) (aay aab) (aaz _))
     (aac (aan (i:=6) nd rfl (Or.inl rfl) (aat abe (pv 6) aae))
      (aac (aan (i:=7) nd rfl (Or.inl rfl) (aay aab))
      (aac (abu aI8 rfl (abz (pv 5)) (aao (i:=8) nd rfl (Or.inl rfl))
       (aah (abu aI8 rfl (abz (ai8 (ado hr) (pv 1) (pv 8) (fun _ _=>rfl))) (aao (i:=9) nd rfl (Or.inl rfl))
         (aah (abh (ayy (ara (ado hr) (pv 9) (pv 4)))
           (aac (ag3 (ado hr) (pv 4) (pv 9) (pv 6) rfl)
            (aah (abd (acq PySem.F.plainAttrs_list PySem.F.slot_list_append PySem.F.type_list_append abv (pv 7) (aaa (pv 9) aab)))))
           aa0)))))
      (aah (aan (i:=5) nd rfl (Or.inl rfl) (pv 7)))))))
    (aah (abd (acq PySem.F.plainAttrs_list PySem.F.slot_list_append PySem.F.type_list_append abv (pv 2) (aaa (pv 4) aab)))))))))
  (aah (aas (pv 2)))))),?_⟩
 refine abi h fun ss Q' q B hK=>?_
 refine exS2 ss q fun n es b=>?_
 have n0:=b.1
 have n1:=b.2.1
 have X:=b.2.2.1
 have a5:=b.2.2.2.1
 have k:=b.2.2.2.2
 clear b q
 show EvS B _ _ [some (.st (webD n es)),none,none,none,none,none,none,none,none,none]
 row_cond go
 refine ⟨n,es,rfl,by lia,n1,X,a5,fun tl ht=>adk aye ?_⟩
 have hT:∀ u v:Int,Tied es u v->0<=v/\v < n:=fun u v h=>(h.in X).2
 have b1:(tlD tl).map PyData.list ≠ []:=fun e=>by
  have:=ht.1
  have h2:=congrArg List.length e
  simp [tlD] at h2
  rw [h2] at this
  simp at this
  lia
 have Y:∀ p:Int,0<=p->p < n->∃ ws:List Int,valD (kvD ((tlD tl).map PyData.list)) (.inl p)=some (.list (ws.map .int))/\∀ u,u∈ws ↔ Tied es p u:=fun p p0 p1=>by
  obtain ⟨ws,W,hw⟩:=ht.get p0 p1
  exact ⟨ws,ayd p0 (by rw [aA5,ad9 W];rfl),hw⟩
 row_cond go
 refine aby (fun i e=>∃ ess v3 v4 v5 v6 Z G y,e=[some (.st (webD n es)),some (.st (abj (kvD ((tlD tl).map PyData.list)))),some (.own (OL (List.map abj ess))),v3,v4,v5,v6,Z,G,y]/\ess.length=i/\∀ (v:Int) fs,0<=v->ess[v.toNat]?=some fs->FarD n (Gr.farO (Tied es) v) fs) ⟨[],_,_,_,_,_,_,_,rfl,rfl,fun v fs _ h=>by simp at h⟩ ?_ ?_
 ·rintro i e hi g
  refine exS8 e g fun ess v3 v4 v5 v6 Z G y b=>?_
  have S:=b.1
  have I:=b.2
  clear b g
  obtain ⟨a,ha,a0,a1⟩:∃ a:Int,a=0+(i:Int)/\0<=a/\a < n:=⟨_,rfl,by lia,by lia⟩
  rw [← ha]
  row_cond go
  refine ase rfl ?_
  row_cond go
  refine aox 5 rfl acp ?_
  dsimp only [List.set_cons_zero,List.set_cons_succ]
  refine ake (fun m e=>∃ Z G y far fe edge M,e=[some (.st (webD n es)),some (.st (abj (kvD ((tlD tl).map PyData.list)))),some (.own (OL (List.map abj ess))),some (.st (.int a)),some (.own (OD fe)),some (.st (.list (edge.map .int))),some (.st (.int ((M:Nat):Int))),Z,G,y]/\Gr.Ring (Tied es) a M far edge/\FarD n far fe/\(∀ v∈edge,0<=v/\v < n)/\m=2 * cnt far n.toNat+(if edge=[] then 0 else 1))
   ⟨_,_,_,_,_,_,[a],0,rfl,Gr.Ring.start,FarD.start a0 a1,fun v z=>by simp at z;subst z;exact ⟨a0,a1⟩,rfl⟩ ?_
  rintro m e g
  refine exS7 e g fun Z G y far fe edge M b=>?_
  have hR:=b.1
  have hF:=b.2.1
  have hb:=b.2.2.1
  have a6:=b.2.2.2
  clear b g
  subst a6
  row_cond go
  refine ad6 (av6 _) rfl (a0y _) ?_
  rw [aym]
  cases hedge:edge with
  | nil =>
   subst hedge
   row_cond go
   rw [aF0 (show ¬ ((!([]:List Int).isEmpty)=true) from aA9)]
   row_cond go
   refine ⟨_,rfl,by rw [aA3];lia,?_⟩
   refine ⟨ess ++ [fe],_,_,_,_,_,_,_,by rw [aE0];rfl,by rw [aB0,S];rfl,fun v fs v0 z=>?_⟩
   by_cases hvi:v.toNat < i
   ·rw [aC2 (by lia)] at z
    exact I v fs v0 z
   ·have a9:=(aA1.mp z).1
    simp at a9
    have b3:v.toNat=i:=by lia
    rw [b3,aC7 (by lia),S,aH9] at z
    cases z
    rw [show v=a by lia]
    exact hF.congr hR.fin
  | cons e0 er =>
   rw [← hedge]
   have a2:edge ≠ []:=by rw [hedge];simp
   row_cond go
   rw [aE9 (show (!edge.isEmpty)=true by rw [hedge];rfl)]
   row_cond go
   refine ac1 (fun i e=>∃ G y c l beyond,e=[some (.st (webD n es)),some (.st (abj (kvD ((tlD tl).map PyData.list)))),some (.own (OL (List.map abj ess))),some (.st (.int a)),some (.own (OD l)),some (.st (.list (edge.map .int))),some (.st (.int ((M:Int)+1))),some (.own (OL (beyond.map .int))),G,y]/\Gr.Mid (Tied es) M far edge (fun u=>u∈edge.take i) c beyond/\FarD n c l/\cnt c n.toNat+beyond.length=cnt far n.toNat/\∀ v∈beyond,0<=v/\v < n)
    ⟨G,y,far,fe,[],rfl,Gr.Mid.start.imp fun u R=>by simp at R,hF,rfl,fun v z=>by simp at z⟩ ?_ ?_
   ·rintro i p e hp g
    refine exS5 e g fun G y c l beyond b=>?_
    have N:=b.1
    have o:=b.2.1
    have O:=b.2.2.1
    have r:=b.2.2.2
    clear b g
    have a3:=aA2 hp
    obtain ⟨p0,p1⟩:=hb p a3
    obtain ⟨ws,W,hw⟩:=Y p p0 p1
    row_cond go
    refine au9 ?_
    row_cond go
    refine ⟨kvD ((tlD tl).map PyData.list),.inl p,_,rfl,a0n b1,rfl,W,?_⟩
    row_cond go
    refine ac1 (fun j e=>∃ y c l beyond,e=[some (.st (webD n es)),some (.st (abj (kvD ((tlD tl).map PyData.list)))),some (.own (OL (List.map abj ess))),some (.st (.int a)),some (.own (OD l)),some (.st (.list (edge.map .int))),some (.st (.int ((M:Int)+1))),some (.own (OL (beyond.map .int))),some (.st (.int p)),y]/\Gr.Mid (Tied es) M far edge (fun u=>u∈edge.take i) c beyond/\FarD n c l/\cnt c n.toNat+beyond.length=cnt far n.toNat/\(∀ v∈beyond,0<=v/\v < n)/\∀ x∈ws.take j,c x ≠ none)
     ⟨y,c,l,beyond,rfl,N,o,O,r,fun x U=>by simp at U⟩ ?_ ?_
    ·rintro j u e R g
     refine exS4 e g fun y c l beyond b=>?_
     have N:=b.1
     have o:=b.2.1
     have O:=b.2.2.1
     have r:=b.2.2.2.1
     have J:=b.2.2.2.2
     clear b g
     have tu:Tied es p u:=(hw u).mp (aA2 R)
     obtain ⟨u0,u1⟩:=hT _ _ tu
     have a7:=o.val u
     have b4:=o.len
     have b6:l.length<=999999:=by lia
     row_cond go
     rw [a7]
     cases hf:c u with
     | none =>
      rw [aE9 (show (!((none:Option Nat).map fun (j:Nat)=>PyData.int (j:Int)).isSome)=true from rfl)]
      have b5:=adx (d:=M+1) u0 hf (n:=n.toNat) (by lia)
      have b2:∀ m,cnt far m<=m:=fun m=>by
       induction m with
       | zero=>exact aA6 _
       | succ m ih=>unfold cnt;split <;> lia
      have:=b2 n.toNat
      row_cond go
      refine ⟨some (.st (.int u)),Gr.label c u (M+1),_,beyond ++ [u],by simp,N.add a3 tu hf,o.put u0 u1 hf,by simp;lia,fun v z=>?_,fun x U=>?_⟩
      ·rcases aA7.mp z with h | h
       ·exact r v h
       ·have:v=u:=by simpa using h
        subst this;exact ⟨u0,u1⟩
      ·by_cases hx2:x=u
       ·subst hx2;rw [Gr.label_same];simp
       ·rw [Gr.label_ne hx2]
        rcases ab1 R U with h | h
        ·exact J x h
        ·exact absurd h hx2
     | some d =>
      rw [aF0 (show ¬ ((!((some d:Option Nat).map fun (j:Nat)=>PyData.int (j:Int)).isSome)=true) from aA9)]
      row_cond go
      refine ⟨_,c,l,beyond,rfl,N,o,O,r,fun x U=>?_⟩
      rcases ab1 R U with h | h
      ·exact J x h
      ·subst h;rw [hf];simp
    ·rintro e g
     refine exS4 e g fun y c l beyond b=>?_
     have N:=b.1
     have o:=b.2.1
     have O:=b.2.2.1
     have r:=b.2.2.2.1
     have J:=b.2.2.2.2
     clear b g
     rw [aG2] at J
     refine ⟨_,_,c,l,beyond,rfl,?_,o,O,r⟩
     refine (N.did (u:=p) fun x tx=>J x ((hw x).mpr tx)).imp fun x U=>?_
     exact ab1 hp U
   ·rintro e g
    refine exS5 e g fun G y c l beyond b=>?_
    have N:=b.1
    have o:=b.2.1
    have O:=b.2.2.1
    have r:=b.2.2.2
    clear b g
    row_cond go
    refine ⟨_,?_,_,_,_,c,l,beyond,M+1,rfl,hR.next N fun u R=>by rw [aG2];exact R,o,r,rfl⟩
    rw [aF0 a2]
    cases beyond with
    | nil=>rw [aE9 rfl];simp at O;lia
    | cons b0 br=>rw [aF0 (by simp)];simp at O;lia
 ·rintro e g
  refine exS8 e g fun ess v3 v4 v5 v6 Z G y b=>?_
  have S:=b.1
  have I:=b.2
  clear b g
  row_cond go
  exact k ess ⟨by lia,I⟩
end
def aql (K:Frag):Sp:=fun vs H Q _=>∃ (a:Addr) (ns:List Int),vs=[.ref a]/\SqL K H a (ns.map V.int)/\ns.length<=63/\∀ H',Q (.bl true) H'
def av7:VP:=fun ss Q=>∃ ns:List Int,ss=[.scr ns]/\ns.length<=63/\Q (.st (.bool true))
theorem avk {K:Frag} {vs:List V} {H:Hp} {Q:VK} {E:XK} (h:aql K vs H Q E):spP K av7 vs H Q E:=by
 obtain ⟨a,ns,rfl,c,b,k⟩:=h
 refine ⟨H,[.scr ns],fun s=>s=.st (.bool true),Same.refl _,fun a d h=>h,.cons ⟨a,rfl,c⟩ .nil,⟨ns,rfl,b,rfl⟩,fun s e v G' H' Fv o=>?_⟩
 subst e
 have r:=o.ok.1
 cases r
 exact k _
structure DW (n:Int) (es:List (Int × Int)) (j:Nat):Prop where
 lo:1<=n
 hi:n<=60
 ps:PsOk n es
 len:es.length<=1900+j
theorem DW.gw {n:Int} {es:List (Int × Int)} {j:Nat} (h:DW n es j) (b:j<=100):GW n es:=⟨h.lo,by have:=h.hi;lia,fun p a=>by have:=h.ps.inn p a;exact ⟨by lia,by lia,by lia,by lia⟩,by have:=h.len;lia⟩
inductive Deed (n:Int) (es:List (Int × Int)):PyData->Int->Int × Int->Prop
 | place {a:Int}:0<=a->a < n->n < 60->Deed n es (.tuple [.int a]) (n+1) (a,n)
 | tie {s t:Int}:0<=s->s < t->t < n->(s,t) ∉ es->Deed n es (.tuple [.int s,.int t]) n (s,t)
theorem Deed.dw {n m:Int} {es qs:List (Int × Int)} {j:Nat} {d:PyData} {p:Int × Int} (h:DW n es j) (g:Deed n es d m p) (c:qs.Perm (es ++ [p])):DW m qs (j+1):=by
 have f:qs.length<=1900+(j+1):=by
  have:=h.len
  rw [c.length_eq,aB0]
  simp
  lia
 have a:(p ∉ es)/\(0<=p.1/\p.1 < p.2/\p.2 < m)/\n<=m/\m<=60:=by
  have:=h.hi
  cases g with
  | place a0 a1 hn=>exact ⟨fun z=>by have:=h.ps.inn _ z;simp only at this;lia,⟨a0,a1,by simp only;lia⟩,by lia,by lia⟩
  | tie s0 st tn hno=>exact ⟨hno,⟨s0,st,tn⟩,Int.le_refl _,this⟩
 refine ⟨by have:=h.lo;lia,a.2.2.2,⟨c.nodup_iff.mpr (aE3.mpr ⟨h.ps.nd,by simp,fun x l y i e=>by cases aC1.mp i;exact a.1 (e ▸ l)⟩),fun q b=>?_⟩,f⟩
 rcases aA7.mp (c.mem_iff.mp b) with z | z
 ·have:=h.ps.inn q z
  lia
 ·cases aC1.mp z
  exact a.2.1
def a0z:VIo:=fun A ss Q=>∃ (n:Int) (es:List (Int × Int)) (j:Nat),A=ODk/\ss=[.st (webD n es)]/\DW n es j/\j<=100/\Q ODk (.st .none)/\∀ d m p,Deed n es d m p->Q ODk (.st d)
def avl:VP:=fun ss Q=>∃ (n m:Int) (es:List (Int × Int)) (j:Nat) (d:PyData) (p:Int × Int),ss=[.st (webD n es),.st d]/\DW n es j/\j<=100/\Deed n es d m p/\∀ qs,Rise qs->qs.Perm (es ++ [p])->Q (.st (webD m qs))
def ayp (mg:Str->Option Value):VJ:=fun ss Q=>∃ (C:Addr) (n m:Int) (es:List (Int × Int)) (j:Nat) (d:PyData) (p:Int × Int),mg "Grower" = some (.ref C)/\ss=[.io (OI C (gF n es)),.st d]/\DW n es j/\j<=100/\Deed n es d m p/\∀ qs d0 d1,Rise qs->qs.Perm (es ++ [p])->FarN n es d0->FarN m qs d1->Q [some (.io (OI C (gF m qs))),none] (.st (.tuple [d0,d1]))
section
variable {P:Program} {w:World} {K:Frag} {mg:Str->Option Value} {base:Heap}
theorem sc_law_deed:FnScope ["deck","web","n","ties","a","free","b"] ["deck","web"] (aai s_law_deed):=by row_cond sc
theorem ann (T:Txt K mg):Can P w K mg base "_law_deed" 2 ["deck","web"] (spI K (a0z)):=by
 obtain ⟨f,fd,D⟩:=T.d_law_deed
 obtain ⟨o,c⟩:=T.o_Grower
 have g:=c.mgx
 have u:=T.n_Grower_held _ g
 refine D.can (D.fn.ok sc_law_deed (fun vs H Q E h=>lenI h fun A ss Q' q=>by obtain ⟨n,es,j,rfl,rfl,p,Z,L,G⟩:=q;rfl) (fun cdv A outer s H vs Q E l h=>?_))
 have nd:=sc_law_deed.nd
 refine ⟨_,(aac (ab2 (pv 1) (acv rfl (aa4 (aao (i:=2) nd rfl (Or.inl rfl)) (aa4 (aao (i:=3) nd rfl (Or.inr rfl)) acj))))
  (aac (aan (i:=4) nd rfl (Or.inr rfl) (aag (aaj T) l (aaa (pv 0) (aaa (pv 2) aab))))
  (aac (abh (PW.pt (ah1 (aa1 afj (aag (aaj T) l (aaa (pv 0) (aaa aae aab))) aae (aaz _)) (agw (aa1 ak6 (pv 2) aae (aaz _)))))
   (aah (aas (aa6 (aaa (pv 4) aab))))
   aa0)
  (aac (al0 (i:=5) nd rfl (Or.inl rfl) rfl (N:=["b","a","ties"]) (src:=[none,some 4,some 3]) (by exact ab0 rfl rfl rfl rfl rfl rfl) (abm rfl T.b_range (aaa (pv 2) aab)) (fun _ _ _ _=>(aao (i:=0) (show List.Nodup (["b","a","ties"]:List Str) by decide +kernel) rfl (Or.inl rfl) (hf:=Or.inr rfl))) (fun _ _ _ _=>awn (PW.pt (ah1 (aa1 apf (pv 0) (pv 1) (aaz _)) (agw (aa1 (akc l.units) (aa6 (aaa (aak (ach rfl) (by rfl) T.b_min adv (aaa (pv 1) (aaa (pv 0) aab))) (aaa (aak (acg rfl) (by rfl) T.b_max acb (aaa (pv 1) (aaa (pv 0) aab))) aab))) (pv 2) rfl))))) (fun _ _ _ _=>(pv 0)))
  (aac (abh (aa1 (ars l.units) (pv 5) (aay aab) (aaz _))
   (aah (aas ads))
   aa0)
  (aac (aan (i:=6) nd rfl (Or.inl rfl) (aal aam (pv 5) (aag (aaj T) l (aaa (pv 0) (aaa (aak abt (by rfl) T.b_len aca (aaa (pv 5) aab)) aab))) (fun _ _=>rfl)))
  (aah (aas (aa6 (aaa (aak (ach rfl) (by rfl) T.b_min adv (aaa (pv 4) (aaa (pv 6) aab))) (aaa (aak (acg rfl) (by rfl) T.b_max acb (aaa (pv 4) (aaa (pv 6) aab))) aab))))))))))),?_⟩
 refine adr h fun A0 ss Q' q B hK=>?_
 obtain ⟨n,es,j,rfl,rfl,p,Z,L,G⟩:=q
 show EvS B _ _ [some (.io ODk),some (.st (webD n es)),none,none,none,none,none]
 have hn:=p.lo
 have Y:=p.hi
 have I:=p.len
 row_cond go
 refine ⟨n,rfl,rfl,by lia,by lia,fun a a0 a1=>?_⟩
 row_cond go
 refine ⟨2,rfl,rfl,by lia,by lia,fun r r0 r1=>?_⟩
 row_cond go
 dsimp only [List.set_cons_zero,List.set_cons_succ]
 refine' cutR (R:=EvS B ?c1 ?d1 [some (.io ODk),some (.st (webD n es)),some (.st (.int n)),some (.st (.list (es.map prD))),some (.st (.int a)),none,none]) (fun R=>?K1) ?K2
 case K1 =>
  by_cases l:r=0
  ·by_cases hn0:n < 60
   ·row_cond go
    exact G _ _ _ (.place a0 a1 hn0)
   ·repeat (first | exact R | row_cond st)
  ·repeat (first | exact R | row_cond st)
 case K2 =>
  row_cond go
  unfold rngD
  refine asm (xs:=List.range n.toNat) (f:=fun i:Nat=>PyData.int (0+(i:Int))) (fun i:Nat=>PyData.int (i:Int)) (fun i:Nat=>decide ((i:Int) ≠ a) && !decide ((if (i:Int) < a then (i:Int) else a,if (i:Int) > a then (i:Int) else a)∈es)) rfl (by simp;lia) (fun i hi B' hB=>?_) ?_
  ·have O:=aB8.mp hi
   rw [Int.zero_add]
   by_cases hia:(i:Int)=a
   ·row_cond go
    exact ⟨by simp [hia],rfl,fun z=>nomatch z⟩
   ·row_cond go
    refine aou (asd (_,_)) (aiu es) (aC9 (akm (_,_)) (by decide)) ?_
    rw [aE9 rfl,show PyData.tuple [PyData.int (if (i:Int) < a then (i:Int) else a),PyData.int (if (i:Int) > a then (i:Int) else a)]=prD (if (i:Int) < a then (i:Int) else a,if (i:Int) > a then (i:Int) else a) from rfl,ax2]
    row_cond go
    refine ⟨by simp [hia],rfl,fun _=>?_⟩
    row_cond go
    exact rfl
  ·obtain ⟨fs,m,F⟩:∃ fs:List Nat,(List.range n.toNat).filter (fun i:Nat=>decide ((i:Int) ≠ a) && !decide ((if (i:Int) < a then (i:Int) else a,if (i:Int) > a then (i:Int) else a)∈es))=fs/\(∀ i∈fs,(i:Int) < n/\(i:Int) ≠ a/\(if (i:Int) < a then (i:Int) else a,if (i:Int) > a then (i:Int) else a) ∉ es):=⟨_,rfl,fun i hi=>by
    obtain ⟨S,v⟩:=List.mem_filter.mp hi
    have:=aB8.mp S
    simp only [aG5,decide_eq_true_eq,Bool.not_eq_true',decide_eq_false_iff_not] at v
    exact ⟨by lia,v.1,v.2⟩⟩
   have U:fs.length<=60:=by
    rw [← m]
    exact aC9 (List.length_filter_le _ _) (by rw [List.length_range];lia)
   rw [m]
   refine adk acp ?_
   have C:aap (.list (fs.map fun i:Nat=>PyData.int (i:Int)))=true:=(ae7 _).mpr fun d hd=>by
    obtain ⟨x,_,rfl⟩:=aB6.mp hd
    rfl
   have y:(PyData.list (fs.map fun i:Nat=>PyData.int (i:Int))).depth<=60:=by
    have h:PyData.depthAll (fs.map fun i:Nat=>PyData.int (i:Int))<=1:=ae9 fun d hd=>by
     obtain ⟨x,_,rfl⟩:=aB6.mp hd
     simp [PyData.depth]
    simp only [PyData.depth]
    lia
   row_cond go
   refine aot C rfl y ?_
   cases efs:fs with
   | nil =>
    rw [show PyData.eqv (.list (List.map (fun i:Nat=>PyData.int (i:Int)) [])) (.list [])=true from rfl]
    row_cond go
    exact L
   | cons f0 fr =>
    rw [← efs,show PyData.eqv (.list (fs.map fun i:Nat=>PyData.int (i:Int))) (.list [])=false by rw [efs];rfl]
    have J:0 < fs.length:=by rw [efs];simp
    row_cond go
    rw [aA3]
    refine ⟨(fs.length:Int),rfl,rfl,by lia,by lia,fun q X q1=>?_⟩
    obtain ⟨b,hb⟩:∃ b,fs[q.toNat]?=some b:=⟨_,aA0 (show q.toNat < fs.length by lia)⟩
    have M:atI (fs.map fun i:Nat=>PyData.int (i:Int)) q=some (.int (b:Int)):=act X (by rw [aA5,hb];rfl)
    obtain ⟨b1,b2,W⟩:=F b (aA2 hb)
    row_cond go
    exact G _ n (if (b:Int) < a then (b:Int) else a,if (b:Int) > a then (b:Int) else a) (.tie (by split <;> lia) (by split <;> split <;> lia) (by split <;> lia) W)
theorem sc_law_behind:FnScope ["web","deed","n","ties"] ["web","deed"] (aai s_law_behind):=by row_cond sc
theorem aj0 (T:Txt K mg):Can P w K mg base "_law_behind" 1 ["web","deed"] (spP K (avl)):=by
 obtain ⟨f,fd,D⟩:=T.d_law_behind
 obtain ⟨r,c⟩:=T.o_Grower
 have g:=c.mgx
 have u:=T.n_Grower_held _ g
 refine D.can (D.fn.ok sc_law_behind (fun vs H Q E h=>lenP h fun ss Q' q=>by obtain ⟨n,m,es,j,d,p,rfl,x,C,hd,y⟩:=q;rfl) (fun cdv A outer s H vs Q E G h=>?_))
 have nd:=sc_law_behind.nd
 refine ⟨_,(aac (ab2 (pv 0) (acv rfl (aa4 (aao (i:=2) nd rfl (Or.inl rfl)) (aa4 (aao (i:=3) nd rfl (Or.inl rfl)) acj))))
  (aac (abh (aa1 afj (aak abt (by rfl) T.b_len aca (aaa (pv 1) aab)) aae (aaz _))
   (aah (aas (aa6 (aaa (aat abe (pv 2) aae) (aaa (aak ad1 (by rfl) T.b_sorted ac6 (aaa (aat ah4 (pv 3) (aay (aaa (aa6 (aaa (aal aam (pv 1) aae (fun _ _=>rfl)) (aaa (pv 2) aab))) aab))) aab)) aab)))))
   aa0)
  (aah (aas (aa6 (aaa (pv 2) (aaa (aak ad1 (by rfl) T.b_sorted ac6 (aaa (aat ah4 (pv 3) (aay (aaa (pv 1) aab))) aab)) aab))))))),?_⟩
 refine abi h fun ss Q' q B F=>?_
 refine exS6 ss q fun n m es j d p b=>?_
 have x:=b.1
 have C:=b.2.1
 have hd:=b.2.2.1
 have y:=b.2.2.2
 clear b q
 show EvS B _ _ [some (.st (webD n es)),some (.st d),none,none]
 have z:=x.len
 have l:=(hd.dw x (List.Perm.refl _)).ps.nd
 cases hd with
 | @place a a0 a1 hn =>
  row_cond go
  rw [aD6 (show (([PyData.int a].length:Nat):Int)=1 from rfl)]
  repeat (first | (refine abg (ae3 (ps:=es ++ [(a,n)]) ?_)) | row_cond st)
  refine ⟨by rw [aE0];rfl,fun qs o v=>acz ?_⟩
  row_cond go
  exact y qs (ajv o l v) o
 | @tie s t s0 h12 tn hno =>
  row_cond go
  rw [aD5 (show ¬ (([PyData.int s,PyData.int t].length:Nat):Int)=1 from show ¬ ((2:Nat):Int)=1 by decide)]
  repeat (first | (refine abg (ae3 (ps:=es ++ [(s,t)]) ?_)) | row_cond st)
  refine ⟨by rw [aE0];rfl,fun qs o v=>acz ?_⟩
  row_cond go
  exact y qs (ajv o l v) o
theorem sc_law_done:FnScope ["grower","deed"] ["grower","deed"] (aai s_law_done):=by row_cond sc
theorem ano (T:Txt K mg):Can P w K mg base "_law_done" 13 ["grower","deed"] (spJ K (ayp mg)):=by
 obtain ⟨f,fd,D⟩:=T.d_law_done
 obtain ⟨g,c⟩:=T.o_Grower
 have b:=c.mgx
 have r:=T.n_Grower_held _ b
 refine D.can (D.fn.ok sc_law_done (fun vs H Q E h=>lenJ h fun ss Q' q=>by obtain ⟨C,n,m,es,j,d,p,J,rfl,l,M,hd,G⟩:=q;rfl) (fun cdv A outer s H vs Q E i h=>?_))
 have nd:=sc_law_done.nd
 refine ⟨_,(aac (abh (aa1 afj (aak abt (by rfl) T.b_len aca (aaa (pv 1) aab)) aae (aaz _))
   (aah (aas (aep (afh T b) c.cl i (pv 0) (aaa (aal aam (pv 1) aae (fun _ _=>rfl)) aab))))
   aa0)
  (aah (aas (aep (af6 T b) c.cl i (pv 0) (aaa (aal aam (pv 1) aae (fun _ _=>rfl)) (aaa (aal aam (pv 1) aae (fun _ _=>rfl)) aab)))))),?_⟩
 refine av5 h fun ss Q' q B R=>?_
 obtain ⟨C,n,m,es,j,d,p,J,rfl,l,M,hd,G⟩:=q
 show EvS B _ _ [some (.io (OI C (gF n es))),some (.st d)]
 obtain rfl:g=C:=by have:=b.symm.trans J;cases this;rfl
 have I:=l.gw M
 have L:=l.len
 cases hd with
 | @place a a0 a1 hn =>
  row_cond go
  rw [aD6 (show (([PyData.int a].length:Nat):Int)=1 from rfl)]
  repeat (first | (refine aeo (.inr rfl) (afv (by decide +kernel)) ?_) | row_cond st)
  refine ⟨_,_,rfl,.inr rfl,g,n,a,es,b,rfl,rfl,I,hn,l.ps,by lia,a0,a1,fun qs u F i o v z=>?_⟩
  exact G qs u F i o v z
 | @tie s t s0 h12 tn hno =>
  row_cond go
  rw [aD5 (show ¬ (([PyData.int s,PyData.int t].length:Nat):Int)=1 from show ¬ ((2:Nat):Int)=1 by decide)]
  repeat (first | (refine aeo (.inr rfl) (afv (by decide +kernel)) ?_) | row_cond st)
  refine ⟨_,_,rfl,.inr rfl,g,n,s,t,es,b,rfl,rfl,I,⟨fun q o=>by cases aC1.mp o;exact ⟨s0,h12,tn⟩,aE3.mpr ⟨l.ps.nd,by simp,fun x O y N e=>by cases aC1.mp N;exact hno (e ▸ O)⟩⟩,by lia,fun qs u F i o v z=>?_⟩
  exact G qs u F i o v z
end
theorem webP (n:Int) (es:List (Int × Int)):aap (webD n es)=true:=by
 have:=aiu es
 simp only [webD,aap,plainDs,this,Bool.and_self]
theorem aqm (n:Int) (es:List (Int × Int)):(webD n es).depth<=60:=by
 have h:PyData.depthAll (es.map prD)<=1:=ae9 fun d hd=>by
  obtain ⟨p,_,rfl⟩:=aB6.mp hd
  exact akm p
 simp only [webD,PyData.depth,PyData.depthAll]
 lia
theorem FarOk.uniq {n x a b d i o:Int} {es:List (Int × Int)} (h:FarOk n es x a b) (g:FarOk n es d i o):x=d/\a=i/\b=o:=by
 have e:x=d:=by
  obtain ⟨⟨u,v,p,w,v0,v1,B⟩,A⟩:=h.top
  obtain ⟨⟨r,q,c,j,f,m,z⟩,l⟩:=g.top
  have s:=l u v p w v0 v1
  have y:=A r q c j f m
  lia
 subst e
 have s:=h.fst i o g.a0 g.a1 g.b0 g.b1 g.eq
 have y:=g.fst a b h.a0 h.a1 h.b0 h.b1 h.eq
 lia
theorem anp {far:Int->Option Nat}:∀ {n:Nat},cnt far n=0 ↔ ∀ v:Int,0<=v->v < n->far v ≠ none
 | 0=>⟨fun _ v b c=>by lia,fun _=>rfl⟩
 | n+1=>by
  have a:=anp (far:=far) (n:=n)
  unfold cnt
  constructor
  ·intro h v v0 v1
   by_cases hv:v=n
   ·subst hv
    intro z
    rw [aE9 z] at h
    lia
   ·exact a.mp (by lia) v v0 (by lia)
  ·intro h
   rw [a.mpr fun v v0 v1=>h v v0 (by lia),aF0 (h n (by lia) (by lia))]
theorem FarD.full {n:Int} {es:List (Int × Int)} {fs:List (Key × PyData)} (f:1<=n) (h:FarD n (Gr.farO (Tied es) 0) fs):((fs.length:Int)=n ↔ Joined n es):=by
 have c:=h.len
 have a:=anp (far:=Gr.farO (Tied es) 0) (n:=n.toNat)
 constructor
 ·intro e v v0 v1
  cases hf:Gr.farO (Tied es) 0 v with
  | some d=>exact ⟨d,Gr.farO_some.mp hf⟩
  | none=>exact absurd hf (a.mp (by lia) v v0 (by lia))
 ·intro b
  have:=a.mpr fun v v0 v1 z=>by
   obtain ⟨d,hd⟩:=b v v0 (by lia)
   exact Gr.farO_none.mp z d hd
  lia
theorem atb {α:Type} (xs:List α) (f : α->PyData) (d : α):xs.map f=(List.range xs.length).map fun i=>f (xs.getD i d):=by
 refine aF6 fun i=>?_
 rw [aA5,aA5]
 by_cases hi:i < xs.length
 ·rw [aD7 hi,aA0 hi,aH6,aH6,aD2,aA0 hi]
  rfl
 ·rw [aD9 (by lia),aD9 (by simp;lia)]
  rfl
theorem FarD.vals {n:Int} {f:Int->Option Nat} {fs:List (Key × PyData)} (h:FarD n f fs):∃ ns:List Int,fs.map (·.2)=ns.map .int/\∀ x:Int,x∈ns ↔ ∃ (v:Int) (j:Nat),0<=v/\v < n/\f v=some j/\x=(j:Int):=by
 refine ⟨fs.map fun p=>match p.2 with | .int i=>i | _=>0,?_,fun x=>?_⟩
 ·rw [aD8]
  refine aE4 fun p a=>?_
  obtain ⟨v,j,_,e,_⟩:=h.mem p.1 p.2 a
  simp only [Function.comp,e]
 ·rw [aB6]
  constructor
  ·rintro ⟨p,a,rfl⟩
   obtain ⟨v,j,_,e,v0,v1,hf⟩:=h.mem p.1 p.2 a
   exact ⟨v,j,v0,v1,hf,by rw [e]⟩
  ·rintro ⟨v,j,_,_,hf,rfl⟩
   exact ⟨_,h.all v j hf,rfl⟩
def ayq:VP:=fun ss Q=>∃ (n:Int) (es:List (Int × Int)),ss=[.st (webD n es)]/\GW n es/\∀ d,FarN n es d->Q (.st d)
theorem FarN.uniq {n:Int} {es:List (Int × Int)} {d e:PyData} (h:FarN n es d) (g:FarN n es e):d=e:=by
 rcases h with ⟨l,x,p,rfl⟩ | ⟨l,rfl⟩ <;> rcases g with ⟨a,y,b,rfl⟩ | ⟨a,rfl⟩
 ·obtain ⟨⟨u,v,o,s,v0,v1,B⟩,z⟩:=p
  obtain ⟨⟨r,q,c,i,f,m,w⟩,j⟩:=b
  have A:=j u v o s v0 v1
  have C:=z r q c i f m
  rw [show x=y by lia]
 ·exact absurd l a
 ·exact absurd a l
 ·rfl
theorem FarN.plain {n:Int} {es:List (Int × Int)} {d:PyData} (h:FarN n es d):aap d=true/\d.depth=0/\isiD "bool" d=false:=by
 rcases h with ⟨_,x,_,rfl⟩ | ⟨_,rfl⟩
 ·exact ⟨rfl,by simp [PyData.depth],rfl⟩
 ·exact ⟨rfl,by simp [PyData.depth],rfl⟩
def ayr (mg:Str->Option Value):VJ:=fun ss Q=>∃ (C:Addr) (n:Int) (es:List (Int × Int)) (j:Nat),mg "Grower" = some (.ref C)/\ss=[.io ODk,.io (OI C (gF n es)),.st (webD n es)]/\DW n es j/\j<=100/\Q [some (.io ODk),some (.io (OI C (gF n es))),none] (.st (.bool true))
section
variable {P:Program} {w:World} {K:Frag} {mg:Str->Option Value} {base:Heap}
theorem sc_law_far_of:FnScope ["web","fars"] ["web"] (aai s_law_far_of):=by row_cond sc
theorem adn (T:Txt K mg):Can P w K mg base "_law_far_of" 10 ["web"] (spP K (ayq)):=by
 obtain ⟨f,fd,D⟩:=T.d_law_far_of
 obtain ⟨L,l⟩:=T.o_Grower
 have c:=l.mgx
 have S:=T.n_Grower_held _ c
 refine D.can (D.fn.ok sc_law_far_of (fun vs H Q E h=>lenP h fun ss Q' q=>by obtain ⟨n,es,rfl,J,Z⟩:=q;rfl) (fun cdv A outer s H vs Q E hr h=>?_))
 have nd:=sc_law_far_of.nd
 refine ⟨_,(aac (aan (i:=1) nd rfl (Or.inl rfl) (aag (ags T) hr (aaa (pv 0) aab)))
  (aac (abh (aa1 ak6 (aak aqb (by rfl) T.b_len aca (aaa (aal aam (pv 1) aae (fun _ _=>rfl)) aab)) (aal aam (pv 0) aae (fun _ _=>rfl)) (aaz _))
   (aah (aas ads))
   aa0)
  (aah (aas (aak (ac7 rfl) (by rfl) T.b_max acb (aaa (adp rfl (N:=["one"]) (src:=[none]) (by exact ab0 rfl rfl rfl rfl rfl rfl) (abz (pv 1)) (fun _ _ _ _=>(aao (i:=0) (show List.Nodup (["one"]:List Str) by decide +kernel) rfl (Or.inl rfl) (hf:=Or.inr rfl))) (fun _ _ _ _=>ab9) (fun _ _ _ _=>(aak (show aa5 _ (.builtin "max") (aez K) from (ac7 rfl)) (by rfl) T.b_max acb (aaa (acm (show aa5 _ (.type "list") anb from aqe rfl) (by rfl) T.b_list ad5 (aaa (show PE _ _ (tBM0 K "dict" aqd _) from ay6 PySem.F.plainAttrs_dict PySem.F.slot_dict_values PySem.F.type_dict_values ayf (pv 0)) aab)) aab)))) aab)))))),?_⟩
 refine abi h fun ss Q' q B hK=>?_
 refine exS2 ss q fun n es C=>?_
 have J:=C.1
 have Z:=C.2
 clear C q
 show EvS B _ _ [some (.st (webD n es)),none]
 have n0:=J.lo
 have n1:=J.hi
 have W:=J.inn
 have a0:=J.len
 have hn:1<=n.toNat:=by lia
 row_cond go
 refine ⟨n,es,rfl,n0,by lia,W,by lia,fun ess b=>adk acp ?_⟩
 obtain ⟨fs,o⟩:∃ fs,ess[(0:Int).toNat]?=some fs:=⟨_,aA0 (by have:=b.len;simp;lia)⟩
 have G:=b.row 0 fs (by lia) o
 have a3:atI (ess.map abj) 0=some (abj fs):=ago (f:=abj) (act (by lia) o)
 have U:fs ≠ []:=G.ne (Gr.farO_self (T:=Tied es) (a:=0))
 have g:=G.full n0
 have a2:=G.len
 row_cond go
 refine ava U ?_
 row_cond go
 by_cases hJ:Joined n es
 ·have a5:=g.mpr hJ
  obtain ⟨M,r⟩:=ajy hn (dsF es)
  row_cond go
  rw [atb ess abj [],show ess.length=n.toNat by have:=b.len;lia]
  refine adm (f:=fun u:Nat=>abj (ess.getD u [])) (fun u:Nat => .int (M u)) rfl (by simp;lia) (fun u O B' hB=>?_) ?_
  ·have a4:u < n.toNat:=aB8.mp O
   have o:ess[((u:Int)).toNat]?=some (ess.getD u []):=by
    rw [Int.toNat_natCast,aD2,aA0 (by have:=b.len;lia)]
    rfl
   have G:=b.row (u:Int) _ (by lia) o
   obtain ⟨ms,Y,m⟩:=G.vals
   have X:∀ x,ada ms x->x=M u:=fun x p=>by
    have R:ada ((List.range n.toNat).map fun (i:Nat)=>dsF es (u:Int) (i:Int)) x:=by
     refine ⟨?_,fun y hy=>?_⟩
     ·obtain ⟨v,j,v0,v1,hf,rfl⟩:=(m x).mp p.1
      refine aB6.mpr ⟨v.toNat,aB8.mpr (by lia),?_⟩
      rw [show ((v.toNat:Nat):Int)=v by lia]
      simp only [dsF,hf,Option.getD_some]
     ·obtain ⟨i,hi,rfl⟩:=aB6.mp hy
      obtain ⟨d,e⟩:=aiy hJ (show 0<=(u:Int) by lia) (by lia) (show 0<=(i:Int) by lia) (by have:=aB8.mp hi;lia)
      refine p.2 _ ((m _).mpr ⟨(i:Int),d,by lia,by have:=aB8.mp hi;lia,e,?_⟩)
      simp only [dsF,e,Option.getD_some]
    exact ah0 R (r u)
   have I:ms ≠ []:=fun e=>by
    have:=(m ((0:Nat):Int)).mpr ⟨(u:Int),0,by lia,by lia,Gr.farO_self,rfl⟩
    rw [e] at this
    cases this
   refine avz (ahs (abg (ass rfl (G.ne (Gr.farO_self (T:=Tied es) (a:=(u:Int)))) (acz ?_))))
   rw [Y]
   row_cond go
   exact ael I fun x p=>⟨by rw [X x p],rfl⟩
  ·rw [show (List.range n.toNat).map (fun u:Nat=>PyData.int (M u))=((List.range n.toNat).map M).map .int by rw [aD8];rfl]
   row_cond go
   refine ael (by simp;lia) fun x p=>?_
   row_cond go
   refine Z _ (.inl ⟨hJ,x,⟨?_,fun u v u0 u1 v0 v1=>?_⟩,rfl⟩)
   ·obtain ⟨u,O,e⟩:=aB6.mp p.1
    obtain ⟨v,hv,e2⟩:=aB6.mp (r u).1
    have:=aB8.mp O
    have:=aB8.mp hv
    exact ⟨(u:Int),(v:Int),by lia,by lia,by lia,by lia,e2.trans e⟩
   ·have h1:=(r u.toNat).2 _ (aB6.mpr ⟨v.toNat,aB8.mpr (by lia),rfl⟩)
    have h2:=p.2 _ (aB6.mpr ⟨u.toNat,aB8.mpr (by lia),rfl⟩)
    rw [show ((u.toNat:Nat):Int)=u by lia,show ((v.toNat:Nat):Int)=v by lia] at h1
    lia
 ·have a1:(fs.length:Int) < n:=by
   have:¬ (fs.length:Int)=n:=fun z=>hJ (g.mp z)
   lia
  row_cond go
  exact Z _ (.inr ⟨hJ,rfl⟩)
theorem sc_law_looks:FnScope ["deck","grower","web","a","b","far"] ["deck","grower","web"] (aai s_law_looks):=by row_cond sc
theorem ak5 (T:Txt K mg):Can P w K mg base "_law_looks" 11 ["deck","grower","web"] (spJ K (ayr mg)):=by
 obtain ⟨f,fd,D⟩:=T.d_law_looks
 obtain ⟨d,g⟩:=T.o_Grower
 have c:=g.mgx
 have N:=T.n_Grower_held _ c
 refine D.can (D.fn.ok sc_law_looks (fun vs H Q E h=>lenJ h fun ss Q' q=>by obtain ⟨C,n,es,j,S,rfl,y,Y,R⟩:=q;rfl) (fun cdv A outer s H vs Q E m h=>?_))
 have nd:=sc_law_looks.nd
 refine ⟨_,(aac (aan (i:=3) nd rfl (Or.inl rfl) (aag (aaj T) m (aaa (pv 0) (aaa (aal aam (pv 2) aae (fun _ _=>rfl)) aab))))
  (aac (aan (i:=4) nd rfl (Or.inl rfl) (aag (aaj T) m (aaa (pv 0) (aaa (aal aam (pv 2) aae (fun _ _=>rfl)) aab))))
  (aac (aan (i:=5) nd rfl (Or.inl rfl) (aag (adn T) m (aaa (pv 2) aab)))
  (aac (abh (PW.pt (avm (aa1 (agi m.units) (aep (ai2 T c) g.cl m (pv 1) (aaa (pv 3) (aaa (pv 4) aab))) (atq (ado m) (aal aam (aag (ags T) m (aaa (pv 2) aab)) (pv 3) (fun _ _=>rfl)) (pv 4) ⟨rfl,rfl,rfl,rfl⟩) (aaz _)) (aqq (aa1 (agi m.units) (akn (ai1 T c) g.cl m (pv 1)) (pv 2) (aaz _)))))
   (aah (aas afi))
   aa0)
  (aah (aas (a01 (ac5 aoi (pv 5) ads (aaz _)) (af7 (ac5 afj (aal aam (akn (afx T c) g.cl m (pv 1)) aae (fun _ _=>rfl)) (pv 5) (aaz _)))))))))),?_⟩
 refine av5 h fun ss Q' q B hK=>?_
 obtain ⟨C,n,es,j,S,rfl,y,Y,R⟩:=q
 show EvS B _ _ [some (.io ODk),some (.io (OI C (gF n es))),some (.st (webD n es)),none,none,none]
 obtain rfl:d=C:=by have:=c.symm.trans S;cases this;rfl
 have J:=y.gw Y
 have n0:=y.lo
 have n1:=y.hi
 have M:=J.inn
 have U:=y.len
 row_cond go
 refine ⟨n,rfl,rfl,by lia,by lia,fun a a0 a1=>?_⟩
 row_cond go
 refine ⟨n,rfl,rfl,by lia,by lia,fun b b0 b1=>?_⟩
 row_cond go
 refine ⟨n,es,rfl,J,fun l Z=>?_⟩
 repeat (first | (refine ajw (i:=1) (.inr rfl) (afv (by decide +kernel)) ?_) | row_cond st)
 refine ⟨_,_,rfl,.inr rfl,d,n,a,b,es,c,rfl,rfl,J,a0,a1,b0,b1,?_⟩
 dsimp only [List.set_cons_zero,List.set_cons_succ,reS]
 obtain ⟨o,W⟩:∃ o,Gr.farO (Tied es) a b=o:=⟨_,rfl⟩
 rw [W]
 have p:aap (oD o)=true:=by cases o <;> rfl
 have L:(oD o).depth<=60:=by cases o <;> simp [oD,PyData.depth]
 repeat (first | (refine asl ?_) | row_cond st)
 refine ⟨n,es,rfl,n0,by lia,M,by lia,fun ess z=>?_⟩
 obtain ⟨r,v⟩:∃ r,ess[a.toNat]?=some r:=⟨_,aA0 (by have:=z.len;lia)⟩
 have F:=z.row a r a0 v
 have X:atI (ess.map abj) a=some (abj r):=ago (f:=abj) (act a0 v)
 have G:r ≠ []:=F.ne (Gr.farO_self (T:=Tied es) (a:=a))
 have u:(valD r (.inl b)).getD .none=oD o:=by rw [F.val,W];cases o <;> rfl
 row_cond go
 refine ⟨r,rfl,G,?_⟩
 row_cond go
 refine ⟨.inl b,rfl,?_⟩
 rw [u]
 row_cond go
 refine ad6 p p L ?_
 rw [aem p]
 repeat (first | (refine ajw (i:=1) (.inr rfl) (afv (by decide +kernel)) ?_) | row_cond st)
 refine ⟨_,_,rfl,.inr rfl,d,n,es,c,rfl,rfl,by lia,ali ?_⟩
 dsimp only [List.set_cons_zero,List.set_cons_succ,reS]
 row_cond go
 refine ad6 (webP n es) (webP n es) (aqm n es) ?_
 rw [show PyData.tuple [PyData.int n,PyData.list (es.map prD)]=webD n es from rfl,aem (webP n es)]
 row_cond go
 rcases Z with ⟨I,x,hx,rfl⟩ | ⟨I,rfl⟩
 ·rw [show isNone (PyData.int x)=false from rfl]
  repeat (first | (refine ajw (i:=1) (.inr rfl) (afv (by decide +kernel)) ?_) | row_cond st)
  refine ⟨_,_,rfl,.inr rfl,d,n,es,c,rfl,rfl,J,I,fun x' a' b' hF=>?_⟩
  have O:=FarN.uniq (.inl ⟨I,x',hF.top,rfl⟩) (.inl ⟨I,x,hx,rfl⟩)
  cases O
  dsimp only [List.set_cons_zero,List.set_cons_succ,reS]
  row_cond go
  rw [aD6 rfl]
  exact R
 ·rw [show isNone PyData.none=true from rfl]
  row_cond go
  exact R
end
theorem DW.up {n:Int} {es:List (Int × Int)} {j:Nat} (h:DW n es j):DW n es (j+1):=⟨h.lo,h.hi,h.ps,by have:=h.len;lia⟩
theorem Deed.not {n m:Int} {es:List (Int × Int)} {d:PyData} {p:Int × Int} (h:Deed n es d m p):isNone d=false:=by cases h <;> rfl
section
variable {P:Program} {w:World} {K:Frag} {mg:Str->Option Value} {base:Heap}
theorem sc_law:FnScope ["script","deck","first","handed","webs","growers","k","at","deed","before","one"] ["script"] (aai s_law):=by row_cond sc
theorem ays (T:Txt K mg) {f:Addr} {fd:FuncData} (D:DefAt K mg "law" s_law ["script"] f fd):FnOk P w K mg base CX0 15 f fd ["script"] (spP K (av7)):=by
 obtain ⟨c,G⟩:=T.o_Grower
 have g:=G.mgx
 have a4:=T.n_Grower_held _ g
 refine D.fn.ok sc_law (fun vs H Q E h=>lenP h fun ss Q' q=>by obtain ⟨ns,rfl,Z,kk⟩:=q;rfl) (fun cdv A outer s H vs Q E J h=>?_)
 have nd:=sc_law.nd
 refine ⟨_,(aac (aan (i:=1) nd rfl (Or.inl rfl) (aag (anj T) J (aaa (pv 0) aab)))
  (aac (aan (i:=2) nd rfl (Or.inl rfl) (aag (ahm T) J (aaa (pv 1) aab)))
  (aac (aan (i:=3) nd rfl (Or.inl rfl) (aa6 (aaa (aal aam (pv 2) aae (fun _ _=>rfl)) (aaa (acm aft (by rfl) T.b_list ad5 (aaa (aal aam (pv 2) aae (fun _ _=>rfl)) aab)) aab))))
  (aac (aan (i:=4) nd rfl (Or.inl rfl) (aay (aaa (pv 2) (aaa (aal aam (aay (aaa (pv 2) (aaa (aag (ahm T) J (aaa (pv 1) aab)) aab))) (aag (aaj T) J (aaa (pv 1) (aaa aae aab))) (fun _ _=>rfl)) aab))))
  (aac (aan (i:=5) nd rfl (Or.inl rfl) (aay (aaa (am5 (adg T g) G J (aaa (pv 3) aab)) (aaa (am5 (adg T g) G J (aaa (aal aam (aay (aaa (pv 3) (aaa (aal aam (pv 4) aae (fun _ _=>rfl)) aab))) (acm aia (by rfl) T.b_int al2 (aaa (ac5 (agi J.units) (aal aam (pv 4) aae (fun _ _=>rfl)) (pv 2) (aaz _)) aab)) (fun _ _=>rfl)) aab)) aab))))
  (aac (abu aI8 rfl (abm rfl T.b_range (aaa aae aab)) (aao (i:=6) nd rfl (Or.inl rfl))
   (aac (aan (i:=7) nd rfl (Or.inl rfl) (aag (aaj T) J (aaa (pv 1) (aaa aae aab))))
    (aac (aan (i:=8) nd rfl (Or.inl rfl) (aag (ann T) J (aaa (pv 1) (aaa (aal aam (pv 4) (pv 7) (fun _ _=>rfl)) aab))))
    (aac (abh (aa1 at7 (pv 8) ads (aaz _))
     (aac (aan (i:=9) nd rfl (Or.inl rfl) (aag (adn T) J (aaa (aal aam (pv 4) (pv 7) (fun _ _=>rfl)) aab)))
      (aac (ab2 (aag (aj0 T) J (aaa (aal aam (pv 4) (pv 7) (fun _ _=>rfl)) (aaa (pv 8) aab))) (afb (pv 4) (pv 7) adh))
      (aah (abh (aa1 (agi J.units) (aag (ano T) J (aaa (aal aam (pv 5) (pv 7) (fun _ _=>rfl)) (aaa (pv 8) aab))) (aa6 (aaa (pv 9) (aaa (aag (adn T) J (aaa (aal aam (pv 4) (pv 7) (fun _ _=>rfl)) aab)) aab))) (aaz _))
       (aah (aas afi))
       aa0))))
     aa0)
    (aah (abu aI8 rfl (abm rfl T.b_range (aaa aae aab)) (aao (i:=10) nd rfl (Or.inl rfl))
     (aah (abh (aeb (adt (aag (ak5 T) J (aaa (pv 1) (aaa (aal aam (pv 5) (pv 10) (fun _ _=>rfl)) (aaa (aal aam (pv 4) (pv 10) (fun _ _=>rfl)) aab))))))
       (aah (aas afi))
       aa0))))))))
  (aah (aas (ac5 (ars J.units) (pv 3) (pv 2) (aaz _)))))))))),?_⟩
 refine abi h fun ss Q' q B hK=>?_
 refine exS1 ss q fun ns F=>?_
 have Z:=F.1
 have kk:=F.2
 clear F q
 show EvS B _ _ [some (.scr ns),none,none,none,none,none,none,none,none,none,none]
 row_cond go
 refine ⟨ns,rfl,Z,?_⟩
 row_cond go
 refine ⟨rfl,rfl,fun n es n0 n1 N hL=>?_⟩
 row_cond go
 refine ⟨rfl,rfl,fun n2 X b0 b1 bP bL=>?_⟩
 row_cond go
 refine ⟨2,rfl,rfl,by lia,by lia,fun r r0 r1=>?_⟩
 obtain ⟨m,qs,a9,a5⟩:∃ m qs,atI [webD n es,webD n2 X] r=some (webD m qs)/\DW m qs 0:=by
  rcases (show r=0\/r=1 by lia) with rfl | rfl
  ·exact ⟨n,es,rfl,n0,n1,N,hL⟩
  ·exact ⟨n2,X,rfl,b0,b1,bP,bL⟩
 have a6:DW n es 0:=⟨n0,n1,N,hL⟩
 repeat (first | (refine ast (i:=4) ?_) | (refine am4 (by assumption) ?_) | row_cond st)
 refine ⟨c,n,es,g,rfl,rfl,rfl,?_⟩
 refine ⟨_,_,_,rfl,.inl rfl,acp,fun B' hB=>?_⟩
 show EvO B' _ [some (.scr ns),none,some (.st (webD n es)),some (.st (webD n es)),some (.st (.list [webD n es,webD m qs])),none,none,none,none,none,none] _
 repeat (first | (refine am4 (hB.trans (by assumption)) ?_) | row_cond st)
 refine ad6 (webP m qs) (webP n es) (aqm m qs) ?_
 obtain ⟨bq,a2⟩:∃ b,(webD m qs).eqv (webD n es)=b:=⟨_,rfl⟩
 rw [a2]
 have a8:atI [webD n es,webD m qs] (if (!bq)=true then 1 else 0)=some (webD m qs):=by
  cases bq with
  | false=>rfl
  | true =>
   rw [(aey _ _ (webP m qs) (webP n es)).mp a2]
   rfl
 row_cond go
 refine ⟨c,m,qs,g,rfl,rfl,rfl,_,rfl,aya,fun v0 v1=>?_⟩
 repeat (first | (refine asu 5 rfl ?_;dsimp only [List.set_cons_zero,List.set_cons_succ]) | row_cond st)
 refine aby (fun k e=>∃ v6 v7 L M o na v nb u,e=[some (.scr ns),some (.own ODk),some (.st (webD n es)),some (.st (webD n es)),some (.own (OL [webD na v,webD nb u])),some (.own (OO2 v0 v1 (OI c (gF na v)) (OI c (gF nb u)))),v6,v7,L,M,o]/\DW na v k/\DW nb u k) ⟨_,_,_,_,_,n,es,m,qs,rfl,a6,a5⟩ ?_ ?_
 ·rintro k e hk l
  refine exS9 e l fun v6 v7 L M o na v nb u F=>?_
  have y:=F.1
  have z:=F.2
  clear F l
  have a7:k < 16:=hk
  row_cond go
  refine ⟨2,rfl,rfl,by lia,by lia,fun a a0 a1=>?_⟩
  rcases (show a=0\/a=1 by lia) with rfl | rfl
  ·have a3:=y.lo
   have hG:=y.gw (show k<=100 by lia)
   have q0:atI [webD na v,webD nb u] 0=some (webD na v):=rfl
   row_cond go
   refine ⟨na,v,k,rfl,rfl,y,by lia,?_,fun d C p hd=>?_⟩
   ·row_cond go
    rw [aF0 (show ¬ ((!isNone PyData.none)=true) from aA9)]
    row_cond go
    refine aby (fun j e=>∃ L M o,e=[some (.scr ns),some (.own ODk),some (.st (webD n es)),some (.st (webD n es)),some (.own (OL [webD na v,webD nb u])),some (.own (OO2 v0 v1 (OI c (gF na v)) (OI c (gF nb u)))),some (.st (.int (0+(k:Int)))),some (.st (.int 0)),L,M,o]) ⟨_,_,_,rfl⟩ ?_ ?_
    ·rintro j e W l
     refine exE3 e l fun L M o=>?_
     clear l
     rcases (show j=0\/j=1 by have:j < 2:=W;lia) with rfl | rfl
     ·have q:atI [webD na v,webD nb u] 0=some (webD na v):=rfl
      rw [show (0:Int)+((0:Nat):Int)=0 from rfl]
      repeat (first | (refine abx (v0:=v0) (v1:=v1) 5 (by assumption) ?_) | (refine ac8 (s:=.own _) rfl ?_) | (refine acx (m:=0) rfl rfl (by lia) ?_) | (refine ab7 ?_) | (refine acl ?_) | row_cond st)
      refine ⟨_,_,_,rfl,.rf (.inl rfl) (.rf (.inl rfl) (.pl .nil)),(by show List.Nodup [1,11];decide),c,na,v,k+1,g,rfl,y.up,by lia,?_⟩
      refine ⟨_,_,_,.rf rfl (.inl rfl) (.rf rfl (.inl rfl) (.pl .nil)),rfl,rfl,rfl,ade ?_⟩
      dsimp only [List.set_cons_zero,List.set_cons_succ,reS,spl,List.take,List.length_cons,List.length_nil,List.cons_append,List.nil_append]
      row_cond go
      exact ⟨_,_,_,rfl⟩
     ·have q:atI [webD na v,webD nb u] 1=some (webD nb u):=rfl
      rw [show (0:Int)+((1:Nat):Int)=1 from rfl]
      repeat (first | (refine abx (v0:=v0) (v1:=v1) 5 (by assumption) ?_) | (refine ac8 (s:=.own _) rfl ?_) | (refine acx (m:=1) rfl rfl (by lia) ?_) | (refine ab7 ?_) | (refine acl ?_) | row_cond st)
      refine ⟨_,_,_,rfl,.rf (.inl rfl) (.rf (.inl rfl) (.pl .nil)),(by show List.Nodup [1,12];decide),c,nb,u,k+1,g,rfl,z.up,by lia,?_⟩
      refine ⟨_,_,_,.rf rfl (.inl rfl) (.rf rfl (.inl rfl) (.pl .nil)),rfl,rfl,rfl,ade ?_⟩
      dsimp only [List.set_cons_zero,List.set_cons_succ,reS,spl,List.take,List.length_cons,List.length_nil,List.cons_append,List.nil_append]
      row_cond go
      exact ⟨_,_,_,rfl⟩
    ·rintro e l
     refine exE3 e l fun L M o=>?_
     clear l
     exact ⟨_,_,_,_,_,na,v,nb,u,rfl,y.up,z.up⟩
   ·row_cond go
    rw [hd.not,aE9 (show (!false)=true from rfl)]
    row_cond go
    refine ⟨na,v,rfl,hG,fun d0 h0=>?_⟩
    row_cond go
    refine ⟨na,C,v,k,d,p,rfl,y,by lia,hd,fun I J hq=>?_⟩
    have R:=hd.dw y hq
    have S:=R.gw (show k+1<=100 by lia)
    repeat (first | (refine abx (v0:=v0) (v1:=v1) 5 (by assumption) ?_) | (refine acx (m:=0) rfl rfl (by lia) ?_) | (refine ab7 ?_) | (refine acl ?_) | row_cond st)
    refine ⟨_,_,_,rfl,.rf (.inl rfl) (.pl .nil),(by show List.Nodup [11];decide),c,na,C,v,k,d,p,g,rfl,y,by lia,hd,fun us e0 e1 U O g0 Y=>?_⟩
    obtain rfl:I=us:=J.eq U fun x=>hq.mem_iff.trans O.mem_iff.symm
    obtain rfl:d0=e0:=h0.uniq g0
    obtain ⟨p0,z0,_⟩:=h0.plain
    obtain ⟨p1,z1,_⟩:=Y.plain
    have N:aap (.tuple [d0,e1])=true:=by simp only [aap,plainDs,p0,p1,Bool.and_self]
    refine ⟨_,_,_,.rf rfl (.inl rfl) (.pl .nil),rfl,rfl,rfl,ade ?_⟩
    dsimp only [List.set_cons_zero,List.set_cons_succ,reS,spl,List.take,List.length_cons,List.length_nil,List.cons_append,List.nil_append]
    have q1:atI [webD C I,webD nb u] 0=some (webD C I):=rfl
    row_cond go
    refine ⟨C,I,rfl,S,fun e2 h2=>?_⟩
    obtain rfl:e1=e2:=Y.uniq h2
    row_cond go
    refine ad6 N N (by simp only [PyData.depth,PyData.depthAll,z0,z1];lia) ?_
    rw [aem N]
    row_cond go
    refine aby (fun j e=>∃ L M o,e=[some (.scr ns),some (.own ODk),some (.st (webD n es)),some (.st (webD n es)),some (.own (OL [webD C I,webD nb u])),some (.own (OO2 v0 v1 (OI c (gF C I)) (OI c (gF nb u)))),some (.st (.int (0+(k:Int)))),some (.st (.int 0)),L,M,o]) ⟨_,_,_,rfl⟩ ?_ ?_
    ·rintro j e W l
     refine exE3 e l fun L M o=>?_
     clear l
     rcases (show j=0\/j=1 by have:j < 2:=W;lia) with rfl | rfl
     ·have q:atI [webD C I,webD nb u] 0=some (webD C I):=rfl
      rw [show (0:Int)+((0:Nat):Int)=0 from rfl]
      repeat (first | (refine abx (v0:=v0) (v1:=v1) 5 (by assumption) ?_) | (refine ac8 (s:=.own _) rfl ?_) | (refine acx (m:=0) rfl rfl (by lia) ?_) | (refine ab7 ?_) | (refine acl ?_) | row_cond st)
      refine ⟨_,_,_,rfl,.rf (.inl rfl) (.rf (.inl rfl) (.pl .nil)),(by show List.Nodup [1,11];decide),c,C,I,k+1,g,rfl,R,by lia,?_⟩
      refine ⟨_,_,_,.rf rfl (.inl rfl) (.rf rfl (.inl rfl) (.pl .nil)),rfl,rfl,rfl,ade ?_⟩
      dsimp only [List.set_cons_zero,List.set_cons_succ,reS,spl,List.take,List.length_cons,List.length_nil,List.cons_append,List.nil_append]
      row_cond go
      exact ⟨_,_,_,rfl⟩
     ·have q:atI [webD C I,webD nb u] 1=some (webD nb u):=rfl
      rw [show (0:Int)+((1:Nat):Int)=1 from rfl]
      repeat (first | (refine abx (v0:=v0) (v1:=v1) 5 (by assumption) ?_) | (refine ac8 (s:=.own _) rfl ?_) | (refine acx (m:=1) rfl rfl (by lia) ?_) | (refine ab7 ?_) | (refine acl ?_) | row_cond st)
      refine ⟨_,_,_,rfl,.rf (.inl rfl) (.rf (.inl rfl) (.pl .nil)),(by show List.Nodup [1,12];decide),c,nb,u,k+1,g,rfl,z.up,by lia,?_⟩
      refine ⟨_,_,_,.rf rfl (.inl rfl) (.rf rfl (.inl rfl) (.pl .nil)),rfl,rfl,rfl,ade ?_⟩
      dsimp only [List.set_cons_zero,List.set_cons_succ,reS,spl,List.take,List.length_cons,List.length_nil,List.cons_append,List.nil_append]
      row_cond go
      exact ⟨_,_,_,rfl⟩
    ·rintro e l
     refine exE3 e l fun L M o=>?_
     clear l
     exact ⟨_,_,_,_,_,C,I,nb,u,rfl,R,z.up⟩
  ·have a3:=z.lo
   have hG:=z.gw (show k<=100 by lia)
   have q0:atI [webD na v,webD nb u] 1=some (webD nb u):=rfl
   row_cond go
   refine ⟨nb,u,k,rfl,rfl,z,by lia,?_,fun d C p hd=>?_⟩
   ·row_cond go
    rw [aF0 (show ¬ ((!isNone PyData.none)=true) from aA9)]
    row_cond go
    refine aby (fun j e=>∃ L M o,e=[some (.scr ns),some (.own ODk),some (.st (webD n es)),some (.st (webD n es)),some (.own (OL [webD na v,webD nb u])),some (.own (OO2 v0 v1 (OI c (gF na v)) (OI c (gF nb u)))),some (.st (.int (0+(k:Int)))),some (.st (.int 1)),L,M,o]) ⟨_,_,_,rfl⟩ ?_ ?_
    ·rintro j e W l
     refine exE3 e l fun L M o=>?_
     clear l
     rcases (show j=0\/j=1 by have:j < 2:=W;lia) with rfl | rfl
     ·have q:atI [webD na v,webD nb u] 0=some (webD na v):=rfl
      rw [show (0:Int)+((0:Nat):Int)=0 from rfl]
      repeat (first | (refine abx (v0:=v0) (v1:=v1) 5 (by assumption) ?_) | (refine ac8 (s:=.own _) rfl ?_) | (refine acx (m:=0) rfl rfl (by lia) ?_) | (refine ab7 ?_) | (refine acl ?_) | row_cond st)
      refine ⟨_,_,_,rfl,.rf (.inl rfl) (.rf (.inl rfl) (.pl .nil)),(by show List.Nodup [1,11];decide),c,na,v,k+1,g,rfl,y.up,by lia,?_⟩
      refine ⟨_,_,_,.rf rfl (.inl rfl) (.rf rfl (.inl rfl) (.pl .nil)),rfl,rfl,rfl,ade ?_⟩
      dsimp only [List.set_cons_zero,List.set_cons_succ,reS,spl,List.take,List.length_cons,List.length_nil,List.cons_append,List.nil_append]
      row_cond go
      exact ⟨_,_,_,rfl⟩
     ·have q:atI [webD na v,webD nb u] 1=some (webD nb u):=rfl
      rw [show (0:Int)+((1:Nat):Int)=1 from rfl]
      repeat (first | (refine abx (v0:=v0) (v1:=v1) 5 (by assumption) ?_) | (refine ac8 (s:=.own _) rfl ?_) | (refine acx (m:=1) rfl rfl (by lia) ?_) | (refine ab7 ?_) | (refine acl ?_) | row_cond st)
      refine ⟨_,_,_,rfl,.rf (.inl rfl) (.rf (.inl rfl) (.pl .nil)),(by show List.Nodup [1,12];decide),c,nb,u,k+1,g,rfl,z.up,by lia,?_⟩
      refine ⟨_,_,_,.rf rfl (.inl rfl) (.rf rfl (.inl rfl) (.pl .nil)),rfl,rfl,rfl,ade ?_⟩
      dsimp only [List.set_cons_zero,List.set_cons_succ,reS,spl,List.take,List.length_cons,List.length_nil,List.cons_append,List.nil_append]
      row_cond go
      exact ⟨_,_,_,rfl⟩
    ·rintro e l
     refine exE3 e l fun L M o=>?_
     clear l
     exact ⟨_,_,_,_,_,na,v,nb,u,rfl,y.up,z.up⟩
   ·row_cond go
    rw [hd.not,aE9 (show (!false)=true from rfl)]
    row_cond go
    refine ⟨nb,u,rfl,hG,fun d0 h0=>?_⟩
    row_cond go
    refine ⟨nb,C,u,k,d,p,rfl,z,by lia,hd,fun I J hq=>?_⟩
    have R:=hd.dw z hq
    have S:=R.gw (show k+1<=100 by lia)
    repeat (first | (refine abx (v0:=v0) (v1:=v1) 5 (by assumption) ?_) | (refine acx (m:=1) rfl rfl (by lia) ?_) | (refine ab7 ?_) | (refine acl ?_) | row_cond st)
    refine ⟨_,_,_,rfl,.rf (.inl rfl) (.pl .nil),(by show List.Nodup [12];decide),c,nb,C,u,k,d,p,g,rfl,z,by lia,hd,fun us e0 e1 U O g0 Y=>?_⟩
    obtain rfl:I=us:=J.eq U fun x=>hq.mem_iff.trans O.mem_iff.symm
    obtain rfl:d0=e0:=h0.uniq g0
    obtain ⟨p0,z0,_⟩:=h0.plain
    obtain ⟨p1,z1,_⟩:=Y.plain
    have N:aap (.tuple [d0,e1])=true:=by simp only [aap,plainDs,p0,p1,Bool.and_self]
    refine ⟨_,_,_,.rf rfl (.inl rfl) (.pl .nil),rfl,rfl,rfl,ade ?_⟩
    dsimp only [List.set_cons_zero,List.set_cons_succ,reS,spl,List.take,List.length_cons,List.length_nil,List.cons_append,List.nil_append]
    have q1:atI [webD na v,webD C I] 1=some (webD C I):=rfl
    row_cond go
    refine ⟨C,I,rfl,S,fun e2 h2=>?_⟩
    obtain rfl:e1=e2:=Y.uniq h2
    row_cond go
    refine ad6 N N (by simp only [PyData.depth,PyData.depthAll,z0,z1];lia) ?_
    rw [aem N]
    row_cond go
    refine aby (fun j e=>∃ L M o,e=[some (.scr ns),some (.own ODk),some (.st (webD n es)),some (.st (webD n es)),some (.own (OL [webD na v,webD C I])),some (.own (OO2 v0 v1 (OI c (gF na v)) (OI c (gF C I)))),some (.st (.int (0+(k:Int)))),some (.st (.int 1)),L,M,o]) ⟨_,_,_,rfl⟩ ?_ ?_
    ·rintro j e W l
     refine exE3 e l fun L M o=>?_
     clear l
     rcases (show j=0\/j=1 by have:j < 2:=W;lia) with rfl | rfl
     ·have q:atI [webD na v,webD C I] 0=some (webD na v):=rfl
      rw [show (0:Int)+((0:Nat):Int)=0 from rfl]
      repeat (first | (refine abx (v0:=v0) (v1:=v1) 5 (by assumption) ?_) | (refine ac8 (s:=.own _) rfl ?_) | (refine acx (m:=0) rfl rfl (by lia) ?_) | (refine ab7 ?_) | (refine acl ?_) | row_cond st)
      refine ⟨_,_,_,rfl,.rf (.inl rfl) (.rf (.inl rfl) (.pl .nil)),(by show List.Nodup [1,11];decide),c,na,v,k+1,g,rfl,y.up,by lia,?_⟩
      refine ⟨_,_,_,.rf rfl (.inl rfl) (.rf rfl (.inl rfl) (.pl .nil)),rfl,rfl,rfl,ade ?_⟩
      dsimp only [List.set_cons_zero,List.set_cons_succ,reS,spl,List.take,List.length_cons,List.length_nil,List.cons_append,List.nil_append]
      row_cond go
      exact ⟨_,_,_,rfl⟩
     ·have q:atI [webD na v,webD C I] 1=some (webD C I):=rfl
      rw [show (0:Int)+((1:Nat):Int)=1 from rfl]
      repeat (first | (refine abx (v0:=v0) (v1:=v1) 5 (by assumption) ?_) | (refine ac8 (s:=.own _) rfl ?_) | (refine acx (m:=1) rfl rfl (by lia) ?_) | (refine ab7 ?_) | (refine acl ?_) | row_cond st)
      refine ⟨_,_,_,rfl,.rf (.inl rfl) (.rf (.inl rfl) (.pl .nil)),(by show List.Nodup [1,12];decide),c,C,I,k+1,g,rfl,R,by lia,?_⟩
      refine ⟨_,_,_,.rf rfl (.inl rfl) (.rf rfl (.inl rfl) (.pl .nil)),rfl,rfl,rfl,ade ?_⟩
      dsimp only [List.set_cons_zero,List.set_cons_succ,reS,spl,List.take,List.length_cons,List.length_nil,List.cons_append,List.nil_append]
      row_cond go
      exact ⟨_,_,_,rfl⟩
    ·rintro e l
     refine exE3 e l fun L M o=>?_
     clear l
     exact ⟨_,_,_,_,_,na,v,C,I,rfl,y.up,R⟩
 ·rintro e l
  refine exS9 e l fun v6 v7 L M o na v nb u F=>?_
  have y:=F.1
  have z:=F.2
  clear F l
  row_cond go
  refine aot (webP n es) (webP n es) (aqm n es) ?_
  rw [aem (webP n es)]
  row_cond go
  exact kk
theorem a00 (T:Txt K mg) {f:Addr} {fd:FuncData} (D:DefAt K mg "law" s_law ["script"] f fd):FnOk P w K mg base CX0 15 f fd ["script"] (aql K):=(ays T D).imp fun _ _ _ _ h=>avk h
end
theorem len0 {α:Type} {us:List α} (h:us.length=0):us=[]:=aG6 h
theorem len1 {α:Type} {us:List α} (h:us.length=1):∃ a0,us=[a0]:=by
 cases us with
 | nil=>cases h
 | cons a us=>exact ⟨a,by rw [len0 (Nat.succ.inj h)]⟩
theorem len2 {α:Type} {us:List α} (h:us.length=2):∃ a0 a1,us=[a0,a1]:=by
 cases us with
 | nil=>cases h
 | cons a us=>obtain ⟨a1,e⟩:=len1 (Nat.succ.inj h);exact ⟨a,a1,by rw [e]⟩
theorem len3 {α:Type} {us:List α} (h:us.length=3):∃ a0 a1 b,us=[a0,a1,b]:=by
 cases us with
 | nil=>cases h
 | cons a us=>obtain ⟨a1,b,e⟩:=len2 (Nat.succ.inj h);exact ⟨a,a1,b,by rw [e]⟩
def Bnd (x:Str) (st:Stmt) (ps:List Str):Prop:=∀ (kV doc pm:Value) (an:Option Addr) (cdv ct:Value) (us:List Value),us.length=ps.length->bindArgs (fnOf x x (abk st) (abf st) (aai st) .none kV doc pm an cdv ct) ⟨us,[]⟩=pure (ps.zip us)
def FnIn (K:Frag) (x:Str) (st:Stmt):Prop:=∃ f oc od kV dc pm an cd ct sl,nsIn K mainGlobals x=some (some (.ref f))/\K.lookup f=some ⟨oc,od,.func (fnOf x x (abk st) (abf st) (aai st) .none kV dc pm an cd ct),sl⟩/\codeIn K cd x=true/\keepIn K (.ref f)=true
theorem fn_in {K:Frag} {x:Str} {st:Stmt} {f:Addr} {od an:Option Addr} {sl:Array (Option Value)} {oc kV d pm b ct:Value} (a:nsIn K mainGlobals x=some (some (.ref f))) (l:K.lookup f=some ⟨oc,od,.func (fnOf x x (abk st) (abf st) (aai st) .none kV d pm an b ct),sl⟩) (c:codeIn K b x=true) (k:keepIn K (.ref f)=true):FnIn K x st:=⟨f,oc,od,kV,d,pm,an,b,ct,sl,a,l,c,k⟩
theorem bnd1 {st:Stmt} {x:Str} {ps:List Str} (c:ps.length=1) (h:∀ (kV doc pm:Value) (an:Option Addr) (cdv ct:Value) (a:Value),bindArgs (fnOf x x (abk st) (abf st) (aai st) .none kV doc pm an cdv ct) ⟨[a],[]⟩=pure (ps.zip [a])):Bnd x st ps:=by
 intro kV doc pm an cdv ct us b
 rw [c] at b
 obtain ⟨_,rfl⟩:=len1 b
 exact h _ _ _ _ _ _ _
theorem bnd2 {st:Stmt} {x:Str} {ps:List Str} (d:ps.length=2) (h:∀ (kV doc pm:Value) (an:Option Addr) (cdv ct:Value) (a c:Value),bindArgs (fnOf x x (abk st) (abf st) (aai st) .none kV doc pm an cdv ct) ⟨[a,c],[]⟩=pure (ps.zip [a,c])):Bnd x st ps:=by
 intro kV doc pm an cdv ct us b
 rw [d] at b
 obtain ⟨_,_,rfl⟩:=len2 b
 exact h _ _ _ _ _ _ _ _
theorem bnd3 {st:Stmt} {x:Str} {ps:List Str} (f:ps.length=3) (h:∀ (kV doc pm:Value) (an:Option Addr) (cdv ct:Value) (a d c:Value),bindArgs (fnOf x x (abk st) (abf st) (aai st) .none kV doc pm an cdv ct) ⟨[a,d,c],[]⟩=pure (ps.zip [a,d,c])):Bnd x st ps:=by
 intro kV doc pm an cdv ct us b
 rw [f] at b
 obtain ⟨_,_,_,rfl⟩:=len3 b
 exact h _ _ _ _ _ _ _ _ _
theorem aax {K:Frag} {h:Heap} {mg:Str->Option Value} {x:Str} {st:Stmt} {ps:List Str} (X:K.In h) (G:h.Ns mainGlobals mg) (q:FnIn K x st)
  (hb:Bnd x st ps):∃ f fd,DefAt K mg x st ps f fd:=by
 obtain ⟨f,oc,od,kV,d,pm,an,b,ct,sl,a,l,c,k⟩:=q
 exact ⟨_,_,have F:=arf (st:=st) l c k;⟨F,mg_of X G a,F.binds hb⟩⟩
def MBnd (x y:Str) (st:Stmt) (ps:List Str):Prop:=∀ (kV doc pm:Value) (an:Option Addr) (cdv ct:Value) (us:List Value),us.length=ps.length->bindArgs (fnOf x y (abk st) (abf st) (aai st) .none kV doc pm an cdv ct) ⟨us,[]⟩=pure (ps.zip us)
def MeIn (K:Frag) (C:Addr) (x y:Str) (st:Stmt):Prop:=∃ f oc od kV dc pm an cd ct sl,PySem.W.findIn K (.ref C) x=some (some (.ref f))/\PySem.W.isFn K (.ref f)=true/\K.lookup f=some ⟨oc,od,.func (fnOf x y (abk st) (abf st) (aai st) .none kV dc pm an cd ct),sl⟩/\codeIn K cd y=true/\keepIn K (.ref f)=true
theorem me_in {K:Frag} {C:Addr} {x y:Str} {st:Stmt} {f:Addr} {od an:Option Addr} {sl:Array (Option Value)} {oc kV d pm b ct:Value} (a:PySem.W.findIn K (.ref C) x=some (some (.ref f))) (i:PySem.W.isFn K (.ref f)=true) (l:K.lookup f=some ⟨oc,od,.func (fnOf x y (abk st) (abf st) (aai st) .none kV d pm an b ct),sl⟩) (c:codeIn K b y=true) (k:keepIn K (.ref f)=true):MeIn K C x y st:=⟨f,oc,od,kV,d,pm,an,b,ct,sl,a,i,l,c,k⟩
theorem mbn1 {st:Stmt} {x y:Str} {ps:List Str} (c:ps.length=1) (h:∀ (kV doc pm:Value) (an:Option Addr) (cdv ct:Value) (a:Value),bindArgs (fnOf x y (abk st) (abf st) (aai st) .none kV doc pm an cdv ct) ⟨[a],[]⟩=pure (ps.zip [a])):MBnd x y st ps:=by
 intro kV doc pm an cdv ct us b
 rw [c] at b
 obtain ⟨_,rfl⟩:=len1 b
 exact h _ _ _ _ _ _ _
theorem mbn2 {st:Stmt} {x y:Str} {ps:List Str} (d:ps.length=2) (h:∀ (kV doc pm:Value) (an:Option Addr) (cdv ct:Value) (a c:Value),bindArgs (fnOf x y (abk st) (abf st) (aai st) .none kV doc pm an cdv ct) ⟨[a,c],[]⟩=pure (ps.zip [a,c])):MBnd x y st ps:=by
 intro kV doc pm an cdv ct us b
 rw [d] at b
 obtain ⟨_,_,rfl⟩:=len2 b
 exact h _ _ _ _ _ _ _ _
theorem mbn3 {st:Stmt} {x y:Str} {ps:List Str} (f:ps.length=3) (h:∀ (kV doc pm:Value) (an:Option Addr) (cdv ct:Value) (c d b:Value),bindArgs (fnOf x y (abk st) (abf st) (aai st) .none kV doc pm an cdv ct) ⟨[c,d,b],[]⟩=pure (ps.zip [c,d,b])):MBnd x y st ps:=by
 intro kV doc pm an cdv ct us a
 rw [f] at a
 obtain ⟨_,_,_,rfl⟩:=len3 a
 exact h _ _ _ _ _ _ _ _ _
theorem afy {K:Frag} {C:Addr} {x y:Str} {st:Stmt} {ps:List Str} (q:MeIn K C x y st) (hb:MBnd x y st ps):∃ f fd,MeAt K C x y st ps f fd:=by
 obtain ⟨f,oc,od,kV,d,pm,an,b,ct,sl,a,i,l,c,k⟩:=q
 exact ⟨_,_,have F:=arf (st:=st) l c k;⟨F,⟨a,i,k⟩,F.binds hb⟩⟩
theorem txt_mk {K:Frag} {h:Heap} {mg:Str->Option Value} (X:K.In h) (G:h.Ns mainGlobals mg)
  {j:Tok} {a:Addr} 
  (h0:FnIn K "is_whole" s_is_whole)
  (h1:FnIn K "is_between" s_is_between)
  (h2:FnIn K "need_number" s_need_number)
  (h3:FnIn K "is_place" s_is_place)
  (h4:FnIn K "is_tie" s_is_tie)
  (h5:FnIn K "are_ties" s_are_ties)
  (h6:FnIn K "is_rising" s_is_rising)
  (h7:FnIn K "tied_places" s_tied_places)
  (h8:FnIn K "far_from" s_far_from)
  (h9:FnIn K "need_place" s_need_place)
  (T:FnIn K "all_far" s_all_far)
  (Y:FnIn K "how_far" s_how_far)
  (P:FnIn K "is_joined" s_is_joined)
  (R:FnIn K "need_joined" s_need_joined)
  (a6:FnIn K "far_rows" s_far_rows)
  (a5:FnIn K "most_far" s_most_far)
  (Q:FnIn K "farthest_two" s_farthest_two)
  (a1:FnIn K "with_ties" s_with_ties)
  (a7:FnIn K "far_or_none" s_far_or_none)
  (b2:FnIn K "_law_deck" s_law_deck)
  (a9:FnIn K "_law_draw" s_law_draw)
  (a0:FnIn K "_law_tied" s_law_tied)
  (b0:FnIn K "_law_fars" s_law_fars)
  (S:FnIn K "_law_order" s_law_order)
  (Z:FnIn K "_law_crowds" s_law_crowds)
  (a8:FnIn K "_law_web" s_law_web)
  (b1:FnIn K "_law_deed" s_law_deed)
  (a4:FnIn K "_law_behind" s_law_behind)
  (O:FnIn K "_law_done" s_law_done)
  (a3:FnIn K "_law_far_of" s_law_far_of)
  (U:FnIn K "_law_looks" s_law_looks)
  (a2:FnIn K "law" s_law)
  (q:nsIn K mainGlobals "ValueError" = some none)
  (N:nsIn K mainGlobals "all" = some none)
  (I:nsIn K mainGlobals "max" = some none)
  (z:nsIn K mainGlobals "sorted" = some none)
  (B:nsIn K mainGlobals "range" = some none)
  (E:nsIn K mainGlobals "dict" = some none)
  (D:nsIn K mainGlobals "list" = some none)
  (r:nsIn K mainGlobals "isinstance" = some none)
  (L:nsIn K mainGlobals "int" = some none)
  (M:nsIn K mainGlobals "len" = some none)
  (J:nsIn K mainGlobals "sum" = some none)
  (H:nsIn K mainGlobals "min" = some none)
  (F:nsIn K mainGlobals "bool" = some none)
  (A:nsIn K mainGlobals "tuple" = some none)
  (o:nsIn K mainGlobals "MOST_PLACES" = some (some (.int 60 j)))
  (b:nsIn K mainGlobals "Grower" = some (some (.ref a))) (v:PySem.W.plainGet K a Str.empty=true) (x:PySem.W.hasDictIn K a=true) (s:PySem.W.plainOver K a=true) (w:PySem.W.findIn K (.ref a) "__setattr__" = some (some (.builtin "object.__setattr__"))) (u:PySem.W.makesIn K a=true) (y:keepIn K (.ref a)=true)
  (l:PySem.W.findIn K (.ref a) "held" = some none)
  (f:MeIn K a "__init__" "Grower.__init__" s_Grower____init__)
  (c:MeIn K a "put_place" "Grower.put_place" s_Grower__put_place)
  (g:MeIn K a "put_tie" "Grower.put_tie" s_Grower__put_tie)
  (i:MeIn K a "become" "Grower.become" s_Grower__become)
  (n:MeIn K a "web" "Grower.web" s_Grower__web)
  (d:MeIn K a "farthest" "Grower.farthest" s_Grower__farthest)
  (m:MeIn K a "far" "Grower.far" s_Grower__far)
  : Txt K mg where
  o_Grower:=⟨_,mg_of X G b,⟨v,x,s,w⟩,u,y⟩
  n_Grower_held:=fun C p=>by rw [mg_of X G b] at p;cases p;exact l
  m_Grower____init__:=fun C p=>by rw [mg_of X G b] at p;cases p;exact afy f (mbn2 rfl fun _ _ _ _ _ _ _ _=>rfl)
  m_Grower__put_place:=fun C p=>by rw [mg_of X G b] at p;cases p;exact afy c (mbn2 rfl fun _ _ _ _ _ _ _ _=>rfl)
  m_Grower__put_tie:=fun C p=>by rw [mg_of X G b] at p;cases p;exact afy g (mbn3 rfl fun _ _ _ _ _ _ _ _ _=>rfl)
  m_Grower__become:=fun C p=>by rw [mg_of X G b] at p;cases p;exact afy i (mbn2 rfl fun _ _ _ _ _ _ _ _=>rfl)
  m_Grower__web:=fun C p=>by rw [mg_of X G b] at p;cases p;exact afy n (mbn1 rfl fun _ _ _ _ _ _ _=>rfl)
  m_Grower__farthest:=fun C p=>by rw [mg_of X G b] at p;cases p;exact afy d (mbn1 rfl fun _ _ _ _ _ _ _=>rfl)
  m_Grower__far:=fun C p=>by rw [mg_of X G b] at p;cases p;exact afy m (mbn3 rfl fun _ _ _ _ _ _ _ _ _=>rfl)
  b_ValueError:=mg_none_of X G q
  b_all:=mg_none_of X G N
  b_max:=mg_none_of X G I
  b_sorted:=mg_none_of X G z
  b_range:=mg_none_of X G B
  b_dict:=mg_none_of X G E
  b_list:=mg_none_of X G D
  b_isinstance:=mg_none_of X G r
  b_int:=mg_none_of X G L
  b_len:=mg_none_of X G M
  b_sum:=mg_none_of X G J
  b_min:=mg_none_of X G H
  b_bool:=mg_none_of X G F
  b_tuple:=mg_none_of X G A
  v_MOST_PLACES:=⟨_,mg_of X G o⟩
  d_is_whole:=aax X G h0 (bnd1 rfl fun _ _ _ _ _ _ _=>rfl)
  d_is_between:=aax X G h1 (bnd3 rfl fun _ _ _ _ _ _ _ _ _=>rfl)
  d_need_number:=aax X G h2 (bnd3 rfl fun _ _ _ _ _ _ _ _ _=>rfl)
  d_is_place:=aax X G h3 (bnd2 rfl fun _ _ _ _ _ _ _ _=>rfl)
  d_is_tie:=aax X G h4 (bnd2 rfl fun _ _ _ _ _ _ _ _=>rfl)
  d_are_ties:=aax X G h5 (bnd2 rfl fun _ _ _ _ _ _ _ _=>rfl)
  d_is_rising:=aax X G h6 (bnd1 rfl fun _ _ _ _ _ _ _=>rfl)
  d_tied_places:=aax X G h7 (bnd1 rfl fun _ _ _ _ _ _ _=>rfl)
  d_far_from:=aax X G h8 (bnd2 rfl fun _ _ _ _ _ _ _ _=>rfl)
  d_need_place:=aax X G h9 (bnd2 rfl fun _ _ _ _ _ _ _ _=>rfl)
  d_all_far:=aax X G T (bnd2 rfl fun _ _ _ _ _ _ _ _=>rfl)
  d_how_far:=aax X G Y (bnd3 rfl fun _ _ _ _ _ _ _ _ _=>rfl)
  d_is_joined:=aax X G P (bnd1 rfl fun _ _ _ _ _ _ _=>rfl)
  d_need_joined:=aax X G R (bnd1 rfl fun _ _ _ _ _ _ _=>rfl)
  d_far_rows:=aax X G a6 (bnd1 rfl fun _ _ _ _ _ _ _=>rfl)
  d_most_far:=aax X G a5 (bnd1 rfl fun _ _ _ _ _ _ _=>rfl)
  d_farthest_two:=aax X G Q (bnd1 rfl fun _ _ _ _ _ _ _=>rfl)
  d_with_ties:=aax X G a1 (bnd2 rfl fun _ _ _ _ _ _ _ _=>rfl)
  d_far_or_none:=aax X G a7 (bnd1 rfl fun _ _ _ _ _ _ _=>rfl)
  d_law_deck:=aax X G b2 (bnd1 rfl fun _ _ _ _ _ _ _=>rfl)
  d_law_draw:=aax X G a9 (bnd2 rfl fun _ _ _ _ _ _ _ _=>rfl)
  d_law_tied:=aax X G a0 (bnd1 rfl fun _ _ _ _ _ _ _=>rfl)
  d_law_fars:=aax X G b0 (bnd1 rfl fun _ _ _ _ _ _ _=>rfl)
  d_law_order:=aax X G S (bnd2 rfl fun _ _ _ _ _ _ _ _=>rfl)
  d_law_crowds:=aax X G Z (bnd1 rfl fun _ _ _ _ _ _ _=>rfl)
  d_law_web:=aax X G a8 (bnd1 rfl fun _ _ _ _ _ _ _=>rfl)
  d_law_deed:=aax X G b1 (bnd2 rfl fun _ _ _ _ _ _ _ _=>rfl)
  d_law_behind:=aax X G a4 (bnd2 rfl fun _ _ _ _ _ _ _ _=>rfl)
  d_law_done:=aax X G O (bnd2 rfl fun _ _ _ _ _ _ _ _=>rfl)
  d_law_far_of:=aax X G a3 (bnd1 rfl fun _ _ _ _ _ _ _=>rfl)
  d_law_looks:=aax X G U (bnd3 rfl fun _ _ _ _ _ _ _ _ _=>rfl)
  d_law:=aax X G a2 (bnd1 rfl fun _ _ _ _ _ _ _=>rfl)
theorem walk {l:PySem.W.OpenLaw} {q:Program} {b:List Str} {o:(Str->Option Value)->Heap->Prop} {j:World->Heap->Prop} {d:DefRec} {K:Params->Frag} (hn:l.most=some 63) (g:d.params.defaults=[]) (i:d.name = "law")
  (v:∀ (w:World) (h:Heap),j w h->(K w.params).In h)
  (F:∀ (w:World) (mg:Str->Option Value) (h:Heap),(K w.params).In h->h.Ns mainGlobals mg->Txt (K w.params) mg) :
  PySem.W.WalkO q b o j l.row.toRowW d [] (fun f vs=>PySem.call f vs):=by
 refine L2.walk_of (n:=63) (k:=15) (x:="script") (CX:=fun _=>CX0) (sp:=fun w=>aql (K w.params)) hn (by decide) g ⟨rfl,by decide,by decide⟩ v (fun w mg B h X G e=>?_) (fun _ _ a ns m _ y=>⟨a,ns,rfl,y,m,fun _=>rfl⟩) fun _ _ _ _ _ z=>z
 have T:=F w mg h X G
 rw [i] at e
 obtain ⟨A,c,D⟩:=T.d_law
 have p:=e.symm.trans D.mgx
 cases p
 refine ⟨c,fun s u=>?_,fun base _ _=>?_⟩
 ·obtain ⟨oc,od,kV,doc,pm,an,cdv,ct,osl,rfl,C,r⟩:=D.fn.ex
  exact .of_eq rfl
 ·exact a00 T D
end G
end
theorem PySem.W.Fast.tw2228054472804343643 : True := trivial
theorem PySem.W.Fast.tw8293509477671683515 : True := trivial
theorem PySem.W.Fast.tw14502464325130498310 : True := trivial
theorem PySem.W.Fast.tw4008860561892781944 : True := trivial
theorem PySem.W.Fast.tw9629918334786198860 : True := trivial
theorem PySem.W.Fast.tw14632707237492463369 : True := trivial
theorem PySem.W.Fast.tw13310590813902617978 : True := trivial
theorem PySem.W.Fast.tw4149585093241092564 : True := trivial
theorem PySem.W.Fast.tw10685359744830637393 : True := trivial
theorem PySem.W.Fast.tw10569740325746024136 : True := trivial
theorem PySem.W.Fast.tw17159649878250635881 : True := trivial
theorem PySem.W.Fast.tw16279710437076854355 : True := trivial
theorem PySem.W.Fast.tw9944843065445356436 : True := trivial
theorem PySem.W.Fast.tw6156558069945606276 : True := trivial
theorem PySem.W.Fast.tw10606375563407788072 : True := trivial
theorem PySem.W.Fast.tw13154000314372758239 : True := trivial
theorem PySem.W.Fast.tw14449053803498733188 : True := trivial
theorem PySem.W.Fast.tw3817389565263884706 : True := trivial
theorem PySem.W.Fast.tw18327776473635479322 : True := trivial
theorem PySem.W.Fast.tw761069000359684956 : True := trivial
theorem PySem.W.Fast.tw13605996333164188524 : True := trivial
theorem PySem.W.Fast.tw1560428937245088981 : True := trivial
theorem PySem.W.Fast.tw16391458154957598131 : True := trivial
theorem PySem.W.Fast.tw15389548560951741071 : True := trivial
theorem PySem.W.Fast.tw6011732536240995607 : True := trivial
theorem PySem.W.Fast.tw12026983302820038681 : True := trivial
theorem PySem.W.Fast.tw17014701229010850993 : True := trivial
theorem PySem.W.Fast.tw18050748438105974283 : True := trivial
theorem PySem.W.Fast.tw10694636425594110918 : True := trivial
theorem PySem.W.Fast.tw18348024891927072753 : True := trivial
theorem PySem.W.Fast.tw5521142364389747221 : True := trivial
theorem PySem.W.Fast.tw14136261179441214274 : True := trivial
theorem PySem.W.Fast.tw11871169565690386237 : True := trivial
theorem PySem.W.Fast.tw17696321917355932780 : True := trivial
theorem PySem.W.Fast.tw16964328889005496919 : True := trivial
theorem PySem.W.Fast.tw15446532715455933530 : True := trivial
theorem PySem.W.Fast.tw7832107151165625097 : True := trivial
theorem PySem.W.Fast.tw16541742319891395477 : True := trivial
theorem PySem.W.Fast.tw15063121858613646951 : True := trivial
theorem PySem.W.Fast.tw12134256613735716063 : True := trivial
theorem PySem.W.Fast.tw6472653590320183989 : True := trivial
theorem PySem.W.Fast.tw17252705906088968588 : True := trivial
theorem PySem.W.Fast.tw14074822714046435654 : True := trivial
theorem PySem.W.Fast.tw5489976985742792261 : True := trivial
theorem PySem.W.Fast.tw17312441342510856322 : True := trivial
theorem PySem.W.Fast.tw15049396312176482485 : True := trivial
theorem PySem.W.Fast.tw1437957951963024659 : True := trivial
theorem PySem.W.Fast.tw6170921622020447994 : True := trivial
theorem PySem.W.Fast.tw17165852026492214104 : True := trivial
theorem PySem.W.Fast.tw7348143491888720125 : True := trivial
theorem PySem.W.Fast.tw16249167795688515901 : True := trivial
theorem PySem.W.Fast.tw5019858945799057908 : True := trivial
theorem PySem.W.Fast.tw15052692592715005402 : True := trivial
theorem PySem.W.Fast.tw17606658226952983181 : True := trivial
theorem PySem.W.Fast.tw2428269526565227074 : True := trivial
theorem PySem.W.Fast.tw6050971095795181237 : True := trivial
theorem PySem.W.Fast.tw11064007862723566976 : True := trivial
theorem PySem.W.Fast.tw2600933128195958049 : True := trivial
theorem PySem.W.Fast.tw11849517808320181266 : True := trivial
theorem PySem.W.Fast.tw1131590851975186433 : True := trivial
theorem PySem.W.Fast.tw12521769768994262456 : True := trivial
theorem PySem.W.Fast.tw12696349077751670841 : True := trivial
theorem PySem.W.Fast.tw14654457054858647544 : True := trivial
theorem PySem.W.Fast.tw4475962077469432820 : True := trivial
theorem PySem.W.Fast.tw10679240771654783533 : True := trivial
theorem PySem.W.Fast.tw16621584282591541789 : True := trivial
theorem PySem.W.Fast.tw652323549511656822 : True := trivial
theorem PySem.W.Fast.tw242930084516592126 : True := trivial
theorem PySem.W.Fast.tw2617048249722945749 : True := trivial
theorem PySem.W.Fast.tw9011506293982920259 : True := trivial
theorem PySem.W.Fast.tw15822554948934482136 : True := trivial
theorem PySem.W.Fast.tw390039837470231947 : True := trivial
theorem PySem.W.Fast.tw4249536003909381432 : True := trivial
theorem PySem.W.Fast.tw3975046073797793362 : True := trivial
theorem PySem.W.Fast.tw14529398025809579895 : True := trivial
theorem PySem.W.Fast.tw3089889880933794418 : True := trivial
theorem PySem.W.Fast.tw4464471712105503931 : True := trivial
theorem PySem.W.Fast.tw14981164508017809650 : True := trivial
theorem PySem.W.Fast.tw13380573021786155937 : True := trivial
theorem PySem.W.Fast.tw2307110253667157304 : True := trivial
theorem PySem.W.Fast.tw17435759234452877210 : True := trivial
theorem PySem.W.Fast.tw13728985642390245245 : True := trivial
theorem PySem.W.Fast.tw3523652761224245732 : True := trivial
theorem PySem.W.Fast.tw17547596617264072040 : True := trivial
theorem PySem.W.Fast.tw14872791267459832415 : True := trivial
theorem PySem.W.Fast.tw7061854348103904201 : True := trivial
theorem PySem.W.Fast.tw15632161052858598328 : True := trivial
theorem PySem.W.Fast.tw1031500138310555563 : True := trivial
theorem PySem.W.Fast.tw2114624383374433682 : True := trivial
theorem PySem.W.Fast.tw2270088038904455762 : True := trivial
theorem PySem.W.Fast.tw13773775431370239723 : True := trivial
theorem PySem.W.Fast.tw2887386300746563943 : True := trivial
theorem PySem.W.Fast.tw8745382067840261184 : True := trivial
theorem PySem.W.Fast.tw13845647376780238071 : True := trivial
theorem PySem.W.Fast.tw5582169173085452696 : True := trivial
theorem PySem.W.Fast.tw2469297830701007186 : True := trivial
theorem PySem.W.Fast.tw16215341420417762361 : True := trivial
theorem PySem.W.Fast.tw10261850410032757801 : True := trivial
theorem PySem.W.Fast.tw889329959925113018 : True := trivial
theorem PySem.W.Fast.tw10426080464533221224 : True := trivial
theorem PySem.W.Fast.tw15026278716745002623 : True := trivial
theorem PySem.W.Fast.tw2700182171959728399 : True := trivial
theorem PySem.W.Fast.tw9238118318290565030 : True := trivial
theorem PySem.W.Fast.tw694707001472913869 : True := trivial
theorem PySem.W.Fast.tw12498052078229296190 : True := trivial
theorem PySem.W.Fast.tw5632517535395391650 : True := trivial
theorem PySem.W.Fast.tw5564587928347663584 : True := trivial
theorem PySem.W.Fast.tw11291197267018849046 : True := trivial
theorem PySem.W.Fast.tw5053037188511332349 : True := trivial
theorem PySem.W.Fast.tw9507483554881189879 : True := trivial
theorem PySem.W.Fast.tw13329750118673538038 : True := trivial
theorem PySem.W.Fast.tw10005469083954842876 : True := trivial
theorem PySem.W.Fast.tw1737530957603403444 : True := trivial
theorem PySem.W.Fast.tw16630897637059568330 : True := trivial
theorem PySem.W.Fast.tw11123995339249406199 : True := trivial
theorem PySem.W.Fast.tw8296577206283392412 : True := trivial
theorem PySem.W.Fast.tw11685568326126850898 : True := trivial
theorem PySem.W.Fast.tw6688649443791608844 : True := trivial
theorem PySem.W.Fast.tw13589150941200623075 : True := trivial
theorem PySem.W.Fast.tw8456603436200736299 : True := trivial
theorem PySem.W.Fast.tw2568207269310438580 : True := trivial
theorem PySem.W.Fast.tw10722437879008442548 : True := trivial
theorem PySem.W.Fast.tw10816361180040320016 : True := trivial
theorem PySem.W.Fast.tw15374181107545759210 : True := trivial
theorem PySem.W.Fast.tw11093660371581031659 : True := trivial
theorem PySem.W.Fast.tw13861763215163474211 : True := trivial
theorem PySem.W.Fast.tw15946132584209203613 : True := trivial
theorem PySem.W.Fast.tw15522662968918956707 : True := trivial
theorem PySem.W.Fast.tw18182299754501240125 : True := trivial
theorem PySem.W.Fast.tw3771750915134885827 : True := trivial
theorem PySem.W.Fast.tw18265464393457785611 : True := trivial
theorem PySem.W.Fast.tw18251925223363297719 : True := trivial
theorem PySem.W.Fast.tw2027364126907991725 : True := trivial
theorem PySem.W.Fast.tw9684704769385773547 : True := trivial
theorem PySem.W.Fast.tw906313064965613285 : True := trivial
theorem PySem.W.Fast.tw235660810453875987 : True := trivial
theorem PySem.W.Fast.tw4330571698002458242 : True := trivial
theorem PySem.W.Fast.tw10369689047193535438 : True := trivial
theorem PySem.W.Fast.tw17980137870017263295 : True := trivial
theorem PySem.W.Fast.tw10604955763665751324 : True := trivial
theorem PySem.W.Fast.tw8278414183896602859 : True := trivial
theorem PySem.W.Fast.tw10840087003809733270 : True := trivial
theorem PySem.W.Fast.tw6842929289189286149 : True := trivial
theorem PySem.W.Fast.tw3577398571491641971 : True := trivial
theorem PySem.W.Fast.tw2412932664709977912 : True := trivial
theorem PySem.W.Fast.tw4947968194232873597 : True := trivial
theorem PySem.W.Fast.tw12143494086159240425 : True := trivial
theorem PySem.W.Fast.tw4747619201083770319 : True := trivial
theorem PySem.W.Fast.tw13188869859708537139 : True := trivial
theorem PySem.W.Fast.tw456659164521332848 : True := trivial
theorem PySem.W.Fast.tw13547676425667538942 : True := trivial
theorem PySem.W.Fast.tw6907851959880929627 : True := trivial
theorem PySem.W.Fast.tw8642993964666805597 : True := trivial
theorem PySem.W.Fast.tw1146406699280198481 : True := trivial
theorem PySem.W.Fast.tw2894942054349063003 : True := trivial
theorem PySem.W.Fast.tw5851722571555149163 : True := trivial
theorem PySem.W.Fast.tw4780204775544328589 : True := trivial
theorem PySem.W.Fast.tw7683078109732483675 : True := trivial
theorem PySem.W.Fast.tw16836944658655089779 : True := trivial
theorem PySem.W.Fast.tw6370794249315537843 : True := trivial
theorem PySem.W.Fast.tw11191245672983477489 : True := trivial
theorem PySem.W.Fast.tw8560127931526479932 : True := trivial
theorem PySem.W.Fast.tw14706974893640519825 : True := trivial
theorem PySem.W.Fast.tw13966836681477721545 : True := trivial
theorem PySem.W.Fast.tw14136714112950007113 : True := trivial
theorem PySem.W.Fast.tw2870912219292107152 : True := trivial
theorem PySem.W.Fast.tw16154863937716373697 : True := trivial
theorem PySem.W.Fast.tw15490953361923998617 : True := trivial
theorem PySem.W.Fast.tw14459264525702137003 : True := trivial
theorem PySem.W.Fast.tw14556970157138722685 : True := trivial
theorem PySem.W.Fast.tw16357623754117967536 : True := trivial
theorem PySem.W.Fast.tw7742007350810021647 : True := trivial
theorem PySem.W.Fast.tw3554033950814296075 : True := trivial
theorem PySem.W.Fast.tw9740052566469975097 : True := trivial
theorem PySem.W.Fast.tw7397650932978568701 : True := trivial
theorem PySem.W.Fast.tw4214892012499699480 : True := trivial
theorem PySem.W.Fast.tw15421952292303380866 : True := trivial
theorem PySem.W.Fast.tw1330165510593641665 : True := trivial
theorem PySem.W.Fast.tw1083936086857070749 : True := trivial
theorem PySem.W.Fast.tw2978952111508169197 : True := trivial
theorem PySem.W.Fast.tw567086202995642426 : True := trivial
theorem PySem.W.Fast.tw706631172004287886 : True := trivial
theorem PySem.W.Fast.tw6240302405912391442 : True := trivial
theorem PySem.W.Fast.tw11642404772359690484 : True := trivial
theorem PySem.W.Fast.tw16475018409123581415 : True := trivial
theorem PySem.W.Fast.tw14440372628704727343 : True := trivial
theorem PySem.W.Fast.tw6533452228567985722 : True := trivial
theorem PySem.W.Fast.tw4876879568355037951 : True := trivial
theorem PySem.W.Fast.tw16484487711656756669 : True := trivial
open PySem PySem.W PyProof.Rows
set_option maxRecDepth 100000 in
set_option maxHeartbeats 0 in
theorem PySem.Challenge.cw_fewties_k44_growers_apart_holds : PySem.Challenge.rw_fewties_k44_growers_apart.Holds := by
 w_on;o_law;k_head;(case hw=>w_witness2)
 k_fill
 refine G.walk (l:=PySem.Challenge.rw_fewties_k44_growers_apart) rfl rfl rfl (fun w h Y=>PySem.W.kIn_of Y) ?F
 case F =>
  intro w mg h KX GG
  refine' G.txt_mk KX GG ..
  all_goals try (refine' G.fn_in ?a_ ?l_ ?c_ ?k_;(case a_=>k_is);(case l_=>k_is);(case c_=>k_is);(case k_=>k_is))
  all_goals try k_is
  all_goals try (refine' G.me_in ?a_ ?i_ ?l_ ?c_ ?k_;(case a_=>k_is);(case i_=>k_is);(case l_=>k_is);(case c_=>k_is);(case k_=>k_is))
#print axioms PySem.Challenge.cw_fewties_k44_growers_apart_holds
