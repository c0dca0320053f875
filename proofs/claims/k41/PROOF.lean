import PyProof.Rows.All
import Wide.All
import OpenK.AllK
import Wide.FinOn
import PyProof.EqAt
import PyProof.EqKinds
import PyProof.TupleCall
import PyProof.NeData
import PyProof.P3In
import PyProof.WalkInts
import PyProof.Rows.SortWalk
import PyProof.SumWalkG
import PyProof.Rows.CallKwBuiltin
import KE.KDictList
import PyProof.WalksEnum
import PyProof.ZipIter
import PyProof.ConsumeWalk
import PyProof.ListRange
import PyProof.TupleOfSeq
import PyProof.Rows.RuleN_abs
import KE.KDictOf
import PyProof.AttrMissHeap
import PySem.Challenge.RW_fewties_k41_places_and_ties_put_in
open PySem.W (Frag kitOne mg_of nsIn mg_none_of excIn fnOf mroIn keepIn codeIn)
set_option Elab.async false
set_option linter.all false
set_option compiler.extract_closed false
set_option maxRecDepth 100000
set_option maxHeartbeats 4000000
noncomputable section
abbrev aA0:=@List.getElem?_eq_getElem
abbrev aA1:=@List.getElem?_eq_some_iff
abbrev aA2:=@List.mem_of_getElem?
abbrev aA3:=@List.length_map
abbrev aA4:=@Array.getElem?_eq_getElem
abbrev aA5:=@List.getElem?_map
abbrev aA6:=@Nat.le_refl
abbrev aA7:=@List.mem_append
abbrev aA8:=@List.mem_cons
abbrev aA9:=@Bool.false_ne_true
abbrev aB0:=@List.length_append
abbrev aB1:=@List.size_toArray
abbrev aB2:=@List.mem_append_right
abbrev aB3:=@List.append_assoc
abbrev aB4:=@List.mem_cons_of_mem
abbrev aB5:=@Nat.ne_of_lt
abbrev aB6:=@List.mem_map
abbrev aB7:=@List.mem_cons_self
abbrev aB8:=@List.mem_range
abbrev aB9:=@List.mem_of_mem_take
abbrev aC0:=@List.take_append_drop
abbrev aC1:=@List.mem_singleton
abbrev aC2:=@List.getElem?_append_left
abbrev aC3:=@List.mem_of_mem_drop
abbrev aC4:=@Nat.lt_of_lt_of_le
abbrev aC5:=@Option.some.inj
abbrev aC6:=@List.mem_append_left
abbrev aC7:=@List.getElem?_append_right
abbrev aC8:=@List.pairwise_append
abbrev aC9:=@Nat.le_trans
abbrev aD0:=@List.map_cons
abbrev aD1:=@List.getElem?_set
abbrev aD2:=@List.getD_eq_getElem?_getD
abbrev aD3:=@Classical.byContradiction
abbrev aD4:=@Array.getElem?_toList
abbrev aD5:=@decide_eq_false
abbrev aD6:=@decide_eq_true
abbrev aD7:=@List.getElem?_range
abbrev aD8:=@List.map_map
abbrev aD9:=@List.getElem?_eq_none
abbrev aE0:=@List.map_append
abbrev aE1:=@List.length_cons
abbrev aE2:=@Int.emod_lt_of_pos
abbrev aE3:=@List.nodup_append
abbrev aE4:=@List.map_congr_left
abbrev aE5:=@List.append_nil
abbrev aE6:=@List.take_of_length_le
abbrev aE7:=@List.all_eq_true
abbrev aE8:=@if_pos
abbrev aE9:=@if_neg
abbrev aF0:=@List.getElem?_eq_none_iff
abbrev aF1:=@Nat.lt_succ_of_lt
abbrev aF2:=@List.length_pos_iff
abbrev aF3:=@Nat.zero_le
abbrev aF4:=@List.pairwise_map
abbrev aF5:=@List.ext_getElem?
abbrev aF6:=@beq_iff_eq
abbrev aF7:=@Nat.lt_irrefl
abbrev aF8:=@Nat.le_of_lt
abbrev aF9:=@Array.toList_append
abbrev aG0:=@List.pairwise_iff_getElem
abbrev aG1:=@List.take_length
abbrev aG2:=@List.lookup_cons
abbrev aG3:=@List.length_take
abbrev aG4:=@Bool.and_eq_true
abbrev aG5:=@List.eq_nil_of_length_eq_zero
abbrev aG6:=@List.replicate_succ
abbrev aG7:=@List.take_add_one
abbrev aG8:=@List.getElem?_take_of_lt
abbrev aG9:=@List.mem_iff_getElem
abbrev aH0:=@List.getElem?_replicate
abbrev aH1:=@Bool.eq_iff_iff
abbrev aH2:=@Array.size_push
abbrev aH3:=@List.Pairwise.imp_of_mem
abbrev aH4:=@List.getElem?_cons_succ
abbrev aH5:=@Option.map_some
abbrev aH6:=@List.getElem?_drop
abbrev aH7:=@List.nodup_cons
abbrev aH8:=@Nat.lt_succ_self
abbrev aH9:=@List.length_nil
open PySem PySem.Spec in
abbrev aI0:=@wpAny_bind
open PySem PySem.Spec in
abbrev aI1:=@wpAny_pure
open PySem PySem.Spec in
abbrev aI2:=@Heap.get?_push_of_some
open PySem PySem.Spec in
abbrev aI3:=@Heap.lt_size
open PySem PySem.Spec in
abbrev aI4:=@Heap.get?_push_size
open PySem PySem.Spec in
abbrev aI5:=@wpAny_holding
open PySem PySem.Spec in
abbrev aI6:=@PassesOwn.never
open PySem PySem.Spec in
abbrev aI7:=@wpAny_mono
open PySem PySem.Spec in
abbrev aI8:=@wpAny_newObj_type
open PySem PySem.Spec in
abbrev aI9:=@Around.under_plainId
open PySem PySem.Spec in
abbrev aJ0:=@Heap.size_push
open PySem PySem.Spec in
abbrev aJ1:=@wpAny_call_entry
open PySem PySem.Spec in
abbrev aJ2:=@wpAny_truthy_bool
open PySem PySem.Spec in
abbrev aJ3:=@wpAny_pyIter_list
namespace L2
open PySem PySem.Spec PyProof.Rows
abbrev Key:=Sum Int Str
def af1:Key->Value->Bool
 | .inl k,v=>Value.isInt k v
 | .inr x,v=>Value.isStrOf x v
def keyH (w:World):Key->Int
 | .inl k=>hashInt k
 | .inr x=>hashStr w x
theorem abn:∀ {k:Key} {v:Value},af1 k v=true->(∃ i t,k=Sum.inl i/\v=Value.int i t)\/(∃ x t,k=Sum.inr x/\v=Value.str x t)
 | .inl i,v,h=>by
  obtain ⟨t,e⟩:=Value.isInt_shape (k:=i) (v:=v) h
  exact .inl ⟨i,t,rfl,e⟩
 | .inr x,v,h=>by
  obtain ⟨t,e⟩:=Value.isStrOf_shape (x:=x) (v:=v) h
  exact .inr ⟨x,t,rfl,e⟩
theorem ap1 (i:Int) (t:Tok):af1 (.inl i) (.int i t)=true:=by simp [af1,Value.isInt]
theorem ap2 (x:Str) (t:Tok):af1 (.inr x) (.str x t)=true:=by simp [af1,Value.isStrOf]
theorem axx (a b:Int):decide ((Sum.inl a:Key)=Sum.inl b)=(a == b):=by
 by_cases e:a=b
 ·subst e;simp
 ·have h:¬ (Sum.inl a:Key)=Sum.inl b:=fun q=>e (Sum.inl.inj q)
  rw [aD5 h]
  exact (beq_eq_false_iff_ne.mpr e).symm
theorem axy (a b:Str):decide ((Sum.inr a:Key)=Sum.inr b)=decide (a=b):=by
 by_cases e:a=b
 ·subst e;simp
 ·have h:¬ (Sum.inr a:Key)=Sum.inr b:=fun q=>e (Sum.inr.inj q)
  rw [aD5 h,aD5 e]
theorem axz (a:Int) (b:Str):decide ((Sum.inl a:Key)=Sum.inr b)=false:=aD5 (fun q=>nomatch q)
theorem ax0 (a:Str) (b:Int):decide ((Sum.inr a:Key)=Sum.inl b)=false:=aD5 (fun q=>nomatch q)
def aa6 (prog:Program) (w:World):PySem.KeyKind prog w Key where
 is:=af1
 hash:=keyH w
 inj:=fun v a b ha hb=>by
  rcases abn ha with ⟨i,t,rfl,rfl⟩ | ⟨x,t,rfl,rfl⟩
  ·rcases abn hb with ⟨j,u,rfl,e⟩ | ⟨y,u,rfl,e⟩
   ·injection e with e1 _;rw [e1]
   ·exact nomatch e
  ·rcases abn hb with ⟨j,u,rfl,e⟩ | ⟨y,u,rfl,e⟩
   ·exact nomatch e
   ·injection e with e1 _;rw [e1]
 byValue:=fun k v h=>by
  rcases abn h with ⟨i,t,rfl,rfl⟩ | ⟨x,t,rfl,rfl⟩ <;> rfl
 pyHash:=fun hv h=>by
  rcases abn hv with ⟨i,t,rfl,rfl⟩ | ⟨x,t,rfl,rfl⟩
  ·exact wpAny_pyHash_int h
  ·exact wpAny_pyHash_str h
 eqBool:=fun hu hv h=>by
  rcases abn hu with ⟨i,t,rfl,rfl⟩ | ⟨x,t,rfl,rfl⟩
  ·rcases abn hv with ⟨j,u,rfl,rfl⟩ | ⟨y,u,rfl,rfl⟩
   ·rw [axx] at h;exact wpAny_eqBool_int h
   ·rw [axz] at h;exact SeqAt.EqAt.int_str i t y u _ _ _ _ h
  ·rcases abn hv with ⟨j,u,rfl,rfl⟩ | ⟨y,u,rfl,rfl⟩
   ·rw [ax0] at h;exact SeqAt.EqAt.str_int x t j u _ _ _ _ h
   ·rw [axy] at h;exact wpAny_eqBool_str h
 «strs»:=fun k x t v h=>by
  rcases abn h with ⟨i,u,rfl,e⟩ | ⟨y,u,rfl,e⟩
  ·exact nomatch e
  ·injection e with e1 _
   subst e1
   cases v <;> rfl
theorem agp (prog:Program) (w:World) (i:Int) (t:Tok):(aa6 prog w).is (.inl i) (.int i t)=true:=ap1 i t
theorem amz (prog:Program) (w:World) (x:Str) (t:Tok):(aa6 prog w).is (.inr x) (.str x t)=true:=ap2 x t
inductive V where
 | non | bl (b:Bool) | int (i:Int) | str (x:Str) | byt (b:Array UInt8) | flt (b:UInt64) | ref (a:Addr) | ty (n:String)
 deriving DecidableEq
def RelV:V->Value->Prop
 | .non,u=>u=Value.none
 | .bl b,u=>u=Value.bool b
 | .int i,u=>∃ t,u=Value.int i t
 | .str x,u=>∃ t,u=Value.str x t
 | .byt b,u=>∃ t,u=Value.bytes b t
 | .flt b,u=>∃ t,u=Value.float b t
 | .ref a,u=>u=Value.ref a
 | .ty n,u=>u=Value.type n
abbrev Vals:List V->List Value->Prop:=Paired RelV
theorem Vals.length {xs:List V} {us:List Value} (r:Vals xs us):xs.length=us.length:=Paired.length r
theorem Vals.get:∀ {xs:List V} {us:List Value} {i:Nat} {x:V},Vals xs us->xs[i]?=some x->∃ u,us[i]?=some u/\RelV x u
 | _,_,_,_,.nil,e=>by simp at e
 | _,_,0,_,.cons r _,e=>by simp at e;subst e;exact ⟨_,rfl,r⟩
 | _,_,i+1,x,.cons _ t,e=>by
  obtain ⟨u,b,a⟩:=Vals.get (i:=i) (x:=x) t (by simpa using e)
  exact ⟨u,by simpa using b,a⟩
theorem Vals.set {x:V} {u:Value} (r:RelV x u):∀ {xs:List V} {us:List Value} (i:Nat),Vals xs us->Vals (xs.set i x) (us.set i u)
 | _,_,_,.nil => .nil
 | _,_,0,.cons _ t => .cons r t
 | _,_,i+1,.cons q t => .cons q (Vals.set r i t)
theorem Vals.append:∀ {xs ys:List V} {us a:List Value},Vals xs us->Vals ys a->Vals (xs ++ ys) (us ++ a)
 | _,_,_,_,.nil,s=>s
 | _,_,_,_,.cons r t,s => .cons r (Vals.append t s)
theorem Vals.take:∀ {xs:List V} {us:List Value} (n:Nat),Vals xs us->Vals (xs.take n) (us.take n)
 | _,_,0,_ => .nil
 | _,_,_+1,.nil => .nil
 | _,_,n+1,.cons r t => .cons r (Vals.take n t)
theorem Vals.drop:∀ {xs:List V} {us:List Value} (n:Nat),Vals xs us->Vals (xs.drop n) (us.drop n)
 | _,_,0,r=>r
 | _,_,_+1,.nil => .nil
 | _,_,n+1,.cons _ t=>Vals.drop n t
def RelO:Option V->Option Value->Prop
 | some v,some u=>RelV v u
 | none,none=>True
 | _,_=>False
def KV {κ:Type}:List (κ × V)->List (κ × Value)->Prop:=Paired fun (p : κ × V) (q : κ × Value)=>p.1=q.1/\RelV p.2 q.2
def kV:Key->V
 | .inl i => .int i
 | .inr x => .str x
inductive HO where
 /-- a list -/
 | lst (xs:List V)
 /-- a tuple (never changes) -/
 | tup (xs:List V)
 /-- a dict whose keys are ints and texts; one whose keys are tuples of ints and texts (the empty one is both) -/
 | dK (kvs:List (Key × V)) | dT (kvs:List (List Key × V))
 /-- a set of ints: its members, its size -/
 | set (S:Int->Bool) (n:Nat)
 /-- an instance of the class at C, its dict at dx, its attributes -/
 | ins (C dx:Addr) (fs:List (Str × V))
 /-- the dict of the instance at x -/
 | own (x:Addr)
 /-- the dict of an exception -/
 | xd (fs:List (Str × V))
 /-- a bound method, f of x -/
 | met (f x:Addr)
 /-- a range object lo, lo + 1, .. below hi -/
 | rng (lo hi:Int)
 /-- a thing that is known to the object (the script; a dict while a loop walks it): read, never written while it is so -/
 | frz (o:Obj) (u:HO)
 /-- a code object's table -/
 | tbl (ps:Array Value)
 /-- any other thing, by what is true of its one object (a def of one's own: SetO a S n:=HO.ext fun h => ..) -/
 | ext (φ:Heap->Prop)
abbrev Hp:=Addr->Option HO
def upd (H:Hp) (a:Addr) (o:HO):Hp:=fun b=>if b=a then some o else H b
theorem aaf {H:Hp} {a:Addr} {o:HO}:upd H a o a=some o:=by unfold upd;rw [aE8 rfl]
theorem aad {H:Hp} {a b:Addr} {o:HO} (h:b ≠ a):upd H a o b=H b:=by unfold upd;rw [aE9 h]
theorem aey {H:Hp} {a b:Addr} {o u:HO} (h:H a=some o) (h':H b=some u) (d:o ≠ u):a ≠ b:=by
 intro e;subst e;rw [h] at h';exact d (aC5 h')
theorem aal {H:Hp} {a b:Addr} {o:HO} (h:H a=some o) (h':H b=none):a ≠ b:=by
 intro e;subst e;rw [h] at h';cases h'
section
variable (P:Program) (w:World)
def ObjOk (H:Hp) (h:Heap) (a:Addr):HO->Prop
 | .lst xs=>xs.length<=sizeLine/\∃ (its:List Value) (n:Nat),Vals xs its/\h.get? a=some { cls:=.type "list",data:=.seq its.toArray n }
 | .tup xs=>xs.length<=sizeLine/\∃ its:List Value,Vals xs its/\IsTup h a its.toArray
 | .dK kvs=>kvs.length<=sizeLine/\(a == sysModules)=false/\∃ vs,KV kvs vs/\h.DictOf (aa6 P w) a vs
 | .dT kvs=>kvs.length<=sizeLine/\(a == sysModules)=false/\∃ xs:List (List Key × Addr × Value),
   Paired (fun (p:List Key × V) (q:List Key × Addr × Value)=>p.1=q.1/\H q.2.1=some (.tup (p.1.map kV))/\RelV p.2 q.2.2) kvs xs /\
   ∃ o es ep,h.get? a=some o/\o.ExactDict/\o.data=.dict es ep/\es.toList=xs.map (entryOfKey (tupleKind (aa6 P w)))/\(xs.map (·.1)).Nodup
 | .set S n=>h.SetOf (intKind P w) a S n
 | .ins C dx fs=>H dx=some (.own a)/\fs.length<=1000/\dx ≠ a/\h.get? a=some (PySem.W.instObj C dx) /\
   ∃ mA,h.Ns1 dx mA/\(∀ f,RelO (fs.lookup f) (mA f))/\PySem.Within mA (fs.map (·.1))
 | .own _=>∃ o,h.get? a=some o
 | .xd fs=>∃ mA,h.Ns1 a mA/\∀ f,RelO (fs.lookup f) (mA f)
 | .rng lo hi=>∃ t u v,h.get? a=some { cls:=.type "range",data:=.fields #[.int lo t,.int hi u,.int 1 v] }
 | .frz o u=>h.get? a=some o/\ObjOk H h a u
 | .tbl ps=>h.get? a=some { cls:=.none,data:=.fields ps }
 | .met f x=>h.get? a=some (PySem.W.methodObj (.ref f) (.ref x))
 | .ext φ => φ h/\(∃ o,h.get? a=some o)/\∀ h1 h2:Heap,φ h1->(∀ o,h1.get? a=some o->h2.get? a=some o)->φ h2
def HOk (H:Hp) (h:Heap):Prop:=∀ a o,H a=some o->ObjOk P w H h a o
end
section
variable {P:Program} {w:World} {H H':Hp} {h h':Heap} {a:Addr} {o:HO}
theorem ObjOk.lt (x:ObjOk P w H h a o):a < h.objs.size:=by
 cases o with
 | lst xs=>obtain ⟨_,_,_,_,e⟩:=x;exact aI3 e
 | tup xs=>obtain ⟨_,_,_,p⟩:=x;exact p.lt
 | dK kvs=>obtain ⟨_,_,_,_,o,_,_,e,_⟩:=x;exact aI3 e
 | dT kvs=>obtain ⟨_,_,_,_,o,_,_,e,_⟩:=x;exact aI3 e
 | set S n=>obtain ⟨o,_,_,_,e,_⟩:=x;exact aI3 e
 | ins C dx fs=>obtain ⟨_,_,_,e,_⟩:=x;exact aI3 e
 | own y=>obtain ⟨_,e⟩:=x;exact aI3 e
 | xd fs=>obtain ⟨_,⟨_,_,_,e,_⟩,_⟩:=x;exact aI3 e
 | rng lo hi=>obtain ⟨_,_,_,e⟩:=x;exact aI3 e
 | frz ob u=>obtain ⟨e,_⟩:=x;exact aI3 e
 | tbl ps=>exact aI3 (show h.get? a=some _ from x)
 | met f y=>exact aI3 (show h.get? a=some _ from x)
 | ext φ=>obtain ⟨_,⟨_,e⟩,_⟩:=x;exact aI3 e
theorem Paired.mapP {α β:Type} {F G : α->β->Prop}:∀ {c:List α} {d:List β},Paired F c d->(∀ a b,F a b->G a b)->Paired G c d
 | _,_,.nil,_ => .nil
 | _,_,.cons r t,f => .cons (f _ _ r) (Paired.mapP t f)
theorem ObjOk.stay (x:ObjOk P w H h a o) (k:∀ b u,(b=a\/H b=some (.own a))->h.get? b=some u->h'.get? b=some u)
  (i:∀ b,H b=some (.own a)->H' b=some (.own a)) (j:∀ b xs,H b=some (.tup xs)->H' b=some (.tup xs)):ObjOk P w H' h' a o:=by
 induction o with
 | lst xs=>obtain ⟨z,its,n,r,e⟩:=x;exact ⟨z,its,n,r,k _ _ (.inl rfl) e⟩
 | tup xs=>obtain ⟨z,its,r,g,e,c⟩:=x;exact ⟨z,its,r,g,k _ _ (.inl rfl) e,c⟩
 | dK kvs=>obtain ⟨z,y,vs,r,g,es,ep,e,c⟩:=x;exact ⟨z,y,vs,r,g,es,ep,k _ _ (.inl rfl) e,c⟩
 | dT kvs =>
  obtain ⟨z,y,xs,r,g,es,ep,e,c⟩:=x
  exact ⟨z,y,xs,Paired.mapP r fun p q z=>⟨z.1,j _ _ z.2.1,z.2.2⟩,g,es,ep,k _ _ (.inl rfl) e,c⟩
 | set S n=>obtain ⟨g,es,ep,t,e,c⟩:=x;exact ⟨g,es,ep,t,k _ _ (.inl rfl) e,c⟩
 | ins C dx fs =>
  obtain ⟨d,z,ne,e,mA,⟨od,es,ep,l,c⟩,r⟩:=x
  exact ⟨i _ d,z,ne,k _ _ (.inl rfl) e,mA,⟨od,es,ep,k _ _ (.inr d) l,c⟩,r⟩
 | own y=>obtain ⟨g,e⟩:=x;exact ⟨g,k _ _ (.inl rfl) e⟩
 | xd fs=>obtain ⟨mA,⟨od,es,ep,e,c⟩,r⟩:=x;exact ⟨mA,⟨od,es,ep,k _ _ (.inl rfl) e,c⟩,r⟩
 | rng lo hi=>obtain ⟨t,u,v,e⟩:=x;exact ⟨t,u,v,k _ _ (.inl rfl) e⟩
 | frz g u ih=>obtain ⟨e,q⟩:=x;exact ⟨k _ _ (.inl rfl) e,ih q⟩
 | tbl ps =>
  have e:h.get? a=some { cls:=.none,data:=.fields ps }:=x
  show h'.get? a=some { cls:=.none,data:=.fields ps }
  exact k a _ (.inl rfl) e
 | met f y =>
  have e:h.get? a=some (PySem.W.methodObj (.ref f) (.ref y)):=x
  show h'.get? a=some (PySem.W.methodObj (.ref f) (.ref y))
  exact k a _ (.inl rfl) e
 | ext φ=>obtain ⟨p,⟨o,e⟩,st⟩:=x;exact ⟨st _ _ p fun o q=>k _ _ (.inl rfl) q,⟨o,k _ _ (.inl rfl) e⟩,st⟩
theorem HOk.lt (x:HOk P w H h) (e:H a=some o):a < h.objs.size:=(x a o e).lt
theorem HOk.fresh (x:HOk P w H h) (e:h.objs.size<=a):H a=none:=by
 cases q:H a with
 | none=>rfl
 | some u=>exact absurd (aC4 (x.lt q) e) (aF7 _)
theorem HOk.kept (x:HOk P w H h) (k:∀ b u,h.get? b=some u->h'.get? b=some u):HOk P w H h':=fun a o e =>
 (x a o e).stay (fun b u _ q=>k b u q) (fun _ q=>q) fun _ _ q=>q
theorem HOk.laid (x:HOk P w H h) (k:∀ b u,h.get? b=some u->h'.get? b=some u) (d:h.objs.size<=a) (new:ObjOk P w (upd H a o) h' a o):HOk P w (upd H a o) h':=fun b u e=>by
 have hn:=x.fresh d
 by_cases hb:b=a
 ·subst hb;rw [aaf] at e;cases e;exact new
 ·rw [aad hb] at e
  exact (x b u e).stay (fun c v _ q=>k c v q) (fun c q=>by rw [aad (aal q hn)];exact q) fun c xs q=>by rw [aad (aal q hn)];exact q
end
def Rd (H:Hp) (a:Addr) (u:HO):Prop:=H a=some u\/∃ o,H a=some (.frz o u)
theorem Rd.of {H:Hp} {a:Addr} {u:HO} (h:H a=some u):Rd H a u:=.inl h
theorem Rd.ok {P:Program} {w:World} {H:Hp} {h:Heap} {a:Addr} {u:HO} (r:Rd H a u) (x:HOk P w H h):ObjOk P w H h a u:=by
 rcases r with r | ⟨o,r⟩
 ·exact x a u r
 ·obtain ⟨_,q⟩:=x a _ r
  exact q
def Mut:Option HO->Prop
 | some (.lst _)=>True
 | some (.dK _)=>True
 | some (.dT _)=>True
 | some (.set _ _)=>True
 | some (.ins _ _ _)=>True
 | some (.ext _)=>True
 | _=>False
section
variable {P:Program} {w:World} {H:Hp} {h h':Heap} {x e:Addr} {o':HO}
theorem HOk.write (ok:HOk P w H h) (f:Mut (H x)) (j:e=x\/H e=some (.own x)) (k:∀ b u,b ≠ e->h.get? b=some u->h'.get? b=some u) (i:∃ u,h'.get? e=some u)
  (new:ObjOk P w (upd H x o') h' x o'):HOk P w (upd H x o') h':=fun b u q=>by
 have a:∀ c y,H c=some (.own y)->c ≠ x:=fun c y r z=>by subst z;rw [r] at f;exact f
 have d:∀ c xs,H c=some (.tup xs)->c ≠ x:=fun c xs r z=>by subst z;rw [r] at f;exact f
 by_cases hb:b=x
 ·subst hb;rw [aaf] at q;cases q;exact new
 ·rw [aad hb] at q
  by_cases hbe:b=e
  ·have l:H b=some (.own x):=by
    rcases j with z | z
    ·exact absurd (hbe.trans z) hb
    ·rw [hbe];exact z
   rw [q] at l;cases l
   obtain ⟨v,m⟩:=i
   exact ⟨v,by rw [hbe];exact m⟩
  ·refine (ok b u q).stay (fun c v g r=>k c v ?_ r) (fun c r=>by rw [aad (a c b r)];exact r) fun c xs r=>by rw [aad (d c xs r)];exact r
   rcases g with rfl | g
   ·exact hbe
   ·rintro rfl
    rcases j with z | z
    ·exact a c b g z
    ·rw [g] at z;cases z;exact hb rfl
end
structure Un (fs ex:List Addr) (H H':Hp) (h h':Heap):Prop where
 keep:∀ b o,h.get? b=some o->H b=none->b ∉ fs->b ∉ ex->h'.get? b=some o
 slot:∀ b o,h.get? b=some o->H b=none->b∈fs->b ∉ ex->∃ sl,h'.get? b=some { o with slots:=sl }
 free:∀ b o,h.get? b=some o->H b=none->b ∉ ex->H' b=none
 there:∀ b o,h.get? b=some o->b ∉ ex->∃ o',h'.get? b=some o'
 tups:∀ b xs,H b=some (.tup xs)->H' b=some (.tup xs)
 frzs:∀ b o u,H b=some (.frz o u)->H' b=some (.frz o u)
 tbls:∀ b ps,H b=some (.tbl ps)->∃ more,H' b=some (.tbl (ps ++ more))
section
variable {fs fs' ex ex':List Addr} {H H1 H2:Hp} {h h1 h2 h':Heap} {a x e:Addr} {o:HO}
theorem Un.any (u:Un fs ex H H1 h h1) {b:Addr} {a:Obj} (q:h.get? b=some a) (n:H b=none) (c:b ∉ ex):∃ sl,h1.get? b=some { a with slots:=sl }:=by
 by_cases hb:b∈fs
 ·exact u.slot b a q n hb c
 ·exact ⟨a.slots,u.keep b a q n hb c⟩
theorem Un.trans (a:Un fs ex H H1 h h1) (b:Un fs ex H1 H2 h1 h2):Un fs ex H H2 h h2 where
 keep:=fun c d q n i f=>b.keep c d (a.keep c d q n i f) (a.free c d q n f) i f
 slot:=fun c d q n i f=>by
  obtain ⟨sl,g⟩:=a.slot c d q n i f
  obtain ⟨j,l⟩:=b.slot c _ g (a.free c d q n f) i f
  exact ⟨j,l⟩
 free:=fun c d q n f=>by
  obtain ⟨o',g⟩:=a.there c d q f
  exact b.free c o' g (a.free c d q n f) f
 there:=fun c d q f=>by
  obtain ⟨o',g⟩:=a.there c d q f
  exact b.there c o' g f
 tups:=fun c xs q=>b.tups c xs (a.tups c xs q)
 frzs:=fun c d xs q=>b.frzs c d xs (a.frzs c d xs q)
 tbls:=fun c ps q=>by
  obtain ⟨m,g⟩:=a.tbls c ps q
  obtain ⟨o,l⟩:=b.tbls c _ g
  exact ⟨m ++ o,by rw [l,Array.append_assoc]⟩
theorem Un.kept (k:∀ b u,h.get? b=some u->h'.get? b=some u):Un fs ex H H h h' :=
 ⟨fun b a q _ _ _=>k b a q,fun b a q _ _ _=>⟨a.slots,k b a q⟩,fun _ _ _ n _=>n,fun b a q _=>⟨a,k b a q⟩,fun _ _ q=>q,fun _ _ _ q=>q,fun _ ps q=>⟨#[],by rw [q];simp⟩⟩
theorem Un.refl:Un fs ex H H h h:=Un.kept fun _ _ q=>q
theorem Un.laid (k:∀ b u,h.get? b=some u->h'.get? b=some u) (c:h.objs.size<=a) (hn:H a=none):Un fs ex H (upd H a o) h h' where
 keep:=fun b u q _ _ _=>k b u q
 slot:=fun b u q _ _ _=>⟨u.slots,k b u q⟩
 free:=fun b u q n _=>by rw [aad (aB5 (aC4 (aI3 q) c))];exact n
 there:=fun b u q _=>⟨u,k b u q⟩
 tups:=fun b xs q=>by rw [aad (aal q hn)];exact q
 frzs:=fun b u xs q=>by rw [aad (aal q hn)];exact q
 tbls:=fun b ps q=>⟨#[],by rw [aad (aal q hn),q];simp⟩
theorem Un.write (a:Mut (H x)) (g:e=x\/H e=some (.own x)) (k:∀ b u,b ≠ e->h.get? b=some u->h'.get? b=some u) (c:∃ u,h'.get? e=some u):Un fs ex H (upd H x o) h h':=by
 have d:∀ b,H b=none->b ≠ x:=fun b n z=>by subst z;rw [n] at a;exact a
 have hb:∀ b,H b=none->b ≠ e:=fun b n z=>by
  subst z
  rcases g with r | r
  ·exact d b n r
  ·rw [n] at r;cases r
 have hm:∀ b u,H b=some u->¬ Mut (some u)->b ≠ x:=fun b u q f z=>by subst z;rw [q] at a;exact f a
 refine ⟨fun b u q n _ _=>k b u (hb b n) q,fun b u q n _ _=>⟨u.slots,k b u (hb b n) q⟩,fun b u q n _=>by rw [aad (d b n)];exact n,fun b u q _=>?_,
  fun b xs q=>by rw [aad (hm b _ q fun z=>z)];exact q,fun b u xs q=>by rw [aad (hm b _ q fun z=>z)];exact q,fun b ps q=>⟨#[],by rw [aad (hm b _ q fun z=>z),q];simp⟩⟩
 by_cases hbe:b=e
 ·subst hbe;exact c
 ·exact ⟨u,k b u hbe q⟩
theorem Un.mono (u:Un fs ex H H1 h h1) (f:∀ b∈fs,b∈fs') (d:∀ b∈ex,b∈ex'):Un fs' ex' H H1 h h1 :=
 ⟨fun b c q n hb a=>u.keep b c q n (fun z=>hb (f b z)) fun z=>a (d b z),fun _ _ q n _ a=>u.any q n fun z=>a (d _ z),fun b c q n a=>u.free b c q n fun z=>a (d b z),fun b c q a=>u.there b c q fun z=>a (d b z),u.tups,u.frzs,u.tbls⟩
end
def trk (h:Heap) (H:Hp):List Addr:=(List.range h.objs.size).filter fun a=>(H a).isSome
def hidT (h:Heap) (H:Hp):Heap:=PySem.W.hideAll h (trk h H)
theorem ap3 (h:Heap) (H:Hp):(hidT h H).objs.size=h.objs.size:=PySem.W.hideAll_size _ _
theorem asi {h:Heap} {H:Hp} {b:Addr} {o:Obj} (e:h.get? b=some o) (n:H b=none):(hidT h H).get? b=some o :=
 PySem.W.hideAll_get _ e fun hm=>by
  have q:(H b).isSome=true:=(List.mem_filter.mp hm).2
  rw [n] at q;simp at q
theorem avd {h:Heap} {H:Hp} {b:Addr} {o:Obj} (e:(hidT h H).get? b=some o):h.get? b=some o/\H b=none:=by
 have a:h.get? b=some o:=PySem.W.of_hideAll (trk h H) e
 refine ⟨a,?_⟩
 cases q:H b with
 | none=>rfl
 | some x =>
  have hm:b∈trk h H:=List.mem_filter.mpr ⟨aB8.mpr (aI3 a),by simp [q]⟩
  have z:(hidT h H).get? b=none:=PySem.W.hideAll_none (trk h H) hm
  rw [z] at e;cases e
def ave (g h:Heap) (L:Addr):List (Addr × Obj):=(List.range h.objs.size).filterMap fun a=>if a=L\/(g.get? a).isSome=true then none else (h.get? a).map fun o=>(a,o)
def rest (g h:Heap) (L d:Addr):List (Addr × Obj):=(ave g h L).filter fun p=>decide (p.1 ≠ d)
structure Mod (K:Frag) (mg:Str->Option Value) (base:Heap):Prop where
 kin:K.In base
 glob:base.Ns mainGlobals mg
 blt:∃ mb,base.Ns builtinsNs mb/\∀ x:Str,x ≠ "__name__"->mb x=bootBuiltins x
 nolimit:base.NoLimit
/-- the context: a def's body (or a comprehension's block) running. base: fixed through the whole law; s₀, H₀: the entry; outer: the frames whose slots others may change (a def's callers); stack: all frames that run;
  ex: iterators that were made ahead of the entry and are walked here (a comprehension's);fn: the names whose cells were made at the entry (a def: all;a comprehension's block: its own);calm: not within an except suite;pn: pins that every state bears;xe: what is wanted of an exception that leaves the code -/
structure Cx where
 prog:Program
 w:World
 K:Frag
 mg:Str->Option Value
 base:Heap
 A:Around
 N:List Str
 s₀:Shared
 H₀:Hp
 env:Env
 outer:List Env
 stack:List Env
 ex:List Addr
 fn:Str->Bool
 calm:Bool
 pn:List (Addr × Obj)
 xe:Value->Shared->Prop
def frs (l:List Env):List Addr:=l.filterMap (·.frame)
abbrev Cx.fs (X:Cx):List Addr:=frs X.outer
def Vis (sc:Scope) (x:Str):Prop:=sc.names.lookup x=some .local\/sc.names.lookup x=some .cell\/sc.names.lookup x=some .free
def Loc (sc:Scope) (x:Str):Prop:=sc.names.lookup x=some .local\/sc.names.lookup x=some .cell
def Look (env:Env) (h:Heap) (m:Str->Option Value) (x:Str) (u:Value):Prop :=
 (env.kindOf x=some .local/\m x=some u)\/((env.kindOf x=some .cell\/env.kindOf x=some .free)/\∃ c,env.cells.lookup x=some c/\h.IsCell c (some u))
structure Cx.Ok (X:Cx):Prop where
 mod:Mod X.K X.mg X.base
 kind:X.env.scope.kind=.function
 glob:X.env.globals=mainGlobals
 blt:X.env.builtins=builtinsNs
 above:X.s₀.heap.objs.size<=X.env.locals
 inj:∀ x y c,X.env.cells.lookup x=some c->X.env.cells.lookup y=some c->x=y
 has:∀ x,(X.env.kindOf x=some .cell\/X.env.kindOf x=some .free)->∃ c,X.env.cells.lookup x=some c
 cab:∀ x c,X.fn x=true->X.env.cells.lookup x=some c->X.s₀.heap.objs.size<=c
 hd:X.calm=true->X.A.handled=none
 frames:X.A.frames=some X.stack
 stk:X.stack=X.outer\/(X.stack=X.env :: X.outer/\X.env.frame=some X.env.locals)
 exf:∀ b∈X.ex,b ≠ X.env.locals/\∀ x c,X.env.cells.lookup x=some c->c ≠ b
 bs:∀ b o,X.base.get? b=some o->X.s₀.heap.get? b=some o/\X.H₀ b=none
 bsz:X.base.objs.size<=X.s₀.heap.objs.size
 noex:∀ b o,X.base.get? b=some o->b ∉ X.ex
 exfs:∀ b∈X.ex,b ∉ X.fs
 funs:X.s₀.heap.FunFrames X.base X.outer
 frf:∀ b∈X.fs,X.H₀ b=none
structure Inv (X:Cx) (pins:List (Addr × Obj)) (σ:List (Option V)) (H:Hp) (s:Shared):Prop where
 ok:X.Ok
 os:s.os=X.s₀.os
 bare:AllBare s.gens
 base:Un X.fs X.ex X.H₀ H X.s₀.heap s.heap
 loc:∃ m,s.heap.Ns X.env.locals m/\∀ (i:Nat) (x:Str) (v:V),X.N[i]?=some x->σ[i]?=some (some v)->Vis X.env.scope x->∃ u,RelV v u/\Look X.env s.heap m x u
 cell:∀ x c,X.env.cells.lookup x=some c->∃ v,s.heap.IsCell c v
 free:H X.env.locals=none
 freeC:∀ x c,X.env.cells.lookup x=some c->H c=none
 pin:∀ p∈X.pn ++ pins,s.heap.get? p.1=some p.2/\H p.1=none/\p.1 ≠ X.env.locals/\p.1 ∉ X.fs/\∀ v,p.2.data ≠ .cell v
 hok:HOk X.prog X.w H s.heap
 len : σ.length=X.N.length
section
variable {X:Cx} {pins:List (Addr × Obj)} {σ:List (Option V)} {H H':Hp} {s:Shared} {h':Heap}
theorem Cx.Ok.nofr (ok:X.Ok) {b:Addr} {o:Obj} (e:X.base.get? b=some o):b ∉ X.fs:=fun hb=>by
 have:=(ok.funs.mem hb).1
 rw [e] at this;cases this
theorem Inv.bs (I:Inv X pins σ H s):∀ b o,X.base.get? b=some o->s.heap.get? b=some o/\H b=none:=fun b o e =>
 ⟨I.base.keep b o (I.ok.bs b o e).1 (I.ok.bs b o e).2 (I.ok.nofr e) (I.ok.noex b o e),I.base.free b o (I.ok.bs b o e).1 (I.ok.bs b o e).2 (I.ok.noex b o e)⟩
theorem Inv.bk (I:Inv X pins σ H s):∀ b o,X.base.get? b=some o->s.heap.get? b=some o:=fun b o e=>(I.bs b o e).1
theorem Inv.mod (I:Inv X pins σ H s):Mod X.K X.mg X.base:=I.ok.mod
theorem Inv.kIn (I:Inv X pins σ H s):X.K.In s.heap:=I.ok.mod.kin.keeps I.bk
theorem Inv.fr (I:Inv X pins σ H s):∃ m,Fr X.base X.env.locals s.heap m :=
 let ⟨m,hn,_⟩:=I.loc
 ⟨m,hn,I.bk,aC9 I.ok.bsz I.ok.above⟩
theorem Inv.lt (I:Inv X pins σ H s):X.env.locals < s.heap.objs.size:=let ⟨_,hn,_⟩:=I.loc;hn.lt
theorem Inv.sz (I:Inv X pins σ H s):X.s₀.heap.objs.size<=s.heap.objs.size:=aC9 I.ok.above (aF8 I.lt)
theorem Inv.nofs (I:Inv X pins σ H s) {a:Addr} (h:s.heap.objs.size<=a):a ∉ X.fs:=fun hb=>by
 obtain ⟨_,o,b,_⟩:=I.ok.funs.mem hb
 exact absurd (aC4 (aI3 b) (aC9 I.sz h)) (aF7 _)
theorem Inv.cne (I:Inv X pins σ H s):∀ x c,X.env.cells.lookup x=some c->c ≠ X.env.locals:=fun x c e z=>by
 obtain ⟨v,o,d,hd⟩:=I.cell x c e
 obtain ⟨m,⟨o',es,ep,a,b,_⟩,_⟩:=I.loc
 rw [z,a] at d;cases d;rw [b] at hd;cases hd
theorem Inv.funs (I:Inv X pins σ H s):s.heap.FunFrames X.base X.outer:=by
 have all:∀ (l:List Env),(∀ b∈frs l,b∈X.fs)->X.s₀.heap.FunFrames X.base l->s.heap.FunFrames X.base l:=by
  intro l
  induction l with
  | nil=>intro _ _;trivial
  | cons env r ih =>
   intro c f
   obtain ⟨h,⟨L,o,hf,hn,d,hd⟩,g⟩:=f
   have a:L∈X.fs:=c L (by unfold frs;rw [List.filterMap_cons,hf];exact aB7)
   obtain ⟨sl,e⟩:=I.base.slot L o d (I.ok.frf L a) a fun z=>I.ok.exfs L z a
   exact ⟨h,⟨L,_,hf,hn,e,hd⟩,ih (fun b hb=>c b (by unfold frs;rw [List.filterMap_cons,hf];exact aB4 _ hb)) g⟩
 exact all X.outer (fun _ hb=>hb) I.ok.funs
theorem Inv.stack (I:Inv X pins σ H s):s.heap.FunFrames X.base X.stack:=by
 rcases I.ok.stk with e | ⟨e,hf⟩
 ·rw [e];exact I.funs
 ·rw [e]
  obtain ⟨m,hn,_⟩:=I.loc
  refine .cons (by rw [I.ok.kind];decide) hf hn ?_ I.funs
  exact Heap.get?_none_of_le (aC9 I.ok.bsz I.ok.above)
theorem Inv.stkSub (I:Inv X pins σ H s):∀ b∈frs X.stack,b∈X.env.locals :: X.fs:=fun b hb=>by
 rcases I.ok.stk with e | ⟨e,hf⟩
 ·rw [e] at hb;exact aB4 _ hb
 ·rw [e] at hb
  unfold frs at hb
  rw [List.filterMap_cons,hf] at hb
  exact hb
theorem Inv.stkFree (I:Inv X pins σ H s):∀ b∈frs X.stack,H b=none:=fun b hb=>by
 rcases aA8.mp (I.stkSub b hb) with e | hb
 ·rw [e];exact I.free
 ·obtain ⟨_,o,a,_⟩:=I.ok.funs.mem hb
  exact I.base.free b o a (I.ok.frf b hb) fun z=>I.ok.exfs b z hb
theorem Inv.step {g':Array GenState} {t':Nat} {d':Drawn} {ch:List Addr} (I:Inv X pins σ H s)
  (f:∀ b∈ch,(b∈X.ex\/X.s₀.heap.objs.size<=b)/\b ≠ X.env.locals/\(∀ x c,X.env.cells.lookup x=some c->c ≠ b)/\∀ p∈X.pn ++ pins,p.1 ≠ b)
  (keep:∀ b o,b ≠ X.env.locals->b ∉ X.fs->b ∉ ch->s.heap.get? b=some o->H b=none->h'.get? b=some o)
  (slot:∀ b o,b ≠ X.env.locals->b∈X.fs->b ∉ ch->s.heap.get? b=some o->H b=none->∃ sl,h'.get? b=some { o with slots:=sl }) (free:∀ b o,b ∉ ch->s.heap.get? b=some o->H b=none->H' b=none)
  (there:∀ b o,b ∉ ch->s.heap.get? b=some o->∃ o',h'.get? b=some o')
  (tups:∀ b xs,H b=some (.tup xs)->H' b=some (.tup xs)) (frzs:∀ b o u,H b=some (.frz o u)->H' b=some (.frz o u)) (tbls:∀ b ps,H b=some (.tbl ps)->∃ more,H' b=some (.tbl (ps ++ more)))
  (ns:∀ m,s.heap.Ns X.env.locals m->h'.Ns X.env.locals m) (hok:HOk X.prog X.w H' h') (K:AllBare g') :
  Inv X pins σ H' { s with heap:=h',gens:=g',drawn:=d',toks:=t' }:=by
 have B:∀ b o,X.s₀.heap.get? b=some o->b ≠ X.env.locals:=fun b o e=>aB5 (aC4 (aI3 e) I.ok.above)
 have j:∀ b o,X.s₀.heap.get? b=some o->b ∉ X.ex->b ∉ ch:=fun b o e a hb=>by
  rcases (f b hb).1 with z | z
  ·exact a z
  ·exact absurd (aC4 (aI3 e) z) (aF7 _)
 have h:∀ x c,X.env.cells.lookup x=some c->∀ v,s.heap.IsCell c v->h'.IsCell c v:=fun x c e v J=>by
  obtain ⟨o,A,hd⟩:=J
  have g:c ∉ ch:=fun z=>(f c z).2.2.1 x c e rfl
  by_cases hc:c∈X.fs
  ·obtain ⟨sl,q⟩:=slot c o (I.cne x c e) hc g A (I.freeC x c e)
   exact ⟨_,q,hd⟩
  ·exact ⟨o,keep c o (I.cne x c e) hc g A (I.freeC x c e),hd⟩
 refine ⟨I.ok,I.os,K,⟨fun b o e n hb a=>?_,fun b o e n hb a=>?_,fun b o e n a=>?_,fun b o e a=>?_,fun b xs e=>tups b xs (I.base.tups b xs e),fun b o xs e=>frzs b o xs (I.base.frzs b o xs e),fun b ps e=>?_⟩,?_,fun x c e=>?_,?_,fun x c e=>?_,fun p E=>?_,hok,I.len⟩
 ·exact keep b o (B b o e) hb (j b o e a) (I.base.keep b o e n hb a) (I.base.free b o e n a)
 ·obtain ⟨sl,y⟩:=I.base.slot b o e n hb a
  obtain ⟨D,C⟩:=slot b _ (B b o e) hb (j b o e a) y (I.base.free b o e n a)
  exact ⟨D,C⟩
 ·obtain ⟨o',y⟩:=I.base.there b o e a
  exact free b o' (j b o e a) y (I.base.free b o e n a)
 ·obtain ⟨o',y⟩:=I.base.there b o e a
  exact there b o' (j b o e a) y
 ·obtain ⟨G,y⟩:=I.base.tbls b ps e
  obtain ⟨N,C⟩:=tbls b _ y
  exact ⟨G ++ N,by rw [C,Array.append_assoc]⟩
 ·obtain ⟨m,hn,M⟩:=I.loc
  refine ⟨m,ns m hn,fun i x v y C L=>?_⟩
  obtain ⟨u,r,l⟩:=M i x v y C L
  refine ⟨u,r,?_⟩
  rcases l with l | ⟨k,c,e,z⟩
  ·exact .inl l
  ·exact .inr ⟨k,c,e,h x c e _ z⟩
 ·obtain ⟨v,z⟩:=I.cell x c e
  exact ⟨v,h x c e v z⟩
 ·obtain ⟨m,⟨o,_,_,A,_⟩,_⟩:=I.loc
  exact free _ o (fun z=>(f _ z).2.1 rfl) A I.free
 ·obtain ⟨v,o,A,hd⟩:=I.cell x c e
  exact free c o (fun z=>(f c z).2.2.1 x c e rfl) A (I.freeC x c e)
 ·obtain ⟨e,n,ne,F,d⟩:=I.pin p E
  have g:p.1 ∉ ch:=fun z=>(f p.1 z).2.2.2 p E rfl
  exact ⟨keep p.1 p.2 ne F g e n,free p.1 p.2 g e n,ne,F,d⟩
theorem Inv.un {t':Nat} (I:Inv X pins σ H s) (u:Un X.fs [] H H' s.heap h') (hok:HOk X.prog X.w H' h'):Inv X pins σ H' { s with heap:=h',toks:=t' }:=by
 obtain ⟨m,⟨o,es,ep,f,r⟩,_⟩:=id I.loc
 obtain ⟨sl,h⟩:=u.any f I.free (by simp)
 exact I.step (g':=s.gens) (d':=s.drawn) (ch:=[]) (fun _ z=>nomatch z) (fun b o _ hb _ e n=>u.keep b o e n hb (by simp)) (fun b o _ hb _ e n=>u.slot b o e n hb (by simp)) (fun b o _ e n=>u.free b o e n (by simp)) (fun b o _ e=>u.there b o e (by simp)) u.tups u.frzs u.tbls (fun i hm=>by
  obtain ⟨o',d,c,a,g⟩:=hm
  rw [f] at a;cases a
  exact ⟨_,d,c,h,g⟩) hok I.bare
theorem Inv.call {g':Array GenState} {t':Nat} {d':Drawn} {ch:List Addr} (I:Inv X pins σ H s) (u:Un (frs X.stack) ch H H' s.heap h') (hok:HOk X.prog X.w H' h') (q:AllBare g')
  (d:∀ b∈ch,(b∈X.ex\/X.s₀.heap.objs.size<=b)/\b ≠ X.env.locals/\(∀ x c,X.env.cells.lookup x=some c->c ≠ b)/\∀ p∈X.pn ++ pins,p.1 ≠ b) :
  Inv X pins σ H' { s with heap:=h',gens:=g',drawn:=d',toks:=t' }:=by
 obtain ⟨m,⟨o,es,ep,j,r⟩,_⟩:=id I.loc
 obtain ⟨sl,g⟩:=u.any j I.free fun z=>(d _ z).2.1 rfl
 exact I.step (ch:=ch) d (fun b o g hb a e n=>u.keep b o e n (fun z=>(aA8.mp (I.stkSub b z)).elim g hb) a) (fun b o _ _ a e n=>u.any e n a) (fun b o a e n=>u.free b o e n a) (fun b o a e=>u.there b o e a) u.tups u.frzs u.tbls (fun v hm=>by
  obtain ⟨o',i,h,f,l⟩:=hm
  rw [j] at f;cases f
  exact ⟨_,i,h,g,l⟩) hok q
theorem Inv.turned {t':Nat} {it:Addr} (I:Inv X pins σ H s) (k:∀ b o,b ≠ it->s.heap.get? b=some o->h'.get? b=some o) (hn:H it=none) (f:it ≠ X.env.locals)
  (i:it∈X.ex\/X.s₀.heap.objs.size<=it) (g:∀ x c,X.env.cells.lookup x=some c->c ≠ it) (j:∀ p∈X.pn ++ pins,p.1 ≠ it):Inv X pins σ H { s with heap:=h',toks:=t' }:=by
 have d:∀ b u,H b=some u->b ≠ it:=fun b u e z=>by rw [z,hn] at e;cases e
 refine I.step (g':=s.gens) (d':=s.drawn) (ch:=[it]) (fun b hb=>?_) (fun b o _ _ a e _=>k b o (fun z=>a (by simp [z])) e) (fun b o _ _ a e _=>⟨o.slots,k b o (fun z=>a (by simp [z])) e⟩) (fun _ _ _ _ n=>n)
  (fun b o a e=>⟨o,k b o (fun z=>a (by simp [z])) e⟩) (fun _ _ e=>e) (fun _ _ _ e=>e) (fun b ps e=>⟨#[],by rw [e];simp⟩) (fun m hm=>?_) (fun b u e=>?_) I.bare
 ·have e:b=it:=by simpa using hb
  subst e
  exact ⟨i,f,g,j⟩
 ·obtain ⟨o,es,ep,h,r⟩:=hm
  exact ⟨o,es,ep,k _ o (Ne.symm f) h,r⟩
 ·refine (I.hok b u e).stay (fun c v a q=>k c v ?_ q) (fun _ q=>q) fun _ _ q=>q
  rcases a with z | z
  ·rw [z];exact d b u e
  ·exact d c _ z
theorem Inv.tok (I:Inv X pins σ H s) (t:Nat):Inv X pins σ H { s with toks:=t }:=I.un (h':=s.heap) (t':=t) Un.refl I.hok
theorem Inv.kept {t':Nat} (I:Inv X pins σ H s) (k:∀ b u,s.heap.get? b=some u->h'.get? b=some u):Inv X pins σ H { s with heap:=h',toks:=t' }:=I.un (Un.kept k) (I.hok.kept k)
theorem Inv.laid {a:Addr} {o:HO} {t':Nat} (I:Inv X pins σ H s) (k:∀ b u,s.heap.get? b=some u->h'.get? b=some u) (c:s.heap.objs.size<=a) (new:ObjOk X.prog X.w (upd H a o) h' a o) :
  Inv X pins σ (upd H a o) { s with heap:=h',toks:=t' }:=I.un (Un.laid k c (I.hok.fresh c)) (I.hok.laid k c new)
theorem Inv.write {x e:Addr} {o:HO} {t':Nat} (I:Inv X pins σ H s) (c:Mut (H x)) (d:e=x\/H e=some (.own x)) (k:∀ b u,b ≠ e->s.heap.get? b=some u->h'.get? b=some u) (a:∃ u,h'.get? e=some u)
  (new:ObjOk X.prog X.w (upd H x o) h' x o):Inv X pins σ (upd H x o) { s with heap:=h',toks:=t' }:=I.un (Un.write c d k a) (I.hok.write c d k a new)
theorem Inv.pins_of {a:List (Addr × Obj)} (I:Inv X pins σ H s) (h:∀ p∈a,s.heap.get? p.1=some p.2/\H p.1=none/\p.1 ≠ X.env.locals/\p.1 ∉ X.fs/\∀ v,p.2.data ≠ .cell v):Inv X a σ H s :=
 ⟨I.ok,I.os,I.bare,I.base,I.loc,I.cell,I.free,I.freeC,fun p b=>(aA7.mp b).elim (fun z=>I.pin p (aC6 _ z)) (h p),I.hok,I.len⟩
theorem nodup_ix {N:List Str} (f:N.Nodup) {i j:Nat} {x:Str} (a:N[i]?=some x) (b:N[j]?=some x):i=j:=by
 obtain ⟨h,c⟩:=aA1.mp a
 obtain ⟨g,d⟩:=aA1.mp b
 exact (List.getElem_inj f).mp (c.trans d.symm)
theorem aja {M:Model} {A:Around} {E:Value->Shared->Prop} {i:Nat} {x:Str} {v:V} {u:Value} {Q:Unit->Shared->Prop} (I:Inv X pins σ H s) (hN:X.N.Nodup) (hi:X.N[i]?=some x) (C:Loc X.env.scope x) (r:RelV v u)
  (h:∀ Y,Inv X pins (σ.set i (some v)) H Y->(∃ a,Heap.SameBut a s.heap Y.heap/\(a=X.env.locals\/X.env.cells.lookup x=some a))->Q () Y) (hf:X.fn x=true\/X.env.scope.names.lookup x=some .local:=by first | exact .inl rfl | exact .inr rfl | assumption):wpAny M A (storeName X.env x u) Q E s:=by
 obtain ⟨m,hn,hl⟩:=id I.loc
 have R:(X.env.scope.kind == .class || (X.env.scope.kind == .module && X.env.locals != X.env.globals))=false:=by rw [I.ok.kind];rfl
 have G:i < σ.length:=by rw [I.len];exact (aA1.mp hi).1
 have cne:=I.cne
 have l:∀ {a:Addr} {h':Heap},(∃ o,s.heap.get? a=some o/\H a=none)->Heap.SameBut a s.heap h'->HOk X.prog X.w H h':=fun {a h'} ha f b ob e=>by
  obtain ⟨_,_,D⟩:=ha
  refine (I.hok b ob e).stay (fun c S B q=>(f.2 c ?_).trans q) (fun _ q=>q) fun _ _ q=>q
  rintro rfl
  rcases B with rfl | B
  ·rw [D] at e;cases e
  ·rw [D] at B;cases B
 rcases C with J | J
 ·refine wpAny_storeName_local J hn (fun h' a0 f=>?_) R
  obtain ⟨oL,_,_,U,_⟩:=id hn
  refine h _ ⟨I.ok,I.os,I.bare,⟨fun b o e n hb C=>?_,fun b o e n hb C=>?_,I.base.free,fun b o e C=>?_,I.base.tups,I.base.frzs,I.base.tbls⟩,⟨_,a0,fun j y v' g F e3=>?_⟩,fun y c e=>?_,I.free,I.freeC,fun p hp=>?_,l ⟨oL,U,I.free⟩ f,by simpa using I.len⟩ ⟨_,f,.inl rfl⟩
  ·exact (f.2 b (aB5 (aC4 (aI3 e) I.ok.above))).trans (I.base.keep b o e n hb C)
  ·obtain ⟨sl,g⟩:=I.base.slot b o e n hb C
   exact ⟨sl,(f.2 b (aB5 (aC4 (aI3 e) I.ok.above))).trans g⟩
  ·obtain ⟨o',g⟩:=I.base.there b o e C
   exact ⟨o',(f.2 b (aB5 (aC4 (aI3 e) I.ok.above))).trans g⟩
  ·by_cases hj:j=i
   ·subst hj
    rw [hi] at g;cases g
    rw [List.getElem?_set_self G] at F
    cases F
    exact ⟨u,r,.inl ⟨J,by simp⟩⟩
   ·rw [List.getElem?_set_ne (Ne.symm hj)] at F
    obtain ⟨u',W,q⟩:=hl j y v' g F e3
    refine ⟨u',W,?_⟩
    rcases q with ⟨k,e⟩ | ⟨k,c,e,z⟩
    ·refine .inl ⟨k,?_⟩
     have:y ≠ x:=fun e=>hj (nodup_ix hN g (e ▸ hi))
     simp [this,e]
    ·exact .inr ⟨k,c,e,z.sameBut f (cne y c e)⟩
  ·obtain ⟨S,z⟩:=I.cell y c e
   exact ⟨S,z.sameBut f (cne y c e)⟩
  ·obtain ⟨e,n,ne,Z,d⟩:=I.pin p hp
   exact ⟨(f.2 p.1 ne).trans e,n,ne,Z,d⟩
 ·have K:X.fn x=true:=by
   rcases hf with z | z
   ·exact z
   ·rw [z] at J;cases J
  obtain ⟨c,B⟩:=I.ok.has x (.inl J)
  obtain ⟨S,z⟩:=I.cell x c B
  refine wpAny_storeName_cell I.ok.kind J B z (fun h' P f=>?_)
  obtain ⟨oc,O,L⟩:=id z
  refine h { s with heap:=h' } ⟨I.ok,I.os,I.bare,⟨fun b o e n hb C=>?_,fun b o e n hb C=>?_,I.base.free,fun b o e C=>?_,I.base.tups,I.base.frzs,I.base.tbls⟩,⟨m,hn.sameBut f (Ne.symm (cne x c B)),fun j y v' g F e3=>?_⟩,fun y T e=>?_,I.free,I.freeC,fun p hp=>?_,l ⟨oc,O,I.freeC x c B⟩ f,by simpa using I.len⟩ ⟨c,f,.inr B⟩
  ·exact (f.2 b (aB5 (aC4 (aI3 e) (I.ok.cab x c K B)))).trans (I.base.keep b o e n hb C)
  ·obtain ⟨sl,g⟩:=I.base.slot b o e n hb C
   exact ⟨sl,(f.2 b (aB5 (aC4 (aI3 e) (I.ok.cab x c K B)))).trans g⟩
  ·obtain ⟨o',g⟩:=I.base.there b o e C
   exact ⟨o',(f.2 b (aB5 (aC4 (aI3 e) (I.ok.cab x c K B)))).trans g⟩
  ·by_cases hj:j=i
   ·subst hj
    rw [hi] at g;cases g
    rw [List.getElem?_set_self G] at F
    cases F
    exact ⟨u,r,.inr ⟨.inl J,c,B,P⟩⟩
   ·rw [List.getElem?_set_ne (Ne.symm hj)] at F
    obtain ⟨u',W,q⟩:=hl j y v' g F e3
    refine ⟨u',W,?_⟩
    rcases q with q | ⟨k,T,e,z'⟩
    ·exact .inl q
    ·refine .inr ⟨k,T,e,z'.sameBut f ?_⟩
     rintro rfl
     exact hj (nodup_ix hN g (I.ok.inj _ _ _ e B ▸ hi))
  ·by_cases hcc:T=c
   ·subst hcc;exact ⟨_,P⟩
   ·obtain ⟨w2,z2⟩:=I.cell y T e
    exact ⟨w2,z2.sameBut f hcc⟩
  ·obtain ⟨e,n,ne,Z,d⟩:=I.pin p hp
   refine ⟨(f.2 p.1 ?_).trans e,n,ne,Z,d⟩
   intro q
   rw [q,O] at e
   have q':oc=p.2:=aC5 e
   exact d S (by rw [← q'];exact L)
theorem akt {M:Model} {A:Around} {E:Value->Shared->Prop} {i:Nat} {x:Str} {v:V} {u:Value} {Q:Unit->Shared->Prop} (I:Inv X pins σ H s) (b:X.N.Nodup) (hi:X.N[i]?=some x) (c:Loc X.env.scope x) (r:RelV v u)
  (h:∀ a,Inv X pins (σ.set i (some v)) H a->Q () a) (hf:X.fn x=true\/X.env.scope.names.lookup x=some .local:=by first | exact .inl rfl | exact .inr rfl | assumption):wpAny M A (storeName X.env x u) Q E s :=
 aja I b hi c r (fun a d _=>h a d) hf
theorem Inv.call' {a:Shared} {ch:List Addr} (I:Inv X pins σ H s) (f:a.os=s.os) (u:Un (frs X.stack) ch H H' s.heap a.heap) (hok:HOk X.prog X.w H' a.heap) (g:AllBare a.gens)
  (d:∀ b∈ch,(b∈X.ex\/X.s₀.heap.objs.size<=b)/\b ≠ X.env.locals/\(∀ x c,X.env.cells.lookup x=some c->c ≠ b)/\∀ p∈X.pn ++ pins,p.1 ≠ b):Inv X pins σ H' a:=by
 obtain ⟨h',g',d',t',o'⟩:=a
 have e:o'=s.os:=f
 subst e
 exact I.call (g':=g') (t':=t') (d':=d') u hok g d
end
abbrev XK:=Value->Option Addr->Hp->Prop
abbrev St:=List (Option V)
abbrev VK:=V->Hp->Prop
abbrev TE:=St->Hp->VK->Prop
abbrev TT:=St->Hp->(Bool->Hp->Prop)->Prop
abbrev TA:=St->Hp->(List V->Hp->Prop)->Prop
structure Ends where
 nx:St->Hp->Prop
 rt:VK
 bk:St->Hp->Prop:=fun _ _=>False
 ct:St->Hp->Prop:=fun _ _=>False
abbrev TS:=Ends->St->Hp->Prop
def EP (X:Cx) (pins:List (Addr × Obj)) (σ:St) (Q:VK) (u:Value) (s':Shared):Prop:=∃ v H',Inv X pins σ H' s'/\RelV v u/\Q v H'
def TP (X:Cx) (pins:List (Addr × Obj)) (σ:St) (Q:Bool->Hp->Prop) (b:Bool) (s':Shared):Prop:=∃ H',Inv X pins σ H' s'/\Q b H'
def AP (X:Cx) (pins:List (Addr × Obj)) (σ:St) (Q:List V->Hp->Prop) (us:List Value) (s':Shared):Prop:=∃ vs H',Inv X pins σ H' s'/\Vals vs us/\Q vs H'
def SP (X:Cx) (pins:List (Addr × Obj)) (D:Ends) (f:Flow) (s':Shared):Prop :=
 match f with
 | .next=>∃ σ' H',Inv X pins σ' H' s'/\D.nx σ' H'
 | .brk=>∃ σ' H',Inv X pins σ' H' s'/\D.bk σ' H'
 | .cont=>∃ σ' H',Inv X pins σ' H' s'/\D.ct σ' H'
 | .ret u=>∃ v σ' H',Inv X pins σ' H' s'/\RelV v u/\D.rt v H'
def PE (X:Cx) (e:Expr) (t:TE):Prop :=
 ∀ (pins:List (Addr × Obj)) (s:Shared) (σ:St) (H:Hp) (Q:VK),Inv X pins σ H s->t σ H Q->wpAny (model X.prog X.w) X.A (eval e X.env) (EP X pins σ Q) X.xe s
def PT (X:Cx) (e:Expr) (t:TT):Prop :=
 ∀ (pins:List (Addr × Obj)) (s:Shared) (σ:St) (H:Hp) (Q:Bool->Hp->Prop),Inv X pins σ H s->t σ H Q->wpAny (model X.prog X.w) X.A (isTrue e X.env (eval e X.env)) (TP X pins σ Q) X.xe s
def PW (X:Cx) (e:Expr) (t:TT):Prop :=
 ∀ (whole:Sem Value) (pins:List (Addr × Obj)) (s:Shared) (σ:St) (H:Hp) (Q:Bool->Hp->Prop),Inv X pins σ H s->t σ H Q->wpAny (model X.prog X.w) X.A (isTrue e X.env whole) (TP X pins σ Q) X.xe s
theorem PW.pt {X:Cx} {e:Expr} {t:TT} (h:PW X e t):PT X e t:=h _
def PA (X:Cx) (es:List Expr) (t:TA):Prop :=
 ∀ (pos:Pos) (pins:List (Addr × Obj)) (s:Shared) (σ:St) (H:Hp) (Q:List V->Hp->Prop),Inv X pins σ H s->t σ H Q->wpAny (model X.prog X.w) X.A (spliced (backTo pos (starEach es X.env))) (AP X pins σ Q) X.xe s
def PS (X:Cx) (st:Stmt) (t:TS):Prop :=
 ∀ (pins:List (Addr × Obj)) (s:Shared) (σ:St) (H:Hp) (D:Ends),Inv X pins σ H s->t D σ H->wpAny (model X.prog X.w) X.A (exec st X.env) (SP X pins D) X.xe s
def PSs (X:Cx) (st:List Stmt) (t:TS):Prop :=
 ∀ (pins:List (Addr × Obj)) (s:Shared) (σ:St) (H:Hp) (D:Ends),Inv X pins σ H s->t D σ H->wpAny (model X.prog X.w) X.A (execs st X.env) (SP X pins D) X.xe s
theorem thn {α:Type} {t:Sem α} {Q Q' : α->Shared->Prop} {M:Model} {A:Around} {E:Value->Shared->Prop} {s:Shared} (h:wpAny M A t Q E s) (b:∀ a s,Q a s->Q' a s):wpAny M A t Q' E s:=aI7 h b fun _ _ x=>x
section
variable {X:Cx}
def tVar (i:Nat):TE:=fun σ H Q=>∃ v,σ[i]?=some (some v)/\Q v H
def tC (v:V):TE:=fun _ H Q=>Q v H
theorem ax1 {i:Nat} {x:Str} {d:Pos} (n:X.N[i]?=some x) (j:Vis X.env.scope x) (hd:(x == ("__debug__" : Str))=false:=by decide) (f:(x == ("__classdict__" : Str))=false:=by decide):PE X (.Name x d) (tVar i):=by
 intro pins s σ H Q I h
 obtain ⟨v,e,h⟩:=h
 obtain ⟨m,hn,o⟩:=I.loc
 obtain ⟨u,r,l⟩:=o i x v n e j
 have fin:EP X pins σ Q u s:=⟨v,H,I,r,h⟩
 rcases l with ⟨b,hm⟩ | ⟨b,c,g,a⟩
 ·exact wpAny_Name (wpAny_loadName_local I.ok.kind b hn hm fin) hd
 ·rcases b with b | b
  ·exact wpAny_Name (wpAny_loadName_cell I.ok.kind b g a fin) hd
  ·exact wpAny_Name (wpAny_loadName_free I.ok.kind b g a fin f) hd
theorem aae {i j pos}:PE X (.Constant (.int i) j pos) (tC (.int i)):=fun _ _ _ H _ I h=>wpAny_Constant_int ⟨.int i,H,I.tok _,⟨_,rfl⟩,h⟩
theorem adc {b j pos}:PE X (.Constant (.bool b) j pos) (tC (.bl b)):=fun _ _ _ H _ I h=>Constant_bool ⟨.bl b,H,I,rfl,h⟩
theorem ady {j pos}:PE X (.Constant .none j pos) (tC .non):=fun _ _ _ H _ I h=>Constant_none ⟨.non,H,I,rfl,h⟩
def Gl (X:Cx) (x:Str):Prop:=X.env.kindOf x=some .globalImplicit
theorem aid {E:Value->Shared->Prop} {pins:List (Addr × Obj)} {s:Shared} {σ:St} {H:Hp} {x:Str} {u:Value} {a:Pos} {Q:Value->Shared->Prop} (I:Inv X pins σ H s) (b:Gl X x) (hm:X.mg x=some u) (h:Q u s)
  (hd:(x == ("__debug__" : Str))=false:=by decide):wpAny (model X.prog X.w) X.A (eval (.Name x a) X.env) Q E s :=
 Calls.Name_function_global I.ok.kind b (Calls.loadGlobal_global (by rw [I.ok.glob];exact I.mod.glob.keeps I.bk) hm h) hd
theorem adz {E:Value->Shared->Prop} {pins:List (Addr × Obj)} {s:Shared} {σ:St} {H:Hp} {x:Str} {u:Value} {a:Pos} {Q:Value->Shared->Prop} (I:Inv X pins σ H s) (f:Gl X x) (hm:X.mg x=none) (b:bootBuiltins x=some u) (h:Q u s)
  (hn:x ≠ "__name__":=by decide) (hd:(x == ("__debug__" : Str))=false:=by decide):wpAny (model X.prog X.w) X.A (eval (.Name x a) X.env) Q E s:=by
 obtain ⟨mb,d,c⟩:=I.mod.blt
 exact Calls.Name_function_global I.ok.kind f (Calls.loadGlobal_builtin (by rw [I.ok.glob];exact I.mod.glob.keeps I.bk) hm (by rw [I.ok.blt];exact d.keeps I.bk) ((c x hn).trans b) h) hd
theorem avf {x:Str} {v:V} {u:Value} {a:Pos} (b:Gl X x) (hm:X.mg x=some u) (r:RelV v u) (hd:(x == ("__debug__" : Str))=false:=by decide):PE X (.Name x a) (tC v) :=
 fun _ _ _ H _ I h=>aid I b hm ⟨v,H,I,r,h⟩ hd
theorem adt {x:Str} {v:V} {u:Value} {a:Pos} (b:Gl X x) (hm:X.mg x=none) (c:bootBuiltins x=some u) (r:RelV v u) (hn:x ≠ "__name__":=by decide) (hd:(x == ("__debug__" : Str))=false:=by decide):PE X (.Name x a) (tC v) :=
 fun _ _ _ H _ I h=>adz I b hm c ⟨v,H,I,r,h⟩ hn hd
variable {a b:Expr} {ta tb:TE} {pos:Pos}
def PC (X:Cx) (op:CmpOp) (a b:Expr) (t:TE):Prop :=
 ∀ (pins:List (Addr × Obj)) (s:Shared) (σ:St) (H:Hp) (Q:VK),Inv X pins σ H s->t σ H Q ->
  wpAny (model X.prog X.w) X.A (eval a X.env) (fun v s₁=>wpAny (model X.prog X.w) X.A (eval b X.env) (fun u s₂=>wpAny (model X.prog X.w) X.A (compareOp op v u) (EP X pins σ Q) X.xe s₂) X.xe s₁) X.xe s
def tB (t:TE):TT:=fun σ H Q=>t σ H fun x H1=>∃ c,x=.bl c/\Q c H1
theorem ax2 {op:CmpOp} {t:TE} (h:PC X op a b t) (f:behindInMarks op b=false:=by first | exact nobehind _ (by decide) (by decide) | rfl):PT X (.Compare a [op] [b] pos) (tB t):=by
 intro pins s σ H Q I n
 refine wpAny_isTrue_Compare1 (thn (h pins s σ H _ I n) fun v s1 f=>thn f fun u s2 j=>thn j fun c o ⟨x,g,l,m,i⟩=>?_) f
 obtain ⟨d,rfl,q⟩:=i
 cases m
 exact aJ2 ⟨g,l,q⟩
theorem aco {e:Expr} {t:TE} (h:PE X e t) (f:∀ whole,isTrue e X.env whole=(do let v ← whole;standAt e.pos;holding [v] (truthy v)):=by intro _;rfl):PT X e (tB t):=by
 intro pins s σ H Q I i
 refine isTrue_plain (thn (h pins s σ H _ I i) fun v s1 ⟨x,a,c,g,b⟩=>?_) (f _)
 obtain ⟨d,rfl,q⟩:=b
 cases g
 exact aJ2 ⟨a,c,q⟩
variable {tA tB':TT} {rest:List Expr}
def tAnd (t u:TT):TT:=fun σ H Q=>t σ H fun c H1=>if c=true then u σ H1 Q else Q false H1
def tOr (t u:TT):TT:=fun σ H Q=>t σ H fun c H1=>if c=true then Q true H1 else u σ H1 Q
def tNot (t:TT):TT:=fun σ H Q=>t σ H fun c H1=>Q (!c) H1
theorem af2 (ha:PT X a tA):PW X (.BoolOp .And [a] pos) tA:=by
 intro b pins s σ H Q I h
 refine isTrue_and (thn (ha pins s σ H Q I h) fun c s1 e=>?_)
 cases c with
 | true=>exact isTrue_and_nil e
 | false=>exact e
theorem ap4 (ha:PT X a tA):PW X (.BoolOp .Or [a] pos) tA:=by
 intro b pins s σ H Q I h
 refine isTrue_or (thn (ha pins s σ H Q I h) fun c s1 e=>?_)
 cases c with
 | false=>exact isTrue_or_nil e
 | true=>exact e
theorem ag9 (ha:PT X a tA) (hb:PW X (.BoolOp .And (b :: rest) pos) tB'):PW X (.BoolOp .And (a :: b :: rest) pos) (tAnd tA tB'):=by
 intro i pins s σ H Q I h
 refine isTrue_and (thn (ha pins s σ H _ I h) fun c s1 ⟨f,g,d⟩=>?_)
 cases c with
 | true=>exact hb i pins s1 σ f Q g d
 | false=>exact ⟨f,g,d⟩
theorem aut (ha:PT X a tA) (hb:PW X (.BoolOp .Or (b :: rest) pos) tB'):PW X (.BoolOp .Or (a :: b :: rest) pos) (tOr tA tB'):=by
 intro i pins s σ H Q I h
 refine isTrue_or (thn (ha pins s σ H _ I h) fun c s1 ⟨f,g,d⟩=>?_)
 cases c with
 | true=>exact ⟨f,g,d⟩
 | false=>exact hb i pins s1 σ f Q g d
theorem adf (ha:PT X a tA):PT X (.UnaryOp .Not a pos) (tNot tA):=by
 intro pins s σ H Q I h
 exact isTrue_not (ha pins s σ H (fun c b=>Q (!c) b) I h)
def aok (ta tb:TE):TE:=fun σ H Q=>ta σ H fun x H1=>∃ c,x=.bl c/\if c=true then tb σ H1 Q else Q (.bl false) H1
def aol (ta:TE):TE:=fun σ H Q=>ta σ H fun x H1=>∃ c,x=.bl c/\Q (.bl (!c)) H1
theorem aha {op} {t:TE} (h:PE X a t):PE X (.BoolOp op [a] pos) t:=fun pins s σ H Q I b=>BoolOp_one (h pins s σ H Q I b)
theorem afh (ha:PE X a ta) (hb:PE X (.BoolOp .And (b :: rest) pos) tb):PE X (.BoolOp .And (a :: b :: rest) pos) (aok ta tb):=by
 intro pins s σ H Q I h
 refine BoolOp_and (thn (ha pins s σ H _ I h) fun v s1 ⟨x,f,g,i,d⟩=>?_)
 obtain ⟨c,rfl,d⟩:=d
 cases i
 refine aJ2 ?_
 cases c with
 | true=>exact hb pins s1 σ f Q g d
 | false=>exact ⟨.bl false,f,g,rfl,d⟩
theorem ax3 (ha:PE X a ta):PE X (.UnaryOp .Not a pos) (aol ta):=by
 intro pins s σ H Q I h
 refine UnaryOp_ (thn (ha pins s σ H _ I h) fun v s1 ⟨x,d,f,g,b⟩=>?_)
 obtain ⟨c,rfl,b⟩:=b
 cases g
 exact not_of (aJ2 ⟨.bl (!c),d,f,rfl,b⟩)
def tIf (t:TT) (ta tb:TE):TE:=fun σ H Q=>t σ H fun c H1=>if c=true then ta σ H1 Q else tb σ H1 Q
theorem asj {c:Expr} (j:PT X c tA) (ha:PE X a ta) (hb:PE X b tb):PE X (.IfExp c a b pos) (tIf tA ta tb):=by
 intro pins s σ H Q I h
 refine wpAny_IfExp (thn (j pins s σ H _ I h) fun d s1 ⟨g,i,f⟩=>?_)
 cases d with
 | true=>exact ha pins s1 σ g Q i f
 | false=>exact hb pins s1 σ g Q i f
end
def SqL (K:Frag) (H:Hp) (a:Addr) (xs:List V):Prop :=
 Rd H a (.lst xs) ∨
  ∃ (o:Obj) (its:Array Value) (n:Nat),K.lookup a=some o/\o.cls=.type "list"/\o.dict=none/\o.data=.seq its n/\its.size<=sizeLine/\Vals xs its.toList
def SqT (K:Frag) (H:Hp) (a:Addr) (xs:List V):Prop :=
 Rd H a (.tup xs) ∨
  ∃ (o:Obj) (its:Array Value) (n:Nat),K.lookup a=some o/\o.cls=.type "tuple"/\o.data=.seq its n/\its.size<=sizeLine/\Vals xs its.toList
def absV:Value->Option V
 | .none=>some .non
 | .bool b=>some (.bl b)
 | .int i _=>some (.int i)
 | .str x _=>some (.str x)
 | .bytes b _=>some (.byt b)
 | .float b _=>some (.flt b)
 | .ref a=>some (.ref a)
 | .type n=>some (.ty n)
 | _=>none
theorem RelV.abs {x:V} {u:Value} (r:RelV x u):absV u=some x:=by
 cases x with
 | non=>cases r;rfl
 | bl _=>cases r;rfl
 | int _=>obtain ⟨t,rfl⟩:=r;rfl
 | str _=>obtain ⟨t,rfl⟩:=r;rfl
 | byt _=>obtain ⟨t,rfl⟩:=r;rfl
 | flt _=>obtain ⟨t,rfl⟩:=r;rfl
 | ref _=>cases r;rfl
 | ty _=>cases r;rfl
theorem RelV.inj {x y:V} {u:Value} (r:RelV x u) (q:RelV y u):x=y:=aC5 (r.abs.symm.trans q.abs)
theorem Vals.inj:∀ {xs ys:List V} {us:List Value},Vals xs us->Vals ys us->xs=ys
 | _,_,_,.nil,.nil=>rfl
 | _,_,_,.cons r t,.cons r' t'=>by rw [r.inj r',Vals.inj t t']
section
variable {X:Cx} {pins:List (Addr × Obj)} {σ:St} {H:Hp} {s:Shared} {a:Addr} {xs ys:List V}
theorem SqL.of {K:Frag} (h:H a=some (.lst xs)):SqL K H a xs:=.inl (.inl h)
theorem SqT.of {K:Frag} (h:H a=some (.tup xs)):SqT K H a xs:=.inl (.inl h)
theorem Inv.list (I:Inv X pins σ H s) (h:SqL X.K H a xs):∃ its:List Value,Vals xs its/\PlainL s.heap a its.toArray/\xs.length<=sizeLine:=by
 rcases h with h | ⟨o,its,n,d,b,hd,c,hz,r⟩
 ·obtain ⟨z,its,n,r,e⟩:=h.ok I.hok
  exact ⟨its,r,⟨_,n,e,rfl,rfl,rfl⟩,z⟩
 ·refine ⟨its.toList,r,⟨o,n,I.kIn a o d,b,hd,by simpa using c⟩,?_⟩
  have e:=r.length
  simp only [Array.length_toList] at e
  omega
theorem Inv.tuple (I:Inv X pins σ H s) (h:SqT X.K H a xs):∃ its:List Value,Vals xs its/\IsTup s.heap a its.toArray/\xs.length<=sizeLine:=by
 rcases h with h | ⟨o,its,n,d,b,c,hz,r⟩
 ·obtain ⟨z,its,r,p⟩:=h.ok I.hok
  exact ⟨its,r,p,z⟩
 ·refine ⟨its.toList,r,⟨o,I.kIn a o d,b,n,by simpa using c⟩,?_⟩
  have e:=r.length
  simp only [Array.length_toList] at e
  omega
theorem Inv.list_inj (I:Inv X pins σ H s) (h:SqL X.K H a xs) (h':SqL X.K H a ys):xs=ys:=by
 obtain ⟨its,r,⟨o,n,e,_,_,d⟩,_⟩:=I.list h
 obtain ⟨its',f,⟨o',g,b,_,_,d'⟩,_⟩:=I.list h'
 rw [e] at b;cases b
 rw [d] at d'
 injection d' with c _
 have:its=its':=by simpa using congrArg Array.toList c
 subst this
 exact r.inj f
theorem Inv.tuple_inj (I:Inv X pins σ H s) (h:SqT X.K H a xs) (h':SqT X.K H a ys):xs=ys:=by
 obtain ⟨its,r,⟨o,e,_,n,d⟩,_⟩:=I.tuple h
 obtain ⟨its',f,⟨o',b,_,g,d'⟩,_⟩:=I.tuple h'
 rw [e] at b;cases b
 rw [d] at d'
 injection d' with c _
 have:its=its':=by simpa using congrArg Array.toList c
 subst this
 exact r.inj f
end
abbrev Cx.wish (X:Cx) (E:Value->Shared->Prop):Cx:={ X with xe:=E }
abbrev Cx.nox (X:Cx):Cx:=X.wish fun _ _=>False
theorem Cx.Ok.wish {X:Cx} (ok:X.Ok) (E:Value->Shared->Prop):(X.wish E).Ok :=
 ⟨ok.mod,ok.kind,ok.glob,ok.blt,ok.above,ok.inj,ok.has,ok.cab,ok.hd,ok.frames,ok.stk,ok.exf,ok.bs,ok.bsz,ok.noex,ok.exfs,ok.funs,ok.frf⟩
theorem Cx.Ok.unwish {X:Cx} {E:Value->Shared->Prop} (ok:(X.wish E).Ok):X.Ok :=
 ⟨ok.mod,ok.kind,ok.glob,ok.blt,ok.above,ok.inj,ok.has,ok.cab,ok.hd,ok.frames,ok.stk,ok.exf,ok.bs,ok.bsz,ok.noex,ok.exfs,ok.funs,ok.frf⟩
section
variable {X:Cx} {pins:List (Addr × Obj)} {σ:St} {H:Hp} {s:Shared} {E:Value->Shared->Prop}
theorem Inv.wish (I:Inv X pins σ H s) (E:Value->Shared->Prop):Inv (X.wish E) pins σ H s:=⟨I.ok.wish E,I.os,I.bare,I.base,I.loc,I.cell,I.free,I.freeC,I.pin,I.hok,I.len⟩
theorem Inv.unwish (I:Inv (X.wish E) pins σ H s):Inv X pins σ H s:=⟨I.ok.unwish,I.os,I.bare,I.base,I.loc,I.cell,I.free,I.freeC,I.pin,I.hok,I.len⟩
theorem SP.unwish {D:Ends} {f:Flow} {b:Shared} (h:SP (X.wish E) pins D f b):SP X pins D f b:=by
 cases f with
 | next=>obtain ⟨a,H',I,q⟩:=h;exact ⟨a,H',I.unwish,q⟩
 | brk=>obtain ⟨a,H',I,q⟩:=h;exact ⟨a,H',I.unwish,q⟩
 | cont=>obtain ⟨a,H',I,q⟩:=h;exact ⟨a,H',I.unwish,q⟩
 | ret u=>obtain ⟨v,a,H',I,r,q⟩:=h;exact ⟨v,a,H',I.unwish,r,q⟩
theorem PSs.nox {st:List Stmt} {t:TS} (h:PSs X.nox st t):PSs X st t:=fun pins s σ H D I a =>
 aI7 (h pins s σ H D (I.wish _) a) (fun _ _ q=>q.unwish) fun _ _ z=>False.elim z
end
section
variable {X:Cx} {st:Stmt} {rest:List Stmt} {t u:TS} {e:Expr} {te:TE} {pos:Pos}
def aom:TS:=fun D σ H=>D.nx σ H
def tSeq (t u:TS):TS:=fun D σ H=>t { D with nx:=u D } σ H
theorem aay:PSs X [] aom:=fun _ _ σ H _ I h=>wpAny_execs_nil ⟨σ,H,I,h⟩
theorem aac (c:PS X st t) (b:PSs X rest u):PSs X (st :: rest) (tSeq t u):=by
 intro pins s σ H D I h
 refine wpAny_execs_cons (thn (c pins s σ H { D with nx:=u D } I h) fun f s1 q=>?_)
 cases f with
 | next =>
  obtain ⟨a,H',d,q⟩:=q
  exact b pins s1 a H' D d q
 | ret v=>exact q
 | brk=>exact q
 | cont=>exact q
theorem aah (a:PS X st t):PSs X [st] t:=by
 intro pins s σ H D I h
 refine wpAny_execs_cons (thn (a pins s σ H D I h) fun f s1 q=>?_)
 cases f with
 | next=>exact wpAny_execs_nil q
 | ret v=>exact q
 | brk=>exact q
 | cont=>exact q
theorem Inv.quiet {pins:List (Addr × Obj)} {σ:St} {H:Hp} {s:Shared} (I:Inv X pins σ H s):interactive X.env=false:=by simp [interactive,I.ok.kind]
def aon (te:TE):TS:=fun D σ H=>te σ H fun _ H1=>D.nx σ H1
theorem abh (f:PE X e te) (b:swapsWith e none pos.line X.env=pure false:=by rfl):PS X (.Expr e pos) (aon te):=by
 intro pins s σ H D I h
 exact wpAny_Expr_any (thn (f pins s σ H _ I h) fun v s1 ⟨x,c,d,g,a⟩=>⟨σ,c,d,a⟩) I.quiet b
def tRet (te:TE):TS:=fun D σ H=>te σ H D.rt
theorem aas (f:PE X e te):PS X (.Return (some e) pos) (tRet te):=by
 intro pins s σ H D I h
 exact wpAny_Return_some (thn (f pins s σ H _ I h) fun v s1 ⟨x,b,c,d,a⟩=>⟨x,σ,b,c,d,a⟩)
def tIfS (c:TT) (t u:TS):TS:=fun D σ H=>c σ H fun b H1=>if b=true then t D σ H1 else u D σ H1
theorem abc {c:Expr} {a b:List Stmt} {i:TT} (l:PT X c i) (ha:PSs X a t) (hb:PSs X b u):PS X (.If c a b pos) (tIfS i t u):=by
 intro pins s σ H D I h
 refine wpAny_If (thn (l pins s σ H _ I h) fun d s1 ⟨f,j,g⟩=>?_)
 cases d with
 | true=>exact ha pins s1 σ f D j g
 | false=>exact hb pins s1 σ f D j g
def ax4:TS:=fun _ _ _=>False
theorem ad0:PS X st ax4:=fun _ _ _ _ _ _ h=>h.elim
end
abbrev TG:=V->St->Hp->(St->Hp->Prop)->Prop
abbrev TGs:=List V->St->Hp->(St->Hp->Prop)->Prop
def PG (X:Cx) (target:Expr) (t:TG):Prop :=
 ∀ (pins:List (Addr × Obj)) (s:Shared) (σ:St) (H:Hp) (v:V) (u:Value) (Q:St->Hp->Prop),Inv X pins σ H s->RelV v u->t v σ H Q ->
  wpAny (model X.prog X.w) X.A (assign target X.env u) (fun _ s'=>∃ σ' H',Inv X pins σ' H' s'/\Q σ' H') X.xe s
def PGs (X:Cx) (ts:List Expr) (t:TGs):Prop :=
 ∀ (pins:List (Addr × Obj)) (s:Shared) (σ:St) (H:Hp) (vs:List V) (us:List Value) (Q:St->Hp->Prop),Inv X pins σ H s->Vals vs us->t vs σ H Q ->
  wpAny (model X.prog X.w) X.A (assignInOrder ((assignEach ts X.env).map (·.2)) us) (fun _ s'=>∃ σ' H',Inv X pins σ' H' s'/\Q σ' H') X.xe s
abbrev TSet:=V->V->V->Hp->(Hp->Prop)->Prop
def PSet (X:Cx) (t:TSet):Prop :=
 ∀ (pins:List (Addr × Obj)) (s:Shared) (σ:St) (H:Hp) (o i v:V) (ov iv u:Value) (Q:Hp->Prop),Inv X pins σ H s->RelV o ov->RelV i iv->RelV v u->t o i v H Q ->
  wpAny (model X.prog X.w) X.A (setItem ov iv u) (fun _ s'=>∃ H',Inv X pins σ H' s'/\Q H') X.xe s
section
variable {X:Cx} {pos:Pos}
def abr (i:Nat):TG:=fun v σ H Q=>Q (σ.set i (some v)) H
theorem aan {i:Nat} {x:Str} (a:X.N.Nodup) (hi:X.N[i]?=some x) (b:Loc X.env.scope x) (hf:X.fn x=true\/X.env.scope.names.lookup x=some .local:=by first | exact .inl rfl | exact .inr rfl | assumption):PG X (.Name x pos) (abr i):=by
 intro pins s σ H v u Q I r h
 exact wpAny_assign_Name (akt I a hi b r (fun d c=>⟨_,H,c,h⟩) hf)
def gNil:TGs:=fun vs σ H Q=>vs=[]/\Q σ H
def auu (t:TG) (u:TGs):TGs:=fun vs σ H Q=>∃ v r,vs=v :: r/\t v σ H fun σ' H'=>u r σ' H' Q
theorem acl:PGs X [] gNil:=by
 intro pins s σ H vs us Q I r h
 obtain ⟨e,h⟩:=h
 subst e
 cases r
 exact assignInOrder_nil ⟨σ,H,I,h⟩
theorem aa8 {e:Expr} {es:List Expr} {t:TG} {u:TGs} (i:PG X e t) (f:PGs X es u)
  (b:(assignEach (e :: es) X.env).map (·.2)=assign e X.env :: (assignEach es X.env).map (·.2):=by rfl):PGs X (e :: es) (auu t u):=by
 intro pins s σ H vs us Q I r h
 obtain ⟨v,l,g,h⟩:=h
 subst g
 cases r with
 | cons r rr =>
  rw [b]
  refine assignInOrder_cons (thn (i pins s σ H _ _ _ I r h) fun _ s1 ⟨a,c,j,d⟩=>?_)
  exact f pins s1 a c _ _ Q j rr d
def gTup (K:Frag) (n:Nat) (t:TGs):TG:=fun v σ H Q=>∃ a xs,v=.ref a/\SqT K H a xs/\xs.length=n/\t xs σ H Q
theorem acx {es:List Expr} {k:Nat} {t:TGs} {n:Nat} (j:X.calm=true) (h:PGs X es t)
  (hn:(assignEach es X.env).length=n:=by rfl) (c:(assignEach es X.env).findIdx? (·.1)=none:=by rfl):PG X (.Tuple es k pos) (gTup X.K n t):=by
 intro pins s σ H v u Q I r d
 obtain ⟨a,xs,g,q,i,d⟩:=d
 subst g
 cases r
 obtain ⟨its,f,p,hz⟩:=I.tuple q
 refine assign_Tuple_tuple (I.ok.hd j) p (by simp [hn,← i,f.length]) c fun h' m=>?_
 have l:Inv X pins σ H { s with heap:=h' }:=I.kept (t':=s.toks) fun b o e=>m b o (aB5 (aI3 e)) e
 exact h pins _ σ H xs _ Q l (by simpa using f) d
def gSub (to ti:TE) (t:TSet):TG:=fun v σ H Q=>to σ H fun o H1=>ti σ H1 fun i H2=>t o i v H2 fun H3=>Q σ H3
theorem afi {o i:Expr} {to c:TE} {t:TSet} (m:PE X o to) (hi:PE X i c) (d:PSet X t)
  (ha:∀ v,assign (.Subscript o i pos) X.env v=(do
   let a ← holding [v] (eval o X.env)
   let b ← holding [v,a] (eval i X.env)
   standAt pos
   holding [v,a,b] (setItem a b v)
   release [v,a,b] []):=by intro _;rfl):PG X (.Subscript o i pos) (gSub to c t):=by
 intro pins s σ H v u Q I r h
 rw [ha]
 refine aI0 (aI5 (thn (m pins s σ H _ I h) fun a s1 ⟨x,f,n,q,l⟩=>?_))
 refine aI0 (aI5 (thn (hi pins s1 σ f _ n l) fun b s2 ⟨y,H2,j,p,w⟩=>?_))
 refine aI0 (wpAny_standAt (aI0 (aI5 (thn (d pins s2 σ H2 x y v a b u _ j q p r w) fun _ A ⟨H3,z,g⟩=>?_))))
 exact wpAny_release ⟨σ,H3,z,g⟩
def tAsg (te:TE) (g:TG):TS:=fun D σ H=>te σ H fun x H1=>g x σ H1 D.nx
theorem acd {tg e:Expr} {te:TE} {g:TG} (j:PE X e te) (f:PG X tg g) (a:swapsWithSole [tg] e pos.line X.env=pure false:=by rfl) (m:swappedStores [tg] e X.env=pure none:=by rfl)
  (d:(assignEach [tg] X.env).map (·.2)=[assign tg X.env]:=by rfl):PS X (.Assign [tg] e pos) (tAsg te g):=by
 intro pins s σ H D I h
 refine wpAny_Assign_stores (thn (j pins s σ H _ I h) fun v s1 ⟨x,b,i,l,c⟩=>?_) a m
 rw [d]
 exact thn (f pins s1 σ b x v _ i l c) fun _ s2 q=>q
theorem aam {i:Nat} {x:Str} {e:Expr} {te:TE} {a:Pos} (g:X.N.Nodup) (hi:X.N[i]?=some x) (l:Loc X.env.scope x) (m:PE X e te) (b:swapsWith e (some (.Name x a)) pos.line X.env=pure false:=by rfl) (hf:X.fn x=true\/X.env.scope.names.lookup x=some .local:=by first | exact .inl rfl | exact .inr rfl | assumption) :
  PS X (.Assign [.Name x a] e pos) (tAsg te (abr i)):=by
 intro pins s σ H D I h
 refine wpAny_Assign_Name (thn (m pins s σ H _ I h) fun v s1 ⟨y,c,j,n,f⟩=>?_) b
 exact akt j g hi l n (fun s2 d=>⟨_,c,d,f⟩) hf
end
section
variable {X:Cx} {pos:Pos}
def ap5 (c:TT) (tb:TS):TS:=fun D σ H=>∃ W:Nat->St->Hp->Prop,(∃ m,W m σ H)/\∀ m σ H,W m σ H ->
 c σ H fun b H1=>if b=true then ∃ N:St->Hp->Prop,(∀ σ' H',N σ' H'->∃ m',m' < m/\W m' σ' H')/\tb { D with nx:=N,ct:=N,bk:=D.nx } σ H1 else D.nx σ H1
theorem aku {c:Expr} {body:List Stmt} {B:TT} {z:TS} (u:PassesOwn (model X.prog X.w) X.A X.env X.xe) (F:PT X c B) (hb:PSs X body z):PS X (.While c body [] pos) (ap5 B z):=by
 intro pins s σ H D I h
 obtain ⟨W,⟨J,C⟩,i⟩:=h
 refine wpAny_While (codeAny_whileLoop (fun n E=>∃ g H',Inv X pins g H' E/\W n g H') ?_ J ⟨σ,H,I,C⟩)
 rintro n s1 ⟨d,r,G,K⟩
 refine wpAny_passesOwn u (thn (F pins s1 d r _ G (i n d r K)) fun b s2 ⟨H2,x,l⟩=>?_)
 cases b with
 | true =>
  obtain ⟨N,y,l⟩:=l
  rw [aE8 rfl]
  refine wpAny_passesOwn u (thn (hb pins s2 d H2 _ x l) fun f L j=>?_)
  cases f with
  | next =>
   obtain ⟨a,H3,q,p⟩:=j
   obtain ⟨m,hm,o⟩:=y a H3 p
   exact ⟨m,hm,a,H3,q,o⟩
  | cont =>
   obtain ⟨a,H3,q,p⟩:=j
   obtain ⟨m,hm,o⟩:=y a H3 p
   exact ⟨m,hm,a,H3,q,o⟩
  | brk=>exact j
  | ret v=>exact j
 | false =>
  rw [aE9 aA9]
  exact wpAny_execs_nil ⟨d,H2,x,l⟩
end
structure It where
 go:Nat->Hp->Prop
 yld:Nat->Hp->V->Hp->Prop
 stop:Nat->Hp->Prop
def FpOk (X:Cx) (pins:List (Addr × Obj)) (H:Hp) (b:Addr):Prop :=
 H b=none/\b ≠ X.env.locals/\b ∉ X.fs/\(b∈X.ex\/X.s₀.heap.objs.size<=b)/\(∀ x c,X.env.cells.lookup x=some c->c ≠ b)/\∀ p∈X.pn ++ pins,p.1 ≠ b
theorem Inv.fpOk {X:Cx} {pins:List (Addr × Obj)} {σ:St} {H H':Hp} {s:Shared} {b:Addr} (I:Inv X pins σ H s) (hb:s.heap.objs.size<=b) (hn:H' b=none):FpOk X pins H' b:=by
 refine ⟨hn,Nat.ne_of_gt (aC4 I.lt hb),I.nofs hb,.inr (aC9 I.sz hb),fun x c e z=>?_,fun p a z=>?_⟩
 ·obtain ⟨v,q⟩:=I.cell x c e
  exact absurd (aC4 q.lt (by rw [z];exact hb)) (aF7 _)
 ·exact absurd (aC4 (aI3 (I.pin p a).1) (by rw [z];exact hb)) (aF7 _)
structure Turn (P:Program) (w:World) (K:Frag) (tg:Expr) (J:It) (fp:List Addr) (it:Addr) (tn:Nat->Heap->Prop):Prop where
 mem:it∈fp
 obj:∀ i h,tn i h->∀ b∈fp,∃ o,h.get? b=some o/\∀ v,o.data ≠ .cell v
 keep:∀ i h h',tn i h->(∀ b∈fp,∀ o,h.get? b=some o->h'.get? b=some o)->tn i h'
 item:∀ (X:Cx),X.prog=P->X.w=w->X.K=K->X.calm=true->∀ (i:Nat) (pins:List (Addr × Obj)) (s:Shared) (σ:St) (H:Hp) (E:Value->Shared->Prop),Inv X pins σ H s->(∀ b∈fp,FpOk X pins H b)->tn i s.heap->J.go i H ->
  wpAny (model P w) X.A (pyNext (.ref it)) (fun r s1=>∃ u,r=some u /\
   wpAny (model P w) X.A (letOwnedTupleGo tg (.ref it) u) (fun _ s2=>∃ x H',Inv X pins σ H' s2/\RelV x u/\J.yld i H x H'/\tn (i+1) s2.heap/\∀ b∈fp,H' b=none) E s1) E s
 done:∀ (X:Cx),X.prog=P->X.w=w->X.K=K->X.calm=true->∀ (i:Nat) (pins:List (Addr × Obj)) (s:Shared) (σ:St) (H:Hp) (E:Value->Shared->Prop),Inv X pins σ H s->(∀ b∈fp,FpOk X pins H b)->tn i s.heap->J.stop i H ->
  wpAny (model P w) X.A (pyNext (.ref it)) (fun r s1=>r=none/\Inv X pins σ H s1) E s
 self:∀ (A:Around) (i:Nat) (s:Shared) (Q:Value->Shared->Prop) (E:Value->Shared->Prop),tn i s.heap->Q (.ref it) s->wpAny (model P w) A (pyIter (.ref it)) Q E s
abbrev TI:=St->Hp->(It->Hp->Prop)->Prop
def PIE (X:Cx) (pins:List (Addr × Obj)) (σ:St) (tg:Expr) (R:It->Hp->Prop) (itv:Value) (s2:Shared):Prop :=
 ∃ (it:Addr) (fp:List Addr) (tn:Nat->Heap->Prop) (J:It) (H':Hp),itv=.ref it/\Inv X pins σ H' s2/\Turn X.prog X.w X.K tg J fp it tn/\tn 0 s2.heap/\(∀ b∈fp,FpOk X pins H' b)/\R J H'
def PI (X:Cx) (tg iter:Expr) (wi:TI):Prop :=
 ∀ (pins:List (Addr × Obj)) (s:Shared) (σ:St) (H:Hp) (R:It->Hp->Prop),Inv X pins σ H s->wi σ H R ->
  wpAny (model X.prog X.w) X.A (eval iter X.env) (fun v s1=>wpAny (model X.prog X.w) X.A (pyIter v) (PIE X pins σ tg R) X.xe s1) X.xe s
theorem aoo {M:Model} {A:Around} {E:Value->Shared->Prop} {s:Shared} {tg:Expr} {it:Addr} {u:Value} {o:Obj} {n:String} {vs:Array Value} {Q:Unit->Shared->Prop} (c:s.heap.get? it=some o) (b:o.cls=.type n) (hd:o.data=.fields vs)
  (hn:["enumerate","zip","dict_itemiterator","dict_reverseitemiterator","odict_iterator","itertools.zip_longest","itertools.pairwise"].contains n=false) (a:Q () s):wpAny M A (letOwnedTupleGo tg (.ref it) u) Q E s:=by
 unfold letOwnedTupleGo
 cases tg <;> first
  | exact aI1 a
  | (cases u <;> first
    | exact aI1 a
    | (refine aI0 (wpAny_load c ?_)
       rw [b,hd]
       show wpAny M A (if (["enumerate","zip","dict_itemiterator","dict_reverseitemiterator","odict_iterator","itertools.zip_longest","itertools.pairwise"].contains n && vs[0]? == some (rawInt _))=true then _ else _) Q E s
       rw [aE9 (by intro h;rw [hn,Bool.false_and] at h;cases h)]
       exact aI1 a))
def Itl (K:Frag) (a:Addr):It :=
 ⟨fun i H=>∃ xs x,SqL K H a xs/\xs[i]?=some x,fun i H x H'=>H'=H/\∀ xs,SqL K H a xs->xs[i]?=some x,fun i H=>∃ xs,SqL K H a xs/\xs.length<=i⟩
def Itt (K:Frag) (a:Addr):It :=
 ⟨fun i H=>∃ xs x,SqT K H a xs/\xs[i]?=some x,fun i H x H'=>H'=H/\∀ xs,SqT K H a xs->xs[i]?=some x,fun i H=>∃ xs,SqT K H a xs/\xs.length<=i⟩
def Itr (lo:Int) (n:Nat):It:=⟨fun i _=>i < n,fun i H x H'=>H'=H/\x=.int (lo+i),fun i _=>n<=i⟩
theorem ap6 {P:Program} {w:World} {K:Frag} {tg:Expr} (a it:Addr):Turn P w K tg (Itl K a) [it] it (fun i h=>h.IsListIter it a i) where
 mem:=by simp
 obj:=fun i h st b hb=>by
  have e:b=it:=by simpa using hb
  subst e
  obtain ⟨o,e,c,d⟩:=st
  exact ⟨o,e,fun v z=>by rw [d] at z;cases z⟩
 keep:=fun i h h' st k=>st.at fun o e=>k it (by simp) o e
 item:=by
  intro X B y q D i pins s σ H E I hf st n
  subst B y q
  obtain ⟨xs,x,f,A⟩:=n
  obtain ⟨its,j,p,hz⟩:=I.list f
  obtain ⟨u,N,G⟩:=j.get A
  obtain ⟨r,l,F,C,g,m⟩:=hf it (by simp)
  refine wpAny_pyNext_list_item st p.isList (x:=u) (by simpa using N) fun h' st' sb=>?_
  have L:Inv X pins σ H { s with heap:=h' }:=I.turned (t':=s.toks) (fun b o hb e=>(sb.2 b hb).trans e) r l C g m
  obtain ⟨o,e,c,d⟩:=id st'
  exact ⟨u,rfl,aoo (s:={ s with heap:=h' }) e c d (by decide) ⟨x,H,L,G,⟨rfl,fun ys M=>by rw [I.list_inj M f];exact A⟩,st',fun b hb=>(hf b hb).1⟩⟩
 done:=by
  intro X B y q D i pins s σ H E I hf st n
  subst B y q
  obtain ⟨xs,f,A⟩:=n
  obtain ⟨its,j,p,hz⟩:=I.list f
  obtain ⟨r,l,F,C,g,m⟩:=hf it (by simp)
  have O:=j.length
  exact wpAny_pyNext_list_end (I.ok.hd D) st p.isList (by simp;omega) fun h' J=>⟨rfl,I.turned (t':=s.toks) (fun b o hb e=>J b o hb e) r l C g m⟩
 self:=fun _ _ _ _ _ st h=>wpAny_pyIter_listiter st h
theorem aop {P:Program} {w:World} {K:Frag} {tg:Expr} (a it:Addr):Turn P w K tg (Itt K a) [it] it (fun i h=>h.IsTupleIter it a i) where
 mem:=by simp
 obj:=fun i h st b hb=>by
  have e:b=it:=by simpa using hb
  subst e
  obtain ⟨o,e,c,d⟩:=st
  exact ⟨o,e,fun v z=>by rw [d] at z;cases z⟩
 keep:=fun i h h' st k=>st.at fun o e=>k it (by simp) o e
 item:=by
  intro X B y q D i pins s σ H E I hf st n
  subst B y q
  obtain ⟨xs,x,f,A⟩:=n
  obtain ⟨its,j,p,hz⟩:=I.tuple f
  obtain ⟨u,N,G⟩:=j.get A
  obtain ⟨r,l,F,C,g,m⟩:=hf it (by simp)
  refine wpAny_pyNext_tuple_item st (show s.heap.IsTuple a its.toArray from p) (x:=u) (by simpa using N) fun h' st' sb=>?_
  have L:Inv X pins σ H { s with heap:=h' }:=I.turned (t':=s.toks) (fun b o hb e=>(sb.2 b hb).trans e) r l C g m
  obtain ⟨o,e,c,d⟩:=id st'
  exact ⟨u,rfl,aoo (s:={ s with heap:=h' }) e c d (by decide) ⟨x,H,L,G,⟨rfl,fun ys M=>by rw [I.tuple_inj M f];exact A⟩,st',fun b hb=>(hf b hb).1⟩⟩
 done:=by
  intro X B y q D i pins s σ H E I hf st n
  subst B y q
  obtain ⟨xs,f,A⟩:=n
  obtain ⟨its,j,p,hz⟩:=I.tuple f
  obtain ⟨r,l,F,C,g,m⟩:=hf it (by simp)
  have O:=j.length
  exact wpAny_pyNext_tuple_end (I.ok.hd D) st (show s.heap.IsTuple a its.toArray from p) (by simp;omega) fun h' J=>⟨rfl,I.turned (t':=s.toks) (fun b o hb e=>J b o hb e) r l C g m⟩
 self:=fun _ _ _ _ _ st h=>wpAny_pyIter_tupleiter st h
theorem aoq {P:Program} {w:World} {K:Frag} {tg:Expr} (it:Addr) (lo:Int) (n:Nat):Turn P w K tg (Itr lo n) [it] it (fun i h=>IsRangeIter h it (lo+(i:Nat) * 1) ((n:Int) - (i:Nat)) 1) where
 mem:=by simp
 obj:=fun i h st b hb=>by
  have e:b=it:=by simpa using hb
  subst e
  exact ⟨_,st,fun v z=>by
   have u:Data.fields _=Data.cell v:=z
   cases u⟩
 keep:=fun i h h' st k=>k it (by simp) _ st
 item:=by
  intro X m q j l i pins s σ H E I hf st f
  subst m q j
  obtain ⟨g,c,x,p,a,d⟩:=hf it (by simp)
  have W:=Walks.range (prog:=X.prog) (w:=X.w) (I.ok.hd l) it lo 1 n
  refine W.item i s _ _ f st fun v h' r y st' C=>?_
  obtain ⟨t,rfl⟩:=y
  have B:Inv X pins σ H { s with heap:=h',toks:=r }:=I.turned (fun b o hb e=>C b o (by simpa using hb) e) g c p a d
  refine ⟨_,rfl,aoo (s:={ s with heap:=h',toks:=r }) (n:="range_iterator") st' rfl rfl (by decide) ⟨.int (lo+i),H,B,⟨t,?_⟩,⟨rfl,rfl⟩,st',fun b hb=>(hf b hb).1⟩⟩
  rw [Int.mul_one]
 done:=by
  intro X m q j l i pins s σ H E I hf st f
  subst m q j
  obtain ⟨g,c,x,p,a,d⟩:=hf it (by simp)
  exact wpAny_pyNext_range_end (I.ok.hd l) st (by have:n<=i:=f;omega) fun h' A=>⟨rfl,I.turned (t':=s.toks) (fun b o hb e=>A b o hb e) g c p a d⟩
 self:=fun _ _ _ _ _ st h=>wpAny_pyIter_rangeiter st h
section
variable {X:Cx} {tg:Expr}
def auv (K:Frag) (tl:TE):TI:=fun σ H R=>tl σ H fun x H1=>∃ a,x=.ref a/\(∃ xs,SqL K H1 a xs)/\R (Itl K a) H1
def iTup (K:Frag) (tl:TE):TI:=fun σ H R=>tl σ H fun x H1=>∃ a,x=.ref a/\(∃ xs,SqT K H1 a xs)/\R (Itt K a) H1
theorem aby {l:Expr} {tl:TE} (g:PE X l tl):PI X tg l (auv X.K tl):=by
 intro pins s σ H R I h
 refine thn (g pins s σ H _ I h) fun v s1 ⟨x,d,c,i,f⟩=>?_
 obtain ⟨a,e,⟨xs,j⟩,q⟩:=f
 subst e
 cases i
 obtain ⟨its,m,p,hz⟩:=c.list j
 refine aJ3 p.isList ?_
 refine ⟨s1.heap.objs.size,[s1.heap.objs.size],_,_,d,rfl,c.kept (t':=s1.toks) fun b o e=>aI2 _ e,ap6 a _,⟨_,aI4 _ rfl,rfl,rfl⟩,fun b hb=>?_,q⟩
 have e:b=s1.heap.objs.size:=by simpa using hb
 subst e
 exact c.fpOk (aA6 _) (c.hok.fresh (aA6 _))
theorem ax5 {l:Expr} {tl:TE} (g:PE X l tl):PI X tg l (iTup X.K tl):=by
 intro pins s σ H R I h
 refine thn (g pins s σ H _ I h) fun v s1 ⟨x,d,c,i,f⟩=>?_
 obtain ⟨a,e,⟨xs,j⟩,q⟩:=f
 subst e
 cases i
 obtain ⟨its,m,p,hz⟩:=c.tuple j
 refine wpAny_pyIter_tuple (show s1.heap.IsTuple a its.toArray from p) ?_
 refine ⟨s1.heap.objs.size,[s1.heap.objs.size],_,_,d,rfl,c.kept (t':=s1.toks) fun b o e=>aI2 _ e,aop a _,⟨_,aI4 _ rfl,rfl,rfl⟩,fun b hb=>?_,q⟩
 have e:b=s1.heap.objs.size:=by simpa using hb
 subst e
 exact c.fpOk (aA6 _) (c.hok.fresh (aA6 _))
theorem akv {pins:List (Addr × Obj)} {σ:St} {H:Hp} {s:Shared} {R:It->Hp->Prop} {E:Value->Shared->Prop} {lo hi:Int} {t u v:Tok} {c:Nat} (I:Inv X pins σ H s) (g : -(2 ^ 62)<=lo) (d:lo < 2 ^ 62) (h : -(2 ^ 62)<=hi) (i:hi < 2 ^ 62)
  (q:R (Itr lo (hi - lo).toNat) H):wpAny (model X.prog X.w) X.A (pyIter (.ref s.heap.objs.size)) (PIE X pins σ tg R) E { s with heap:=s.heap.push { cls:=.type "range",data:=.fields #[.int lo t,.int hi u,.int 1 v] },toks:=c }:=by
 refine wpAny_pyIter_range (IsRange.new ..) (small_one g d h i) ?_
 have a:Inv X pins σ H { s with heap:=s.heap.push { cls:=.type "range",data:=.fields #[.int lo t,.int hi u,.int 1 v] },toks:=c }:=I.kept fun b o e=>aI2 _ e
 refine ⟨(s.heap.push { cls:=.type "range",data:=.fields #[.int lo t,.int hi u,.int 1 v] }).objs.size,[(s.heap.push { cls:=.type "range",data:=.fields #[.int lo t,.int hi u,.int 1 v] }).objs.size],_,_,H,rfl,
  a.kept (t':=c) fun b o e=>aI2 _ e,aoq _ lo (hi - lo).toNat,?_,fun b hb=>?_,q⟩
 ·have f:lo+((0:Nat):Int) * 1=lo:=by simp
  have j:(((hi - lo).toNat:Nat):Int) - ((0:Nat):Int)=Builtin.Range.rangeSize lo hi 1:=by rw [rangeSize_one];split <;> omega
  show IsRangeIter _ _ (lo+((0:Nat):Int) * 1) ((((hi - lo).toNat:Nat):Int) - ((0:Nat):Int)) 1
  rw [f,j]
  exact aI4 _ rfl
 ·have e:b=(s.heap.push { cls:=.type "range",data:=.fields #[.int lo t,.int hi u,.int 1 v] }).objs.size:=by simpa using hb
  subst e
  exact a.fpOk (aA6 _) (a.hok.fresh (aA6 _))
def aor (ta:TA):TI:=fun σ H R=>ta σ H fun vs H1=>∃ j:Int,vs=[.int j]/\-(2 ^ 62)<=j/\j < 2 ^ 62/\R (Itr 0 j.toNat) H1
def auw (ta:TA):TI:=fun σ H R=>ta σ H fun vs H1=>∃ i j:Int,vs=[.int i,.int j]/\(-(2 ^ 62)<=i/\i < 2 ^ 62/\-(2 ^ 62)<=j/\j < 2 ^ 62)/\R (Itr i (j - i).toNat) H1
theorem abj {a:Expr} {d:TA} {p b:Pos} (g:Gl X "range") (hm:X.mg "range" = none) (ha:PA X [a] d) (f:starEach [a] X.env=[(false,eval a X.env)]:=by rfl):PI X tg (.Call (.Name "range" p) [a] [] b) (aor d):=by
 intro pins s σ H R I h
 refine Call_ (adz I g hm boot_range (PyProof.Rows.callWith_type1 (thn (ha b pins s σ H _ I h) fun us s1 ⟨vs,n,i,l,c⟩=>?_) f rfl))
 obtain ⟨j,e,c,m,q⟩:=c
 subst e
 cases l with
 | cons r rr =>
  cases rr
  obtain ⟨t,rfl⟩:=r
  exact call_range_1 (akv i (by omega) (by omega) c m (by simpa using q))
theorem ad8 {a b:Expr} {g:TA} {p c:Pos} (o:Gl X "range") (hm:X.mg "range" = none) (ha:PA X [a,b] g) (l:starEach [a,b] X.env=[(false,eval a X.env),(false,eval b X.env)]:=by rfl) (d:starEach [b] X.env=[(false,eval b X.env)]:=by rfl) :
  PI X tg (.Call (.Name "range" p) [a,b] [] c) (auw g):=by
 intro pins s σ H R I h
 refine Call_ (adz I o hm boot_range (PyProof.Rows.callWith_type1 (thn (ha c pins s σ H _ I h) fun us s1 ⟨vs,x,u,v,f⟩=>?_) (by rw [l,d]) (by rw [d];rfl)))
 obtain ⟨i,j,e,⟨f,w,m,n⟩,q⟩:=f
 subst e
 cases v with
 | cons r rr =>
  cases rr with
  | cons r' rr =>
   cases rr
   obtain ⟨t,rfl⟩:=r
   obtain ⟨t',rfl⟩:=r'
   exact call_range_2 (akv u f w m n q)
def tFor (wi:TI) (g:TG) (tb:TS):TS:=fun D σ H=>wi σ H fun J H1=>∃ W:Nat->Nat->St->Hp->Prop,(∃ m,W 0 m σ H1)/\∀ i m σ H,W i m σ H ->
 (J.stop i H/\D.nx σ H)\/(J.go i H/\∃ N:St->Hp->Prop,(∀ σ' H',N σ' H'->∃ m',m' < m/\W (i+1) m' σ' H')/\∀ x H',J.yld i H x H'->g x σ H' fun σ2 H2=>tb { D with nx:=N,ct:=N,bk:=D.nx } σ2 H2)
def afj (fp:List Addr) (h:Heap):List (Addr × Obj):=fp.filterMap fun b=>(h.get? b).map fun o=>(b,o)
theorem adn {fp:List Addr} {h:Heap} {b:Addr} {o:Obj} (hb:b∈fp) (e:h.get? b=some o):(b,o)∈afj fp h:=List.mem_filterMap.mpr ⟨b,hb,by rw [e];rfl⟩
theorem ap7 {fp:List Addr} {h:Heap} {p:Addr × Obj} (a:p∈afj fp h):p.1∈fp/\h.get? p.1=some p.2:=by
 obtain ⟨b,hb,e⟩:=List.mem_filterMap.mp a
 cases q:h.get? b with
 | none=>rw [q] at e;cases e
 | some o =>
  rw [q] at e
  have c:(b,o)=p:=aC5 e
  subst c
  exact ⟨hb,q⟩
theorem Inv.pinned {pins:List (Addr × Obj)} {σ:St} {H:Hp} {s:Shared} {fp:List Addr} (I:Inv X pins σ H s) (hf:∀ b∈fp,FpOk X pins H b) (h:∀ b∈fp,∃ o,s.heap.get? b=some o/\∀ v,o.data ≠ .cell v):Inv X (pins ++ afj fp s.heap) σ H s :=
 I.pins_of fun p c=>(aA7.mp c).elim (fun z=>I.pin p (aB2 _ z)) fun z=>by
  obtain ⟨hb,e⟩:=ap7 z
  obtain ⟨i,g,f,_⟩:=hf p.1 hb
  obtain ⟨o,a,d⟩:=h p.1 hb
  rw [e] at a;cases a
  exact ⟨e,i,g,f,d⟩
theorem Inv.unpinned {pins pl:List (Addr × Obj)} {σ:St} {H:Hp} {s:Shared} (I:Inv X (pins ++ pl) σ H s):Inv X pins σ H s:=I.pins_of fun p a=>I.pin p (aB2 _ (aC6 _ a))
theorem abt {y:Expr} {body:List Stmt} {wi:TI} {g:TG} {tb:TS} {U:Pos} (K:PassesOwn (model X.prog X.w) X.A X.env X.xe) (hc:X.calm=true) (hi:PI X tg y wi) (hg:PG X tg g) (hb:PSs X body tb)
  (hs:∀ x,foldedSetIterable y X.env x=pure x:=by intro _;rfl):PS X (.For tg y body [] U) (tFor wi g tb):=by
 intro pins s σ H D I h
 refine wpAny_For (thn (hi pins s σ H _ I h) fun v s1 h1=>thn h1 fun a0 s2 h2=>?_) hs
 obtain ⟨it,fp,tn,J,H2,e,I2,T,O,Y,W,⟨m0,w0⟩,E⟩:=h2
 subst e
 -- what stays true of the iterator's objects through the loop
 have z:∀ {H':Hp},(∀ b∈fp,H' b=none)->∀ b∈fp,FpOk X pins H' b:=fun hn b hb=>⟨hn b hb,(Y b hb).2⟩
 refine codeAny_forLoop_any (fun n s'=>∃ i l H',Inv X pins l H' s'/\tn i s'.heap/\(∀ b∈fp,H' b=none)/\W i n l H') ?_ m0 ⟨0,σ,H2,I2,O,fun b hb=>(Y b hb).1,w0⟩
 rintro n s3 ⟨i,j,H3,I3,F,G,w3⟩
 rcases E i n j H3 w3 with ⟨stop,qn⟩ | ⟨go,N,hN,step⟩
 ·refine wpAny_passesOwn K (thn (T.done X rfl rfl rfl hc i pins s3 j H3 X.xe I3 (z G) F stop) fun r s4 ⟨R,I4⟩=>?_)
  subst R
  exact wpAny_execs_nil ⟨j,H3,I4,qn⟩
 ·refine wpAny_passesOwn K (thn (T.item X rfl rfl rfl hc i pins s3 j H3 X.xe I3 (z G) F go) fun r s4 ⟨u,R,h4⟩=>?_)
  subst R
  refine wpAny_passesOwn K (thn h4 fun _ s5 ⟨x,Z,I5,r5,y5,C,Q⟩=>?_)
  have S:=I5.pinned (z Q) (T.obj _ _ C)
  refine wpAny_passesOwn K (thn (hg _ s5 j Z x u _ S r5 (step x Z y5)) fun _ s6 ⟨M,H6,I6,q6⟩=>?_)
  refine wpAny_passesOwn K (thn (hb _ s6 M H6 _ I6 q6) fun f P B=>?_)
  have q:∀ {a:St} {c:Hp},Inv X (pins ++ afj fp s5.heap) a c P->N a c->∃ m,m < n/\∃ i l H',Inv X pins l H' P/\tn i P.heap/\(∀ b∈fp,H' b=none)/\W i m l H':=fun {a c} p L=>by
   obtain ⟨m',hm,w7⟩:=hN a c L
   refine ⟨m',hm,i+1,a,c,p.unpinned,T.keep _ _ _ C fun b hb o e=>(p.pin (b,o) (aB2 _ (aB2 _ (adn hb e)))).1,fun b hb=>?_,w7⟩
   obtain ⟨o,e,d⟩:=T.obj _ _ C b hb
   exact (p.pin (b,o) (aB2 _ (aB2 _ (adn hb e)))).2.1
  cases f with
  | next=>obtain ⟨a,c,p,L⟩:=B;exact q p L
  | cont=>obtain ⟨a,c,p,L⟩:=B;exact q p L
  | brk=>obtain ⟨a,c,p,B⟩:=B;exact ⟨a,c,p.unpinned,B⟩
  | ret v=>obtain ⟨x7,a,c,p,r7,B⟩:=B;exact ⟨x7,a,c,p.unpinned,r7,B⟩
end
theorem ap8 {lo:Int} {n:Nat} {g:TG} {f:TS} {D:Ends} {σ:St} {H:Hp} (b:Nat->St->Hp->Prop) (l:b 0 σ H)
  (h:∀ i σ H,i < n->b i σ H->g (.int (lo+i)) σ H fun a H2=>f { D with nx:=b (i+1),ct:=b (i+1),bk:=D.nx } a H2) (hd:∀ σ H,b n σ H->D.nx σ H) :
  ∃ W:Nat->Nat->St->Hp->Prop,(∃ m,W 0 m σ H)/\∀ i m σ H,W i m σ H ->
   ((Itr lo n).stop i H/\D.nx σ H)\/((Itr lo n).go i H/\∃ N:St->Hp->Prop,(∀ c H',N c H'->∃ d,d < m/\W (i+1) d c H')/\∀ x H',(Itr lo n).yld i H x H'->g x σ H' fun a H2=>f { D with nx:=N,ct:=N,bk:=D.nx } a H2):=by
 refine ⟨fun i m σ H=>m=n - i/\i<=n/\b i σ H,⟨n,by simp,aF3 _,l⟩,?_⟩
 rintro i m σ H ⟨rfl,hi,p⟩
 by_cases hlt:i < n
 ·refine .inr ⟨hlt,b (i+1),fun c H' j=>⟨n - (i+1),by omega,rfl,hlt,j⟩,fun x H' y=>?_⟩
  obtain ⟨e,y⟩:=y
  subst e y
  exact h i σ _ hlt p
 ·have e:i=n:=by omega
  subst e
  exact .inl ⟨aA6 _,hd σ H p⟩
abbrev R2:=V->V->Hp->VK->Prop
def OpR (X:Cx) (f:Value->Value->Sem Value) (r:R2):Prop :=
 ∀ (pins:List (Addr × Obj)) (s:Shared) (σ:St) (H:Hp) (x y:V) (v u:Value) (Q:VK),Inv X pins σ H s->RelV x v->RelV y u->r x y H Q ->
  wpAny (model X.prog X.w) X.A (f v u) (EP X pins σ Q) X.xe s
def UnR (X:Cx) (f:Value->Sem Value) (r:V->Hp->VK->Prop):Prop :=
 ∀ (pins:List (Addr × Obj)) (s:Shared) (σ:St) (H:Hp) (x:V) (v:Value) (Q:VK),Inv X pins σ H s->RelV x v->r x H Q ->
  wpAny (model X.prog X.w) X.A (f v) (EP X pins σ Q) X.xe s
def aa2 (X:Cx) (f:Value) (r:List V->Hp->VK->Prop):Prop :=
 ∀ (pins:List (Addr × Obj)) (s:Shared) (σ:St) (H:Hp) (xs:List V) (us:List Value) (Q:VK),Inv X pins σ H s->Vals xs us->r xs H Q ->
  wpAny (model X.prog X.w) X.A (call f us) (EP X pins σ Q) X.xe s
def TruR (X:Cx) (r:V->Hp->(Bool->Hp->Prop)->Prop):Prop :=
 ∀ (pins:List (Addr × Obj)) (s:Shared) (σ:St) (H:Hp) (x:V) (v:Value) (Q:Bool->Hp->Prop),Inv X pins σ H s->RelV x v->r x H Q ->
  wpAny (model X.prog X.w) X.A (truthy v) (TP X pins σ Q) X.xe s
def tOp (r:R2) (ta tb:TE):TE:=fun σ H Q=>ta σ H fun x H1=>tb σ H1 fun y H2=>r x y H2 Q
def tUn (r:V->Hp->VK->Prop) (ta:TE):TE:=fun σ H Q=>ta σ H fun x H1=>r x H1 Q
def rI (C:Int->Int->Prop) (g:Int->Int->V):R2:=fun x y H Q=>∃ i j,x=.int i/\y=.int j/\C i j/\Q (g i j) H
def rI0 (g:Int->Int->V):R2:=fun x y H Q=>∃ i j,x=.int i/\y=.int j/\Q (g i j) H
def rU (g:Int->V):V->Hp->VK->Prop:=fun x H Q=>∃ i,x=.int i/\Q (g i) H
section
variable {X:Cx} {a b c:Expr} {ta tb tc:TE} {pos:Pos}
theorem binT (ha:PE X a ta) (hb:PE X b tb) {pins:List (Addr × Obj)} {s:Shared} {σ:St} {H:Hp} {R:V->V->Hp->Prop} (I:Inv X pins σ H s)
  (h:ta σ H fun x g=>tb σ g fun y H2=>R x y H2) {Q:Value->Shared->Prop} {f:Value->Value->Sem Value}
  (hf:∀ v u s2 x y H2,Inv X pins σ H2 s2->RelV x v->RelV y u->R x y H2->wpAny (model X.prog X.w) X.A (f v u) Q X.xe s2) :
  wpAny (model X.prog X.w) X.A (eval a X.env) (fun v d=>wpAny (model X.prog X.w) X.A (eval b X.env) (fun u c=>wpAny (model X.prog X.w) X.A (f v u) Q X.xe c) X.xe d) X.xe s:=by
 refine thn (ha pins s σ H _ I h) fun v s1 ⟨x,g,l,n,j⟩=>?_
 refine thn (hb pins s1 σ g _ l j) fun u s2 ⟨y,H2,i,m,o⟩=>?_
 exact hf v u s2 x y H2 i n m o
theorem aat {op:Operator} {r:R2} (d:OpR X (binaryOp op) r) (ha:PE X a ta) (hb:PE X b tb):PE X (.BinOp a op b pos) (tOp r ta tb):=by
 intro pins s σ H Q I h
 exact wpAny_BinOp (binT ha hb I h fun v u s2 x y H2 c f g q=>d pins s2 σ H2 x y v u Q c f g q)
theorem aux {op:UnaryOp} {r:V->Hp->VK->Prop} (d:UnR X (unaryOp op) r) (ha:PE X a ta):PE X (.UnaryOp op a pos) (tUn r ta):=by
 intro pins s σ H Q I h
 exact UnaryOp_ (thn (ha pins s σ H _ I h) fun v s1 ⟨x,c,f,g,b⟩=>d pins s1 σ c x v Q f g b)
theorem opI {f:Value->Value->Sem Value} {C:Int->Int->Prop} {g:Int->Int->Int}
  (a:∀ (i j:Int) (t u:Tok) (s:Shared) (Q:Value->Shared->Prop) (E:Value->Shared->Prop),C i j->Q (.int (g i j) s.toks) { s with toks:=s.toks+1 }->wpAny (model X.prog X.w) X.A (f (.int i t) (.int j u)) Q E s) :
  OpR X f (rI C fun i j => .int (g i j)):=by
 intro pins s σ H x y v u Q I c d h
 obtain ⟨i,j,rfl,rfl,b,q⟩:=h
 obtain ⟨t,rfl⟩:=c
 obtain ⟨t',rfl⟩:=d
 exact a i j t t' s _ _ b ⟨.int (g i j),H,I.tok _,⟨_,rfl⟩,q⟩
theorem opI0 {f:Value->Value->Sem Value} {g:Int->Int->Int}
  (a:∀ (i j:Int) (t u:Tok) (s:Shared) (Q:Value->Shared->Prop) (E:Value->Shared->Prop),Q (.int (g i j) s.toks) { s with toks:=s.toks+1 }->wpAny (model X.prog X.w) X.A (f (.int i t) (.int j u)) Q E s) :
  OpR X f (rI0 fun i j => .int (g i j)):=by
 intro pins s σ H x y v u Q I b c h
 obtain ⟨i,j,rfl,rfl,q⟩:=h
 obtain ⟨t,rfl⟩:=b
 obtain ⟨t',rfl⟩:=c
 exact a i j t t' s _ _ ⟨.int (g i j),H,I.tok _,⟨_,rfl⟩,q⟩
theorem opB0 {f:Value->Value->Sem Value} {g:Int->Int->Bool}
  (a:∀ (i j:Int) (t u:Tok) (s:Shared) (Q:Value->Shared->Prop) (E:Value->Shared->Prop),Q (.bool (g i j)) s->wpAny (model X.prog X.w) X.A (f (.int i t) (.int j u)) Q E s) :
  OpR X f (rI0 fun i j => .bl (g i j)):=by
 intro pins s σ H x y v u Q I b c h
 obtain ⟨i,j,rfl,rfl,q⟩:=h
 obtain ⟨t,rfl⟩:=b
 obtain ⟨t',rfl⟩:=c
 exact a i j t t' s _ _ ⟨.bl (g i j),H,I,rfl,q⟩
def CDiv (i j:Int):Prop:=0 < j/\j < 1073741824
def CPow (i j:Int):Prop:=0<=j/\j<=1000000/\i.natAbs < 2 ^ 64
def CMul (i j:Int):Prop:=(-(2 ^ 64) < i/\i < 2 ^ 64)\/(-(2 ^ 64) < j/\j < 2 ^ 64)
theorem CMul.ok {i j:Int} (h:CMul i j):IntMulOk i j:=by
 rcases h with ⟨b,a⟩ | ⟨b,a⟩
 ·exact .of_left (intBits_le_64 b a)
 ·exact .of_right (intBits_le_64 b a)
theorem abd:OpR X (binaryOp .Add) (rI0 fun i j => .int (i+j)):=opI0 fun _ _ _ _ _ _ _ q=>add_int q
theorem ad1:OpR X (binaryOp .Sub) (rI0 fun i j => .int (i - j)):=opI0 fun _ _ _ _ _ _ _ q=>sub_int q
theorem afk:OpR X (binaryOp .Mult) (rI CMul fun i j => .int (i * j)):=opI fun _ _ _ _ _ _ _ a q=>mul_int q a.ok
theorem aie:OpR X (binaryOp .FloorDiv) (rI CDiv fun i j => .int (i / j)):=opI fun i j _ _ _ _ _ a q=>by
 have c:(0:Int) < j:=a.1
 have b:j < 1073741824:=a.2
 exact floordiv_int (by omega) (by rw [Int.fdiv_eq_ediv_of_nonneg i (by omega)];exact q) (.inl (PyProof.noPylong_small (by omega)))
theorem ad2:OpR X (binaryOp .Mod) (rI (fun _ j=>0 < j) fun i j => .int (i % j)):=opI fun i j _ _ _ _ _ a q=>by
 have b:(0:Int) < j:=a
 exact mod_int' (by omega) (by rw [Int.fmod_eq_emod_of_nonneg i (by omega)];exact q)
theorem ax6:OpR X (binaryOp .Pow) (rI CPow fun i j => .int (i ^ j.toNat)):=opI fun _ _ _ _ _ _ _ a q=>pow_int_small a.1 a.2.1 a.2.2 q
theorem unI {f:Value->Sem Value} {g:Int->Int}
  (a:∀ (i:Int) (t:Tok) (s:Shared) (Q:Value->Shared->Prop) (E:Value->Shared->Prop),Q (.int (g i) s.toks) { s with toks:=s.toks+1 }->wpAny (model X.prog X.w) X.A (f (.int i t)) Q E s) :
  UnR X f (rU fun i => .int (g i)):=by
 intro pins s σ H x v Q I b h
 obtain ⟨i,rfl,q⟩:=h
 obtain ⟨t,rfl⟩:=b
 exact a i t s _ _ ⟨.int (g i),H,I.tok _,⟨_,rfl⟩,q⟩
theorem ap9:UnR X (unaryOp .USub) (rU fun i => .int (-i)):=unI fun _ _ _ _ _ q=>neg_int q
end
def scal:V->V->Bool
 | .non,.non=>true | .non,.int _=>true | .int _,.non=>true | .non,.bl _=>true | .bl _,.non=>true | .non,.str _=>true | .str _,.non=>true
 | .int _,.int _=>true | .bl _,.bl _=>true | .str _,.str _=>true | .byt _,.byt _=>true
 | .int _,.str _=>true | .str _,.int _=>true | .bl _,.str _=>true | .str _,.bl _=>true
 | _,_=>false
def rEq:R2:=fun x y H Q=>scal x y=true/\Q (.bl (decide (x=y))) H
def rNe:R2:=fun x y H Q=>scal x y=true/\Q (.bl (!decide (x=y))) H
theorem af3 {i j:Int}:decide (V.int i=V.int j)=(i == j):=by
 rw [aH1]
 simp
theorem aqa {i j:Bool}:decide (V.bl i=V.bl j)=(i == j):=by
 rw [aH1]
 simp
theorem ane {i j:Str}:decide (V.str i=V.str j)=(i == j):=by
 rw [aH1]
 simp
theorem anf {i j:Array UInt8}:decide (V.byt i=V.byt j)=(i.toList == j.toList):=by
 rw [aH1]
 cases i
 cases j
 simp
section
variable {X:Cx} {a b c:Expr} {ta tb tc:TE} {pos:Pos}
theorem aaw {pins:List (Addr × Obj)} {σ:St} {H:Hp} {s:Shared} {Q:VK} {k a:Bool} (I:Inv X pins σ H s) (q:Q (.bl k) H) (e:k=a):EP X pins σ Q (.bool a) s:=by
 subst e
 exact ⟨.bl k,H,I,rfl,q⟩
theorem af4:OpR X (compareOp .Eq) rEq:=by
 intro pins s σ H x y v u Q I c a h
 obtain ⟨b,q⟩:=h
 cases x with
 | non =>
  cases c
  cases y with
  | non=>cases a;exact PySem.EqNone.eq_none_none (aaw I q (by simp))
  | bl j=>cases a;exact PySem.EqNone.eq_none_bool (aaw I q (by simp))
  | int j=>obtain ⟨t',rfl⟩:=a;exact PySem.EqNone.eq_none_int (aaw I q (by simp))
  | str j=>obtain ⟨t',rfl⟩:=a;exact PySem.EqNone.eq_none_str (aaw I q (by simp))
  | _=>exact absurd (show false=true from b) aA9
 | bl i =>
  cases c
  cases y with
  | non=>cases a;exact PySem.EqNone.eq_bool_none (aaw I q (by simp))
  | bl j=>cases a;exact eq_bool (aaw I q aqa)
  | str j=>obtain ⟨t',rfl⟩:=a;exact PySem.EqMixed.eq_bool_str (aaw I q (by simp))
  | _=>exact absurd (show false=true from b) aA9
 | int i =>
  obtain ⟨t,rfl⟩:=c
  cases y with
  | non=>cases a;exact PySem.EqNone.eq_int_none (aaw I q (by simp))
  | int j=>obtain ⟨t',rfl⟩:=a;exact eq_int (aaw I q af3)
  | str j=>obtain ⟨t',rfl⟩:=a;exact PySem.EqMixed.eq_int_str (aaw I q (by simp))
  | _=>exact absurd (show false=true from b) aA9
 | str i =>
  obtain ⟨t,rfl⟩:=c
  cases y with
  | non=>cases a;exact PySem.EqNone.eq_str_none (aaw I q (by simp))
  | bl j=>cases a;exact PySem.EqMixed.eq_str_bool (aaw I q (by simp))
  | int j=>obtain ⟨t',rfl⟩:=a;exact PySem.EqMixed.eq_str_int (aaw I q (by simp))
  | str j=>obtain ⟨t',rfl⟩:=a;exact eq_str (aaw I q ane)
  | _=>exact absurd (show false=true from b) aA9
 | byt i =>
  obtain ⟨t,rfl⟩:=c
  cases y with
  | byt j=>obtain ⟨t',rfl⟩:=a;exact PySem.W.eq_bytes (aaw I q anf)
  | _=>exact absurd (show false=true from b) aA9
 | _=>cases y <;> exact absurd (show false=true from b) aA9
theorem aos:OpR X (compareOp .NotEq) rNe:=by
 intro pins s σ H x y v u Q I c a h
 obtain ⟨b,q⟩:=h
 cases x with
 | non =>
  cases c
  cases y with
  | non=>cases a;exact PySem.EqNone.ne_none_none (aaw I q (by simp))
  | bl j=>cases a;exact PySem.EqNone.ne_none_bool (aaw I q (by simp))
  | int j=>obtain ⟨t',rfl⟩:=a;exact PySem.EqNone.ne_none_int (aaw I q (by simp))
  | str j=>obtain ⟨t',rfl⟩:=a;exact PySem.EqNone.ne_none_str (aaw I q (by simp))
  | _=>exact absurd (show false=true from b) aA9
 | bl i =>
  cases c
  cases y with
  | non=>cases a;exact PySem.EqNone.ne_bool_none (aaw I q (by simp))
  | bl j=>cases a;exact ne_bool (aaw I q (congrArg not aqa))
  | str j=>obtain ⟨t',rfl⟩:=a;exact PySem.EqMixed.ne_bool_str (aaw I q (by simp))
  | _=>exact absurd (show false=true from b) aA9
 | int i =>
  obtain ⟨t,rfl⟩:=c
  cases y with
  | non=>cases a;exact PySem.EqNone.ne_int_none (aaw I q (by simp))
  | int j=>obtain ⟨t',rfl⟩:=a;exact ne_int (aaw I q (congrArg not af3))
  | str j=>obtain ⟨t',rfl⟩:=a;exact PySem.EqMixed.ne_int_str (aaw I q (by simp))
  | _=>exact absurd (show false=true from b) aA9
 | str i =>
  obtain ⟨t,rfl⟩:=c
  cases y with
  | non=>cases a;exact PySem.EqNone.ne_str_none (aaw I q (by simp))
  | bl j=>cases a;exact PySem.EqMixed.ne_str_bool (aaw I q (by simp))
  | int j=>obtain ⟨t',rfl⟩:=a;exact PySem.EqMixed.ne_str_int (aaw I q (by simp))
  | str j=>obtain ⟨t',rfl⟩:=a;exact ne_str (aaw I q (congrArg not ane))
  | _=>exact absurd (show false=true from b) aA9
 | byt i =>
  obtain ⟨t,rfl⟩:=c
  cases y with
  | byt j=>obtain ⟨t',rfl⟩:=a;exact PySem.W.ne_bytes (aaw I q (congrArg not anf))
  | _=>exact absurd (show false=true from b) aA9
 | _=>cases y <;> exact absurd (show false=true from b) aA9
theorem akd:OpR X (compareOp .Lt) (rI0 fun i j => .bl (decide (i < j))):=opB0 fun _ _ _ _ _ _ _ q=>lt_int q
theorem auy:OpR X (compareOp .LtE) (rI0 fun i j => .bl (decide (i<=j))):=opB0 fun _ _ _ _ _ _ _ q=>le_int q
theorem aot:OpR X (compareOp .Gt) (rI0 fun i j => .bl (decide (j < i))):=opB0 fun _ _ _ _ _ _ _ q=>gt_int q
theorem az5:OpR X (compareOp .GtE) (rI0 fun i j => .bl (decide (j<=i))):=opB0 fun _ _ _ _ _ _ _ q=>ge_int q
theorem ax7:OpR X (compareOp .Is) (fun x y H Q=>y=.non/\Q (.bl (decide (x=.non))) H):=by
 intro pins s σ H x y v u Q I a b h
 obtain ⟨rfl,q⟩:=h
 cases b
 refine is_none_gen (aaw I q ?_)
 cases x <;> first
  | (cases a;rfl)
  | (obtain ⟨t,rfl⟩:=a;rfl)
theorem avg:OpR X (compareOp .IsNot) (fun x y H Q=>y=.non/\Q (.bl (!decide (x=.non))) H):=by
 intro pins s σ H x y v u Q I a b h
 obtain ⟨rfl,q⟩:=h
 cases b
 refine isnot_none_gen (aaw I q ?_)
 cases x <;> first
  | (cases a;rfl)
  | (obtain ⟨t,rfl⟩:=a;rfl)
theorem aa3 (b:Expr) {op:CmpOp} (h:op ≠ .In:=by decide) (a:op ≠ .NotIn:=by decide):behindInMarks op b=false:=by
 have c:(op == CmpOp.In)=false:=by cases op <;> first | rfl | exact absurd rfl h
 have d:(op == CmpOp.NotIn)=false:=by cases op <;> first | rfl | exact absurd rfl a
 cases b <;> simp [behindInMarks,c,d]
theorem af5 {op:CmpOp} {r:R2} (d:OpR X (compareOp op) r) (ha:PE X a ta) (hb:PE X b tb) (hm:behindInMarks op b=false):PE X (.Compare a [op] [b] pos) (tOp r ta tb):=by
 intro pins s σ H Q I h
 exact wpAny_Compare1 (binT ha hb I h fun v u s2 x y H2 c f g q=>d pins s2 σ H2 x y v u Q c f g q) hm
def aou (t:TE):TT:=fun σ H Q=>t σ H fun x H'=>∃ k,x=.bl k/\Q k H'
theorem aaz {op:CmpOp} {r:R2} (j:OpR X (compareOp op) r) (ha:PE X a ta) (hb:PE X b tb) (hm:behindInMarks op b=false):PT X (.Compare a [op] [b] pos) (aou (tOp r ta tb)):=by
 intro pins s σ H Q I h
 refine wpAny_isTrue_Compare1 (thn (ha pins s σ H _ I h) fun v s1 ⟨x,d,m,o,i⟩=>thn (hb pins s1 σ d _ m i) fun u s2 ⟨y,H2,g,n,p⟩ =>
  thn (j pins s2 σ H2 x y v u _ g o n p) fun c w ⟨z,H3,q,l,k,e,f⟩=>?_) hm
 subst e
 cases l
 exact aJ2 ⟨H3,q,f⟩
def akw (r r':R2) (ta tb tc:TE):TE:=fun σ H Q=>ta σ H fun x H1=>tb σ H1 fun y H2=>r x y H2 fun z H3=>∃ k,z=.bl k /\
 (if k=true then tc σ H3 fun w' H4=>r' y w' H4 Q else Q (.bl false) H3)
theorem asl {op f:CmpOp} {r j:R2} (D:OpR X (compareOp op) r) (g:OpR X (compareOp f) j) (ha:PE X a ta) (hb:PE X b tb) (G:PE X c tc)
  (hm:lastMarks [op,f] [b,c]=false:=by with_unfolding_all rfl):PE X (.Compare a [op,f] [b,c] pos) (akw r j ta tb tc):=by
 intro pins s σ H Q I h
 refine Compare_chain (thn (ha pins s σ H _ I h) fun v s1 ⟨x,p,K,L,C⟩=>chain_link (thn (hb pins s1 σ p _ K C) fun u s2 ⟨y,H2,A,l,M⟩ =>
  thn (D pins s2 σ H2 x y v u _ A L l M) fun d n ⟨z,H3,m,J,k,e,i⟩=>?_)) hm
 subst e
 cases J
 refine aJ2 ?_
 cases k with
 | false=>exact ite_ff ⟨.bl false,H3,m,rfl,i⟩
 | true=>exact ite_tt (chain_last (thn (G pins n σ H3 _ m i) fun E F ⟨o,w,q,N,B⟩=>g pins F σ w y o u E Q q l N B))
def TruV (K:Frag) (x:V) (H:Hp) (k:Bool):Prop :=
 match x with
 | .non=>k=false
 | .bl b=>k=b
 | .int i=>k=(i != 0)
 | .str y=>y.length<=sizeLine/\k=((y.length:Int) != 0)
 | .byt y=>y.size<=sizeLine/\k=((y.size:Int) != 0)
 | .ref p=>(∃ xs,SqL K H p xs/\k = !xs.isEmpty)\/(∃ xs,SqT K H p xs/\k = !xs.isEmpty)\/∃ kvs,H p=some (.dK kvs)/\k = !kvs.isEmpty
 | _=>False
theorem aov {κ:Type} {kvs:List (κ × V)} {vs:List (κ × Value)} (r:KV kvs vs):(!vs.isEmpty) = !kvs.isEmpty:=by
 cases r <;> rfl
theorem ahb {xs:List V} {its:List Value} (r:Vals xs its):(!its.toArray.isEmpty) = !xs.isEmpty:=by
 cases r <;> simp
theorem afl:(sizeLine:Nat) < 2 ^ 63:=by rw [sizeLine_eq];decide
theorem ax8:TruR X (fun x H Q=>∃ k,TruV X.K x H k/\Q k H):=by
 intro pins s σ H x v Q I d h
 obtain ⟨k,e,q⟩:=h
 have n:=afl
 have l:sizeLine=16777216:=sizeLine_eq
 cases x with
 | non =>
  cases d
  have a:k=false:=e
  subst a
  exact truthy_none ⟨H,I,q⟩
 | bl b =>
  cases d
  have a:k=b:=e
  subst a
  exact aJ2 ⟨H,I,q⟩
 | int i =>
  obtain ⟨t,rfl⟩:=d
  have a:k=(i != 0):=e
  subst a
  exact PySem.P.truthy_int ⟨H,I,q⟩
 | str y =>
  obtain ⟨t,rfl⟩:=d
  obtain ⟨g,a⟩:y.length<=sizeLine/\k=((y.length:Int) != 0):=e
  subst a
  exact PySem.P.truthy_str (by omega) ⟨H,I.tok _,q⟩
 | byt y =>
  obtain ⟨t,rfl⟩:=d
  obtain ⟨g,a⟩:y.size<=sizeLine/\k=((y.size:Int) != 0):=e
  subst a
  exact PySem.W.truthy_bytes (by omega) ⟨H,I.tok _,q⟩
 | ref p =>
  cases d
  have a:(∃ xs,SqL X.K H p xs/\k = !xs.isEmpty)\/(∃ xs,SqT X.K H p xs/\k = !xs.isEmpty)\/∃ kvs,H p=some (.dK kvs)/\k = !kvs.isEmpty:=e
  rcases a with ⟨xs,f,a⟩ | ⟨xs,f,a⟩ | ⟨kvs,f,a⟩
  ·subst a
   obtain ⟨its,r,pl,hz⟩:=I.list f
   have c:=r.length
   exact wpAny_truthy_list pl.isList (by simp only [aB1];omega) ⟨H,I.tok _,by rw [ahb r];exact q⟩
  ·subst a
   obtain ⟨its,r,pl,hz⟩:=I.tuple f
   have c:=r.length
   exact truthy_tuple pl (by simp only [aB1];omega) ⟨H,I.tok _,by rw [ahb r];exact q⟩
  ·subst a
   obtain ⟨hz,j,vs,r,m⟩:kvs.length<=sizeLine/\(p == sysModules)=false/\∃ vs,KV kvs vs/\s.heap.DictOf (aa6 X.prog X.w) p vs:=I.hok p _ f
   have c:kvs.length=vs.length:=Paired.length r
   exact wpAny_truthy_dict j m (by omega) ⟨H,I.tok _,by rw [aov r];exact q⟩
 | _=>exact (show False from e).elim
theorem asm (ha:PE X a ta) (f:∀ whole,isTrue a X.env whole=(do let v ← whole;standAt a.pos;holding [v] (truthy v))) :
  PT X a (fun σ H Q=>ta σ H fun x H'=>∃ k,TruV X.K x H' k/\Q k H'):=by
 intro pins s σ H Q I h
 exact isTrue_plain (thn (ha pins s σ H _ I h) fun v s1 ⟨x,b,d,g,c⟩=>ax8 pins s1 σ b x v Q d g c) (f _)
theorem ab9 {x:V} {us:List Value} (r:Vals [x] us):∃ u,us=[u]/\RelV x u:=by
 cases r with
 | cons r1 r2=>cases r2;exact ⟨_,rfl,r1⟩
theorem aow {x y:V} {us:List Value} (r:Vals [x,y] us):∃ u a,us=[u,a]/\RelV x u/\RelV y a:=by
 cases r with
 | cons r1 r2 =>
  cases r2 with
  | cons r3 r4=>cases r4;exact ⟨_,_,rfl,r1,r3⟩
theorem aqb (a:X.calm=true):aa2 X (.builtin "max") (fun xs H Q=>∃ i j,xs=[.int i,.int j]/\Q (.int (if j > i then j else i)) H):=by
 intro pins s σ H xs us Q I r h
 obtain ⟨i,j,rfl,q⟩:=h
 obtain ⟨u,b,rfl,⟨t,rfl⟩,⟨t',rfl⟩⟩:=aow r
 refine max_two_ints (I.ok.hd a) fun h' c k=>⟨_,H,I.kept k,?_,q⟩
 by_cases hj:j > i
 ·rw [aE8 hj,aE8 hj];exact ⟨_,rfl⟩
 ·rw [aE9 hj,aE9 hj];exact ⟨_,rfl⟩
theorem aqc (a:X.calm=true):aa2 X (.builtin "min") (fun xs H Q=>∃ i j,xs=[.int i,.int j]/\Q (.int (if j < i then j else i)) H):=by
 intro pins s σ H xs us Q I r h
 obtain ⟨i,j,rfl,q⟩:=h
 obtain ⟨u,b,rfl,⟨t,rfl⟩,⟨t',rfl⟩⟩:=aow r
 refine min_two_ints (I.ok.hd a) fun h' c k=>⟨_,H,I.kept k,?_,q⟩
 by_cases hj:j < i
 ·rw [aE8 hj,aE8 hj];exact ⟨_,rfl⟩
 ·rw [aE9 hj,aE9 hj];exact ⟨_,rfl⟩
theorem aqd:aa2 X (.type "int") (fun xs H Q=>(∃ i,xs=[.int i]/\Q (.int i) H)\/∃ k,xs=[.bl k]/\Q (.int (if k then 1 else 0)) H):=by
 intro pins s σ H xs us Q I r h
 rcases h with ⟨i,rfl,q⟩ | ⟨k,rfl,q⟩
 ·obtain ⟨u,rfl,t,rfl⟩:=ab9 r
  exact call_int_int ⟨.int i,H,I,⟨_,rfl⟩,q⟩
 ·obtain ⟨u,rfl,a⟩:=ab9 r
  cases a
  exact call_int_bool ⟨.int (if k then 1 else 0),H,I.tok _,⟨_,rfl⟩,q⟩
end
structure ObjM (h:Heap) (x dx C:Addr) (mA:Str->Option Value):Prop where
 obj:h.get? x=some (PySem.W.instObj C dx)
 ns:h.Ns1 dx mA
 ne:dx ≠ x
theorem aqe {h:Heap} {dx:Addr} {mA:Str->Option Value} (n:h.Ns1 dx mA):∃ od,h.get? dx=some od/\∀ name,PySem.W.lookIn name od=some (mA name):=by
 obtain ⟨o,es,ep,d,hd,f,_,hm⟩:=n
 refine ⟨o,d,fun name=>?_⟩
 have e:=hm name
 unfold nsFind findBy at e
 rw [← Array.find?_toList] at e
 unfold PySem.W.lookIn
 rw [hd]
 dsimp only
 split
 ·rename_i y q
  rw [q] at e
  exact congrArg some e
 ·rename_i q
  rw [q] at e
  have a:es.toList.any (·.refKey)=false:=by
   rw [List.any_eq_false]
   intro y g
   obtain ⟨z,t,b⟩:=f y (Array.mem_toList_iff.mp g)
   simp [DictEntry.refKey,b]
  have c:¬ es.toList.any (·.refKey)=true:=by rw [a];exact aA9
  rw [aE9 c]
  exact congrArg some e
theorem ObjM.look {h:Heap} {x dx C:Addr} {mA:Str->Option Value} (I:ObjM h x dx C mA):∃ od,PySem.W.InstAt h x (PySem.W.instObj C dx) C (some od)/\∀ name,PySem.W.lookIn name od=some (mA name) :=
 let ⟨od,a,b⟩:=aqe I.ns
 ⟨od,⟨I.obj,rfl,rfl,a⟩,b⟩
section
variable {prog:Program} {w:World} {A:Around} {E:Value->Shared->Prop} {s:Shared} {K:Frag} {x dx C f:Addr} {mA:Str->Option Value} {name:Str} {v:Value}
theorem avh {a:Bool} {Q:Value->Shared->Prop} (X:K.In s.heap) (I:ObjM s.heap x dx C mA) (d:PySem.W.plainGet K C name=true) (hh:PySem.W.hasDictIn K C=true)
  (ha:PySem.W.findIn K (.ref C) name=some none) (c:mA name=some v) (b:PySem.W.handedIn v=true) (h:Q v { s with toks:=s.toks+1 }) :
  wpAny (model prog w) A (getAttr (.ref x) name a) Q E s:=by
 obtain ⟨od,J,f⟩:=I.look
 exact PySem.W.get_value X J (PySem.W.plainGet_of d).1 (PySem.W.findObj_own hh ha rfl (by rw [f,c])) b h
theorem asn {pl:Sem Bool} {Q:Value × List Value->Shared->Prop} (X:K.In s.heap) (I:ObjM s.heap x dx C mA) (a:PySem.W.plainGet K C name=true)
  (hf:PySem.W.findIn K (.ref C) name=some (some (.ref f))) (b:PySem.W.isFn K (.ref f)=true) (c:mA name=none) (h:Q (.ref f,[.ref x]) s) :
  wpAny (model prog w) A (getMethod (.ref x) name pl) Q E s:=by
 obtain ⟨od,J,d⟩:=I.look
 exact PySem.W.method_fn X J (PySem.W.plainGet_of a).1 (PySem.W.plainGet_of a).2 hf (aF6.mp b) (by show (PySem.W.lookIn name od).map (·.isSome)=some false;rw [d,c];rfl) h
theorem avi {ns:List Str} {Q:Unit->Shared->Prop} (X:K.In s.heap) (I:ObjM s.heap x dx C mA)
  (l:PySem.W.findIn K (.ref C) "__setattr__" = some (some (.builtin "object.__setattr__"))) (n:PySem.W.plainOver K C=true) (u:PySem.W.takerIn K C name=some none) (hh:PySem.W.hasDictIn K C=true)
  (z:PySem.Within mA ns) (hsz:ns.length<=sizeLine)
  (h:∀ h',ObjM h' x dx C (fun y=>if y=name then some v else mA y)->Heap.SameBut dx s.heap h'->Q () { s with heap:=h',toks:=s.toks+2 }) :
  wpAny (model prog w) A (setAttr (.ref x) name v) Q E s:=by
 obtain ⟨od,J,B⟩:=I.look
 refine PySem.W.set_plain X J l (PySem.W.osa_open (s:={ s with toks:=s.toks+1 }) (r:=none) X J n u fun b=>?_)
 obtain ⟨D,o,f⟩:=PySem.W.any_some hh
 have p:s.heap.get? x=some ⟨.ref C,some dx,.plain,#[]⟩:=I.obj
 refine aI0 (aI1 (aI0 (aI0 (wpAny_loadPart p (aI0 (PySem.W.Looks.here (s:={ s with toks:=s.toks+1 }) (PySem.W.looks_clsIn X o) ?_))))))
 rw [f]
 refine aI1 (a:=some dx) (aI0 (aI1 (aI0 ?_)))
 refine wpAny_nsSet1 (s:={ s with toks:=s.toks+1 }) I.ns fun h' d c=>?_
 obtain ⟨oD,q,m,g,j,i⟩:=d.count (PySem.Within.cons name v z)
 refine aI0 (wpAny_lookBehind g (by rw [j];exact pastItsLine_dict (aC9 i (by rw [aE1];omega))) ?_)
 exact aI1 (h _ ⟨(c.2 _ (Ne.symm I.ne)).trans I.obj,d,I.ne⟩ c)
theorem aso {R:Result->Shared->Prop} {vs:List Value} {a:List (Str × Value)} (X:K.In s.heap) (hm:PySem.W.makesIn K C=true)
  (hi:PySem.W.findIn K (.ref C) "__init__" = some (some (.ref f))) (hf:PySem.W.typeIn K (.ref f)=some (.type "function"))
  (h:codeAny (model prog w) (A.under (.builtin "type.__call__" ⟨.ref C :: vs,a⟩)) (.call (.ref f) ⟨.ref (s.heap.objs.size+1) :: vs,a⟩) (PySem.W.InitBack (s.heap.objs.size+1) R)
   { s with heap:=(s.heap.push PySem.W.emptyDict).push (PySem.W.instObj C s.heap.objs.size) }) :
  codeAny (model prog w) A (.call (.ref C) ⟨vs,a⟩) R s:=by
 obtain ⟨hh,g,d,t,os⟩:=s
 exact PySem.W.make_core (PySem.W.makes_of X hm) (PySem.W.looks_findIn X hi) (fun self=>PySem.W.bind_fn X self hf) (.inl rfl) h
end
def putF (f:Str) (v:V):List (Str × V)->List (Str × V)
 | []=>[(f,v)]
 | (g,x) :: r=>if g=f then (g,v) :: r else (g,x) :: putF f v r
theorem agq (f g:Str) (v:V):∀ fs:List (Str × V),(putF f v fs).lookup g=if g=f then some v else fs.lookup g
 | []=>by
  show List.lookup g [(f,v)]=_
  by_cases h:g=f
  ·have hb:(g == f)=true:=aF6.mpr h
   simp only [List.lookup,hb,aE8 h]
  ·have hb:(g == f)=false:=beq_eq_false_iff_ne.mpr h
   simp only [List.lookup,hb,aE9 h]
 | (k,x) :: r=>by
  have a:=agq f g v r
  rw [show putF f v ((k,x) :: r)=(if k=f then (k,v) :: r else (k,x) :: putF f v r) from rfl]
  by_cases hk:k=f
  ·rw [aE8 hk]
   by_cases h:g=k
   ·have hb:(g == k)=true:=aF6.mpr h
    simp only [List.lookup,hb,aE8 (h.trans hk)]
   ·have hb:(g == k)=false:=beq_eq_false_iff_ne.mpr h
    simp only [List.lookup,hb,aE9 (fun e:g=f=>h (e.trans hk.symm))]
  ·rw [aE9 hk]
   by_cases h:g=k
   ·have hb:(g == k)=true:=aF6.mpr h
    simp only [List.lookup,hb,aE9 (fun e:g=f=>hk (h.symm.trans e))]
   ·have hb:(g == k)=false:=beq_eq_false_iff_ne.mpr h
    simp only [List.lookup,hb]
    exact a
theorem afm (f:Str) (v:V):∀ fs:List (Str × V),f∈(putF f v fs).map (·.1)/\∀ g,g∈fs.map (·.1)->g∈(putF f v fs).map (·.1)
 | []=>⟨by simp [putF],fun g h=>by simp at h⟩
 | (k,x) :: r=>by
  obtain ⟨a,b⟩:=afm f v r
  rw [show putF f v ((k,x) :: r)=(if k=f then (k,v) :: r else (k,x) :: putF f v r) from rfl]
  by_cases hk:k=f
  ·rw [aE8 hk]
   subst hk
   exact ⟨by simp,fun g h=>by simpa using h⟩
  ·rw [aE9 hk]
   refine ⟨?_,fun g h=>?_⟩
   ·rw [aD0]
    exact aB4 _ a
   ·rw [aD0] at h ⊢
    rcases aA8.mp h with e | e
    ·exact aA8.mpr (.inl e)
    ·exact aB4 _ (b g e)
theorem agr (f:Str) (v:V):∀ fs:List (Str × V),(putF f v fs).length<=fs.length+1
 | []=>by simp [putF]
 | (k,x) :: r=>by
  have a:=agr f v r
  rw [show putF f v ((k,x) :: r)=(if k=f then (k,v) :: r else (k,x) :: putF f v r) from rfl]
  by_cases hk:k=f
  ·rw [aE8 hk,aE1,aE1];omega
  ·rw [aE9 hk,aE1,aE1];omega
theorem RelO.some_of {v:V} {o:Option Value} (r:RelO (some v) o):∃ u,o=some u/\RelV v u:=by
 cases o with
 | none=>exact (show False from r).elim
 | some u=>exact ⟨u,rfl,r⟩
theorem RelO.none_of {o:Option Value} (r:RelO none o):o=none:=by
 cases o with
 | none=>rfl
 | some u=>exact (show False from r).elim
theorem aqf {v:V} {u:Value} (r:RelV v u):PySem.W.handedIn u=true:=by
 cases v with
 | non=>cases (show u=Value.none from r);rfl
 | bl b=>cases (show u=Value.bool b from r);rfl
 | int i=>obtain ⟨t,e⟩:=(show ∃ t,u=Value.int i t from r);cases e;rfl
 | str x=>obtain ⟨t,e⟩:=(show ∃ t,u=Value.str x t from r);cases e;rfl
 | byt b=>obtain ⟨t,e⟩:=(show ∃ t,u=Value.bytes b t from r);cases e;rfl
 | flt b=>obtain ⟨t,e⟩:=(show ∃ t,u=Value.float b t from r);cases e;rfl
 | ref a=>cases (show u=Value.ref a from r);rfl
 | ty n=>cases (show u=Value.type n from r);rfl
section
variable {P:Program} {w:World} {H H':Hp} {h h':Heap} {a C dx:Addr} {fs fs':List (Str × V)}
theorem af6 (hok:HOk P w H h) (e:H a=some (.ins C dx fs)):∃ mA,ObjM h a dx C mA/\(∀ f,RelO (fs.lookup f) (mA f))/\PySem.Within mA (fs.map (·.1))/\fs.length<=1000/\H dx=some (.own a):=by
 obtain ⟨d,z,ne,b,mA,n,r,q⟩:=(show ObjOk P w H h a (.ins C dx fs) from hok a _ e)
 exact ⟨mA,⟨b,n,ne⟩,r,q,z,d⟩
end
structure Cls (K:Frag) (C:Addr):Prop where
 pg:PySem.W.plainGet K C Str.empty=true
 hd:PySem.W.hasDictIn K C=true
 po:PySem.W.plainOver K C=true
 sa:PySem.W.findIn K (.ref C) "__setattr__" = some (some (.builtin "object.__setattr__"))
theorem Cls.get {K:Frag} {C:Addr} (c:Cls K C) (f:Str):PySem.W.plainGet K C f=true:=c.pg
def NoAttr (K:Frag) (C:Addr) (f:Str):Prop:=PySem.W.findIn K (.ref C) f=some none
theorem NoAttr.taker {K:Frag} {C:Addr} {f:Str} (n:NoAttr K C f):PySem.W.takerIn K C f=some none:=by
 unfold PySem.W.takerIn
 rw [show PySem.W.findIn K (.ref C) f=some none from n]
 rfl
structure Meth (K:Frag) (C:Addr) (m:Str) (f:Addr):Prop where
 at_:PySem.W.findIn K (.ref C) m=some (some (.ref f))
 fn:PySem.W.isFn K (.ref f)=true
 kp:keepIn K (.ref f)=true
section
variable {X:Cx} {pins:List (Addr × Obj)} {σ:St} {H:Hp} {s:Shared} {a C dx:Addr} {fs:List (Str × V)} {f:Str} {v:V} {A:Around} {E:Value->Shared->Prop}
theorem aox {b:Bool} {Q:Value->Shared->Prop} (I:Inv X pins σ H s) (e:H a=some (.ins C dx fs)) (c:Cls X.K C) (n:NoAttr X.K C f) (l:fs.lookup f=some v)
  (h:∀ u g,Inv X pins σ H g->RelV v u->Q u g):wpAny (model X.prog X.w) A (getAttr (.ref a) f b) Q E s:=by
 obtain ⟨mA,O,r,_,_,_⟩:=af6 I.hok e
 obtain ⟨u,i,d⟩:=RelO.some_of (v:=v) (o:=mA f) (by rw [← l];exact r f)
 exact avh I.kIn O (c.get f) c.hd n i (aqf d) (h u _ (I.tok _) d)
theorem aoy {m:Str} {g:Addr} {pl:Sem Bool} {Q:Value × List Value->Shared->Prop} (I:Inv X pins σ H s) (e:H a=some (.ins C dx fs)) (c:Cls X.K C) (k:Meth X.K C m g) (l:fs.lookup m=none)
  (h:Q (.ref g,[.ref a]) s):wpAny (model X.prog X.w) A (getMethod (.ref a) m pl) Q E s:=by
 obtain ⟨mA,O,r,_,_,_⟩:=af6 I.hok e
 have hn:mA m=none:=RelO.none_of (by rw [← l];exact r m)
 exact asn I.kIn O (c.get m) k.at_ k.fn hn h
theorem aoz {y:V} {u:Value} {Q:Unit->Shared->Prop} (I:Inv X pins σ H s) (e:H a=some (.ins C dx fs)) (c:Cls X.K C) (n:NoAttr X.K C f) (B:fs.length < 1000) (v:RelV y u)
  (h:∀ l,Inv X pins σ (upd H a (.ins C dx (putF f y fs))) l->Q () l):wpAny (model X.prog X.w) A (setAttr (.ref a) f u) Q E s:=by
 obtain ⟨mA,O,r,i,_,j⟩:=af6 I.hok e
 have hz:(fs.map (·.1)).length<=sizeLine:=by rw [aA3,sizeLine_eq];omega
 refine avi I.kIn O c.sa c.po n.taker c.hd i hz fun h' d sb=>h _ ?_
 have hd:∃ o,h'.get? dx=some o:=let ⟨o,_,_,p,_⟩:=d.ns;⟨o,p⟩
 refine I.write (x:=a) (e:=dx) (by rw [e];exact True.intro) (.inr j) (fun b q hb z=>(sb.2 b hb).trans z) hd ?_
 refine ⟨by rw [aad O.ne];exact j,?_,O.ne,d.obj,_,d.ns,fun g=>?_,fun g m=>?_⟩
 ·have:=agr f y fs;omega
 ·show RelO ((putF f y fs).lookup g) (if g=f then some u else mA g)
  rw [agq]
  by_cases q:g=f
  ·rw [aE8 q,aE8 q];exact v
  ·rw [aE9 q,aE9 q];exact r g
 ·by_cases q:g=f
  ·rw [q];exact (afm f y fs).1
  ·refine (afm f y fs).2 g (i g fun z=>m ?_)
   show (if g=f then some u else mA g)=none
   rw [aE9 q];exact z
theorem Inv.made (I:Inv X pins σ H s):Inv X pins σ (upd (upd H s.heap.objs.size (.own (s.heap.objs.size+1))) (s.heap.objs.size+1) (.ins C s.heap.objs.size []))
  { s with heap:=(s.heap.push PySem.W.emptyDict).push (PySem.W.instObj C s.heap.objs.size) }:=by
 have c:(s.heap.push PySem.W.emptyDict).get? s.heap.objs.size=some PySem.W.emptyDict:=aI4 s.heap rfl
 have d:((s.heap.push PySem.W.emptyDict).push (PySem.W.instObj C s.heap.objs.size)).get? (s.heap.objs.size+1)=some (PySem.W.instObj C s.heap.objs.size):=by
  have:=aI4 (s.heap.push PySem.W.emptyDict) (o:=PySem.W.instObj C s.heap.objs.size) rfl
  rwa [aJ0] at this
 have h:(s.heap.push PySem.W.emptyDict).Ns s.heap.objs.size (fun _=>none):=⟨PySem.W.emptyDict,#[],_,c,rfl,(fun e i=>absurd i (by simp)),fun _=>rfl⟩
 have f:=I.laid (a:=s.heap.objs.size) (o:=.own (s.heap.objs.size+1)) (h':=s.heap.push PySem.W.emptyDict) (t':=s.toks) (fun b u q=>aI2 _ q) (aA6 _) ⟨_,c⟩
 refine f.laid (a:=s.heap.objs.size+1) (o:=.ins C s.heap.objs.size []) (t':=s.toks) (fun b u q=>aI2 _ q) (Nat.le_of_eq (aJ0 _ _)) ?_
 have ne:s.heap.objs.size ≠ s.heap.objs.size+1:=aB5 (aH8 _)
 refine ⟨by rw [aad ne,aaf],aF3 _,ne,d,fun _=>none,(Heap.Ns1.of_empty h).at fun o q=>aI2 _ q,fun _=>True.intro,fun y g=>absurd rfl g⟩
theorem avj {prog:Program} {w:World} {env:Env} {e:Expr} {f:Str} {b:Pos} {s:Shared} {Q:Value->Shared->Prop} (hb:attributeBase e f env (eval e env)=eval e env)
  (h:wpAny (model prog w) A (eval e env) (fun o a=>wpAny (model prog w) A (getAttr o f true) Q E a) E s):wpAny (model prog w) A (eval (.Attribute e f b) env) Q E s :=
 Attribute_any_ h (by rw [arm_eval_Attribute,hb])
end
def tFld (K:Frag) (ta:TE) (f:Str):TE:=fun σ H Q=>ta σ H fun x H1=>∃ a C dx fs v,x=.ref a/\H1 a=some (.ins C dx fs)/\Cls K C/\NoAttr K C f/\fs.lookup f=some v/\Q v H1
def sFld (K:Frag) (ta tv:TE) (f:Str):TS:=fun D σ H=>tv σ H fun y H1=>ta σ H1 fun x H2=>∃ a C dx fs,x=.ref a/\H2 a=some (.ins C dx fs)/\Cls K C/\NoAttr K C f/\fs.length < 1000 /\
 D.nx σ (upd H2 a (.ins C dx (putF f y fs)))
section
variable {X:Cx} {o e value:Expr} {f:Str} {pos pos' tpos:Pos} {ta tv:TE}
theorem ahc (m:PE X e ta) (hb:attributeBase e f X.env (eval e X.env)=eval e X.env):PE X (.Attribute e f pos) (tFld X.K ta f):=by
 intro pins s σ H Q I h
 refine avj hb (thn (m pins s σ H _ I h) fun u s1 ⟨x,b,j,o,a,C,dx,fs,v,ex,d,c,n,l,q⟩=>?_)
 subst ex
 obtain rfl:u=Value.ref a:=o
 exact aox j d c n l fun p s2 g i=>⟨v,b,g,i,q⟩
theorem aqg (ha:PE X o ta) (g:PE X value tv) (b:swapsWith value (some (.Attribute o f pos')) pos.line X.env=pure false):PS X (.Assign [.Attribute o f pos'] value pos) (sFld X.K ta tv f):=by
 intro pins s σ H D I h
 refine plainObj_wpAny_Assign_Attribute (thn (g pins s σ H _ I h) fun u s1 ⟨y,d,m,r,q⟩=>thn (ha pins s1 σ d _ m q) fun j s2 ⟨x,H2,i,p,a,C,dx,fs,ex,w,c,n,l,v⟩=>?_) b
 subst ex
 obtain rfl:j=Value.ref a:=p
 exact aoz i w c n l r fun A z=>⟨σ,_,z,v⟩
end
section
variable {X:Cx} {pins:List (Addr × Obj)} {σ:St} {H:Hp} {s:Shared} {A:Around} {E:Value->Shared->Prop} {Q:Value->Shared->Prop} {c:Value} {b:Bool}
inductive TyOf (K:Frag) (H:Hp):V->Value->Prop where
 | non:TyOf K H .non (.type "NoneType")
 | bl (x:Bool):TyOf K H (.bl x) (.type "bool")
 | int (i:Int):TyOf K H (.int i) (.type "int")
 | str (x:Str):TyOf K H (.str x) (.type "str")
 | flt (x:UInt64):TyOf K H (.flt x) (.type "float")
 | lst {a:Addr} {xs:List V} (e:H a=some (.lst xs)):TyOf K H (.ref a) (.type "list")
 | frz {a:Addr} {o:Obj} {xs:List V} (e:H a=some (.frz o (.lst xs))):TyOf K H (.ref a) (.type "list")
 | tup {a:Addr} {xs:List V} (e:H a=some (.tup xs)):TyOf K H (.ref a) (.type "tuple")
 | dK {a:Addr} {kvs:List (Key × V)} (e:H a=some (.dK kvs)):TyOf K H (.ref a) (.type "dict")
 | dT {a:Addr} {kvs:List (List Key × V)} (e:H a=some (.dT kvs)):TyOf K H (.ref a) (.type "dict")
 | ins {a C dx:Addr} {fs:List (Str × V)} (e:H a=some (.ins C dx fs)) (cl:Cls K C) (ha:PySem.W.findIn K (.ref C) "__class__" = some (some (.builtin "object.__class__")))
   (hn:PySem.W.specialIn K (.builtin "object.__class__") "__get__" = some (some (.builtin "getset_descriptor.__get__"))) (htk:PySem.W.takesIn K (.builtin "object.__class__")=some true)
   (hm:mroIn K C (.type "object")=some true):TyOf K H (.ref a) (.ref C)
theorem aqh {x:V} {u t:Value} (I:Inv X pins σ H s) (d:RelV x u) (ty:TyOf X.K H x t) (e:kitOne X.K t c=some b) (h:∀ j,Q (.bool b) { s with toks:=j }) :
  wpAny (model X.prog X.w) A (call (.builtin "isinstance") [u,c]) Q E s:=by
 cases ty with
 | non=>cases (show u=Value.none from d);exact PySem.W.kia_one PySem.W.kitx_none I.kIn True.intro e (fun z=>nomatch z) h
 | bl y=>cases (show u=Value.bool y from d);exact PySem.W.kia_one PySem.W.kitx_bool I.kIn True.intro e (fun z=>nomatch z) h
 | int i=>obtain ⟨t,q⟩:=(show ∃ t,u=Value.int i t from d);cases q;exact PySem.W.kia_one PySem.W.kitx_int I.kIn True.intro e (fun z=>nomatch z) h
 | str y=>obtain ⟨t,q⟩:=(show ∃ t,u=Value.str y t from d);cases q;exact PySem.W.kia_one PySem.W.kitx_str I.kIn True.intro e (fun z=>nomatch z) h
 | flt y=>obtain ⟨t,q⟩:=(show ∃ t,u=Value.float y t from d);cases q;exact PySem.W.kia_one PySem.W.kitx_float I.kIn True.intro e (fun z=>nomatch z) h
 | @lst a xs ea =>
  cases (show u=Value.ref a from d)
  obtain ⟨_,_,n,_,f⟩:=(show ObjOk X.prog X.w H s.heap a (.lst xs) from I.hok a _ ea)
  exact PySem.W.kia_one PySem.W.kitx_list I.kIn ⟨_,f,rfl⟩ e (fun z=>nomatch z) h
 | @frz a ob xs ea =>
  cases (show u=Value.ref a from d)
  obtain ⟨_,_,_,n,_,f⟩:=(show ObjOk X.prog X.w H s.heap a (.frz ob (.lst xs)) from I.hok a _ ea)
  exact PySem.W.kia_one PySem.W.kitx_list I.kIn ⟨_,f,rfl⟩ e (fun z=>nomatch z) h
 | @tup a xs ea =>
  cases (show u=Value.ref a from d)
  obtain ⟨_,_,_,p⟩:=(show ObjOk X.prog X.w H s.heap a (.tup xs) from I.hok a _ ea)
  obtain ⟨o,f,g,_⟩:=p
  exact PySem.W.kia_one PySem.W.kitx_tuple I.kIn ⟨o,f,g⟩ e (fun z=>nomatch z) h
 | @dK a kvs ea =>
  cases (show u=Value.ref a from d)
  obtain ⟨_,_,vs,_,p⟩:=(show ObjOk X.prog X.w H s.heap a (.dK kvs) from I.hok a _ ea)
  obtain ⟨o,es,ep,f,g,_⟩:=p
  exact PySem.W.kia_one PySem.W.kitx_dict I.kIn ⟨o,f,g.1⟩ e (fun z=>nomatch z) h
 | @dT a kvs ea =>
  cases (show u=Value.ref a from d)
  obtain ⟨_,_,xs,_,o,es,ep,f,g,_⟩:=(show ObjOk X.prog X.w H s.heap a (.dT kvs) from I.hok a _ ea)
  exact PySem.W.kia_one PySem.W.kitx_dict I.kIn ⟨o,f,g.1⟩ e (fun z=>nomatch z) h
 | @ins a C dx fs ea cl ha hn htk hm =>
  cases (show u=Value.ref a from d)
  obtain ⟨mA,O,_⟩:=af6 I.hok ea
  obtain ⟨od,J,_⟩:=O.look
  exact PySem.W.kia_one (PySem.W.kitx_own (cl.get _) cl.hd ha hn htk hm) I.kIn J e (fun z=>nomatch z) h
end
structure Room (k:Nat) (A:Around):Prop where
 hd:A.handled=none
 dp:A.depth+3 * k+5 < recursionLimit
 un:A.units+16 * k+200 < cLine
theorem Room.mono {j k:Nat} {A:Around} (r:Room k A) (h:j<=k):Room j A:=⟨r.hd,by have:=r.dp;omega,by have:=r.un;omega⟩
theorem Room.deeper {k:Nat} {A:Around} (r:Room (k+1) A) (env:Env):Room k (A.deeper env) :=
 ⟨r.hd,by have:=r.dp;show A.depth+1+3 * k+5 < _;omega,by have:=r.un;show A.units+3+16 * k+200 < _;omega⟩
theorem Room.in1 {k:Nat} {A:Around} (r:Room (k+1) A):Room k A.in1 :=
 ⟨r.hd,by have:=r.dp;show A.depth+3 * k+5 < _;omega,by have:=r.un;show A.units+1+16 * k+200 < _;omega⟩
theorem ao0 {A:Around} {C:Addr} {us:List Value} {a:List (Str × Value)}:(A.under (.builtin "type.__call__" ⟨.ref C :: us,a⟩)).depth=A.depth+1:=by
 first | rfl | simp [Around.under,Code.weight,Code.isCreation,Code.isGuard,Code.isCaller,Code.frames,Code.isFrame,guardIds]
theorem ao1 {A:Around} {C:Addr} {us:List Value} {a:List (Str × Value)}:(A.under (.builtin "type.__call__" ⟨.ref C :: us,a⟩)).units=A.units+1:=by
 first | rfl | simp [Around.under,Code.cUnits,Code.frames,Code.isFrame]
theorem Room.make {k:Nat} {A:Around} (r:Room (k+1) A) (C:Addr) (us:List Value) (a:List (Str × Value)):Room k (A.under (.builtin "type.__call__" ⟨.ref C :: us,a⟩)) :=
 ⟨r.hd,by have:=r.dp;rw [ao0];omega,by have:=r.un;rw [ao1];omega⟩
theorem Room.depth {k:Nat} {A:Around} (r:Room k A):A.depth < recursionLimit:=by have:=r.dp;omega
theorem Room.units {k:Nat} {A:Around} (r:Room k A):A.units+64 < cLine:=by have:=r.un;omega
theorem Room.units0 {k:Nat} {A:Around} (r:Room k A):A.units < cLine:=by have:=r.un;omega
def tNil:TA:=fun _ H Q=>Q [] H
def aa1 (ta:TE) (tr:TA):TA:=fun σ H Q=>ta σ H fun x H1=>tr σ H1 fun xs H2=>Q (x :: xs) H2
section
variable {X:Cx} {e:Expr} {es:List Expr} {te:TE} {t:TA} {pos:Pos}
theorem aab:PA X [] tNil:=fun _ _ _ _ H Q I h=>Calls.spliced_nil ⟨[],H,I,.nil,h⟩
theorem aaa (ha:PE X e te) (g:PA X es t) (b:starEach (e :: es) X.env=(false,eval e X.env) :: starEach es X.env:=by rfl):PA X (e :: es) (aa1 te t):=by
 intro a pins s σ H Q I h
 rw [b]
 show wpAny _ _ (spliced ((false,eval e X.env) :: backTo a (starEach es X.env))) _ _ s
 refine Calls.spliced_cons (thn (ha pins s σ H _ I h) fun u s1 ⟨x,c,i,l,f⟩=>?_)
 exact thn (g a pins s1 σ c _ i f) fun us s2 ⟨xs,H2,d,j,m⟩=>⟨x :: xs,H2,d,.cons l j,m⟩
def tTup (t:TA):TE:=fun σ H Q=>t σ H fun xs H1=>xs.length<=sizeLine/\∀ p,H1 p=none->Q (.ref p) (upd H1 p (.tup xs))
def tLst (t:TA):TE:=fun σ H Q=>t σ H fun xs H1=>xs.length<=sizeLine/\∀ p,H1 p=none->Q (.ref p) (upd H1 p (.lst xs))
theorem aa5 {x1} (h:PA X es t):PE X (.Tuple es x1 pos) (tTup t):=by
 intro pins s σ H Q I d
 refine wpAny_Tuple_spliced (thn (h pos pins s σ H _ I d) fun us s1 ⟨xs,a,c,r,z,q⟩=>⟨by rw [← r.length];exact z,?_⟩)
 have hf:a s1.heap.objs.size=none:=c.hok.fresh (aA6 _)
 refine ⟨.ref s1.heap.objs.size,upd a s1.heap.objs.size (.tup xs),c.laid (t':=s1.toks) (fun b u e=>aI2 _ e) (aA6 _) ?_,rfl,q _ hf⟩
 exact ⟨z,us,r,⟨_,aI4 _ rfl,rfl,_,rfl⟩⟩
theorem aa0 (h:PA X es t):PE X (.List es pos) (tLst t):=by
 intro pins s σ H Q I d
 refine wpAny_List_spliced (thn (h pos pins s σ H _ I d) fun us s1 ⟨xs,a,c,r,z,q⟩=>⟨by rw [← r.length];exact z,?_⟩)
 have hf:a s1.heap.objs.size=none:=c.hok.fresh (aA6 _)
 refine ⟨.ref s1.heap.objs.size,upd a s1.heap.objs.size (.lst xs),c.laid (t':=s1.toks) (fun b u e=>aI2 _ e) (aA6 _) ?_,rfl,q _ hf⟩
 exact ⟨z,us,0,r,aI4 _ rfl⟩
end
abbrev Sp:=List V->Hp->VK->XK->Prop
abbrev CXT:=List Env->Hp->Shared->XK->Value->Shared->Prop
structure Env0 (P:Program) (w:World) (K:Frag) (mg:Str->Option Value) (base:Heap) (A:Around) (outer:List Env) (s:Shared) (H:Hp):Prop where
 frames:A.frames=some outer
 mod:Mod K mg base
 bs:∀ b o,base.get? b=some o->s.heap.get? b=some o/\H b=none
 bsz:base.objs.size<=s.heap.objs.size
 funs:s.heap.FunFrames base outer
 frf:∀ b∈frs outer,H b=none
 hok:HOk P w H s.heap
 bare:AllBare s.gens
def CE (outer:List Env) (P:Program) (w:World) (H:Hp) (s:Shared) (Q:VK) (u:Value) (s':Shared):Prop :=
 ∃ v H',s'.os=s.os/\AllBare s'.gens/\Un (frs outer) [] H H' s.heap s'.heap/\HOk P w H' s'.heap/\RelV v u/\Q v H'
def CR (CX:CXT) (outer:List Env) (P:Program) (w:World) (H:Hp) (s:Shared) (Q:VK) (E:XK) (r:Result) (s':Shared):Prop :=
 match r with
 | .ok (.ret u)=>CE outer P w H s Q u s'
 | .ok _=>False
 | .error e=>CX outer H s E e s'
structure FnOk (P:Program) (w:World) (K:Frag) (mg:Str->Option Value) (base:Heap) (CX:CXT) (k:Nat) (f:Addr) (fd:FuncData) (ps:List Str) (sp:Sp):Prop where
 len:∀ vs H Q E,sp vs H Q E->vs.length=ps.length
 run:∀ (A:Around) (outer:List Env) (s:Shared) (H:Hp) (args:Args) (us:List Value) (vs:List V) (Q:VK) (E:XK),Room k A->Env0 P w K mg base A outer s H->BindsTo s fd args (ps.zip us)->Vals vs us->sp vs H Q E ->
  codeAny (model P w) A (.call (.ref f) args) (CR CX outer P w H s Q E) s
theorem FnOk.mono {P:Program} {w:World} {K:Frag} {mg:Str->Option Value} {base:Heap} {CX:CXT} {j k:Nat} {f:Addr} {fd:FuncData} {ps:List Str} {sp:Sp} (F:FnOk P w K mg base CX j f fd ps sp) (h:j<=k) :
  FnOk P w K mg base CX k f fd ps sp:=⟨F.len,fun A outer s H args us vs Q E a=>F.run A outer s H args us vs Q E (a.mono h)⟩
theorem FnOk.imp {P:Program} {w:World} {K:Frag} {mg:Str->Option Value} {base:Heap} {CX:CXT} {k:Nat} {f:Addr} {fd:FuncData} {ps:List Str} {sp a:Sp} (F:FnOk P w K mg base CX k f fd ps sp)
  (h:∀ vs H Q E,a vs H Q E->sp vs H Q E):FnOk P w K mg base CX k f fd ps a :=
 ⟨fun vs H Q E q=>F.len vs H Q E (h _ _ _ _ q),fun A outer s H args us vs Q E d g hb c b=>F.run A outer s H args us vs Q E d g hb c (h _ _ _ _ b)⟩
theorem Env0.make {P:Program} {w:World} {K:Frag} {mg:Str->Option Value} {base:Heap} {A:Around} {outer:List Env} {s:Shared} {H:Hp} (e:Env0 P w K mg base A outer s H) (C:Addr) (us:List Value) (a:List (Str × Value)) :
  Env0 P w K mg base (A.under (.builtin "type.__call__" ⟨.ref C :: us,a⟩)) outer s H:=⟨by first | exact e.frames | (simpa [Around.under,Code.envs,Code.isFrame,pushEnvs] using e.frames),e.mod,e.bs,e.bsz,e.funs,e.frf,e.hok,e.bare⟩
theorem Env0.in1 {P:Program} {w:World} {K:Frag} {mg:Str->Option Value} {base:Heap} {A:Around} {outer:List Env} {s:Shared} {H:Hp} (e:Env0 P w K mg base A outer s H) :
  Env0 P w K mg base A.in1 outer s H:=⟨e.frames,e.mod,e.bs,e.bsz,e.funs,e.frf,e.hok,e.bare⟩
section
variable {X:Cx} {pins:List (Addr × Obj)} {σ:St} {H:Hp} {s s':Shared}
theorem Inv.env0 (I:Inv X pins σ H s):Env0 X.prog X.w X.K X.mg X.base X.A X.stack s H :=
 ⟨I.ok.frames,I.ok.mod,I.bs,aC9 I.ok.bsz I.sz,I.stack,I.stkFree,I.hok,I.bare⟩
theorem Inv.after {Q:VK} {u:Value} (I:Inv X pins σ H s) (h:CE X.stack X.prog X.w H s Q u s'):EP X pins σ Q u s':=by
 obtain ⟨v,H',os,bare,un,hok,r,q⟩:=h
 obtain ⟨hh,g,d,t,os'⟩:=s'
 obtain rfl:os'=s.os:=os
 exact ⟨v,H',I.call (h':=hh) (g':=g) (d':=d) (t':=t) (ch:=[]) un hok bare (fun b z=>absurd z (by simp)),r,q⟩
end
def abx (sp:Sp) (dvs:List V) (E:XK) (t:TA):TE:=fun σ H Q=>t σ H fun vs H1=>sp (vs ++ dvs) H1 Q E
def ake (C:Addr) (m:Str) (sp:Sp) (dvs:List V) (E:XK) (ta:TE) (t:TA):TE:=fun σ H Q=>ta σ H fun x H1=>∃ a dx fs,x=.ref a/\H1 a=some (.ins C dx fs)/\fs.lookup m=none /\
 t σ H1 fun vs H2=>sp (x :: (vs ++ dvs)) H2 Q E
def ao2 (C:Addr) (sp:Sp) (dvs:List V) (E:XK) (t:TA):TE:=fun σ H Q=>t σ H fun vs H1=>∀ x dx,H1 x=none->H1 dx=none->dx ≠ x ->
 sp (.ref x :: (vs ++ dvs)) (upd (upd H1 dx (.own x)) x (.ins C dx [])) (fun v H2=>v=.non/\Q (.ref x) H2) E
def Binds (K:Frag) (fd:FuncData) (ps:List Str) (ds:List Value):Prop :=
 ∀ (s:Shared) (us:List Value),K.In s.heap->(us ++ ds).length=ps.length->BindsTo s fd ⟨us,[]⟩ (ps.zip (us ++ ds))
theorem Binds.all {K:Frag} {fd:FuncData} {ps:List Str} (h:∀ us:List Value,us.length=ps.length->bindArgs fd ⟨us,[]⟩=pure (ps.zip us)):Binds K fd ps []:=fun s us _ a=>by
 rw [aE5] at a ⊢
 exact .of_eq (h us a)
def aeo (CX:CXT) (X:Cx) (E:XK):Prop:=∀ (pins:List (Addr × Obj)) (σ:St) (H:Hp) (s:Shared) (e:Value) (s':Shared),Inv X pins σ H s->CX X.stack H s E e s'->X.xe e s'
section
variable {X:Cx} {CX:CXT} {k:Nat} {f C:Addr} {fd:FuncData} {ps:List Str} {sp:Sp} {dvs:List V} {ds:List Value} {E:XK} {x m:Str} {p pos apos:Pos} {e o:Expr} {es:List Expr} {ta:TE} {t:TA}
theorem aqi {pins:List (Addr × Obj)} {σ:St} {H:Hp} {s:Shared} {Q:VK} {us:List Value} {vs:List V} (F:FnOk X.prog X.w X.K X.mg X.base CX k f fd ps sp) (g:Room k X.A) (hb:Binds X.K fd ps ds) (hd:Vals dvs ds) (i:aeo CX X E)
  (I:Inv X pins σ H s) (r:Vals vs us) (h:sp (vs ++ dvs) H Q E):wpAny (model X.prog X.w) X.A (call (.ref f) us) (EP X pins σ Q) X.xe s:=by
 have b:Vals (vs ++ dvs) (us ++ ds):=r.append hd
 have d:(us ++ ds).length=ps.length:=by rw [← b.length];exact F.len _ _ _ _ h
 refine wpAny_call (codeAny_mono (F.run X.A X.stack s H ⟨us,[]⟩ (us ++ ds) (vs ++ dvs) Q E g I.env0 (hb s us I.kIn d) b h) fun r c a=>?_)
 cases r with
 | error e=>exact i pins σ H s e c I a
 | ok fl =>
  cases fl with
  | ret u=>exact I.after a
  | next=>exact False.elim a
  | brk=>exact False.elim a
  | cont=>exact False.elim a
theorem avk (F:FnOk X.prog X.w X.K X.mg X.base CX k f fd ps sp) (g:Room k X.A) (d:Gl X x) (hm:X.mg x=some (.ref f)) (i:keepIn X.K (.ref f)=true) (hb:Binds X.K fd ps ds) (hd:Vals dvs ds) (j:aeo CX X E)
  (ha:PA X (e :: es) t) (b:(x == ("__debug__" : Str))=false:=by decide) (l:starEach (e :: es) X.env=(false,eval e X.env) :: starEach es X.env:=by rfl) (a:(backTo pos (starEach es X.env)).any (·.1)=false:=by rfl) :
  PE X (.Call (.Name x p) (e :: es) [] pos) (abx sp dvs E t):=by
 intro pins s σ H Q I h
 refine wpAny_Call_Name_kw (aid I d hm ?_ b)
 refine PySem.W.callWith_K (h₀:=X.base) I.ok.mod.kin i (thn (ha pos pins s σ H _ I h) fun us s1 ⟨vs,m,c,r,q⟩=>⟨c.kIn,?_⟩) l a
 exact aqi F g hb hd j c r q
theorem avl {pl:Sem Bool} (v:PE X o ta) (c:Cls X.K C) (hm:Meth X.K C m f) (F:FnOk X.prog X.w X.K X.mg X.base CX k f fd ps sp) (n:Room k X.A) (hb:Binds X.K fd ps ds) (hd:Vals dvs ds) (p:aeo CX X E) (ha:PA X (e :: es) t)
  (b:starEach (e :: es) X.env=(false,eval e X.env) :: starEach es X.env:=by rfl) (d:(backTo pos (starEach es X.env)).any (·.1)=false:=by rfl)
  (z:eval (.Call (.Attribute o m apos) (e :: es) [] pos) X.env=(do
   let ov ← eval o X.env
   standAt apos.atName
   let (f,first) ← holding [ov] (getMethod ov m pl)
   callWith pos f first (backTo pos (starEach (e :: es) X.env)) (backToKw pos (keywordEach [] X.env))):=by rfl) :
  PE X (.Call (.Attribute o m apos) (e :: es) [] pos) (ake C m sp dvs E ta t):=by
 intro pins s σ H Q I h
 refine PySem.W.methodCall_KW (pl:=pl) (thn (v pins s σ H _ I h) fun u s1 ⟨x,j,i,y,a,dx,fs,ex,D,l,q⟩=>?_) z
 subst ex
 obtain rfl:u=Value.ref a:=y
 refine aoy i D c hm l ?_
 refine PySem.W.callWith_K (first:=[.ref a]) (h₀:=X.base) I.ok.mod.kin hm.kp (thn (ha pos pins s1 σ j _ i q) fun us s2 ⟨vs,H2,g,r,B⟩=>⟨g.kIn,?_⟩) b d
 exact aqi (us:=.ref a :: us) (vs:=.ref a :: vs) F n hb hd p g (.cons rfl r) B
structure Mk (K:Frag) (C f:Addr):Prop where
 makes:PySem.W.makesIn K C=true
 init:PySem.W.findIn K (.ref C) "__init__" = some (some (.ref f))
 fn:PySem.W.isFn K (.ref f)=true
 kp:keepIn K (.ref C)=true
theorem asp {pins:List (Addr × Obj)} {σ:St} {H:Hp} {s:Shared} {Q:VK} {us:List Value} {vs:List V} (M:Mk X.K C f) (F:FnOk X.prog X.w X.K X.mg X.base CX k f fd ps sp) (n:Room (k+1) X.A) (hb:Binds X.K fd ps ds) (hd:Vals dvs ds)
  (o:aeo CX X E) (I:Inv X pins σ H s) (r:Vals vs us)
  (h:∀ x dx,H x=none->H dx=none->dx ≠ x->sp (.ref x :: (vs ++ dvs)) (upd (upd H dx (.own x)) x (.ins C dx [])) (fun v H2=>v=.non/\Q (.ref x) H2) E) :
  wpAny (model X.prog X.w) X.A (call (.ref C) us) (EP X pins σ Q) X.xe s:=by
 have d:=h (s.heap.objs.size+1) s.heap.objs.size (I.hok.fresh (Nat.le_succ _)) (I.hok.fresh (aA6 _)) (aB5 (aH8 _))
 have b:=Inv.made (C:=C) I
 have c:Vals (V.ref (s.heap.objs.size+1) :: (vs ++ dvs)) (Value.ref (s.heap.objs.size+1) :: (us ++ ds)):=.cons rfl (r.append hd)
 have m:(Value.ref (s.heap.objs.size+1) :: us ++ ds).length=ps.length:=by
  have e:=c.length
  rw [F.len _ _ _ _ d] at e
  exact e.symm
 refine wpAny_call (aso (f:=f) I.kIn M.makes M.init (aF6.mp M.fn) (codeAny_mono (F.run _ X.stack _ _ ⟨Value.ref (s.heap.objs.size+1) :: us,[]⟩ (Value.ref (s.heap.objs.size+1) :: (us ++ ds)) _ _ E (n.make C us [])
  (b.env0.make C us []) (hb _ (Value.ref (s.heap.objs.size+1) :: us) b.kIn m) c d) fun r l a=>?_))
 cases r with
 | error e=>exact o pins σ _ _ e l b a
 | ok fl =>
  cases fl with
  | ret u =>
   obtain ⟨v,H',p,i,j,g⟩:=b.after a
   subst j
   exact ⟨i,⟨V.ref (s.heap.objs.size+1),H',p,rfl,g⟩⟩
  | next=>exact False.elim a
  | brk=>exact False.elim a
  | cont=>exact False.elim a
theorem avm (M:Mk X.K C f) (F:FnOk X.prog X.w X.K X.mg X.base CX k f fd ps sp) (g:Room (k+1) X.A) (d:Gl X x) (hm:X.mg x=some (.ref C)) (hb:Binds X.K fd ps ds) (hd:Vals dvs ds) (i:aeo CX X E)
  (ha:PA X (e :: es) t) (b:(x == ("__debug__" : Str))=false:=by decide) (j:starEach (e :: es) X.env=(false,eval e X.env) :: starEach es X.env:=by rfl) (a:(backTo pos (starEach es X.env)).any (·.1)=false:=by rfl) :
  PE X (.Call (.Name x p) (e :: es) [] pos) (ao2 C sp dvs E t):=by
 intro pins s σ H Q I h
 refine wpAny_Call_Name_kw (aid I d hm ?_ b)
 refine PySem.W.callWith_K (h₀:=X.base) I.ok.mod.kin M.kp (thn (ha pos pins s σ H _ I h) fun us s1 ⟨vs,l,c,r,q⟩=>⟨c.kIn,?_⟩) j a
 exact asp M F g hb hd i c r q
end
section
variable {X:Cx} {CX:CXT} {k:Nat} {f C:Addr} {fd:FuncData} {ps ks:List Str} {sp:Sp} {E:XK} {x m:Str} {p pos apos kpos:Pos} {e o:Expr} {es:List Expr} {kws:List Keyword} {te ta:TE} {t tk:TA} {nm:Option Str}
variable {g:List Value->List Value->List Value} {gV:List V->List V->List V}
end
structure FnScope (N P:List Str) (sc:Scope):Prop where
 kind:sc.kind=.function
 co:sc.isCoroutine=false
 gen:sc.isGenerator=false
 nd:N.Nodup
 pre:N.take P.length=P
 par:∀ x∈P,sc.names.lookup x=some .local\/sc.names.lookup x=some .cell
 nofree:∀ y∈sc.names,y.2 ≠ .free
theorem ajb {kindOf:Str->Option NameKind} {x:Str}:∀ {binds:List (Str × Value)} {m:Str->Option Value},(∀ v,(x,v) ∉ binds)->bindL kindOf binds m x=m x
 | [],_,_=>rfl
 | (n,v) :: r,m,h=>by
  unfold bindL
  rw [ajb fun w a=>h w (aB4 _ a)]
  split
  ·have:x ≠ n:=by rintro rfl;exact h v aB7
   simp [this]
  ·rfl
theorem ajc {kindOf:Str->Option NameKind} {x:Str}:∀ {binds:List (Str × Value)} {m:Str->Option Value},(∀ v,(x,v) ∉ binds)->bindC kindOf binds m x=m x
 | [],_,_=>rfl
 | (n,v) :: r,m,h=>by
  unfold bindC
  rw [ajc fun w a=>h w (aB4 _ a)]
  split
  ·rfl
  ·have:x ≠ n:=by rintro rfl;exact h v aB7
   simp [this]
theorem ajd {kindOf:Str->Option NameKind} {x:Str} {v:Value}:∀ {P:List Str} {vs:List Value} {i:Nat} {m:Str->Option Value},P.Nodup->P[i]?=some x->vs[i]?=some v->kindOf x=some .local ->
  bindL kindOf (P.zip vs) m x=some v
 | [],_,_,_,_,h,_,_=>by simp at h
 | _ :: _,[],_,_,_,_,h,_=>by simp at h
 | p :: P,w :: vs,0,m,nd,h1,h2,hk=>by
  simp at h1 h2;subst h1;subst h2
  show bindL kindOf ((p,w) :: P.zip vs) m p=_
  unfold bindL
  rw [ajb fun v a=>(aH7.mp nd).1 (List.of_mem_zip a).1,aE8 hk]
  simp
 | p :: P,w :: vs,i+1,m,nd,h1,h2,hk=>by
  show bindL kindOf ((p,w) :: P.zip vs) m x=_
  unfold bindL
  exact ajd (i:=i) (aH7.mp nd).2 (by simpa using h1) (by simpa using h2) hk
theorem aje {kindOf:Str->Option NameKind} {x:Str} {v:Value}:∀ {P:List Str} {vs:List Value} {i:Nat} {m:Str->Option Value},P.Nodup->P[i]?=some x->vs[i]?=some v->kindOf x ≠ some .local ->
  bindC kindOf (P.zip vs) m x=some v
 | [],_,_,_,_,h,_,_=>by simp at h
 | _ :: _,[],_,_,_,_,h,_=>by simp at h
 | p :: P,w :: vs,0,m,nd,h1,h2,hk=>by
  simp at h1 h2;subst h1;subst h2
  show bindC kindOf ((p,w) :: P.zip vs) m p=_
  unfold bindC
  rw [ajc fun v a=>(aH7.mp nd).1 (List.of_mem_zip a).1,aE9 hk]
  simp
 | p :: P,w :: vs,i+1,m,nd,h1,h2,hk=>by
  show bindC kindOf ((p,w) :: P.zip vs) m x=_
  unfold bindC
  exact aje (i:=i) (aH7.mp nd).2 (by simpa using h1) (by simpa using h2) hk
def start (N:List Str) (vs:List V):St:=vs.map some ++ List.replicate (N.length - vs.length) none
def cxOf (CX:CXT) (P:Program) (w:World) (K:Frag) (mg:Str->Option Value) (base:Heap) (N:List Str) (qual:Str) (scope:Scope) (f:Addr) (cd:Value) (A:Around) (outer:List Env) (s:Shared) (H:Hp) (E:XK):Cx where
 prog:=P
 w:=w
 K:=K
 mg:=mg
 base:=base
 A:=A.deeper (envOfC qual scope s.heap.objs.size f cd)
 N:=N
 s₀:=s
 H₀:=H
 env:=envOfC qual scope s.heap.objs.size f cd
 outer:=outer
 stack:=envOfC qual scope s.heap.objs.size f cd :: outer
 ex:=[]
 calm:=true
 fn:=fun _=>true
 pn:=[]
 xe:=fun e s'=>wpAny (model P w) (A.deeper (envOfC qual scope s.heap.objs.size f cd)) (leaving (envOfC qual scope s.heap.objs.size f cd) e) (fun _ s''=>CX outer H s E e s'') (fun e' s''=>CX outer H s E e' s'') s'
theorem akx {sc:Scope} {n:Nat} {x:Str} (h:sc.names.lookup x=some .cell):∃ c,(cellsFrom n sc.names []).lookup x=some c:=by
 have q:=PySem.W.cellsFrom_some sc.names n [] (.inl h)
 exact Option.isSome_iff_exists.mp q
theorem aqj {CX:CXT} {P:Program} {w:World} {K:Frag} {mg:Str->Option Value} {base:Heap} {N ps:List Str} {qual:Str} {scope:Scope} {f:Addr} {B:Value} {A:Around} {outer:List Env} {s s1:Shared} {H:Hp} {E:XK} {us:List Value} {vs:List V}
  (S:FnScope N ps scope) (hd:A.handled=none) (g:Env0 P w K mg base A outer s H) (L:vs.length=ps.length) (r:Vals vs us)
  (x:InCallC s s.heap.objs.size (bindL (envOfC qual scope s.heap.objs.size f B).kindOf (ps.zip us) fun _=>none) (cellsFrom (s.heap.objs.size+1) scope.names []) (bindC (envOfC qual scope s.heap.objs.size f B).kindOf (ps.zip us) fun _=>none) s1) :
  Inv (cxOf CX P w K mg base N qual scope f B A outer s H E) [] (start N vs) H s1:=by
 have I:ps.length<=N.length:=by have:=congrArg List.length S.pre;rw [aG3] at this;omega
 obtain ⟨C,J,rfl,D⟩:=x.done
 have l:∀ b:Addr,b ∉ (cxOf CX P w K mg base N qual scope f B A outer s H E).ex:=fun b z=>absurd (show b∈([]:List Addr) from z) (by simp)
 refine ⟨⟨g.mod,S.kind,rfl,rfl,aA6 _,fun y z c C d=>?_,fun y j=>?_,fun y c _ h=>?_,fun _=>hd,Around.frames_deeper g.frames,.inr ⟨rfl,rfl⟩,fun b z=>absurd z (l b),g.bs,g.bsz,fun b _ _=>l b,fun b z=>absurd z (l b),g.funs,g.frf⟩,
  rfl,g.bare,Un.kept D,⟨_,x.toInCall.ns,fun i y v C d M=>?_⟩,fun y c h=>⟨_,x.cell y c h⟩,g.hok.fresh (aA6 _),fun y c h=>?_,fun p m=>absurd (show p∈([]:List (Addr × Obj)) from m) (by simp),g.hok.kept D,?_⟩
 ·exact name_of_addr x.apart (PySem.mem_of_lookup C) (PySem.mem_of_lookup d)
 ·have j:scope.names.lookup y=some .cell\/scope.names.lookup y=some .free:=j
  rcases j with j | j
  ·exact akx j
  ·exact absurd rfl (S.nofree _ (PySem.mem_of_lookup j))
 ·exact aF8 (x.above y c (PySem.mem_of_lookup h))
 ·have hi:i < vs.length:=by
   unfold start at d
   by_cases hi:i < vs.length
   ·exact hi
   ·rw [aC7 (by simpa using hi)] at d
    rw [aH0] at d
    split at d <;> cases d
  have ha:vs[i]?=some v:=by
   unfold start at d
   rw [aC2 (by simpa using hi),aA5] at d
   cases e:vs[i]? with
   | none=>rw [e] at d;cases d
   | some a=>rw [e] at d;cases d;rfl
  obtain ⟨u,F,G⟩:=r.get ha
  have m:ps[i]?=some y:=by
   rw [← S.pre,aG8 (by omega)];exact C
  have o:ps.Nodup:=by rw [← S.pre];exact S.nd.sublist (List.take_sublist _ _)
  refine ⟨u,G,?_⟩
  rcases S.par y (aA2 m) with k | k
  ·exact .inl ⟨k,ajd o m F k⟩
  ·obtain ⟨c,e⟩:=akx (n:=s.heap.objs.size+1) k
   refine .inr ⟨.inl k,c,e,?_⟩
   have q:=x.cell y c e
   rw [aje o m F (by show scope.names.lookup y ≠ _;rw [k];decide)] at q
   exact q
 ·exact g.hok.fresh (aF8 (x.above y c (PySem.mem_of_lookup h)))
 ·unfold start
  show _=N.length
  rw [aB0,aA3,List.length_replicate]
  omega
theorem az6 {CX:CXT} {P:Program} {w:World} {K:Frag} {mg:Str->Option Value} {base:Heap} {k:Nat} {f:Addr} {name qual:Str} {a:Arguments} {body:List Stmt} {scope:Scope} {D kV doc pm cdv ct oc:Value} {an od:Option Addr}
  {osl:Array (Option Value)} {N ps:List Str} {sp:Sp} (M:K.lookup f=some ⟨oc,od,.func (fnOf name qual a body scope D kV doc pm an cdv ct),osl⟩) (m:codeIn K cdv qual=true) (S:FnScope N ps scope)
  (len:∀ vs H Q E,sp vs H Q E->vs.length=ps.length)
  (g:∀ (A:Around) (outer:List Env) (s:Shared) (H:Hp) (vs:List V) (Q:VK) (E:XK),Room k (A.deeper (envOfC qual scope s.heap.objs.size f cdv))->sp vs H Q E ->
   ∃ t,PSs (cxOf CX P w K mg base N qual scope f cdv A outer s H E) body t/\t { nx:=fun _ H'=>Q .non H',rt:=Q } (start N vs) H) :
  FnOk P w K mg base CX (k+1) f (fnOf name qual a body scope D kV doc pm an cdv ct) ps sp:=by
 refine ⟨len,fun A outer s H args us vs Q E z i hb r j=>?_⟩
 have F:=len _ _ _ _ j
 have C:K.In s.heap:=i.mod.kin.keeps fun b o e=>(i.bs b o e).1
 have B:s.heap.NoLimit:=i.mod.nolimit.keeps fun b o e=>(i.bs b o e).1
 have d:∀ y∈ps.zip us,scope.names.lookup y.1=some .local\/(scope.names.lookup y.1=some .cell/\((cellsFrom (s.heap.objs.size+1) scope.names []).lookup y.1).isSome=true):=fun ⟨n,v⟩ L=>by
  rcases S.par n (List.of_mem_zip L).1 with q | q
  ·exact .inl q
  ·exact .inr ⟨q,PySem.W.cellsFrom_some _ _ _ (.inl q)⟩
 refine codeAny_call_function z.depth (C _ _ M) rfl S.co S.gen rfl (PySem.W.codeRec_of C m) (hb _ _ _ _ ?_)
 refine wpAny_newFunctionEnv_cells S.kind d fun env O s1 x=>?_
 subst O
 refine ⟨B.keeps x.toInCall.keep,codeAny_func ?_⟩
 obtain ⟨t,R,T⟩:=g A outer s H vs Q E (z.deeper _) j
 have I:Inv (cxOf CX P w K mg base N qual scope f cdv A outer s H E) [] (start N vs) H s1:=aqj S z.hd i F r x
 refine aI7 (R [] s1 (start N vs) H _ I T) (fun G p h=>?_) fun e p h=>h
 have fin:∀ {c:St} {H':Hp} {v:V} {u:Value},Inv (cxOf CX P w K mg base N qual scope f cdv A outer s H E) [] c H' p->RelV v u->Q v H'->CE outer P w H s Q u p :=
  fun {c H' v u} J l q=>⟨v,H',J.os,J.bare,J.base,J.hok,l,q⟩
 cases G with
 | ret u =>
  obtain ⟨v,c,H',J,l,q⟩:=h
  exact fin J l q
 | next =>
  obtain ⟨c,H',J,q⟩:=h
  exact fin (v:=V.non) (u:=Value.none) J rfl q
 | brk =>
  obtain ⟨_,_,_,q⟩:=h
  exact False.elim q
 | cont =>
  obtain ⟨_,_,_,q⟩:=h
  exact False.elim q
section
variable {X:Cx} {x:Str} {p pos:Pos} {e:Expr} {es:List Expr} {t:TA} {id T:String} {r:List V->Hp->VK->Prop}
def tCB (r:List V->Hp->VK->Prop) (t:TA):TE:=fun σ H Q=>t σ H fun vs H1=>r vs H1 Q
theorem aaj (i:aa2 X (.builtin id) r) (g:Gl X x) (hm:X.mg x=none) (d:bootBuiltins x=some (.builtin id)) (ha:PA X (e :: es) t) (hn:x ≠ "__name__":=by decide) (b:(x == ("__debug__" : Str))=false:=by decide)
  (l:starEach (e :: es) X.env=(false,eval e X.env) :: starEach es X.env:=by rfl) (a:(backTo pos (starEach es X.env)).any (·.1)=false:=by rfl):PE X (.Call (.Name x p) (e :: es) [] pos) (tCB r t):=by
 intro pins s σ H Q I h
 refine wpAny_Call_Name_kw (adz I g hm d ?_ hn b)
 exact PyProof.Rows.callWith_builtin1 (thn (ha pos pins s σ H _ I h) fun us s1 ⟨vs,c,j,m,f⟩=>i pins s1 σ c vs us Q j m f) l a
theorem adg (i:aa2 X (.type T) r) (g:Gl X x) (hm:X.mg x=none) (d:bootBuiltins x=some (.type T)) (ha:PA X (e :: es) t) (hn:x ≠ "__name__":=by decide) (b:(x == ("__debug__" : Str))=false:=by decide)
  (l:starEach (e :: es) X.env=(false,eval e X.env) :: starEach es X.env:=by rfl) (a:(backTo pos (starEach es X.env)).any (·.1)=false:=by rfl):PE X (.Call (.Name x p) (e :: es) [] pos) (tCB r t):=by
 intro pins s σ H Q I h
 refine wpAny_Call_Name_kw (adz I g hm d ?_ hn b)
 exact PyProof.Rows.callWith_type1 (thn (ha pos pins s σ H _ I h) fun us s1 ⟨vs,c,j,m,f⟩=>i pins s1 σ c vs us Q j m f) l a
end
end L2
namespace HT
open PySem PyProof.Rows
def lexLt:List Int->List Int->Bool
 | [],[]=>false
 | [],_ :: _=>true
 | _ :: _,[]=>false
 | x :: xs,y :: ys=>if x=y then lexLt xs ys else decide (x < y)
theorem ado (x y:Int) (xs ys:List Int):lexLt (x :: xs) (y :: ys)=if x=y then lexLt xs ys else decide (x < y):=rfl
theorem ajx:lexLt [] []=false:=rfl
theorem aif (y:Int) (ys:List Int):lexLt [] (y :: ys)=true:=rfl
theorem aig (x:Int) (xs:List Int):lexLt (x :: xs) []=false:=rfl
theorem asq (A:Around) (s:Shared) (a:Int) (t:Tok) (c:Int) (u:Tok):∃ e,SeqAt.EqAt A s (.int a t) (.int c u) e/\(e=true ↔ a=c) :=
 ⟨(a == c),SeqAt.EqAt.int_int a t c u,by simp⟩
theorem asr (A:Around) (s:Shared) (a:Int) (t:Tok) (c:Int) (u:Tok) (prog:Program) (w:World) (E:Value->Shared->Prop) (Q:Value->Shared->Prop) (h:Q (.bool (decide (a < c))) s) :
  wpAny (model prog w) A (richCompare .Lt (.int a t) (.int c u)) Q E s :=
 (PyProof.Rows.lt_int h:wpAny (model prog w) A (compareOp .Lt (.int a t) (.int c u)) Q E s)
section
open PySem.SeqAt
open PySem.AutoSeq1 (wpAny_loadPart')
open PySem.MeetsSeq PySem.MeetsSeq2 PySem.MeetsSeq3
theorem ajy (l b:Addr) (items f:Array Value) (n N:Nat) (dd G:Option Addr) (sl H:Array (Option Value)) (ns F:List Int) (hi:IntsAre items.toList ns) (M:IntsAre f.toList F) :
  Meets (Builtin.«tuple.__lt__» ⟨[.ref l,.ref b],[]⟩)
   (fun _ R s=>s.heap.get? l=some { cls:=.type "tuple",dict:=dd,data:=.seq items n,slots:=sl }/\s.heap.get? b=some { cls:=.type "tuple",dict:=G,data:=.seq f N,slots:=H } /\
    R (.ok (.ret (.bool (lexLt ns F)))) s) :=
 .of_wp fun prog w A R s h=>by
  obtain ⟨C,g,d,E,os⟩:=s;obtain ⟨O,hb,h⟩:=h
  have U:=AutoSeq1.sub_tuple_tuple
  have T:items.size=ns.length:=by rw [← hi.length];simp
  have W:f.size=F.length:=by rw [← M.length];simp
  wp_walk using wpAny_loadPart' O,wpAny_loadPart' hb,wpAny_forIn_list _ (fun rest b I=>b.1=none/\I=⟨C,g,d,E,os⟩/\∃ (vs D:List Value) (j m:List Int),rest=vs.zip D /\
   IntsAre vs j/\IntsAre D m/\j.length+f.size=m.length+items.size/\R (.ok (.ret (.bool (lexLt j m)))) ⟨C,g,d,E,os⟩) _
  case turn =>
   rintro ⟨y,x⟩ rest b I ⟨v,rfl,vs,D,j,m,hz,B,o,i,p⟩
   cases B with
   | nil=>rw [List.zip_nil_left] at hz;cases hz
   | cons a t hvi' =>
    cases o with
    | nil=>rw [List.zip_nil_right] at hz;cases hz
    | cons c u hwi' =>
     rw [List.zip_cons_cons] at hz
     injection hz with J z
     injection J with Q P
     subst Q P
     rw [ado] at p
     simp only [aE1] at i
     obtain ⟨e,S,r⟩:=asq A.in1 ⟨C,g,d,E,os⟩ a t c u
     refine aI0 (S prog w _ _ ?_)
     cases e with
     | true =>
      rw [aE8 (r.mp rfl)] at p
      wp_walk
      exact ⟨rfl,rfl,_,_,_,_,z,hvi',hwi',by omega,p⟩
     | false =>
      rw [aE9 (fun q=>absurd (r.mpr q) aA9)] at p
      have K:=asr A.in1 ⟨C,g,d,E,os⟩ a t c u prog w
      wp_walk using K
      exact ⟨_,rfl,by simpa using p⟩
  case fin =>
   rintro ⟨b1,X⟩ I ⟨v,rfl,vs,D,j,m,hz,B,o,i,p⟩
   simp only at v
   subst v
   have L:lexLt j m=decide (items.size < f.size):=by
    cases B with
    | nil =>
     cases o with
     | nil =>
      simp only [aH9] at i
      rw [ajx]
      exact (aD5 (by omega)).symm
     | cons c u hw =>
      simp only [aH9,aE1] at i
      rw [aif]
      exact (aD6 (by omega)).symm
    | cons a t L =>
     cases o with
     | nil =>
      simp only [aH9,aE1] at i
      rw [aig]
      exact (aD5 (by omega)).symm
     | cons c u hw =>
      rw [List.zip_cons_cons] at hz
      cases hz
   rw [L] at p
   wp_walk
   exact ⟨_,rfl,by simpa [Builtin.Tuple.tupleCompareSizes] using p⟩
  case h =>
   exact ⟨rfl,rfl,items.toList,f.toList,ns,F,rfl,hi,M,by omega,h⟩
end
section
variable {prog:Program} {w:World} {A:Around} {E:Value->Shared->Prop} {s:Shared}
theorem lt_tupInts {l b:Addr} {items a:Array Value} {ns g:List Int} {Q:Value->Shared->Prop} (u:IsTup s.heap l items) (hb:IsTup s.heap b a) (hi:IntsAre items.toList ns) (y:IntsAre a.toList g)
  (v:A.units < cLine) (h:Q (.bool (lexLt ns g)) s):wpAny (model prog w) A (compareOp .Lt (.ref l) (.ref b)) Q E s:=by
 obtain ⟨⟨cls,dd,data,sl⟩,p,q,n,hd⟩:=id u
 obtain ⟨⟨o,i,m,j⟩,d,f,r,c⟩:=id hb
 simp only at q hd f c
 subst q hd f c
 exact richCompare_meets_room (op:=.Lt) ⟨_,p,rfl⟩ ⟨_,d,rfl⟩ PySem.F.slot_tuple_lt PySem.F.entry_tuple_lt (PySem.F.args_tuple_lt_2 _ _) (ajy l b items a n r dd i sl j ns g hi y)
  ⟨p,d,show Value.bool (lexLt ns g) ≠ Value.notImplemented/\Q (.bool (lexLt ns g)) s from ⟨(fun x=>nomatch x),h⟩⟩ v
end
end HT
namespace L2
open PySem PySem.Spec PyProof.Rows
abbrev TO:=St->Hp->(Option Int->Hp->Prop)->Prop
theorem ab1 {ns:List Int}:∀ {us:List Value},Vals (ns.map V.int) us->IntsAre us ns:=by
 induction ns with
 | nil=>intro us r;rw [List.map_nil] at r;cases r;exact .nil
 | cons n ns ih =>
  intro us r
  rw [aD0] at r
  cases r with
  | cons r1 r2 =>
   obtain ⟨t,e⟩:=r1
   subst e
   exact .cons n t (ih r2)
section
variable {X:Cx} {e:Expr} {te:TE} {lo hi:Option Expr} {tl th:TO} {pos p2:Pos}
def SlR (X:Cx) (r:V->Option Int->Option Int->Hp->VK->Prop):Prop :=
 ∀ (pins:List (Addr × Obj)) (s:Shared) (σ:St) (H:Hp) (x:V) (v vl vu:Value) (lo hi:Option Int) (sl:Addr) (Q:VK),Inv X pins σ H s->RelV x v->s.heap.IsSliceOf sl vl vu .none->IsPart vl lo->IsPart vu hi->r x lo hi H Q ->
  ∃ T id,typeLookup (.type T) "__getitem__" = pure (some (.builtin id))/\s.TypeIs v T/\wpAny (model X.prog X.w) X.A (getItem v (.ref sl)) (EP X pins σ Q) X.xe s
def rLtT (K:Frag):R2:=fun x y H Q=>∃ a b ns ms,x=.ref a/\y=.ref b/\SqT K H a (ns.map V.int)/\SqT K H b (ms.map V.int)/\Q (.bl (HT.lexLt ns ms)) H
theorem ax9 (j:X.A.units < cLine):OpR X (compareOp .Lt) (rLtT X.K):=by
 intro pins s σ H x y v u Q I f m h
 obtain ⟨a,b,ns,d,rfl,rfl,ha,hb,q⟩:=h
 cases f
 cases m
 obtain ⟨its,l,o,_⟩:=I.tuple ha
 obtain ⟨c,g,p2,_⟩:=I.tuple hb
 have i:IntsAre its.toArray.toList ns:=ab1 l
 have n:IntsAre c.toArray.toList d:=ab1 g
 exact HT.lt_tupInts o p2 i n j ⟨.bl (HT.lexLt ns d),H,I,rfl,q⟩
end
def ixN (n:Nat) (i:Int):Option Nat:=if 0<=i then (if i < n then some i.toNat else none) else if -(n:Int)<=i then some (i+n).toNat else none
def atI {α:Type} (xs:List α) (i:Int):Option α:=(ixN xs.length i).bind fun j=>xs[j]?
theorem ang {n:Nat} {i:Int} {j:Nat} (h:ixN n i=some j):seqIndex? i n=some j/\j < n/\-(n:Int)<=i/\i < n:=by
 unfold ixN at h
 by_cases h0:0<=i
 ·rw [aE8 h0] at h
  by_cases h1:i < n
  ·rw [aE8 h1] at h
   have e:i.toNat=j:=aC5 h
   exact ⟨by rw [seqIndex_of h0 h1,e],by omega,by omega,h1⟩
  ·rw [aE9 h1] at h;cases h
 ·rw [aE9 h0] at h
  by_cases h1 : -(n:Int)<=i
  ·rw [aE8 h1] at h
   have e:(i+n).toNat=j:=aC5 h
   exact ⟨by rw [seqIndex_neg (by omega) h1,e],by omega,h1,by omega⟩
  ·rw [aE9 h1] at h;cases h
theorem anh {α:Type} {xs:List α} {i:Int} {v : α} (h:atI xs i=some v):∃ j,seqIndex? i xs.length=some j/\xs[j]?=some v/\j < xs.length/\-(xs.length:Int)<=i/\i < xs.length:=by
 unfold atI at h
 cases e:ixN xs.length i with
 | none=>rw [e] at h;cases h
 | some j =>
  rw [e] at h
  obtain ⟨c,a,b,d⟩:=ang e
  exact ⟨j,c,h,a,b,d⟩
theorem adu {α:Type} {xs:List α} {j:Nat} {v : α} (h:xs[j]?=some v):atI xs (j:Int)=some v:=by
 have a:j < xs.length:=(aA1.mp h).1
 have e:ixN xs.length (j:Int)=some j:=by
  unfold ixN
  rw [aE8 (by omega),aE8 (by omega)];simp
 unfold atI;rw [e];exact h
def avn (b:Expr):Prop:=∀ o i,subscripted b false o i=operate [o,i] (getItem o i)
def IxR (X:Cx) (r:R2):Prop :=
 ∀ (value slice:Expr) (pins:List (Addr × Obj)) (s:Shared) (σ:St) (H:Hp) (x y:V) (v u:Value) (Q:VK),Inv X pins σ H s->RelV x v->RelV y u->r x y H Q ->
  subscripted slice false v u=operate [v,u] (getItem v u)->wpAny (model X.prog X.w) X.A (subscriptTail value slice v u) (EP X pins σ Q) X.xe s
def MtR (X:Cx) (id:String) (r:V->List V->Hp->VK->Prop):Prop :=
 ∀ (pins:List (Addr × Obj)) (s:Shared) (σ:St) (H:Hp) (x:V) (xs:List V) (v:Value) (us:List Value) (Q:VK),Inv X pins σ H s->RelV x v->Vals xs us->r x xs H Q ->
  wpAny (model X.prog X.w) X.A (call (.builtin id) (v :: us)) (EP X pins σ Q) X.xe s
section
variable {X:Cx} {a b:Expr} {ta tb:TE} {pos:Pos}
theorem IxR.or {r d:R2} (h:IxR X r) (h':IxR X d):IxR X (fun x y H Q=>r x y H Q\/d x y H Q):=by
 intro a b pins s σ H x y v u Q I f g q c
 rcases q with q | q
 ·exact h a b pins s σ H x y v u Q I f g q c
 ·exact h' a b pins s σ H x y v u Q I f g q c
theorem aaq {r:R2} (f:IxR X r) (ha:PE X a ta) (hb:PE X b tb) (c:avn b):PE X (.Subscript a b pos) (tOp r ta tb):=by
 intro pins s σ H Q I h
 exact Subscript_ (binT ha hb I h fun v u s2 x y H2 d g i q=>f a b pins s2 σ H2 x y v u Q d g i q (c _ _))
def rIxL (K:Frag):R2:=fun x y H Q=>∃ p xs i v,x=.ref p/\y=.int i/\SqL K H p xs/\atI xs i=some v/\Q v H
def rIxT (K:Frag):R2:=fun x y H Q=>∃ p xs i v,x=.ref p/\y=.int i/\SqT K H p xs/\atI xs i=some v/\Q v H
theorem ix_list:IxR X (rIxL X.K):=by
 intro b c pins s σ H x y v u Q I D E h g
 obtain ⟨p,xs,i,z,rfl,rfl,F,C,q⟩:=h
 cases D
 obtain ⟨t,rfl⟩:=E
 obtain ⟨its,r,pl,hz⟩:=I.list F
 obtain ⟨j,a,m,G,B,n⟩:=anh C
 obtain ⟨w,l,d⟩:=r.get m
 have A:=r.length
 have hn:=afl
 have fin:EP X pins σ Q w s:=⟨z,H,I,d,q⟩
 by_cases h0:0<=i
 ·have f:i.toNat=j:=by
   rw [seqIndex_of h0 n] at a
   exact aC5 a
  exact item_listR pl.isList h0 (by omega) (by rw [f];simpa using l) fin g
 ·have f:(i+(its.toArray.size:Int)).toNat=j:=by
   rw [seqIndex_neg (by omega) B] at a
   rw [aB1,← A]
   exact aC5 a
  exact subscriptTail_builtinR (x:=w) pl.isList.typeIs slot_list_getitem.lookup
   (wpAny_getItem_list_neg (Q:=fun r o=>r=w/\EP X pins σ Q r o) pl.isList (by omega) (by rw [aB1] <;> omega) (by omega) (by rw [f];simpa using l) ⟨rfl,fin⟩) g
theorem aya:IxR X (rIxT X.K):=by
 intro a b pins s σ H x y v u Q I o B h d
 obtain ⟨p,xs,i,z,rfl,rfl,C,n,q⟩:=h
 cases o
 obtain ⟨t,rfl⟩:=B
 obtain ⟨its,r,pl,hz⟩:=I.tuple C
 obtain ⟨j,g,f,E,F,D⟩:=anh n
 obtain ⟨w,A,c⟩:=r.get f
 have m:=r.length
 have hn:=afl
 have fin:EP X pins σ Q w s:=⟨z,H,I,c,q⟩
 exact subscriptTail_builtinR (x:=w) pl.typeIs slot_tuple_getitem.lookup
  (getItem_tuple (j:=j) (Q:=fun r l=>r=w/\EP X pins σ Q r l) pl (by omega) (by omega) (by rw [aB1,← m];exact g) (by simpa using A) ⟨rfl,fin⟩) d
theorem ao3 (its:List Value) (n j:Nat) (u:Value):Obj.mapSeq (·.setIfInBounds j u) { cls:=.type "list",data:=.seq its.toArray n }={ cls:=.type "list",data:=.seq (its.set j u).toArray n }:=by
 simp [Obj.mapSeq]
theorem Inv.lst {pins:List (Addr × Obj)} {σ:St} {H:Hp} {s:Shared} {p:Addr} {xs:List V} (I:Inv X pins σ H s) (h:H p=some (.lst xs)) :
  ∃ (its:List Value) (n:Nat),Vals xs its/\s.heap.get? p=some { cls:=.type "list",data:=.seq its.toArray n }/\xs.length<=sizeLine:=by
 obtain ⟨z,its,n,r,e⟩:=I.hok p _ h
 exact ⟨its,n,r,e,z⟩
theorem Inv.lstUpd {pins:List (Addr × Obj)} {σ:St} {H:Hp} {s:Shared} {p:Addr} {xs ys:List V} {its its':List Value} {n a:Nat} {f:Obj->Obj} (I:Inv X pins σ H s) (h:H p=some (.lst xs))
  (c:s.heap.get? p=some { cls:=.type "list",data:=.seq its.toArray n }) (hf:f { cls:=.type "list",data:=.seq its.toArray n }={ cls:=.type "list",data:=.seq its'.toArray a }) (r:Vals ys its') (hz:ys.length<=sizeLine) (t:Nat) :
  Inv X pins σ (upd H p (.lst ys)) { s with heap:=s.heap.update p f,toks:=t }:=by
 have e:(s.heap.update p f).get? p=some { cls:=.type "list",data:=.seq its'.toArray a }:=by
  rw [Heap.get?_update_self f c (by rw [hf] <;> rfl),hf]
 refine I.write (x:=p) (e:=p) (by rw [h];trivial) (.inl rfl) (fun b u hb q=>(Heap.get?_update_other _ _ (Ne.symm hb)).trans q) ⟨_,e⟩ ?_
 exact ⟨hz,its',a,r,e⟩
def ao4:V->V->V->Hp->(Hp->Prop)->Prop:=fun o i v H Q=>∃ p xs k j,o=.ref p/\i=.int k/\H p=some (.lst xs)/\ixN xs.length k=some j/\Q (upd H p (.lst (xs.set j v)))
theorem ad3:PSet X ao4:=by
 intro pins s σ H o i v C A u Q I x y w h
 obtain ⟨p,xs,k,j,rfl,rfl,f,z,q⟩:=h
 cases x
 obtain ⟨t,rfl⟩:=y
 obtain ⟨its,n,r,b,hz⟩:=I.lst f
 obtain ⟨a,B,g,l⟩:=ang z
 have c:=r.length
 have hn:=afl
 have m:Inv X pins σ (upd H p (.lst (xs.set j v))) { s with heap:=s.heap.update p (Obj.mapSeq (·.setIfInBounds j u)) } :=
  I.lstUpd f b (ao3 its n j u) (r.set w j) (by rw [List.length_set];exact hz) s.toks
 by_cases h0:0<=k
 ·have d:k.toNat=j:=by
   rw [seqIndex_of h0 l] at a
   exact aC5 a
  exact PySem.W.ki_setAt b h0 (by omega) (by rw [aB1,← c];exact l) (by rw [d];exact ⟨_,m,q⟩)
 ·have d:(k+(its.toArray.size:Int)).toNat=j:=by
   rw [seqIndex_neg (by omega) g] at a
   rw [aB1,← c]
   exact aC5 a
  exact PySem.W.ki_setBack b (by omega) (by rw [aB1,← c];exact g) (by omega) (by rw [d];exact ⟨_,m,q⟩)
theorem aky:aa2 X (.builtin "len") (fun xs H Q=>∃ p ys,xs=[.ref p]/\(SqL X.K H p ys\/SqT X.K H p ys)/\Q (.int ys.length) H):=by
 intro pins s σ H xs us Q I r h
 obtain ⟨p,ys,rfl,b,q⟩:=h
 obtain ⟨u,rfl,d⟩:=ab9 r
 cases d
 have hn:=afl
 rcases b with b | b
 ·obtain ⟨its,c,pl,hz⟩:=I.list b
  have a:=c.length
  exact Calls.call_len_list pl.isList (by simp only [aB1] <;> omega) ⟨.int ys.length,H,I.tok _,⟨s.toks+1,by rw [aB1,a]⟩,q⟩
 ·obtain ⟨its,c,pl,hz⟩:=I.tuple b
  have a:=c.length
  exact len_tuple pl (by simp only [aB1] <;> omega) ⟨.int ys.length,H,I.tok _,⟨s.toks+1,by rw [aB1,a]⟩,q⟩
theorem akz:aa2 X (.type "list") (fun xs H Q=>∃ p ys,xs=[.ref p]/\(SqL X.K H p ys\/SqT X.K H p ys)/\∀ l,H l=none->Q (.ref l) (upd H l (.lst ys))):=by
 intro pins s σ H xs us Q I r h
 obtain ⟨p,ys,rfl,f,q⟩:=h
 obtain ⟨u,rfl,j⟩:=ab9 r
 cases j
 have fin:∀ (its:List Value),Vals ys its->ys.length<=sizeLine->∀ (h':Heap) (c:Nat),(∀ b o',s.heap.get? b=some o'->h'.get? b=some o') ->
   h'.get? s.heap.objs.size=some { cls:=.type "list",dict:=none,data:=.seq its.toArray c,slots:=#[] }->EP X pins σ Q (.ref s.heap.objs.size) { s with heap:=h' }:=fun its a hz h' c kp e =>
  ⟨.ref s.heap.objs.size,_,I.laid (t':=s.toks) kp (aA6 _) (show ObjOk X.prog X.w _ h' _ (.lst ys) from ⟨hz,its,c,a,e⟩),rfl,q _ (I.hok.fresh (aA6 _))⟩
 rcases f with f | f
 ·obtain ⟨its,a,pl,hz⟩:=I.list f
  have d:=a.length
  obtain ⟨o,g,i,n,hd⟩:=pl.isList
  exact call_list_seq p (.inl rfl) g i hd (fun h' c kp e=>fin its a hz h' c kp e) (by simp only [aB1] <;> omega)
 ·obtain ⟨its,a,pl,hz⟩:=I.tuple f
  have d:=a.length
  obtain ⟨o,g,i,n,hd⟩:=pl
  exact call_list_seq p (.inr rfl) g i hd (fun h' c kp e=>fin its a hz h' c kp e) (by simp only [aB1] <;> omega)
def tyV (K:Frag) (T:String) (x:V) (H:Hp):Prop:=match x with
 | .str _=>T = "str"
 | .int _=>T = "int"
 | .ref p=>(T = "list"/\∃ xs,SqL K H p xs)\/(T = "tuple"/\∃ o,K.lookup p=some o/\o.cls=.type "tuple"/\o.dict=none) ∨
   (T = "dict"/\((∃ kvs,H p=some (.dK kvs))\/∃ kvs,H p=some (.dT kvs)))\/(T = "set"/\∃ S n,H p=some (.set S n))
 | _=>False
theorem aqk {pins:List (Addr × Obj)} {σ:St} {H:Hp} {s:Shared} {T:String} {x:V} {v:Value} (I:Inv X pins σ H s) (r:RelV x v) (ty:tyV X.K T x H) :
  s.TypeIs v T/\∀ a,v=.ref a->∃ f,s.heap.get? a=some f/\f.dict=none:=by
 cases x with
 | str z =>
  obtain ⟨t,rfl⟩:=r
  cases (show T = "str" from ty)
  exact ⟨typeIs_str s z t,fun _ e=>nomatch e⟩
 | int i =>
  obtain ⟨t,rfl⟩:=r
  cases (show T = "int" from ty)
  exact ⟨typeIs_int s i t,fun _ e=>nomatch e⟩
 | ref p =>
  cases r
  rcases ty with ⟨rfl,xs,h⟩ | ⟨rfl,o,b,g,hd⟩ | ⟨rfl,b⟩ | ⟨rfl,S,n,b⟩
  ·obtain ⟨its,_,pl,_⟩:=I.list h
   refine ⟨pl.isList.typeIs,fun a e=>?_⟩
   cases e
   obtain ⟨o,n,e,c,hd,_⟩:=pl
   exact ⟨o,e,hd⟩
  ·refine ⟨⟨o,I.kIn p o b,g⟩,fun a e=>?_⟩
   cases e
   exact ⟨o,I.kIn _ o b,hd⟩
  ·have z:∃ o,s.heap.get? p=some o/\o.ExactDict:=by
    rcases b with ⟨kvs,b⟩ | ⟨kvs,b⟩
    ·obtain ⟨_,_,_,_,o,_,_,e,ex,_⟩:=I.hok p _ b
     exact ⟨o,e,ex⟩
    ·obtain ⟨_,_,_,_,o,_,_,e,ex,_⟩:=I.hok p _ b
     exact ⟨o,e,ex⟩
   obtain ⟨o,e,ex⟩:=z
   refine ⟨⟨o,e,ex.1⟩,fun a d=>?_⟩
   cases d
   exact ⟨o,e,ex.2.1⟩
  ·obtain ⟨o,_,_,_,e,ex,_⟩:=I.hok p _ b
   refine ⟨⟨o,e,ex.1⟩,fun a d=>?_⟩
   cases d
   exact ⟨o,e,ex.2.1⟩
 | _=>exact False.elim ty
def tBM0 (K:Frag) (T:String) (r:V->List V->Hp->VK->Prop) (to:TE):TE:=fun σ H Q=>to σ H fun x H1=>tyV K T x H1/\r x [] H1 Q
def tBM (K:Frag) (T:String) (r:V->List V->Hp->VK->Prop) (to:TE) (t:TA):TE:=fun σ H Q=>to σ H fun x H1=>tyV K T x H1/\t σ H1 fun xs H2=>r x xs H2 Q
variable {o e:Expr} {es:List Expr} {to:TE} {t:TA} {name:Str} {apos cpos:Pos} {T id:String} {r:V->List V->Hp->VK->Prop}
theorem ayb (i:PlainAttrs T) (slot:Slot T name id) (c:typeOf (.builtin id)=pure (.type "method_descriptor")) (hm:MtR X id r) (m:PE X o to)
  (a:attributeBase o name X.env (eval o X.env)=eval o X.env:=by rfl) (b:(apos.endLine == cpos.line)=true:=by rfl):PE X (.Call (.Attribute o name apos) [] [] cpos) (tBM0 X.K T r to):=by
 intro pins s σ H Q I h
 refine wpAny_Call_method0_late a b (thn (m pins s σ H _ I h) fun v s1 ⟨x,g,d,f,ty,j⟩=>?_)
 obtain ⟨n,l⟩:=aqk d f ty
 exact ⟨T,id,i,slot,c,n,l,Calls.callWith_builtin rfl (PySem.evalArgs_none (hm pins s1 σ g x [] v [] Q d f .nil j))⟩
theorem acg (p:PlainAttrs T) (slot:Slot T name id) (g:typeOf (.builtin id)=pure (.type "method_descriptor")) (hm:MtR X id r) (y:PE X o to) (ha:PA X (e :: es) t)
  (c:attributeBase o name X.env (eval o X.env)=eval o X.env:=by rfl)
  (f:((backTo cpos (starEach (e :: es) X.env)).all (fun x => !x.1) && (backToKw cpos (keywordEach [] X.env)).all (fun x=>x.1.isSome)
   && decide ((e :: es).length+([]:List Keyword).length+(if ([]:List Keyword).isEmpty then 0 else 1) < 30))=true:=by rfl)
  (d:(apos.endLine == cpos.line)=true:=by rfl) (m:starEach (e :: es) X.env=(false,eval e X.env) :: starEach es X.env:=by rfl) (b:(backTo cpos (starEach es X.env)).any (·.1)=false:=by rfl) :
  PE X (.Call (.Attribute o name apos) (e :: es) [] cpos) (tBM X.K T r to t):=by
 intro pins s σ H Q I h
 refine wpAny_Call_method_late c f d rfl (thn (y pins s σ H _ I h) fun v s1 ⟨x,n,j,l,ty,u⟩=>?_)
 obtain ⟨z,w⟩:=aqk j l ty
 refine ⟨T,id,p,slot,g,z,w,?_⟩
 have i:=ha cpos pins s1 σ n _ j u
 rw [m] at i ⊢
 refine Calls.callWith_builtin (by show (false || (backTo cpos (starEach es X.env)).any (·.1))=false;rw [b] <;> rfl) (Calls.evalArgs_plain ?_)
 exact thn i fun us s2 ⟨vs,H2,q,A,B⟩=>hm pins s2 σ H2 x vs v us Q q l A B
/- xs.append(e), list.index on a module's tuple .. are MtR facts of 06m -/
end
def MtM (X:Cx) (id:String) (r:V->List V->Hp->VK->Prop):Prop :=
 ∀ (pins:List (Addr × Obj)) (s:Shared) (σ:St) (H:Hp) (x:V) (xs:List V) (v:Value) (us:List Value) (Q:VK),Inv X pins σ H s->RelV x v->Vals xs us->r x xs H Q ->
  wpAny (model X.prog X.w) X.A (call (.builtin id) (v :: us)) (EP X pins σ Q) X.xe s
theorem Vals.one:∀ {x:V} {us:List Value},Vals [x] us->∃ u,us=[u]/\RelV x u
 | _,_,.cons r .nil=>⟨_,rfl,r⟩
theorem Vals.eraseIdx:∀ {xs:List V} {us:List Value} (i:Nat),Vals xs us->Vals (xs.eraseIdx i) (us.eraseIdx i)
 | _,_,_,.nil => .nil
 | _,_,0,.cons _ t=>t
 | _,_,i+1,.cons r t => .cons r (Vals.eraseIdx i t)
theorem Vals.rep {xs:List V} {us:List Value} (h:Vals xs us):∀ k:Nat,Vals (List.replicate k xs).flatten (List.replicate k us).flatten
 | 0 => .nil
 | k+1=>by
  rw [aG6,aG6,List.flatten_cons,List.flatten_cons]
  exact Vals.append h (Vals.rep h k)
theorem ajf {α:Type}:∀ (l:List α) (i:Nat),(l.eraseIdx i).length<=l.length
 | [],_=>aA6 _
 | _ :: _,0=>Nat.le_succ _
 | _ :: r,i+1=>Nat.succ_le_succ (ajf r i)
theorem ajg (its:List Value):∀ (k:Nat) (a:List Value),
  List.foldl (fun b c=>b ++ c) a.toArray (List.replicate k its.toArray)=(a ++ (List.replicate k its).flatten).toArray
 | 0,a=>by simp
 | k+1,a=>by
  have e:a.toArray ++ its.toArray=(a ++ its).toArray:=by simp
  have d:(a ++ its) ++ (List.replicate k its).flatten=a ++ (List.replicate (k+1) its).flatten:=by
   rw [aG6,List.flatten_cons,aB3]
  rw [← d,← ajg its k (a ++ its),← e,aG6,List.foldl_cons]
section
variable {X:Cx} {pins:List (Addr × Obj)} {σ:St} {H:Hp} {s:Shared} {l b:Addr} {xs ys zs:List V}
theorem Inv.lset {its its':List Value} {n:Nat} {f:Array Value->Array Value} {t':Nat} (I:Inv X pins σ H s) (a:H l=some (.lst xs))
  (e:s.heap.get? l=some { cls:=.type "list",data:=.seq its.toArray n }) (hf:f its.toArray=its'.toArray) (c:Vals ys its') (hz:ys.length<=sizeLine) :
  Inv X pins σ (upd H l (.lst ys)) { s with heap:=s.heap.update l (Obj.mapSeq f),toks:=t' }:=by
 have q:=PySem.IsL.update e f
 rw [hf] at q
 refine I.write (x:=l) (e:=l) (by rw [a];exact trivial) (.inl rfl) (fun d u hb b=>(Heap.get?_update_other s.heap (Obj.mapSeq f) (Ne.symm hb)).trans b) ⟨_,q⟩ ?_
 exact ⟨hz,its',_,c,q⟩
theorem Inv.lnew {its:List Value} {t':Nat} (I:Inv X pins σ H s) (a:Vals ys its) (hz:ys.length<=sizeLine) :
  Inv X pins σ (upd H s.heap.objs.size (.lst ys)) { s with heap:=s.heap.push { cls:=.type "list",data:=.seq its.toArray },toks:=t' } :=
 I.laid (fun _ _ q=>aI2 _ q) (aA6 _) ⟨hz,its,0,a,aI4 _ rfl⟩
theorem Inv.fresh (I:Inv X pins σ H s):H s.heap.objs.size=none:=I.hok.fresh (aA6 _)
theorem Inv.lstM (I:Inv X pins σ H s) (a:H l=some (.lst xs)):xs.length<=sizeLine/\∃ (its:List Value) (n:Nat),Vals xs its/\xs.length=its.length/\s.heap.get? l=some { cls:=.type "list",data:=.seq its.toArray n }:=by
 obtain ⟨z,its,n,r,e⟩:=I.hok l _ a
 exact ⟨z,its,n,r,r.length,e⟩
theorem ak0 {n:Nat} (h:n<=sizeLine):Builtin.List.listTooLong n=false:=by
 unfold Builtin.List.listTooLong
 exact aD5 (by omega)
end
section
variable {X:Cx}
def ac7:V->List V->Hp->VK->Prop:=fun x vs H Q=>∃ l xs y,x=.ref l/\vs=[y]/\H l=some (.lst xs)/\xs.length < sizeLine/\Q .non (upd H l (.lst (xs ++ [y])))
theorem abp:MtM X "list.append" ac7:=by
 intro pins s σ H x vs v us Q I d b h
 obtain ⟨l,xs,y,rfl,rfl,a,hz,q⟩:=h
 cases d
 obtain ⟨u,rfl,c⟩:=b.one
 obtain ⟨z,its,n,r,f,e⟩:=I.lstM a
 refine call_meets F.slot_list_append ⟨_,e,rfl⟩ F.entry_list_append (F.args_list_append_2 _ _) (PySem.list_append l its.toArray n u (by rw [aB1];omega)) ⟨e,?_⟩
 refine ⟨.non,_,I.lset (its':=its ++ [u]) a e (by simp) (r.append (.cons c .nil)) ?_,rfl,q⟩
 rw [aB0,List.length_singleton]
 omega
def aih:V->List V->Hp->VK->Prop:=fun x vs H Q=>∃ l b xs zs,x=.ref l/\vs=[.ref b]/\H l=some (.lst xs)/\H b=some (.lst zs)/\xs.length+zs.length<=sizeLine/\Q .non (upd H l (.lst (xs ++ zs)))
theorem aql:MtM X "list.extend" aih:=by
 intro pins s σ H x vs v us Q I m f h
 obtain ⟨l,b,xs,B,rfl,rfl,d,j,hz,q⟩:=h
 cases m
 obtain ⟨u,rfl,g⟩:=f.one
 cases g
 obtain ⟨z,its,n,r,A,e⟩:=I.lstM d
 obtain ⟨y,a,i,o,p,w⟩:=I.lstM j
 have hsz:its.toArray.size+a.toArray.size<=sizeLine:=by rw [aB1,aB1];omega
 have c:¬ (!its.toArray.isEmpty && Builtin.List.listTooLong (its.toArray.size+a.toArray.size))=true:=by
  rw [ak0 hsz,Bool.and_false]
  exact aA9
 refine call_meets F.slot_list_extend ⟨_,e,rfl⟩ F.entry_list_extend (F.args_list_extend_2 _ _)
  (AutoSeq1.list_extend_list_list_0 l its.toArray n b a.toArray i c (by rw [aB1];omega) (by omega)) ⟨e,w,?_⟩
 refine ⟨.non,_,I.lset (its':=its ++ a) d e (by simp) (r.append o) ?_,rfl,q⟩
 rw [aB0]
 omega
def ak1:V->List V->Hp->VK->Prop:=fun x vs H Q=>∃ l xs i k y,x=.ref l/\vs=[.int i]/\H l=some (.lst xs)/\-(2 ^ 63)<=i/\i < 2 ^ 63/\seqIndex? i xs.length=some k/\xs[k]?=some y/\Q y (upd H l (.lst (xs.eraseIdx k)))
theorem ass:MtM X "list.pop" ak1:=by
 intro pins s σ H x vs v us Q I p c h
 obtain ⟨l,xs,i,k,y,rfl,rfl,b,g,d,m,o,q⟩:=h
 cases p
 obtain ⟨u,rfl,f⟩:=c.one
 obtain ⟨t,rfl⟩:=f
 obtain ⟨z,its,n,r,j,e⟩:=I.lstM b
 obtain ⟨w,A,a⟩:=r.get o
 refine call_meets F.slot_list_pop ⟨_,e,rfl⟩ F.entry_list_pop (F.args_list_pop_2 _ _)
  (MeetsSeq.list_pop_at l its.toArray n i t k w (fitsIndex_both g d) (by rw [aB1,← j];exact m) (by rw [← aD4];exact A) (by rw [aB1];omega)) ⟨e,?_⟩
 refine ⟨y,_,I.lset (its':=its.eraseIdx k) b e ?_ (r.eraseIdx k) ?_,a,q⟩
 ·show its.toArray.eraseIdxIfInBounds k=(its.eraseIdx k).toArray
  rw [List.eraseIdxIfInBounds_toArray]
 ·have:=ajf xs k
  omega
def rCat:R2:=fun x y H Q=>∃ l b xs zs,x=.ref l/\y=.ref b/\H l=some (.lst xs)/\H b=some (.lst zs)/\xs.length+zs.length<=sizeLine/\∀ p,H p=none->Q (.ref p) (upd H p (.lst (xs ++ zs)))
theorem ahd:OpR X (binaryOp .Add) rCat:=by
 intro pins s σ H x y v u Q I d m h
 obtain ⟨l,b,xs,B,rfl,rfl,g,c,hz,q⟩:=h
 cases d
 cases m
 obtain ⟨z,its,n,r,A,e⟩:=I.lstM g
 obtain ⟨p,a,w,f,i,j⟩:=I.lstM c
 refine PySem.P.add_list e j ?_ (by rw [aB1,aB1];omega)
 have o:its.toArray ++ a.toArray=(its ++ a).toArray:=by simp
 rw [o]
 exact ⟨.ref _,_,I.lnew (t':=s.toks) (r.append f) (by rw [aB0];omega),rfl,q _ I.fresh⟩
def rRep:R2:=fun x y H Q=>∃ l k xs,x=.ref l/\y=.int k/\H l=some (.lst xs)/\-(2 ^ 63)<=k/\k < 2 ^ 63/\xs.length * k.toNat<=sizeLine /\
 ∀ p,H p=none->Q (.ref p) (upd H p (.lst (List.replicate k.toNat xs).flatten))
theorem ani {α:Type} (xs:List α) (k:Nat):(List.replicate k xs).flatten.length=k * xs.length:=by
 induction k with
 | zero=>simp
 | succ k ih=>rw [aG6,List.flatten_cons,aB0,ih,Nat.succ_mul,Nat.add_comm]
theorem ayc:OpR X (binaryOp .Mult) rRep:=by
 intro pins s σ H x y v u Q I C E h
 obtain ⟨l,k,xs,rfl,rfl,D,p,o,hz,q⟩:=h
 cases C
 obtain ⟨t,rfl⟩:=E
 obtain ⟨z,its,n,r,B,e⟩:=I.lstM D
 have g:its.toArray.size * k.toNat<=sizeLine:=by rw [aB1,← B];exact hz
 have d:¬ its.toArray.size * k.toNat > (2 ^ 63 - 1) / 8:=by
  have:(sizeLine:Nat)<=(2 ^ 63 - 1) / 8:=by decide
  omega
 have c:¬ (!Builtin.List.listFitsIndex k)=true:=by
  rw [fitsIndex_both p o]
  exact aA9
 have b:¬ Builtin.List.listTooLong (its.toArray.size * k.toNat)=true:=by
  rw [ak0 g]
  exact aA9
 have f:List.foldl (fun i j=>i ++ j) #[] (List.replicate (if its.toArray.isEmpty=true then 0 else k.toNat) its.toArray)=(List.replicate k.toNat its).flatten.toArray:=by
  have A:∀ m:Nat,List.foldl (fun i j=>i ++ j) #[] (List.replicate m its.toArray)=(List.replicate m its).flatten.toArray:=fun m=>by
   have:=ajg its m []
   rw [List.nil_append] at this
   exact this
  rw [A]
  cases its with
  | nil=>simp
  | cons a r'=>rw [aE9 (by simp)]
 refine wpAny_binaryOp_repeat_ref (T:="list") (U:="int") (by decide) ⟨_,e,rfl⟩ (fun w=>typeIs_int w k t) noFill_list_mul F.fills_int_mul F.slot_int_rmul repeat_list F.slot_int_index.lookup
  (call_meets F.slot_int_rmul (typeIs_int s k t) F.entry_int_rmul (F.args_int_rmul_2 _ _) (int___rmul___int_list k t l its.toArray n)
   ⟨e,rfl,⟨_,e,rfl⟩,call_meets F.slot_list_mul ⟨_,e,rfl⟩ F.entry_list_mul (F.args_list_mul_2 _ _) (AutoListH.list___mul___list_int_3 l its.toArray n k t c d b) ⟨e,?_⟩⟩)
 rw [f]
 exact ⟨.ref _,_,I.lnew (t':=s.toks) (r.rep k.toNat) (by rw [ani,Nat.mul_comm];exact hz),rfl,q _ I.fresh⟩
end
section
variable {prog:Program} {w:World} {A:Around} {E:Value->Shared->Prop} {s:Shared}
end
section
variable {X:Cx}
end
section
variable {κ:Type} [DecidableEq κ]
def valV (kvs:List (κ × V)) (k : κ):Option V:=(kvs.find? fun kv=>decide (kv.1=k)).map (·.2)
def putK (kvs:List (κ × V)) (k : κ) (v:V):List (κ × V) :=
 if (kvs.any fun kv=>decide (kv.1=k))=true then kvs.map (fun kv=>if kv.1=k then (kv.1,v) else kv) else kvs ++ [(k,v)]
def auz (kvs:List (κ × V)) (k : κ):List (κ × V):=kvs.filter fun kv=>decide (kv.1 ≠ k)
theorem aez {p : κ × V} {r:List (κ × V)} {k : κ} (e:p.1=k):valV (p :: r) k=some p.2:=by simp [valV,List.find?_cons,e]
theorem ae0 {p : κ × V} {r:List (κ × V)} {k : κ} (e:¬ p.1=k):valV (p :: r) k=valV r k:=by simp [valV,List.find?_cons,e]
theorem ak2 (k : κ):∀ kvs:List (κ × V),(kvs.any fun a=>decide (a.1=k))=(valV kvs k).isSome
 | []=>rfl
 | p :: r=>by
  rw [List.any_cons]
  by_cases e:p.1=k
  ·simp only [aez e,aD6 e,Bool.true_or,Option.isSome_some]
  ·rw [ae0 e,aD5 e,Bool.false_or];exact ak2 k r
theorem aek (kvs:List (κ × V)) (k : κ) (v:V):(putK kvs k v).length<=kvs.length+1:=by
 unfold putK
 split
 ·rw [aA3];omega
 ·rw [aB0,aE1,aH9];omega
theorem RelO.isSome_eq {o:Option V} {u:Option Value} (r:RelO o u):o.isSome=u.isSome:=by
 cases o with
 | none=>cases u with
  | none=>rfl
  | some _=>exact (show False from r).elim
 | some _=>cases u with
  | none=>exact (show False from r).elim
  | some _=>rfl
theorem RelO.getD {o:Option V} {u:Option Value} {d:V} {d':Value} (r:RelO o u) (a:RelV d d'):RelV (o.getD d) (u.getD d'):=by
 cases o with
 | none=>cases u with
  | none=>exact a
  | some _=>exact (show False from r).elim
 | some _=>cases u with
  | none=>exact (show False from r).elim
  | some _=>exact r
theorem KV.val {kvs:List (κ × V)} {vs:List (κ × Value)} (r:KV kvs vs) (k : κ):RelO (valV kvs k) (valueAt vs k):=by
 unfold KV at r
 induction r with
 | nil=>exact True.intro
 | @cons p q ps qs h t ih =>
  obtain ⟨c,d⟩:=h
  by_cases e:p.1=k
  ·have a:q.1=k:=c.symm.trans e
   have b:valueAt (q :: qs) k=some q.2:=by simp [valueAt,List.find?_cons,a]
   rw [aez e,b];exact d
  ·have a:¬ q.1=k:=fun z=>e (c.trans z)
   have b:valueAt (q :: qs) k=valueAt qs k:=by simp [valueAt,List.find?_cons,a]
   rw [ae0 e,b];exact ih
theorem KV.any {kvs:List (κ × V)} {vs:List (κ × Value)} (r:KV kvs vs) (k : κ):(kvs.any fun a=>decide (a.1=k))=vs.any fun a=>decide (a.1=k):=by
 unfold KV at r
 induction r with
 | nil=>rfl
 | cons h t ih=>rw [List.any_cons,List.any_cons,ih,h.1]
theorem KV.repl {kvs:List (κ × V)} {vs:List (κ × Value)} (r:KV kvs vs) (k : κ) {y:V} {u:Value} (d:RelV y u) :
  KV (kvs.map fun a=>if a.1=k then (a.1,y) else a) (vs.map fun a=>if a.1=k then (a.1,u) else a):=by
 unfold KV at r ⊢
 induction r with
 | nil=>exact .nil
 | @cons p q ps qs h t ih =>
  rw [aD0,aD0]
  refine .cons ?_ ih
  obtain ⟨b,c⟩:=h
  by_cases e:p.1=k
  ·rw [aE8 e,aE8 (b.symm.trans e)];exact ⟨b,d⟩
  ·rw [aE9 e,aE9 (fun z=>e (b.trans z))];exact ⟨b,c⟩
theorem KV.put {kvs:List (κ × V)} {vs:List (κ × Value)} (r:KV kvs vs) (k : κ) {y:V} {u:Value} (a:RelV y u):KV (putK kvs k y) (stored vs k u):=by
 unfold putK stored
 rw [r.any k]
 by_cases e:(vs.any fun b=>decide (b.1=k))=true
 ·rw [aE8 e,aE8 e];exact r.repl k a
 ·rw [aE9 e,aE9 e];exact Paired.snoc r ⟨rfl,a⟩
theorem KV.drop {kvs:List (κ × V)} {vs:List (κ × Value)} (r:KV kvs vs) (k : κ):KV (auz kvs k) (without vs k):=by
 unfold KV at r ⊢
 unfold auz without
 induction r with
 | nil=>exact .nil
 | @cons p q ps qs h t ih =>
  obtain ⟨c,d⟩:=h
  rw [List.filter_cons,List.filter_cons]
  by_cases e:p.1=k
  ·have a:¬ decide (p.1 ≠ k)=true:=by simp [e]
   have b:¬ decide (q.1 ≠ k)=true:=by simp [c.symm.trans e]
   rw [aE9 a,aE9 b];exact ih
  ·have f:¬ q.1=k:=fun z=>e (c.trans z)
   have a:decide (p.1 ≠ k)=true:=by simp [e]
   have b:decide (q.1 ≠ k)=true:=by simp [f]
   rw [aE8 a,aE8 b];exact .cons ⟨c,d⟩ ih
theorem KV.length {kvs:List (κ × V)} {vs:List (κ × Value)} (r:KV kvs vs):kvs.length=vs.length:=Paired.length r
end
theorem ahe {P:Program} {w:World} {k:Key} {u:Value} (r:RelV (kV k) u):(aa6 P w).is k u=true:=by
 cases k with
 | inl i=>obtain ⟨t,e⟩:=(show ∃ t,u=Value.int i t from r);subst e;exact agp P w i t
 | inr x=>obtain ⟨t,e⟩:=(show ∃ t,u=Value.str x t from r);subst e;exact amz P w x t
theorem ajh {P:Program} {w:World}:∀ {a:List Key} {us:List Value},Vals (a.map kV) us->ItemsAre (aa6 P w) a us
 | [],_,r=>by rw [List.map_nil] at r;cases r;exact .nil
 | k :: a,_,r=>by
  rw [aD0] at r
  cases r with
  | cons h t=>exact .cons (ahe h) (ajh t)
abbrev KT (H:Hp):List (List Key × V)->List (List Key × Addr × Value)->Prop:=Paired fun p q=>p.1=q.1/\H q.2.1=some (.tup (p.1.map kV))/\RelV p.2 q.2.2
theorem KT.val {H:Hp} {kvs:List (List Key × V)} {xs:List (List Key × Addr × Value)} (r:KT H kvs xs) (k:List Key):RelO (valV kvs k) ((atKey xs k).map (·.2)):=by
 induction r with
 | nil=>exact True.intro
 | @cons p q ps qs h t ih =>
  obtain ⟨c,_,d⟩:=h
  by_cases e:p.1=k
  ·have a:q.1=k:=c.symm.trans e
   have b:atKey (q :: qs) k=some q.2:=by simp [atKey,List.find?_cons,a]
   rw [aez e,b];exact d
  ·have a:¬ q.1=k:=fun z=>e (c.trans z)
   have b:atKey (q :: qs) k=atKey qs k:=by simp [atKey,List.find?_cons,a]
   rw [ae0 e,b];exact ih
theorem KT.repl {H:Hp} {kvs:List (List Key × V)} {xs:List (List Key × Addr × Value)} (r:KT H kvs xs) (k:List Key) {y:V} {u:Value} (d:RelV y u) :
  KT H (kvs.map fun b=>if b.1=k then (b.1,y) else b) (xs.map (putAt k u)):=by
 induction r with
 | nil=>exact .nil
 | @cons p q ps qs h t ih =>
  rw [aD0,aD0]
  refine .cons ?_ ih
  obtain ⟨a,c,f⟩:=h
  unfold putAt
  by_cases e:p.1=k
  ·rw [aE8 e,aE8 (a.symm.trans e)];exact ⟨a,c,d⟩
  ·rw [aE9 e,aE9 (fun z=>e (a.trans z))];exact ⟨a,c,f⟩
theorem KT.put {H:Hp} {kvs:List (List Key × V)} {xs:List (List Key × Addr × Value)} (r:KT H kvs xs) (k:List Key) {b:Addr} {y:V} {u:Value} (hb:H b=some (.tup (k.map kV))) (a:RelV y u) :
  KT H (putK kvs k y) (storedH xs k b u):=by
 have e:(kvs.any fun c=>decide (c.1=k))=(atKey xs k).isSome:=by
  rw [ak2,(r.val k).isSome_eq,Option.isSome_map]
 unfold putK storedH
 rw [e]
 by_cases q:(atKey xs k).isSome=true
 ·rw [aE8 q,aE8 q];exact r.repl k a
 ·rw [aE9 q,aE9 q];exact Paired.snoc r ⟨rfl,hb,a⟩
theorem KT.keeps {H H':Hp} {kvs:List (List Key × V)} {xs:List (List Key × Addr × Value)} (r:KT H kvs xs) (a:∀ b ys,H b=some (.tup ys)->H' b=some (.tup ys)):KT H' kvs xs :=
 Paired.mapP r fun _ _ z=>⟨z.1,a _ _ z.2.1,z.2.2⟩
section
variable {P:Program} {w:World} {H:Hp} {h:Heap} {a:Addr}
theorem au0 {u:HO} (ok:HOk P w H h) (e:Rd H a u):ObjOk P w H h a u:=e.ok ok
theorem af7 {kvs:List (Key × V)} (ok:HOk P w H h) (e:Rd H a (.dK kvs)):kvs.length<=sizeLine/\(a == sysModules)=false/\∃ vs,KV kvs vs/\h.DictOf (aa6 P w) a vs :=
 show ObjOk P w H h a (.dK kvs) from au0 ok e
theorem akf {kvs:List (Key × V)} (ok:HOk P w H h) (e:H a=some (.dK kvs)):kvs.length<=sizeLine/\(a == sysModules)=false/\∃ vs,KV kvs vs/\h.DictOf (aa6 P w) a vs:=af7 ok (.inl e)
theorem afn {b:List Key} (ok:HOk P w H h) (e:H a=some (.tup (b.map kV))):(tupleKind (aa6 P w)).is h b a:=by
 obtain ⟨_,its,r,o,d,c,n,f⟩:=(show ObjOk P w H h a (.tup (b.map kV)) from ok a _ e)
 exact ⟨o,its.toArray,n,d,c,f,by simpa using ajh r⟩
theorem ahf {kvs:List (List Key × V)} (ok:HOk P w H h) (e:Rd H a (.dT kvs)):kvs.length<=sizeLine/\(a == sysModules)=false /\
  ∃ xs,KT H kvs xs/\h.DictOfH (tupleKind (aa6 P w)) a xs:=by
 obtain ⟨z,y,xs,r,o,es,ep,d,c,g,i,f⟩:=(show ObjOk P w H h a (.dT kvs) from au0 ok e)
 refine ⟨z,y,xs,r,o,es,ep,d,c,g,i,fun x b=>?_,f⟩
 have all:∀ {l:List (List Key × V)} {m:List (List Key × Addr × Value)},KT H l m->∀ x∈m,(tupleKind (aa6 P w)).is h x.1 x.2.1:=by
  intro l m q
  induction q with
  | nil=>intro x b;exact nomatch b
  | @cons p q ps qs hq t ih =>
   intro x b
   rcases aA8.mp b with e | b
   ·subst e
    exact afn ok (by rw [← hq.1];exact hq.2.1)
   ·exact ih x b
 exact all r x b
theorem ahg {kvs:List (List Key × V)} (ok:HOk P w H h) (e:H a=some (.dT kvs)):kvs.length<=sizeLine/\(a == sysModules)=false /\
  ∃ xs,KT H kvs xs/\h.DictOfH (tupleKind (aa6 P w)) a xs:=ahf ok (.inl e)
end
def DGet (H:Hp) (a:Addr) (y:V) (r:Option V):Prop :=
 (∃ kvs k,Rd H a (.dK kvs)/\y=kV k/\r=valV kvs k)\/∃ kvs k b,Rd H a (.dT kvs)/\y=.ref b/\H b=some (.tup (k.map kV))/\r=valV kvs k
def DPut (H:Hp) (a:Addr) (y v:V) (H':Hp):Prop :=
 (∃ kvs k,H a=some (.dK kvs)/\y=kV k/\kvs.length < sizeLine/\H'=upd H a (.dK (putK kvs k v))) ∨
 ∃ kvs k b,H a=some (.dT kvs)/\y=.ref b/\H b=some (.tup (k.map kV))/\kvs.length < sizeLine/\H'=upd H a (.dT (putK kvs k v))
theorem DGet.k {H:Hp} {a:Addr} {kvs:List (Key × V)} {k:Key} (e:H a=some (.dK kvs)):DGet H a (kV k) (valV kvs k):=.inl ⟨kvs,k,.inl e,rfl,rfl⟩
theorem DGet.t {H:Hp} {a b:Addr} {kvs:List (List Key × V)} {k:List Key} (e:H a=some (.dT kvs)) (c:H b=some (.tup (k.map kV))):DGet H a (.ref b) (valV kvs k):=.inr ⟨kvs,k,b,.inl e,rfl,c,rfl⟩
theorem DPut.k {H:Hp} {a:Addr} {kvs:List (Key × V)} {k:Key} {v:V} (e:H a=some (.dK kvs)) (b:kvs.length < sizeLine):DPut H a (kV k) v (upd H a (.dK (putK kvs k v))):=.inl ⟨kvs,k,e,rfl,b,rfl⟩
theorem DPut.t {H:Hp} {a b:Addr} {kvs:List (List Key × V)} {k:List Key} {v:V} (e:H a=some (.dT kvs)) (c:H b=some (.tup (k.map kV))) (d:kvs.length < sizeLine) :
  DPut H a (.ref b) v (upd H a (.dT (putK kvs k v))):=.inr ⟨kvs,k,b,e,rfl,c,d,rfl⟩
section
variable {X:Cx} {pins:List (Addr × Obj)} {σ:St} {H:Hp} {s:Shared} {a:Addr} {y v:V} {u r:Value} {o:Option V} {A:Around} {E:Value->Shared->Prop}
theorem Inv.big (I:Inv X pins σ H s):sysModules < s.heap.objs.size:=by
 have h:mainGlobals < s.heap.objs.size:=(I.mod.glob.keeps I.bk).lt
 exact Nat.lt_trans (by decide) h
theorem aqm {Q:Value->Shared->Prop} (B:A.units+1 < cLine) (I:Inv X pins σ H s) (g:DGet H a y (some v)) (q:RelV y u) (h:∀ f n,Inv X pins σ H n->RelV v f->Q f n) :
  wpAny (model X.prog X.w) A (getItem (.ref a) u) Q E s:=by
 rcases g with ⟨kvs,k,e,j,l⟩ | ⟨kvs,k,b,e,j,x,l⟩
 ·subst j
  obtain ⟨z,hd,vs,c,dd⟩:=af7 I.hok e
  obtain ⟨f,m,d⟩:=RelO.some_of (v:=v) (o:=valueAt vs k) (by rw [l];exact c.val k)
  exact wpAny_getItem_of (ahe q) dd.mapOf m (h f _ (I.tok _) d)
 ·subst j
  cases (show u=Value.ref b from q)
  obtain ⟨z,hd,xs,c,dd⟩:=ahf I.hok e
  obtain ⟨f,m,d⟩:=RelO.some_of (v:=v) (o:=(atKey xs k).map (·.2)) (by rw [l];exact c.val k)
  obtain ⟨p,r,i⟩:=Option.map_eq_some_iff.mp m
  refine wpAny_getItem_heap (tupleKind_room_in1 B) (afn I.hok x) dd r ?_
  rw [i]
  exact h f _ (I.tok _) d
theorem avo {Q:Value->Shared->Prop} (m:A.units+1 < cLine) (I:Inv X pins σ H s) (g:DGet H a y o) (i:RelV y u) (h:∀ f,Inv X pins σ H f->Q (.bool (!o.isSome)) f) :
  wpAny (model X.prog X.w) A (compareOp .NotIn u (.ref a)) Q E s:=by
 rcases g with ⟨kvs,k,e,d,l⟩ | ⟨kvs,k,b,e,d,j,l⟩
 ·subst d
  obtain ⟨z,hd,vs,c,dd⟩:=af7 I.hok e
  refine wpAny_notIn_of (ahe i) hd dd.mapOf ?_
  rw [← (c.val k).isSome_eq,← l]
  exact h _ (I.tok _)
 ·subst d
  cases (show u=Value.ref b from i)
  obtain ⟨z,hd,xs,c,dd⟩:=ahf I.hok e
  refine wpAny_notIn_heap (tupleKind_room_in1 m) (afn I.hok j) hd dd ?_
  have q:=(c.val k).isSome_eq
  rw [Option.isSome_map] at q
  rw [← q,← l]
  exact h _ (I.tok _)
theorem af8 {h':Heap} {t':Nat} {c:HO} (I:Inv X pins σ H s) (f:Mut (H a)) (d:Heap.SameBut a s.heap h') (g:∃ q,h'.get? a=some q) (new:ObjOk X.prog X.w (upd H a c) h' a c) :
  Inv X pins σ (upd H a c) { s with heap:=h',toks:=t' } :=
 I.write (x:=a) (e:=a) f (.inl rfl) (fun b q hb z=>(d.2 b hb).trans z) g new
theorem aqn {P:Program} {w:World} {H':Hp} {h':Heap} {kvs:List (Key × V)} {vs:List (Key × Value)} (z:kvs.length<=sizeLine) (hd:(a == sysModules)=false) (b:KV kvs vs) (dd:h'.DictOf (aa6 P w) a vs) :
  ObjOk P w H' h' a (.dK kvs):=⟨z,hd,vs,b,dd⟩
theorem aqo {H':Hp} {Q:Unit->Shared->Prop} (M:A.units+1 < cLine) (I:Inv X pins σ H s) (g:DPut H a y v H') (C:RelV y u) (p:RelV v r) (h:∀ B,Inv X pins σ H' B->Q () B) :
  wpAny (model X.prog X.w) A (setItem (.ref a) u r) Q E s:=by
 rcases g with ⟨kvs,k,e,n,l,o⟩ | ⟨kvs,k,b,e,n,x,l,o⟩
 ·subst n o
  obtain ⟨z,hd,vs,d,dd⟩:=akf I.hok e
  have hz:vs.length<=sizeLine:=by rw [← d.length];exact z
  have m:(putK kvs k v).length<=sizeLine:=by have:=aek kvs k v;omega
  refine wpAny_setItem_pairs (hsz:=hz) (ahe C) dd fun h' f j=>h _ ?_
  have L:∃ q,h'.get? a=some q:=let ⟨q,_,_,i,_⟩:=f;⟨q,i⟩
  exact af8 I (by rw [e];exact True.intro) j L (aqn m hd (d.put k p) f)
 ·subst n o
  cases (show u=Value.ref b from C)
  obtain ⟨z,hd,xs,d,dd⟩:=ahg I.hok e
  have hz:xs.length<=sizeLine:=by rw [← Paired.length d];exact z
  have m:(putK kvs k v).length<=sizeLine:=by have:=aek kvs k v;omega
  refine wpAny_setItem_heap (hsz:=hz) (tupleKind_room_in1 M) (afn I.hok x) dd fun h' f j=>h _ ?_
  obtain ⟨q,es,ep,i,F,J,K,_,G⟩:=f
  refine af8 I (by rw [e];exact True.intro) j ⟨q,i⟩ ⟨m,hd,_,(d.put k x p).keeps fun c ys D=>?_,q,es,ep,i,F,J,K,G⟩
  rw [aad (aey D e (fun z=>nomatch z))]
  exact D
end
section
variable {X:Cx} {pins:List (Addr × Obj)} {σ:St} {H:Hp} {s:Shared} {a:Addr} {kvs:List (Key × V)} {k:Key} {u:Value} {A:Around} {E:Value->Shared->Prop}
theorem az7 {Q:Value->Shared->Prop} (I:Inv X pins σ H s) (e:Rd H a (.dK kvs)) (h:∀ t c,Inv X pins σ H c->Q (.int kvs.length t) c):wpAny (model X.prog X.w) A (call (.builtin "len") [.ref a]) Q E s:=by
 obtain ⟨z,hd,vs,b,dd⟩:=af7 I.hok e
 refine call_len_dict hd dd (by rw [← b.length];rw [sizeLine_eq] at z;omega) ?_
 rw [← b.length]
 exact h _ _ (I.tok _)
end
def NoSl (i:Expr):Prop:=∀ ov iv,subscripted i false ov iv=operate [ov,iv] (getItem ov iv)
theorem avp {prog:Program} {w:World} {A:Around} {E:Value->Shared->Prop} {s:Shared} {env:Env} {b a:Expr} {m:Pos} {T id:String} {Q:Value->Shared->Prop}
  (q:typeLookup (.type T) "__getitem__" = pure (some (.builtin id))) (p:NoSl a)
  (h:wpAny (model prog w) A (eval b env) (fun o f=>wpAny (model prog w) A (eval a env) (fun i c=>c.TypeIs o T/\wpAny (model prog w) A (getItem o i) Q E c) E f) E s) :
  wpAny (model prog w) A (eval (.Subscript b a m) env) Q E s:=by
 refine Subscript_ (aI7 h (fun o f j=>aI7 j (fun i c d=>?_) fun _ _ x=>x) fun _ _ x=>x)
 obtain ⟨n,d⟩:=d
 unfold subscriptTail
 refine aI0 ?_
 rw [getitemInPython_of_ne n.not_modules]
 refine aI0 (wpAny_specialOf n q ?_)
 have fin:wpAny (model prog w) A (subscripted a false o i) (fun r g=>wpAny (model prog w) A (letTemporaryGo b o r >>= fun _=>pure r) Q E g) E c:=by
  rw [p o i]
  exact wpAny_operating (aI7 d (fun r g l=>aI0 (wpAny_letTemporaryGo (aI1 l))) fun _ _ x=>x)
 first
  | exact aI1 (aI0 fin)
  | exact aI0 (aI1 (aI0 fin))
  | exact aI0 fin
theorem am0 {X:Cx} {pins:List (Addr × Obj)} {σ:St} {H:Hp} {s:Shared} {a:Addr} {y:V} {o:Option V} (I:Inv X pins σ H s) (g:DGet H a y o):s.TypeIs (.ref a) "dict":=by
 rcases g with ⟨kvs,k,e,_,_⟩ | ⟨kvs,k,b,e,_,_,_⟩
 ·obtain ⟨_,_,vs,_,dd⟩:=af7 I.hok e
  exact dd.typeIs
 ·obtain ⟨_,_,xs,_,dd⟩:=ahf I.hok e
  exact dd.typeIs
def akg (td ty:TE):TE:=fun σ H Q=>td σ H fun x H1=>ty σ H1 fun y H2=>∃ a v,x=.ref a/\DGet H2 a y (some v)/\Q v H2
def af9 (ty td:TE):TE:=fun σ H Q=>ty σ H fun y H1=>td σ H1 fun x H2=>∃ a o,x=.ref a/\DGet H2 a y o/\Q (.bl (!o.isSome)) H2
def ahh (td ty tv:TE):TS:=fun D σ H=>tv σ H fun v H1=>td σ H1 fun x H2=>ty σ H2 fun y H3=>∃ a H4,x=.ref a/\DPut H3 a y v H4/\D.nx σ H4
section
variable {X:Cx} {o i e value:Expr} {pos pos' tpos:Pos} {td ty tv:TE}
theorem aii (p:X.A.units+1 < cLine) (l:PE X o td) (hi:PE X i ty) (d:NoSl i):PE X (.Subscript o i pos) (akg td ty):=by
 intro pins s σ H Q I h
 refine avp PySem.F.slot_dict_getitem.lookup d (thn (l pins s σ H _ I h) fun u s1 ⟨x,f,m,n,j⟩=>thn (hi pins s1 σ f _ m j) fun B s2 ⟨y,H2,c,q,a,v,ex,g,r⟩=>?_)
 subst ex
 obtain rfl:u=Value.ref a:=n
 exact ⟨am0 c g,aqm p c g q fun C z w b=>⟨v,H2,w,b,r⟩⟩
theorem aqp (n:X.A.units+1 < cLine) (hi:PE X i ty) (f:PE X o td):PC X .NotIn i o (af9 ty td):=by
 intro pins s σ H Q I h
 refine thn (hi pins s σ H _ I h) fun w s1 ⟨y,b,l,p,d⟩=>thn (f pins s1 σ b _ l d) fun u s2 ⟨x,H2,c,m,a,j,ex,g,q⟩=>?_
 subst ex
 obtain rfl:u=Value.ref a:=m
 exact avo n c g p fun v r=>⟨.bl (!j.isSome),H2,r,rfl,q⟩
theorem aga (B:X.A.units+1 < cLine) (q:PE X o td) (hi:PE X i ty) (m:PE X value tv) (b:swapsWith value (some (.Subscript o i pos')) pos.line X.env=pure false) :
  PS X (.Assign [.Subscript o i pos'] value pos) (ahh td ty tv):=by
 intro pins s σ H D I h
 refine wpAny_Assign_Subscript (thn (m pins s σ H _ I h) fun r s1 ⟨v,c,w,f,p⟩=>thn (q pins s1 σ c _ w p) fun u s2 ⟨x,H2,n,z,E⟩=>thn (hi pins s2 σ H2 _ n E) fun J G ⟨y,H3,F,C,a,l,ex,g,d⟩=>?_) b
 subst ex
 obtain rfl:u=Value.ref a:=z
 exact aqo B F g C f fun K j=>⟨σ,l,j,d⟩
end
theorem ast {P:Program} {w:World} {H:Hp} (h:Heap) (hb:sysModules < h.objs.size):ObjOk P w H (h.push { cls:=.type "dict",data:=.dict #[] }) h.objs.size (.dK []) :=
 ⟨aF3 _,beq_eq_false_iff_ne.mpr (Ne.symm (aB5 hb)),[],.nil,Heap.DictOf.new h⟩
theorem asu {P:Program} {w:World} {H:Hp} (h:Heap) (hb:sysModules < h.objs.size):ObjOk P w H (h.push { cls:=.type "dict",data:=.dict #[] }) h.objs.size (.dT []) :=
 ⟨aF3 _,beq_eq_false_iff_ne.mpr (Ne.symm (aB5 hb)),[],.nil,_,#[],0,aI4 _ rfl,⟨rfl,rfl,rfl⟩,rfl,rfl,List.nodup_nil⟩
def ak3:TE:=fun _ H Q=>∀ p,H p=none->Q (.ref p) (upd H p (.dT []))
section
variable {X:Cx} {pos:Pos}
theorem ak4:PE X (.Dict [] [] pos) ak3:=fun pins s σ H Q I h =>
 wpAny_Dict_empty ⟨.ref s.heap.objs.size,_,I.laid (a:=s.heap.objs.size) (o:=.dT []) (t':=s.toks) (fun _ _ q=>aI2 _ q) (aA6 _) (asu s.heap I.big),rfl,h _ (I.hok.fresh (aA6 _))⟩
end
def ak5:List (TE × TE)->St->Hp->(List (V × V)->Hp->Prop)->Prop
 | [],_,H,Q=>Q [] H
 | (tk,tv) :: r,σ,H,Q=>tk σ H fun x H1=>tv σ H1 fun y H2=>ak5 r σ H2 fun ps H3=>Q ((x,y) :: ps) H3
abbrev VV:List (V × V)->List (Value × Value)->Prop:=Paired fun p q=>RelV p.1 q.1/\RelV p.2 q.2
def PPs (X:Cx) (pos:Pos) (keys:List (Option Expr)) (values:List Expr) (trs:List (TE × TE)):Prop :=
 ∀ (pins:List (Addr × Obj)) (s:Shared) (σ:St) (H:Hp) (Q:List (V × V)->Hp->Prop),Inv X pins σ H s->ak5 trs σ H Q ->
  wpAny (model X.prog X.w) X.A (evalPairs (pairTrees keys values X.env pos)) (fun vs s'=>∃ ps H',Inv X pins σ H' s'/\VV ps vs/\Q ps H') X.xe s
theorem avq {X:Cx} {a:Pos}:PPs X a [] [] []:=fun pins s σ H Q I h=>pairTrees_nil_walk ⟨[],H,I,.nil,h⟩
theorem asv {X:Cx} {a:Pos} {k v:Expr} {g:List (Option Expr)} {vs:List Expr} {d f:TE} {b:List (TE × TE)} (q:PE X k d) (l:PE X v f) (o:PPs X a g vs b) :
  PPs X a (some k :: g) (v :: vs) ((d,f) :: b):=fun pins s σ H Q I h =>
 pairTrees_cons_walk (thn (q pins s σ H _ I h) fun u s1 ⟨x,i,p,r,n⟩=>thn (l pins s1 σ i _ p n) fun D s2 ⟨y,H2,m,w,z⟩ =>
  thn (o pins s2 σ H2 _ m z) fun C B ⟨ps,H3,A,c,j⟩=>⟨(x,y) :: ps,H3,A,.cons ⟨r,w⟩ c,j⟩)
def aep (kvs more:List (Key × V)):List (Key × V):=more.foldl (fun acc kv=>putK acc kv.1 kv.2) kvs
theorem KV.merge:∀ {more:List (Key × V)} {rs:List (Key × Value)} {kvs:List (Key × V)} {vs:List (Key × Value)},KV more rs->KV kvs vs->KV (aep kvs more) (merged vs rs):=by
 intro more rs kvs vs r
 unfold KV at r
 induction r generalizing kvs vs with
 | nil=>intro q;exact q
 | @cons p q ps qs h t ih =>
  intro a
  have e:KV (putK kvs p.1 p.2) (stored vs q.1 q.2):=by
   have:=a.put p.1 h.2
   rw [← h.1];exact this
  exact ih e
theorem ae9:∀ (more kvs:List (Key × V)),(aep kvs more).length<=kvs.length+more.length
 | [],kvs=>by show kvs.length<=kvs.length+0;omega
 | p :: r,kvs=>by
  have a:=ae9 r (putK kvs p.1 p.2)
  have b:=aek kvs p.1 p.2
  show (aep (putK kvs p.1 p.2) r).length<=_
  rw [aE1];omega
theorem ahi {P:Program} {w:World}:∀ {kvs:List (Key × V)} {f:List (Value × Value)},VV (kvs.map fun d=>(kV d.1,d.2)) f->∃ rs,Carries (aa6 P w) f rs/\KV kvs rs
 | [],_,r=>by rw [List.map_nil] at r;cases r;exact ⟨[],True.intro,.nil⟩
 | p :: kvs,_,r=>by
  rw [aD0] at r
  cases r with
  | @cons a b as bs h t =>
   obtain ⟨rs,c,q⟩:=ahi (P:=P) (w:=w) t
   obtain ⟨b1,g⟩:=b
   exact ⟨(p.1,g) :: rs,⟨ahe h.1,rfl,c⟩,.cons ⟨rfl,h.2⟩ q⟩
def au1 (trs:List (TE × TE)):TE:=fun σ H Q=>∀ p,H p=none->ak5 trs σ (upd H p (.dK [])) fun ps H2=>H2 p=some (.dK [])/\∃ kvs:List (Key × V),ps=kvs.map (fun kv=>(kV kv.1,kv.2))/\kvs.length<=15/\Q (.ref p) (upd H2 p (.dK (aep [] kvs)))
theorem avr {X:Cx} {d:Pos} {keys:List (Option Expr)} {b:List Expr} {f:List (TE × TE)} (h:PPs X d keys b f) (i:keys.all (·.isSome)=true) (y:keys.length=b.length) (u:keys ≠ [])
  (l:keys.length<=15):PE X (.Dict keys b d) (au1 f):=by
 intro pins s σ H Q I q
 have hn:=I.hok.fresh (aA6 s.heap.objs.size)
 have A:=I.laid (a:=s.heap.objs.size) (o:=.dK []) (h':=s.heap.push { cls:=.type "dict",data:=.dict #[] }) (t':=s.toks) (fun _ _ q=>aI2 _ q) (aA6 _) (ast s.heap I.big)
 refine wpAny_Dict_walk (knd:=aa6 X.prog X.w) i y u l (thn (h pins _ σ _ _ A (q _ hn)) fun E s2 ⟨ps,H2,m,j,e,kvs,ep,F,C⟩=>?_)
 subst ep
 obtain ⟨rs,c,p⟩:=ahi (P:=X.prog) (w:=X.w) j
 obtain ⟨z,hd,r,v,dd⟩:=akf m.hok e
 cases v
 refine ⟨rs,c,dd,fun h' g n=>⟨.ref s.heap.objs.size,_,?_,rfl,C⟩⟩
 have hz:(aep [] kvs).length<=sizeLine:=by
  have x:=ae9 kvs []
  rw [aH9] at x
  rw [sizeLine_eq];omega
 have B:∃ q,h'.get? s.heap.objs.size=some q:=let ⟨q,_,_,D,_⟩:=g;⟨q,D⟩
 exact af8 m (by rw [e];exact True.intro) n B (aqn hz hd (p.merge .nil) g)
structure M1 (X:Cx) (o:Expr) (m:Str) (apos:Pos) (e:Expr) (cpos:Pos):Prop where
 base:attributeBase o m X.env (eval o X.env)=eval o X.env
 few:((backTo cpos (starEach [e] X.env)).all (fun x => !x.1) && (backToKw cpos (keywordEach [] X.env)).all (fun x=>x.1.isSome)
  && decide (([e]:List Expr).length+([]:List Keyword).length+(if ([]:List Keyword).isEmpty then 0 else 1) < 30))=true
 line:(apos.endLine == cpos.line)=true
 trees:backTo cpos (starEach [e] X.env)=[(false,eval e X.env)]
def IsD (H:Hp) (a:Addr):Prop:=(∃ kvs,Rd H a (.dK kvs))\/∃ kvs,Rd H a (.dT kvs)
theorem ayd {X:Cx} {pins:List (Addr × Obj)} {σ:St} {H:Hp} {s:Shared} {a:Addr} (I:Inv X pins σ H s) (d:IsD H a) :
  s.TypeIs (.ref a) "dict"/\(∀ b,Value.ref a=.ref b->∃ c,s.heap.get? b=some c/\c.dict=none)/\(a == sysModules)=false:=by
 rcases d with ⟨kvs,e⟩ | ⟨kvs,e⟩
 ·obtain ⟨_,hd,vs,_,dd⟩:=af7 I.hok e
  refine ⟨dd.typeIs,fun b q=>?_,hd⟩
  cases q
  obtain ⟨c,_,_,g,f,_⟩:=dd
  exact ⟨c,g,f.2.1⟩
 ·obtain ⟨_,hd,xs,_,dd⟩:=ahf I.hok e
  refine ⟨dd.typeIs,fun b q=>?_,hd⟩
  cases q
  obtain ⟨c,_,_,g,f,_⟩:=dd
  exact ⟨c,g,f.2.1⟩
section
variable {X:Cx} {pins:List (Addr × Obj)} {σ:St} {H:Hp} {s:Shared} {a:Addr} {y d:V} {u r:Value} {o:Option V} {A:Around} {E:Value->Shared->Prop}
end
section
variable {X:Cx} {o e f:Expr} {apos cpos:Pos} {td ty tx:TE}
end
section
variable {X:Cx} {pins:List (Addr × Obj)} {σ:St} {H:Hp} {s:Shared} {a:Addr} {kvs:List (Key × V)} {A:Around} {E:Value->Shared->Prop}
end
section
variable {X:Cx} {pins:List (Addr × Obj)} {σ:St} {H:Hp} {s:Shared} {a:Addr} {y:V} {u:Value} {A:Around} {E:Value->Shared->Prop}
end
end L2
namespace Att
open PySem PySem.W PySem.Calls PyProof.Rows
theorem ahj {P:Params} {h:Heap}:∀ (ns:List Int) (vs:List Value),WellAll P h vs (ns.map WData.int)->IntsAre vs ns:=by
 intro ns
 induction ns with
 | nil =>
  intro vs w
  rw [List.map_nil] at w
  cases w
  exact .nil
 | cons n ns ih =>
  intro vs w
  rw [aD0] at w
  cases w with
  | cons a b =>
   cases a
   exact .cons _ _ (ih _ b)
theorem aqq {l:OpenLaw} {n:Nat} (hn:l.most=some n) {P:Params} {h:Heap} {args:List WData} {vals:List Value}
  (b:l.row.toRowW.claim.pre args=true) (j:WellAll P h vals args) :
  ∃ a vs ns,vals=[Value.ref a]/\args=[WData.list (ns.map WData.int)]/\h.get? a=some { cls:=.type "list",data:=.seq vs.toArray }/\IntsAre vs ns/\ns.length<=n:=by
 have i:WShape.hasAll [] args [.list .int]=true:=(pre_splitW b).1
 have m:l.pre.holds [] { args:=args }=true:=(pre_splitW b).2
 obtain ⟨d,r,rfl,p,o⟩:=hasAllW_cons i
 obtain rfl:=hasAllW_nil o
 obtain ⟨xs,rfl,s⟩:=hasW_list p
 obtain ⟨ns,rfl⟩:=items_int s
 have c:ns.length<=n:=by
  unfold OpenLaw.pre at m
  have g:(WTm.not (.lt (.lit (.int (n:Int))) (.len (.arg 0)))).holds [] { args:=[.list (ns.map .int)] }=true:=by
   have g:=(holds_andW m).1
   rw [hn] at g
   exact g
  have f:=condW_of g (w_not (w_lt w_lit (w_len_list (w_arg rfl))))
  rw [aA3] at f
  refine Nat.le_of_not_lt fun q=>?_
  have u:(n:Int) < ((ns.length:Nat):Int):=by omega
  first
   | (rw [aD6 u] at f;exact absurd f (by decide))
   | (simp at f;omega)
 cases j with
 | cons w1 w2 =>
  cases w2
  cases w1 with
  | list ho hall=>exact ⟨_,_,ns,rfl,rfl,ho,ahj ns _ hall,c⟩
theorem aqr (l:OpenLaw) (args:List WData):l.row.toRowW.claim.post args (.bool true) args=true :=
 postW_of (r:=l.row.toRowW) (X:=(true == true))
  (show WShape.has [] (.bool true) .bool=true by first | rfl | decide | simp [WShape.has,WShape.arms,WShape.armsAll])
  (show (WTm.eq .res (.lit (.bool true))).value [] { args:=args,res:=some (.bool true),after:=args }=some (.bool (true == true)) from w_eq_bool (w_res rfl) w_lit) rfl
theorem attach_call {l:OpenLaw} {n:Nat} {q:Program} {c:List Str} {z:(Str->Option Value)->Heap->Prop} {B:World->Heap->Prop} {d:DefRec}
  (hn:l.most=some n) (x:d.params.defaults=[])
  (call:∀ (w:World) (s₀ b:Shared) (mg mb:Str->Option Value) (m:Addr) (o:Obj) (pm s doc:Value) (a:Addr) (vs:List Value) (ns:List Int),
   Ground q c [] z w s₀ mg mb b.heap->B w b.heap ->
   b.heap.get? m=some o->o.data=.func (docDef d.name d.params d.body d.scope pm s doc)->b.heap.CodeRec s d.name->mg d.name=some (.ref m) ->
   b.heap.get? a=some { cls:=.type "list",data:=.seq vs.toArray }->IntsAre vs ns->ns.length<=n->b.gens = #[] ->
   codeAny (model l.prog w) callerA (.call (.ref m) ⟨[.ref a],[]⟩) (fun r p=>r=.ok (.ret (.bool true))/\OldK b.heap p.heap/\p.os=b.os/\AllBare p.gens) b) :
  WalkO q c z B l.row.toRowW d [] (fun f vs=>PySem.call f vs):=by
 intro w s₀ b mg mb G Y m o pm s doc L kV E hd u C y H args vals as j A D v K
 obtain rfl:L=.none:=Dflts.none C x
 obtain rfl:kV=.none:=Dflts.noKw C
 obtain ⟨a,vs,ns,rfl,rfl,i,g,h⟩:=aqq hn j v
 refine enter_call (codeAny_mono (call w s₀ b mg mb m o pm s doc a vs ns G Y E (fd_plain hd) u y i g h H) fun r p M=>?_)
 obtain ⟨rfl,F,I,J⟩:=M
 exact ⟨.inl ⟨.bool true,.bool true,[],rfl,fun _=>rfl,.bool true,aqr l _,fun _=>⟨List.Pairwise.nil,fun _ hm=>(nomatch hm)⟩⟩,F,I,J⟩
section
variable {prog:Program} {w:World} {A:Around} {E:Value->Shared->Prop} {s:Shared} {K:Frag}
end
end Att
namespace L2
open PySem PySem.Spec PyProof.Rows
theorem aji:∀ {vs:List Value} {ns:List Int},IntsAre vs ns->Vals (ns.map V.int) vs
 | _,_,.nil => .nil
 | _,_,.cons n t h => .cons ⟨t,rfl⟩ (aji h)
def Only (H:Hp):Prop:=∀ b,H b=none\/∃ o xs,H b=some (.frz o (.lst xs))
theorem asw {P:Program} {w:World} {K:Frag} {mg mb:Str->Option Value} {CX:CXT} {k:Nat} {E a:Addr} {fd:FuncData} {x:Str} {sp:Sp} {c:Shared} {vs:List Value} {ns:List Int}
  (O:K.In c.heap) (A:c.heap.Ns mainGlobals mg) (hb:c.heap.Ns builtinsNs mb) (M:∀ x:Str,x ≠ "__name__"->mb x=bootBuiltins x) (B:c.heap.NoLimit) (X:c.gens = #[])
  (ha:c.heap.get? a=some { cls:=.type "list",data:=.seq vs.toArray }) (hi:IntsAre vs ns) (T:ns.length<=sizeLine) (hr:Room k callerA)
  (F:∀ base:Heap,K.In base->base.Ns mainGlobals mg->FnOk P w K mg base CX k E fd [x] sp) (l:∀ (s:Shared) (u:Value),BindsTo s fd ⟨[u],[]⟩ [(x,u)])
  (I:∀ H:Hp,Only H->SqL K H a (ns.map V.int)->sp [.ref a] H (fun v _=>v=.bl true) fun _ _ _=>False)
  (G:∀ H e g,CX [] H c (fun _ _ _=>False) e g->False) :
  codeAny (model P w) callerA (.call (.ref E) ⟨[.ref a],[]⟩) (fun r g=>r=.ok (.ret (.bool true))/\OldK c.heap g.heap/\g.os=c.os/\AllBare g.gens) c:=by
 have Q:=aji hi
 have D:=hi.length
 -- from an abstract heap in which nothing but the script may be tracked
 have j:∀ H:Hp,Only H->SqL K H a (ns.map V.int)->HOk P w H c.heap->(∀ b,H b ≠ none->b=a)->(H a ≠ none->K.lookup a=none) ->
   codeAny (model P w) callerA (.call (.ref E) ⟨[.ref a],[]⟩) (fun r g=>r=.ok (.ret (.bool true))/\OldK c.heap g.heap/\g.os=c.os/\AllBare g.gens) c:=by
  intro H S hS hok N Y
  have f:∀ {b:Addr} {o:Obj},c.heap.get? b=some o->H b=none->(hidT c.heap H).get? b=some o:=fun e n=>asi e n
  have L:∀ {b:Addr} {o:Obj} {es:Array DictEntry} {ep:Nat},c.heap.get? b=some o->o.data=.dict es ep->H b=none:=fun {b o es ep} e d=>by
   cases q:H b with
   | none=>rfl
   | some u =>
    have J:b=a:=N b (by rw [q];simp)
    subst J
    rw [ha] at e;cases e
    have d':Data.seq vs.toArray _=Data.dict es ep:=d
    cases d'
  have i:∀ {b:Addr} {m:Str->Option Value},c.heap.Ns b m->(hidT c.heap H).Ns b m:=fun {b m} ⟨o,es,ep,e,d,r⟩=>⟨o,es,ep,f e (L e d),d,r⟩
  have C:K.In (hidT c.heap H):=fun b o e=>f (O b o e) (by
   cases q:H b with
   | none=>rfl
   | some u =>
    have J:b=a:=N b (by rw [q];simp)
    subst J
    rw [Y (by rw [q];simp)] at e;cases e)
  have hM:Mod K mg (hidT c.heap H):=⟨C,i A,⟨mb,i hb,M⟩,let ⟨mc,h1,h2⟩:=B;⟨mc,i h1,h2⟩⟩
  have e0:Env0 P w K mg (hidT c.heap H) callerA [] c H:=⟨rfl,hM,fun b o e=>avd e,Nat.le_of_eq (ap3 _ _),trivial,fun b hb=>absurd (show b∈([]:List Addr) from hb) (by simp),hok,.of_eq X⟩
  refine codeAny_mono ((F _ C (i A)).run callerA [] c H ⟨[.ref a],[]⟩ [.ref a] [.ref a] _ _ hr e0 (l c (.ref a)) (.cons rfl .nil) (I H S hS)) fun r g h=>?_
  cases r with
  | error e=>exact (G H e g h).elim
  | ok fl =>
   cases fl with
   | next=>exact False.elim h
   | brk=>exact False.elim h
   | cont=>exact False.elim h
   | ret u =>
    obtain ⟨v,H',os,bare,un,y,U,q⟩:=h
    have q':v=.bl true:=q
    subst q'
    obtain rfl:u=Value.bool true:=U
    refine ⟨rfl,OldK.of_keep fun b o e=>?_,os,bare⟩
    cases q:H b with
    | none=>exact un.keep b o e q (by intro z;exact absurd (show b∈([]:List Addr) from z) (by simp)) (by simp)
    | some u =>
     rcases S b with z | ⟨Z,xs,z⟩
     ·rw [q] at z;cases z
     ·have W:=un.frzs b Z _ z
      obtain ⟨R,_⟩:=hok b _ z
      obtain ⟨e2,_⟩:=y b _ W
      rw [e] at R;cases R
      exact e2
 cases hk:K.lookup a with
 | some o =>
  -- the script is one of the module's own objects
  have e:=O a o hk
  rw [ha] at e
  cases e
  refine j (fun _=>none) (fun _ => .inl rfl) (.inr ⟨_,vs.toArray,_,hk,rfl,rfl,rfl,by rw [aB1,D];exact T,by simpa using Q⟩) (fun b u z=>by have p:(none:Option HO)=some u:=z;cases p) (fun b z=>absurd rfl z) fun z=>absurd rfl z
 | none =>
  refine j (fun b=>if b=a then some (.frz { cls:=.type "list",data:=.seq vs.toArray } (.lst (ns.map V.int))) else none) (fun b=>?_) (.inl (.inr ⟨{ cls:=.type "list",data:=.seq vs.toArray },aE8 rfl⟩)) (fun b u z=>?_) (fun b z=>?_) fun _=>hk
  ·by_cases hb:b=a
   ·exact .inr ⟨_,_,aE8 hb⟩
   ·exact .inl (aE9 hb)
  ·by_cases hb:b=a
   ·have p:=(aE8 hb).symm.trans z
    cases p
    subst hb
    exact ⟨ha,by rw [aA3];exact T,vs,_,Q,ha⟩
   ·have p:=(aE9 hb).symm.trans z
    cases p
  ·by_cases hb:b=a
   ·exact hb
   ·exact absurd (aE9 hb) z
abbrev KOf {K:Frag} {h:Heap} (_:K.In h):Frag:=K
theorem walk_of {l:PySem.W.OpenLaw} {n k:Nat} {q:Program} {i:List Str} {R:(Str->Option Value)->Heap->Prop} {I:World->Heap->Prop} {d:DefRec} {K:Params->Frag} {CX:World->CXT} {sp:World->Sp} {x:Str}
  (hn:l.most=some n) (D:n<=sizeLine) (A:d.params.defaults=[]) (N:Room k callerA)
  (P:∀ (w:World) (h:Heap),I w h->(K w.params).In h)
  (F:∀ (w:World) (mg:Str->Option Value) (r:Addr) (h:Heap),(K w.params).In h->h.Ns mainGlobals mg->mg d.name=some (.ref r) ->
   ∃ fd:FuncData,(∀ (s:Shared) (u:Value),BindsTo s fd ⟨[u],[]⟩ [(x,u)]) /\
    ∀ base:Heap,(K w.params).In base->base.Ns mainGlobals mg->FnOk l.prog w (K w.params) mg base (CX w) k r fd [x] (sp w))
  (B:∀ (w:World) (H:Hp) (a:Addr) (ns:List Int),ns.length<=n->Only H->SqL (K w.params) H a (ns.map V.int)->sp w [.ref a] H (fun v _=>v=.bl true) fun _ _ _=>False)
  (z:∀ (w:World) (H:Hp) (s:Shared) (e:Value) (y:Shared),CX w [] H s (fun _ _ _=>False) e y->False) :
  PySem.W.WalkO q i R I l.row.toRowW d [] (fun f vs=>PySem.call f vs):=by
 refine Att.attach_call hn A fun w s₀ p mg mb r o pm U doc a vs ns G Y S hd M C m j c L=>?_
 have E:=P w _ Y
 obtain ⟨fd,hb,O⟩:=F w mg r _ E G.T.g C
 exact asw E G.T.g G.T.b G.T.builtins G.T.nolimit L m j (aC9 c D) N O hb (fun H J Q=>B w H a ns c J Q) fun H e y=>z w H p e y
end L2
/- THE LAST THEOREM (shape; LID, My.* are yours):
  My.Adr: a structure of the addresses that your layer names (classes,functions);My.Txt K t: a structure (Prop) of the equations over K;
  My.txt_mk:{K} {implicit addresses ..} (e1:nsIn K mainGlobals "law" = some (some (.ref f))) (e2:K.lookup f=some ⟨oc,od,.func (fnOf "law" "law" params body scope dV kV doc pm an cdv ct),sl⟩) (e3:codeIn K cdv "law" = true) .. : ∃ t,My.Txt K t
set_option maxRecDepth 100000 in
set_option maxHeartbeats 0 in
theorem PySem.Challenge.cw_LID_holds : PySem.Challenge.rw_LID.Holds := by
 w_on;o_law;k_head;(case hw=>w_witness2)
 k_fill
 refine L2.walk_of (l:=PySem.Challenge.rw_LID) (n:=63) (k:=40) (x:="script") (CX:=fun w => ..) (sp:=fun _=>My.sp_law) rfl (by decide) rfl ⟨rfl,by decide,by decide⟩ (fun w h Y=>PySem.W.kIn_of Y) ?F ?S ?C
 case F =>
  intro w mg fa h KX G hmg
  have T:∃ t,My.Txt (L2.KOf KX) t:=by
   dsimp only [L2.KOf]                          -- K must stand as «<heap const> w.params» for k_is
   refine' My.txt_mk ?e1 ?e2 ?e3 ..
   (case e1=>PySem.W.k_is)                    -- in the order: a name -> its address -> its object -> its parts
   (case e2=>PySem.W.k_is)
   ..
  obtain ⟨t,T⟩:=T
  have e0:=hmg.symm.trans (mg_of KX G T.law)
  cases e0                                       -- fa is the law's own address
  exact ⟨_,fun s u => .of_eq rfl,fun base kb nb=>My.law_fn T kb nb⟩     -- if «.of_eq rfl» comes too early: refine' ⟨_,?b,fun base kb nb=>My.law_fn T kb nb⟩;exact fun s u => .of_eq rfl
 case S=>exact fun w H a ns hl hO hS => ..
 case C=>exact ..
(the tactic k_is has no namespace: write k_is) -/
namespace L2
open PySem PySem.Spec PyProof.Rows
def agb (s:Stmt) (j:Nat):Stmt:=match s with
 | .ClassDef _ _ _ body _ _ _ _ _ _ _=>body.getD j (.Pass ⟨0,0,0,0⟩)
 | _ => .Pass ⟨0,0,0,0⟩
def abl (s:Stmt):Arguments:=match s with
 | .FunctionDef _ a _ _ _ _ _ _ _ _=>a
 | _=>{ posonlyargs:=[],args:=[],vararg:=none,kwonlyargs:=[],kw_defaults:=[],kwarg:=none,defaults:=[] }
def abi (s:Stmt):List Stmt:=match s with
 | .FunctionDef _ _ b _ _ _ _ _ _ _=>b
 | _=>[]
def aai (s:Stmt):Scope:=match s with
 | .FunctionDef _ _ _ _ _ _ sc _ _ _=>sc
 | _=>{ kind:=.function,names:=[],isGenerator:=false,isCoroutine:=false }
abbrev CX0:CXT:=fun _ _ _ _ _ _=>False
abbrev E0:XK:=fun _ _ _=>False
theorem ao5 {X:Cx}:aeo CX0 X E0:=fun _ _ _ _ _ _ _ h=>h.elim
structure Fun (K:Frag) (x qual:Str) (st:Stmt) (f:Addr) (fd:FuncData):Prop where
 ex:∃ (oc:Value) (od:Option Addr) (kV doc pm:Value) (an:Option Addr) (cdv ct:Value) (osl:Array (Option Value)),
  fd=fnOf x qual (abl st) (abi st) (aai st) .none kV doc pm an cdv ct/\K.lookup f=some ⟨oc,od,.func fd,osl⟩/\codeIn K cdv qual=true
 kp:keepIn K (.ref f)=true
section
variable {P:Program} {w:World} {K:Frag} {mg:Str->Option Value} {base:Heap}
theorem Fun.ok {x qual:Str} {st:Stmt} {f:Addr} {fd:FuncData} {N ps:List Str} {k:Nat} {sp:Sp} (F:Fun K x qual st f fd) (S:FnScope N ps (aai st)) (len:∀ vs H Q E,sp vs H Q E->vs.length=ps.length)
  (a:∀ (cdv:Value) (A:Around) (outer:List Env) (s:Shared) (H:Hp) (vs:List V) (Q:VK) (E:XK),Room k (A.deeper (envOfC qual (aai st) s.heap.objs.size f cdv))->sp vs H Q E ->
   ∃ t,PSs (cxOf CX0 P w K mg base N qual (aai st) f cdv A outer s H E).nox (abi st) t/\t { nx:=fun _ H'=>Q .non H',rt:=Q } (start N vs) H):FnOk P w K mg base CX0 (k+1) f fd ps sp:=by
 obtain ⟨oc,od,kV,doc,pm,an,cdv,ct,osl,rfl,g,c⟩:=F.ex
 refine az6 g c S len fun A outer s H vs Q E d b=>?_
 obtain ⟨t,h,q⟩:=a cdv A outer s H vs Q E d b
 exact ⟨t,h.nox,q⟩
theorem Fun.binds {x qual:Str} {st:Stmt} {f:Addr} {fd:FuncData} {ps:List Str} (F:Fun K x qual st f fd)
  (h:∀ (kV doc pm:Value) (an:Option Addr) (cdv ct:Value) (us:List Value),us.length=ps.length->bindArgs (fnOf x qual (abl st) (abi st) (aai st) .none kV doc pm an cdv ct) ⟨us,[]⟩=pure (ps.zip us)):Binds K fd ps []:=by
 obtain ⟨oc,od,kV,doc,pm,an,cdv,ct,osl,rfl,b,a⟩:=F.ex
 exact .all (h kV doc pm an cdv ct)
theorem aqs {x qual:Str} {st:Stmt} {f:Addr} {oc:Value} {od an:Option Addr} {osl:Array (Option Value)} {kV doc pm cdv ct:Value} (l:K.lookup f=some ⟨oc,od,.func (fnOf x qual (abl st) (abi st) (aai st) .none kV doc pm an cdv ct),osl⟩)
  (c:codeIn K cdv qual=true) (k:keepIn K (.ref f)=true):Fun K x qual st f (fnOf x qual (abl st) (abi st) (aai st) .none kV doc pm an cdv ct):=⟨⟨oc,od,kV,doc,pm,an,cdv,ct,osl,rfl,l,c⟩,k⟩
end
theorem adp {A:Around} {k:Nat} (a:Room k A):A.units+1 < cLine:=Nat.lt_of_le_of_lt (Nat.add_le_add_left (by decide:1<=64) _) a.units
theorem ad9 {n:Nat} (h:n<=1000):n < sizeLine:=Nat.lt_of_le_of_lt h (by decide)
section
variable {X:Cx}
theorem pv (i:Nat) {x:Str} {a:Pos} (c:X.N[i]?=some x:=by rfl) (d:Vis X.env.scope x:=by first | exact Or.inl rfl | exact Or.inr (Or.inl rfl) | exact Or.inr (Or.inr rfl)) (hd:(x == ("__debug__" : Str))=false:=by decide)
  (b:(x == ("__classdict__" : Str))=false:=by decide):PE X (.Name x a) (tVar i):=ax1 c d hd b
end
theorem iteF {A B:Prop} (h:B):if false=true then A else B:=by
 rw [aE9 aA9]
 exact h
theorem iteT {A B:Prop} (h:A):if true=true then A else B:=by
 rw [aE8 rfl]
 exact h
def Same (H H':Hp):Prop:=∀ b o,H b=some o->H' b=some o
theorem Same.refl (H:Hp):Same H H:=fun _ _ h=>h
theorem Same.trans {H d H2:Hp} (a:Same H d) (b:Same d H2):Same H H2:=fun c o h=>b c o (a c o h)
theorem Same.free {H H':Hp} (e:Same H H') {l:Addr} (h:H' l=Option.none):H l=Option.none:=by
 cases q:H l with
 | none=>rfl
 | some o =>
  rw [e l o q] at h
  cases h
theorem Same.seq {K:Frag} {H H':Hp} {a:Addr} {xs:List V} (e:Same H H') (h:SqL K H a xs):SqL K H' a xs:=by
 rcases h with (h | ⟨o,h⟩) | h
 ·exact .inl (.inl (e _ _ h))
 ·exact .inl (.inr ⟨o,e _ _ h⟩)
 ·exact .inr h
section
variable {X:Cx}
theorem aqt:aa2 X (.builtin "len") (fun xs H Q=>∃ a kvs,xs=[V.ref a]/\H a=some (.dK kvs)/\Q (.int kvs.length) H):=by
 intro pins s σ H xs us Q I r h
 obtain ⟨a,kvs,rfl,ha,q⟩:=h
 obtain ⟨u,rfl,b⟩:=ab9 r
 cases b
 exact az7 I (.inl ha) fun t d c=>⟨.int kvs.length,H,c,⟨t,rfl⟩,q⟩
end
section
variable {κ:Type} [DecidableEq κ]
end
def clos (env:Env):List (Str × NameKind)->List (Str × Addr)->List (Str × Addr)
 | [],cs=>cs
 | (n,k) :: r,cs=>if k == NameKind.free then (match env.cells.lookup n with | some a=>clos env r ((n,a) :: cs) | none=>clos env r cs) else clos env r cs
theorem ahk {env:Env} {sc:Scope} (h:∀ n,(n,NameKind.free)∈sc.names->∃ a,env.cells.lookup n=some a):closureFor sc env=pure (clos env sc.names []):=by
 have all:∀ (l:List (Str × NameKind)) (cs:List (Str × Addr)),(∀ n,(n,NameKind.free)∈l->∃ a,env.cells.lookup n=some a) ->
   (forIn l cs fun (x:Str × NameKind) (cs:List (Str × Addr))=>match x with | (name,kind)=>if kind == NameKind.free then (do let a ← cellOf env name;pure (ForInStep.yield ((name,a) :: cs))) else pure (ForInStep.yield cs))=(pure (clos env l cs):Sem _):=by
  intro l
  induction l with
  | nil=>intro cs _;rfl
  | cons p r ih =>
   intro cs c
   obtain ⟨n,k⟩:=p
   rw [List.forIn_cons]
   unfold clos
   dsimp only
   cases hk:(k == NameKind.free) with
   | false =>
    simp only [Bool.false_eq_true,if_false,pure_bind]
    exact ih cs fun m hm=>c m (aB4 _ hm)
   | true =>
    have d:k=NameKind.free:=by simpa using hk
    subst d
    obtain ⟨a,ha⟩:=c n aB7
    have f:cellOf env n=pure a:=by unfold cellOf;rw [ha]
    simp only [if_true,f,pure_bind,ha]
    exact ih _ fun m hm=>c m (aB4 _ hm)
 have e:=all sc.names [] h
 unfold closureFor
 refine Eq.trans (b:=(pure (clos env sc.names []):Sem _) >>= fun cs=>pure cs) ?_ (pure_bind _ _)
 exact congrArg (fun z:Sem (List (Str × Addr))=>z >>= fun cs=>pure cs) e
theorem aea {env:Env} {x:Str} {c:Addr}:∀ {l:List (Str × NameKind)} {cs:List (Str × Addr)},(clos env l cs).lookup x=some c->env.cells.lookup x=some c\/cs.lookup x=some c
 | [],cs,h => .inr h
 | (n,k) :: r,cs,h=>by
  unfold clos at h
  by_cases hk:(k == NameKind.free)=true
  ·rw [aE8 hk] at h
   cases ha:env.cells.lookup n with
   | none=>rw [ha] at h;exact aea h
   | some a =>
    rw [ha] at h
    rcases aea h with e | e
    ·exact .inl e
    ·rw [aG2] at e
     cases hx:(x == n) with
     | true =>
      rw [hx] at e
      have:x=n:=by simpa using hx
      subst this
      cases e
      exact .inl ha
     | false=>rw [hx] at e;exact .inr e
  ·rw [aE9 hk] at h
   exact aea h
theorem aeb {env:Env} {x:Str}:∀ {l:List (Str × NameKind)} {cs:List (Str × Addr)},(∃ c,cs.lookup x=some c)->∃ c,(clos env l cs).lookup x=some c
 | [],cs,h=>h
 | (n,k) :: r,cs,h=>by
  unfold clos
  by_cases hk:(k == NameKind.free)=true
  ·rw [aE8 hk]
   cases ha:env.cells.lookup n with
   | none=>exact aeb h
   | some a =>
    refine aeb ?_
    rw [aG2]
    cases hx:(x == n) with
    | true=>exact ⟨_,rfl⟩
    | false=>exact h
  ·rw [aE9 hk]
   exact aeb h
theorem ad4 {env:Env} {x:Str} (h:∃ a,env.cells.lookup x=some a):∀ {l:List (Str × NameKind)} {cs:List (Str × Addr)},(x,NameKind.free)∈l->∃ c,(clos env l cs).lookup x=some c
 | [],_,hm=>absurd hm (by simp)
 | (n,k) :: r,cs,hm=>by
  rcases aA8.mp hm with e | hm
  ·cases e
   obtain ⟨a,ha⟩:=h
   unfold clos
   rw [aE8 (by rfl),ha]
   refine aeb ⟨a,?_⟩
   rw [aG2]
   simp
  ·unfold clos
   by_cases hk:(k == NameKind.free)=true
   ·rw [aE8 hk]
    cases ha:env.cells.lookup n with
    | none=>exact ad4 h hm
    | some a=>exact ad4 h hm
   ·rw [aE9 hk]
    exact ad4 h hm
theorem afo {env:Env} {x:Str}:∀ {names:List (Str × NameKind)},(∀ y∈names,y.2 ≠ .cell) ->
  ((names.map fun (n,k)=>if (k == NameKind.free && env.scope.kind == .function && env.kindOf n == some .cell) then (n,NameKind.cell) else (n,k)).lookup x=some .cell ∨
   (names.map fun (n,k)=>if (k == NameKind.free && env.scope.kind == .function && env.kindOf n == some .cell) then (n,NameKind.cell) else (n,k)).lookup x=some .free)->names.lookup x=some .free
 | [],_,h=>by rcases h with h | h <;> simp at h
 | (n,k) :: r,hc,h=>by
  have a:=@afo env x r fun y b=>hc y (aB4 _ b)
  rw [aG2]
  simp only [aD0] at h
  by_cases hq:(k == NameKind.free && env.scope.kind == .function && env.kindOf n == some .cell)=true
  ·rw [aE8 hq] at h
   have c:k=NameKind.free:=by
    have:=hq;simp only [aG4] at this;simpa using this.1.1
   subst c
   cases hx:(x == n) with
   | true=>rfl
   | false=>simp only [aG2,hx] at h;exact a h
  ·rw [aE9 hq] at h
   cases hx:(x == n) with
   | true =>
    simp only [aG2,hx] at h
    rcases h with h | h
    ·cases h;exact absurd rfl (hc (n,NameKind.cell) aB7)
    ·exact h
   | false=>simp only [aG2,hx] at h;exact a h
theorem aec {env:Env} {x:Str}:∀ {names:List (Str × NameKind)},names.lookup x=some .free ->
  ((names.map fun (n,k)=>if (k == NameKind.free && env.scope.kind == .function && env.kindOf n == some .cell) then (n,NameKind.cell) else (n,k)).lookup x=some .cell ∨
   (names.map fun (n,k)=>if (k == NameKind.free && env.scope.kind == .function && env.kindOf n == some .cell) then (n,NameKind.cell) else (n,k)).lookup x=some .free)
 | [],h=>by simp at h
 | (n,k) :: r,h=>by
  have a:=@aec env x r
  rw [aG2] at h
  simp only [aD0]
  by_cases hq:(k == NameKind.free && env.scope.kind == .function && env.kindOf n == some .cell)=true
  ·rw [aE8 hq]
   cases hx:(x == n) with
   | true=>left;simp [aG2,hx]
   | false=>rw [hx] at h;simp only [aG2,hx];exact a h
  ·rw [aE9 hq]
   cases hx:(x == n) with
   | true=>rw [hx] at h;right;simp only [aG2,hx];exact h
   | false=>rw [hx] at h;simp only [aG2,hx];exact a h
def Cx.comp (X:Cx) (N:List Str) (sc:Scope) (C:Addr) (s0:Shared) (H0:Hp) (ex:List Addr):Cx where
 prog:=X.prog
 w:=X.w
 K:=X.K
 mg:=X.mg
 base:=X.base
 A:=X.A
 N:=N
 s₀:=s0
 H₀:=H0
 env:=compEnvC sc (clos X.env sc.names []) C X.env
 outer:=X.stack
 stack:=X.stack
 ex:=ex
 fn:=fun _=>false
 calm:=X.calm
 pn:=[]
 xe:=fun _ _=>False
def pick (src:List (Option Nat)) (σ:St):St:=src.map fun o=>match o with | some j=>(σ[j]?).getD none | none=>none
structure LcOk (X:Cx) (N:List Str) (sc:Scope) (src:List (Option Nat)):Prop where
 kind:sc.kind=.function
 nocell:∀ y∈sc.names,y.2 ≠ .cell
 own:∀ y∈sc.names,y.2=.local->sc.names.lookup y.1=some .local
 outs:∀ y∈sc.names,y.2=.free->X.env.kindOf y.1=some .cell\/X.env.kindOf y.1=some .free
 len:src.length=N.length
 from':∀ (i j:Nat),src[i]?=some (some j)->∃ x,N[i]?=some x/\X.N[j]?=some x/\sc.names.lookup x=some .free
theorem LcOk.clo {X:Cx} {N:List Str} {sc:Scope} {src:List (Option Nat)} (L:LcOk X N sc src) (ok:X.Ok):closureFor sc X.env=pure (clos X.env sc.names []) :=
 ahk fun n hn=>ok.has n (L.outs (n,.free) hn rfl)
theorem asx {X:Cx} {pins:List (Addr × Obj)} {σ:St} {H:Hp} {s:Shared} {N:List Str} {sc:Scope} {src:List (Option Nat)} {fp:List Addr} {n:Heap} {t':Nat}
  (L:LcOk X N sc src) (I:Inv X pins σ H s) (hf:∀ b∈fp,FpOk X pins H b) (f:∀ b∈fp,b < s.heap.objs.size)
  (hn:n.Ns s.heap.objs.size fun _=>none) (g:∀ b o,s.heap.get? b=some o->n.get? b=some o) :
  Inv (X.comp N sc s.heap.objs.size s H fp) [] (pick src σ) H { s with heap:=n,toks:=t' }:=by
 have look:∀ {x c},(clos X.env sc.names []).lookup x=some c->X.env.cells.lookup x=some c:=fun {x c} e=>by
  rcases aea e with z | z
  ·exact z
  ·simp at z
 refine ⟨⟨I.ok.mod,L.kind,I.ok.glob,I.ok.blt,aA6 _,fun x y c h a=>?_,fun x O=>?_,fun x c z _=>?_,I.ok.hd,I.ok.frames,.inl rfl,fun b hb=>⟨?_,fun x c e=>?_⟩,I.bs,aC9 I.ok.bsz I.sz,fun b o e hb=>?_,fun b hb z=>?_,I.stack,I.stkFree⟩,
  rfl,I.bare,Un.kept g,⟨_,hn,fun i x v h a P=>?_⟩,fun x c e=>?_,I.hok.fresh (aA6 _),fun x c e=>I.freeC x c (look e),fun p J=>?_,I.hok.kept g,?_⟩
 ·exact I.ok.inj x y c (look h) (look a)
 ·have q:=afo (env:=X.env) (x:=x) L.nocell O
  exact ad4 (I.ok.has x (L.outs (x,.free) (PySem.mem_of_lookup q) rfl)) (PySem.mem_of_lookup q)
 ·exact Bool.noConfusion z
 ·exact aB5 (f b hb)
 ·exact (hf b hb).2.2.2.2.1 x c (look e)
 ·rcases (hf b hb).2.2.2.1 with z | z
  ·exact I.ok.noex b o e z
  ·exact absurd (aC4 (aI3 e) (aC9 I.ok.bsz z)) (aF7 _)
 ·rcases aA8.mp (I.stkSub b z) with q | q
  ·exact (hf b hb).2.1 q
  ·exact (hf b hb).2.2.1 q
 ·unfold pick at a
  rw [aA5] at a
  cases q:src[i]? with
  | none=>rw [q] at a;cases a
  | some o =>
   rw [q] at a
   cases o with
   | none=>cases a
   | some j =>
    obtain ⟨y,D,K,w⟩:=L.from' i j q
    have B:N[i]?=some x:=h
    rw [B] at D
    cases D
    have G : σ[j]?=some (some v):=by
     cases q2 : σ[j]? with
     | none=>simp [q2] at a
     | some z=>simp [q2] at a;rw [a]
    have f:=L.outs (x,.free) (PySem.mem_of_lookup w) rfl
    have A:Vis X.env.scope x:=by
     rcases f with z | z
     ·exact .inr (.inl z)
     ·exact .inr (.inr z)
    obtain ⟨m,_,M⟩:=I.loc
    obtain ⟨u,r,l⟩:=M j x v K G A
    refine ⟨u,r,.inr ⟨?_,?_⟩⟩
    ·exact aec (env:=X.env) w
    ·rcases l with ⟨z,_⟩ | ⟨_,c,E,oc,d,hd⟩
     ·rcases f with C | C <;> (rw [C] at z;cases z)
     ·obtain ⟨Q,F⟩:=ad4 (env:=X.env) ⟨c,E⟩ (PySem.mem_of_lookup w) (cs:=[])
      have:=look F
      rw [E] at this;cases this
      exact ⟨c,F,oc,g c oc d,hd⟩
 ·obtain ⟨v,oc,d,hd⟩:=I.cell x c (look e)
  exact ⟨v,oc,g c oc d,hd⟩
 ·exact absurd (show p∈([]:List (Addr × Obj)) from J) (by simp)
 ·show (pick src σ).length=N.length
  unfold pick
  rw [aA3]
  exact L.len
def PIf (X:Cx) (ifs:List Expr) (t:TT):Prop :=
 ∀ (pins:List (Addr × Obj)) (s:Shared) (σ:St) (H:Hp) (Q:Bool->Hp->Prop),Inv X pins σ H s->t σ H Q ->
  wpAny (model X.prog X.w) X.A (forIn ifs true fun c r=>if r=true then do let ok ← isTrue c X.env (eval c X.env);pure (ForInStep.yield ok) else pure (ForInStep.yield r)) (TP X pins σ Q) X.xe s
def tYes:TT:=fun _ H Q=>Q true H
theorem ab4 {X:Cx}:PIf X [] tYes:=fun _ _ _ H _ I h=>wpAny_tests_nil ⟨H,I,h⟩
theorem anj {X:Cx} {c:Expr} {t:TT} (h:PT X c t):PIf X [c] t:=fun pins s σ H Q I q=>wpAny_tests_one (h pins s σ H Q I q)
abbrev LW:=Nat->Nat->List V->St->Hp->Prop
def afp (J:It) (g:TG) (tif:TT) (te:TE) (acc:Addr) (Qd:List V->Hp->Prop) (W:LW):Prop:=∀ (i m:Nat) (ys:List V) (σ:St) (H:Hp),W i m ys σ H->H acc=some (.lst ys)/\((J.stop i H/\Qd ys H)\/(J.go i H /\
 ∃ Nx:List V->St->Hp->Prop,(∀ ys' σ' H',Nx ys' σ' H'->∃ m',m' < m/\W (i+1) m' ys' σ' H')/\∀ x H2,J.yld i H x H2 ->
 g x σ H2 fun σ3 H3=>tif σ3 H3 fun b H4=>if b=true then te σ3 H4 fun y H5=>H5 acc=some (.lst ys)/\ys.length < sizeLine/\Nx (ys ++ [y]) σ3 (upd H5 acc (.lst (ys ++ [y]))) else Nx ys σ3 H4))
theorem aqu {X:Cx} {tg v E:Expr} {B:List Expr} {sc:Scope} {S:Pos} {J:It} {fp:List Addr} {it:Addr} {tn:Nat->Heap->Prop} {g:TG} {N:TT} {te:TE} {a:Addr} {Qd:List V->Hp->Prop} {W:LW} {R:Result->Shared->Prop}
  (T:Turn X.prog X.w X.K tg J fp it tn) (hc:X.calm=true) (p:∀ e s,¬ X.xe e s) (hg:PG X tg g) (a0:PIf X B N) (he:PE X E te)
  (P:afp J g N te a Qd W) (hR:∀ ys σ H s,Inv X [] σ H s->Qd ys H->R (.ok .next) s)
  {i m:Nat} {ys:List V} {σ:St} {H:Hp} {s:Shared} (I:Inv X [] σ H s) (st:tn i s.heap) (hf:∀ b∈fp,FpOk X [] H b) (w:W i m ys σ H) :
  codeAny (model X.prog X.w) X.A (.compLoop (.ListComp E [⟨tg,v,B,0⟩] sc S) 0 (.ref it) (.ref a) X.env) R s:=by
 have h:∀ {H':Hp},(∀ b∈fp,H' b=none)->∀ b∈fp,FpOk X [] H' b:=fun hn b hb=>⟨hn b hb,(hf b hb).2⟩
 refine codeAny_loop rfl (fun n j=>∃ i ys f H',Inv X [] f H' j/\tn i j.heap/\(∀ b∈fp,H' b=none)/\W i n ys f H') ?_ m ⟨i,ys,σ,H,I,st,fun b hb=>(hf b hb).1,w⟩
 rintro n s1 ⟨i,ys,c,Z,I1,F,O,w1⟩
 show wpAny _ X.A ((compTurn (.ListComp E [⟨tg,v,B,0⟩] sc S) 0 (.ref it) (.ref a) X.env).onRaise (fun x=>do noteFrame x X.env;theTreesLotGoes x)) _ _ s1
 refine wpAny_noted ?_
 rw [compTurn_list]
 refine aI0 (wpAny_standAt (aI0 ?_))
 obtain ⟨a3,⟨stop,qd⟩ | ⟨go,Nx,L,step⟩⟩:=P i n ys c Z w1
 ·refine thn (T.done X rfl rfl rfl hc i [] s1 c Z _ I1 (h O) F stop) fun r s2 ⟨hr,I2⟩=>?_
  subst hr
  exact aI1 (hR ys c Z s2 I2 qd)
 ·refine thn (T.item X rfl rfl rfl hc i [] s1 c Z _ I1 (h O) F go) fun r s2 ⟨u,hr,h2⟩=>?_
  subst hr
  refine aI0 (thn h2 fun _ s3 ⟨x,H3,I3,r3,y3,D,a2⟩=>?_)
  have a1:=I3.pinned (h a2) (T.obj _ _ D)
  refine aI0 (aI7 (hg _ s3 c H3 x u _ a1 r3 (step x H3 y3)) (fun _ s4 ⟨C,H4,I4,q4⟩=>?_) fun e j z=>(p e j z).elim)
  have q:∀ {l:St} {G:Hp} {M:Shared} {zs:List V},Inv X ([] ++ afj fp s3.heap) l G M->(∃ U,U < n/\W (i+1) U zs l G)->∃ m,m < n/\∃ i ys f H',Inv X [] f H' M/\tn i M.heap/\(∀ b∈fp,H' b=none)/\W i m ys f H':=fun {l G M zs} Q w7=>by
   obtain ⟨U,hm,w7⟩:=w7
   refine ⟨U,hm,i+1,zs,l,G,Q.unpinned,T.keep _ _ _ D fun b hb o e=>(Q.pin (b,o) (aB2 _ (aB2 _ (adn hb e)))).1,fun b hb=>?_,w7⟩
   obtain ⟨o,e,d⟩:=T.obj _ _ D b hb
   exact (Q.pin (b,o) (aB2 _ (aB2 _ (adn hb e)))).2.1
  refine aI0 (aI7 (a0 _ s4 C H4 _ I4 q4) (fun b s5 ⟨H5,I5,Y⟩=>?_) fun e j z=>(p e j z).elim)
  cases b with
  | false =>
   rw [aE9 aA9] at Y
   exact aI1 ⟨rfl,q I5 (L _ _ _ Y)⟩
  | true =>
   rw [aE8 rfl] at Y
   refine aI0 (aI0 (aI7 (he _ s5 C H5 _ I5 Y) (fun yv s6 ⟨y,H6,I6,r6,a6,l6,w6⟩=>?_) fun e j z=>(p e j z).elim))
   have ap:=abp (X:=X) _ s6 C H6 (.ref a) [y] (.ref a) [yv] (fun _ H'=>H'=upd H6 a (.lst (ys ++ [y]))) I6 rfl (.cons r6 .nil) ⟨a,ys,y,rfl,rfl,a6,l6,rfl⟩
   refine aI0 (aI7 ap (fun _ M ⟨v7,G,Q,_,e7⟩=>?_) fun e j z=>(p e j z).elim)
   subst e7
   exact aI1 (aI1 ⟨rfl,q Q (L _ _ _ w6)⟩)
def tLC (src:List (Option Nat)) (wi:TI) (g:TG) (tif:TT) (te:TE):TE:=fun σ H Q=>wi σ H fun J H1=>∀ acc,H1 acc=none->∃ W:LW,(∃ m,W 0 m [] (pick src σ) (upd H1 acc (.lst [])))/\afp J g tif te acc (fun _ H'=>Q (.ref acc) H') W
section
variable {X:Cx} {N:List Str} {tg iter elt:Expr} {ifs:List Expr} {sc:Scope} {src:List (Option Nat)} {wi:TI} {g:TG} {tif:TT} {te:TE} {pos:Pos}
theorem avs (hc:X.calm=true) (L:LcOk X N sc src) (hg:∀ C q B ex,PG (X.comp N sc C q B ex) tg g) (M:∀ C q B ex,PIf (X.comp N sc C q B ex) ifs tif) (he:∀ C q B ex,PE (X.comp N sc C q B ex) elt te)
  {pins:List (Addr × Obj)} {d:Shared} {σ:St} {H3:Hp} {Q:VK} (j:Inv X pins σ H3 d) {it a:Addr} {fp:List Addr} {J:It} {tn:Nat->Heap->Prop} (T:Turn X.prog X.w X.K tg J fp it tn) (r:tn 0 d.heap) (l:∀ b∈fp,FpOk X pins H3 b)
  {W:LW} {m0:Nat} (Z:W 0 m0 [] (pick src σ) H3) (G:afp J g tif te a (fun _ H'=>Q (.ref a) H') W) (use:Option (Value->Sem Unit)) (P:Value->Shared->Prop)
  (hP:∀ C H' f m,Inv X pins σ H' f->Q (.ref a) H'->f.heap.Ns C m->H' C=none->C ≠ X.env.locals->(C∈X.ex\/X.s₀.heap.objs.size<=C)->(∀ x c,X.env.cells.lookup x=some c->c ≠ C)->(∀ p∈X.pn ++ pins,p.1 ≠ C) ->
   compPost (model X.prog X.w) X.A X.xe use P (.ref a) C (.ok .next) f) :
  wpAny (model X.prog X.w) X.A (newFunctionEnv sc X.env.globals (clos X.env sc.names []) [] X.env.qual none .none (some X.env)) (fun h u =>
    codeAny (model X.prog X.w) X.A (.compStart (.ListComp elt [⟨tg,iter,ifs,0⟩] sc pos) 0 (.ref it) (.ref a) { h with scope:=relabel sc X.env }) (compPost (model X.prog X.w) X.A X.xe use P (.ref a) h.locals) u) X.xe d:=by
 refine wpAny_newFunctionEnv L.nocell (by intro y hy;simp at hy) (fun S F s=>?_) L.kind
 have I:∀ b∈fp,b < d.heap.objs.size:=fun b hb=>by
  obtain ⟨o,O,_⟩:=T.obj _ _ r b hb
  exact aI3 O
 have D:∀ b o,d.heap.get? b=some o->S.get? b=some o:=fun b o e=>s.extBut b o (aB5 (aI3 e)) (aI2 _ e)
 have H:=asx (t':=d.toks+([]:List (Str × Value)).length) L j l I (by simpa using F) D
 have n:tn 0 S:=T.keep _ _ _ r fun b _ o e=>D b o e
 have Y:∀ b∈fp,FpOk (X.comp N sc d.heap.objs.size d H3 fp) [] H3 b:=fun b hb =>
  ⟨(l b hb).1,(H.ok.exf b hb).1,H.ok.exfs b hb,.inl hb,(H.ok.exf b hb).2,fun p R=>absurd (show p∈([]:List (Addr × Obj)) from R) (by simp)⟩
 have fin:∀ (ys:List V) E H' f,Inv (X.comp N sc d.heap.objs.size d H3 fp) [] E H' f->Q (.ref a) H'->compPost (model X.prog X.w) X.A X.xe use P (.ref a) d.heap.objs.size (.ok .next) f:=fun ys E H' f i q'=>by
  have U:Inv X pins σ H' f:=j.call' (ch:=fp) i.os i.base i.hok i.bare fun b hb=>⟨(l b hb).2.2.2.1,(l b hb).2.1,(l b hb).2.2.2.2.1,(l b hb).2.2.2.2.2⟩
  obtain ⟨m,hn,_⟩:=i.loc
  refine hP _ H' f m U q' hn i.free (Nat.ne_of_gt j.lt) (.inr j.sz) (fun x c e z=>?_) fun p R z=>?_
  ·obtain ⟨v,o,O,_⟩:=j.cell x c e
   exact absurd (aI3 O) (by rw [z];exact aF7 _)
  ·exact absurd (aI3 (j.pin p R).1) (by rw [z];exact aF7 _)
 have loop:codeAny (model X.prog X.w) X.A (.compLoop (.ListComp elt [⟨tg,iter,ifs,0⟩] sc pos) 0 (.ref it) (.ref a) (X.comp N sc d.heap.objs.size d H3 fp).env)
   (compPost (model X.prog X.w) X.A X.xe use P (.ref a) d.heap.objs.size) { d with heap:=S,toks:=d.toks+([]:List (Str × Value)).length } :=
  aqu (X:=X.comp N sc d.heap.objs.size d H3 fp) T hc (fun _ _ z=>z) (hg _ _ _ _) (M _ _ _ _) (he _ _ _ _) G fin H n Y Z
 exact codeAny_compStart_list loop (T.self _ 0 _ _ _ n loop)
theorem ak6 (M:X.calm=true) (L:LcOk X N sc src) (hi:PI X tg iter wi) (K:∀ C j f ex,PG (X.comp N sc C j f ex) tg g) (q:∀ C j f ex,PIf (X.comp N sc C j f ex) ifs tif) (S:∀ C j f ex,PE (X.comp N sc C j f ex) elt te)
  {pins:List (Addr × Obj)} {s:Shared} {σ:St} {H:Hp} {Q:VK} (I:Inv X pins σ H s) (h:tLC src wi g tif te σ H Q) (use:Option (Value->Sem Unit)) (P:Value->Shared->Prop)
  (R:∀ d C H' r m,Inv X pins σ H' r->Q (.ref d) H'->r.heap.Ns C m->H' C=none->C ≠ X.env.locals->(C∈X.ex\/X.s₀.heap.objs.size<=C)->(∀ x c,X.env.cells.lookup x=some c->c ≠ C)->(∀ p∈X.pn ++ pins,p.1 ≠ C) ->
   compPost (model X.prog X.w) X.A X.xe use P (.ref d) C (.ok .next) r)
  (B:∀ x,foldedSetIterable iter X.env x=pure x) :
  wpAny (model X.prog X.w) X.A (comprehension (.ListComp elt [⟨tg,iter,ifs,0⟩] sc pos) sc X.env (firstIterPos [⟨tg,iter,ifs,0⟩] pos) (newList []) false (eval iter X.env) use) P X.xe s:=by
 refine wpAny_comprehension_free rfl B (L.clo I.ok) L.kind L.own (thn (hi pins s σ H _ I h) fun v s1 G=>thn G fun O s2 E=>?_)
 obtain ⟨it,fp,tn,J,H2,e,z,T,a,y,U⟩:=E
 subst e
 have i:H2 s2.heap.objs.size=none:=z.hok.fresh (aA6 _)
 obtain ⟨W,⟨Y,D⟩,l⟩:=U s2.heap.objs.size i
 have n:∀ b∈fp,b < s2.heap.objs.size:=fun b hb=>by
  obtain ⟨o,F,_⟩:=T.obj _ _ a b hb
  exact aI3 F
 refine aI8 ?_
 refine avs M L K q S (H3:=upd H2 s2.heap.objs.size (.lst [])) ?_ T ?_ ?_ D l use P (R _)
 ·exact z.laid (t':=s2.toks) (fun b u e=>aI2 _ e) (aA6 _) ⟨aF3 _,[],0,.nil,aI4 _ rfl⟩
 ·exact T.keep _ _ _ a fun b _ o e=>aI2 _ e
 ·exact fun b hb=>⟨by rw [aad (aB5 (n b hb))];exact (y b hb).1,(y b hb).2⟩
theorem acy (u:X.calm=true) (L:LcOk X N sc src) (hi:PI X tg iter wi) (p:∀ C c a ex,PG (X.comp N sc C c a ex) tg g) (f:∀ C c a ex,PIf (X.comp N sc C c a ex) ifs tif) (w:∀ C c a ex,PE (X.comp N sc C c a ex) elt te)
  (j:∀ x,foldedSetIterable iter X.env x=pure x:=by intro _;rfl):PE X (.ListComp elt [⟨tg,iter,ifs,0⟩] sc pos) (tLC src wi g tif te):=by
 intro pins s σ H Q I h
 rw [eval_ListComp]
 refine ak6 u L hi p f w I h none _ (fun i C H' r m J q hn y n v d l=>?_) j
 refine ⟨m,hn,fun h' sb=>⟨.ref i,H',?_,rfl,q⟩⟩
 exact J.turned (t':=r.toks) (fun b o hb e=>sb.extBut b o hb e) y n v d l
end
section
variable {X:Cx} {N:List Str} {tg iter elt:Expr} {ifs:List Expr} {sc:Scope} {src:List (Option Nat)} {wi:TI} {g:TG} {tif:TT} {te:TE} {pos spos px:Pos}
theorem ak7 {i:Nat} {x:Str} (G:X.N.Nodup) (l:X.N[i]?=some x) (O:Loc X.env.scope x) (M:X.calm=true) (L:LcOk X N sc src) (hi:PI X tg iter wi) (K:∀ C j f ex,PG (X.comp N sc C j f ex) tg g)
  (n:∀ C j f ex,PIf (X.comp N sc C j f ex) ifs tif) (P:∀ C j f ex,PE (X.comp N sc C j f ex) elt te)
  (w:swapsWith (.ListComp elt [⟨tg,iter,ifs,0⟩] sc pos) (some (.Name x px)) spos.line X.env=pure true:=by rfl)
  (hf:X.fn x=true\/X.env.scope.names.lookup x=some .local:=by first | exact .inl rfl | exact .inr rfl | assumption)
  (E:∀ x,foldedSetIterable iter X.env x=pure x:=by intro _;rfl):PS X (.Assign [.Name x px] (.ListComp elt [⟨tg,iter,ifs,0⟩] sc pos) spos) (tAsg (tLC src wi g tif te) (abr i)):=by
 intro pins s σ H D I h
 rw [exec_Assign_Name_used _ _ _ _ w]
 refine aI0 (wpAny_standAt (aI0 ?_))
 show wpAny _ X.A (do let _ ← comprehension (.ListComp elt [⟨tg,iter,ifs,0⟩] sc pos) sc X.env _ (newList []) false (eval iter X.env) (some (assign (.Name x px) X.env))) _ _ s
 refine aI0 (aI7 (ak6 M L hi K n P I h (some (assign (.Name x px) X.env)) (fun _ p=>SP X pins D .next p) (fun d C H' p m J q hn R B r c F=>?_) E) (fun _ p S=>aI1 (aI1 S)) fun _ _ e=>e)
 show wpAny _ X.A (assign (.Name x px) X.env (.ref d)) _ _ _
 refine wpAny_assign_Name (aja J G l O (v:=.ref d) rfl (fun s2 Q ⟨a,sb,ha⟩=>?_) hf)
 have u:C ≠ a:=by
  rcases ha with z | z
  ·rw [z];exact B
  ·exact (c x a z).symm
 refine ⟨m,hn.sameBut sb u,fun h' y=>⟨_,H',?_,q⟩⟩
 exact Q.turned (t':=s2.toks) (fun b o hb e=>y.extBut b o hb e) R B r c F
end
section
variable {g:TG} {tif:TT} {te:TE} {acc:Addr} {Qd:List V->Hp->Prop} {σ0:St} {H0:Hp}
theorem asz {lo:Int} {n:Nat} (c:Nat->List V->St->Hp->Prop) (l:c 0 [] σ0 H0) (ha:∀ i ys σ H,c i ys σ H->H acc=some (.lst ys))
  (h:∀ i ys σ H,i < n->c i ys σ H->g (.int (lo+i)) σ H fun a H3=>tif a H3 fun b d=>if b=true then te a d fun y f=>f acc=some (.lst ys)/\ys.length < sizeLine/\c (i+1) (ys ++ [y]) a (upd f acc (.lst (ys ++ [y]))) else c (i+1) ys a d)
  (hd:∀ ys σ H,c n ys σ H->Qd ys H):∃ W:LW,(∃ m,W 0 m [] σ0 H0)/\afp (Itr lo n) g tif te acc Qd W:=by
 refine ⟨fun i m ys σ H=>m=n - i/\i<=n/\c i ys σ H,⟨n,by simp,aF3 _,l⟩,?_⟩
 rintro i m ys σ H ⟨rfl,hi,p⟩
 refine ⟨ha i ys σ H p,?_⟩
 by_cases hlt:i < n
 ·refine .inr ⟨hlt,c (i+1),fun o q H' j=>⟨n - (i+1),by omega,rfl,hlt,j⟩,fun x H' y=>?_⟩
  obtain ⟨e,y⟩:=y
  subst e y
  exact h i ys σ _ hlt p
 ·have e:i=n:=by omega
  subst e
  exact .inl ⟨aA6 _,hd ys σ H p⟩
end
section
variable {X:Cx} {N:List Str} {t1 i1 t2 i2 elt:Expr} {f1 f2:List Expr} {sc:Scope} {src:List (Option Nat)} {wi wi2:TI} {g g2:TG} {tif tif2:TT} {te:TE} {pos:Pos}
end
def rLen (K:Frag):List V->Hp->VK->Prop:=fun xs H Q=>∃ p ys,xs=[.ref p]/\(SqL K H p ys\/SqT K H p ys)/\Q (.int ys.length) H
theorem abq {X:Cx}:aa2 X (.builtin "len") (rLen X.K):=aky
def akh:List V->Hp->VK->Prop:=fun xs H Q=>∃ i j,xs=[.int i,.int j]/\Q (.int (if j > i then j else i)) H
def aki:List V->Hp->VK->Prop:=fun xs H Q=>∃ i j,xs=[.int i,.int j]/\Q (.int (if j < i then j else i)) H
theorem aca {X:Cx} (a:X.calm=true):aa2 X (.builtin "max") akh:=aqb a
theorem acb {X:Cx} (a:X.calm=true):aa2 X (.builtin "min") aki:=aqc a
def ao6:List V->Hp->VK->Prop:=fun xs H Q=>(∃ i,xs=[.int i]/\Q (.int i) H)\/∃ k,xs=[.bl k]/\Q (.int (if k then 1 else 0)) H
theorem ao7 {X:Cx}:aa2 X (.type "int") ao6:=aqd
section
variable {σ:St} {H:Hp} {D:Ends} {K:Frag}
theorem aye {t u:TS} (h:t { D with nx:=u D } σ H):tSeq t u D σ H:=h
theorem ayf {te:TE} {g:TG} (h:te σ H fun x a=>g x σ a D.nx):tAsg te g D σ H:=h
theorem ayg {te:TE} (h:te σ H D.rt):tRet te D σ H:=h
theorem avt {te:TE} (h:te σ H fun _ a=>D.nx σ a):aon te D σ H:=h
theorem avu (h:D.nx σ H):aom D σ H:=h
theorem ayh {c:TT} {t u:TS} (h:c σ H fun b a=>if b=true then t D σ a else u D σ a):tIfS c t u D σ H:=h
theorem aij {i:Nat} {v:V} {Q:St->Hp->Prop} (h:Q (σ.set i (some v)) H):abr i v σ H Q:=h
theorem avv {to a:TE} {t:TSet} {v:V} {Q:St->Hp->Prop} (h:to σ H fun o b=>a σ b fun i H2=>t o i v H2 fun H3=>Q σ H3):gSub to a t v σ H Q:=h
theorem aqv {i:Nat} {v:V} {Q:VK} (a : σ[i]?=some (some v)) (h:Q v H):tVar i σ H Q:=⟨v,a,h⟩
theorem go_c {v:V} {Q:VK} (h:Q v H):tC v σ H Q:=h
theorem az8 {r:R2} {a b:TE} {Q:VK} (h:a σ H fun x c=>b σ c fun y H2=>r x y H2 Q):tOp r a b σ H Q:=h
theorem avw {t:TE} {Q:Bool->Hp->Prop} (h:t σ H fun x H'=>∃ k,x=.bl k/\Q k H'):aou t σ H Q:=h
theorem az9 {k:Bool} {Q:Bool->Prop} (h:Q k):∃ a,V.bl k=.bl a/\Q a:=⟨k,rfl,h⟩
theorem ayi {t u:TT} {Q:Bool->Hp->Prop} (h:t σ H fun c a=>if c=true then u σ a Q else Q false a):tAnd t u σ H Q:=h
theorem aik {a:TE} {tr:TA} {Q:List V->Hp->Prop} (h:a σ H fun x b=>tr σ b fun xs H2=>Q (x :: xs) H2):aa1 a tr σ H Q:=h
theorem afq {Q:List V->Hp->Prop} (h:Q [] H):tNil σ H Q:=h
theorem ayj {t:TA} {Q:VK} (h:t σ H fun xs a=>xs.length<=sizeLine/\∀ p,a p=none->Q (.ref p) (upd a p (.tup xs))):tTup t σ H Q:=h
theorem aqw {t:TA} {Q:VK} (h:t σ H fun xs a=>xs.length<=sizeLine/\∀ p,a p=none->Q (.ref p) (upd a p (.lst xs))):tLst t σ H Q:=h
theorem a0a {r:List V->Hp->VK->Prop} {t:TA} {Q:VK} (h:t σ H fun vs a=>r vs a Q):tCB r t σ H Q:=h
theorem avx {sp:Sp} {E:XK} {t:TA} {Q:VK} (h:t σ H fun vs a=>sp vs a Q E):abx sp [] E t σ H Q:=by
 unfold abx
 simp only [aE5]
 exact h
theorem go_I {C:Int->Int->Prop} {g:Int->Int->V} {i j:Int} {Q:VK} (a:C i j) (h:Q (g i j) H):rI C g (.int i) (.int j) H Q:=⟨i,j,rfl,rfl,a,h⟩
theorem a0b {g:Int->Int->V} {i j:Int} {Q:VK} (h:Q (g i j) H):rI0 g (.int i) (.int j) H Q:=⟨i,j,rfl,rfl,h⟩
theorem aqx {i j:Int} {Q:VK} (h:Q (.bl (decide (i=j))) H):rEq (.int i) (.int j) H Q:=by
 have e:decide (V.int i=V.int j)=decide (i=j):=by rw [af3];exact Bool.beq_eq_decide_eq i j
 exact ⟨rfl,by rw [e];exact h⟩
theorem ayk {i j:Int} {Q:VK} (h:Q (.bl (!decide (i=j))) H):rNe (.int i) (.int j) H Q:=by
 have e:decide (V.int i=V.int j)=decide (i=j):=by rw [af3];exact Bool.beq_eq_decide_eq i j
 exact ⟨rfl,by rw [e];exact h⟩
theorem ayl {a:Addr} {xs:List V} {i:Int} {v:V} {Q:VK} (ha:H a=some (.lst xs)) (b:atI xs i=some v) (h:Q v H):rIxL K (.ref a) (.int i) H Q:=⟨a,xs,i,v,rfl,rfl,SqL.of ha,b,h⟩
theorem aym {a:Addr} {xs:List V} {i:Int} {v:V} {Q:VK} (ha:H a=some (.tup xs)) (b:atI xs i=some v) (h:Q v H):rIxT K (.ref a) (.int i) H Q:=⟨a,xs,i,v,rfl,rfl,SqT.of ha,b,h⟩
theorem ank {a:Addr} {xs:List V} {k:Int} {j:Nat} {v:V} {Q:Hp->Prop} (ha:H a=some (.lst xs)) (b:ixN xs.length k=some j) (h:Q (upd H a (.lst (xs.set j v)))):ao4 (.ref a) (.int k) v H Q:=⟨a,xs,k,j,rfl,rfl,ha,b,h⟩
theorem adh {a:Addr} {xs:List V} {y:V} {Q:VK} (ha:H a=some (.lst xs)) (b:xs.length < sizeLine) (h:Q .non (upd H a (.lst (xs ++ [y])))):ac7 (.ref a) [y] H Q:=⟨a,xs,y,rfl,rfl,ha,b,h⟩
theorem aqy {a b:Addr} {xs c:List V} {Q:VK} (ha:H a=some (.lst xs)) (hb:H b=some (.lst c)) (d:xs.length+c.length<=sizeLine) (h:Q .non (upd H a (.lst (xs ++ c)))):aih (.ref a) [.ref b] H Q:=⟨a,b,xs,c,rfl,rfl,ha,hb,d,h⟩
theorem ayn {r:V->List V->Hp->VK->Prop} {to:TE} {t:TA} {Q:VK} (h:to σ H fun x a=>tyV K "list" x a/\t σ a fun xs H2=>r x xs H2 Q):tBM K "list" r to t σ H Q:=h
theorem ayo {a b:Addr} {xs c:List V} {Q:VK} (ha:H a=some (.lst xs)) (hb:H b=some (.lst c)) (d:xs.length+c.length<=sizeLine) (h:∀ p,H p=none->Q (.ref p) (upd H p (.lst (xs ++ c)))):rCat (.ref a) (.ref b) H Q:=⟨a,b,xs,c,rfl,rfl,ha,hb,d,h⟩
theorem anl {a:Addr} {xs:List V} {Q:VK} (ha:H a=some (.lst xs)) (h:Q (.int xs.length) H):rLen K [.ref a] H Q:=⟨a,xs,rfl,.inl (SqL.of ha),h⟩
theorem avy {a:Addr} {xs:List V} {Q:VK} (ha:H a=some (.tup xs)) (h:Q (.int xs.length) H):rLen K [.ref a] H Q:=⟨a,xs,rfl,.inr (SqT.of ha),h⟩
theorem anm {i j:Int} {Q:VK} (h:Q (.int (if j > i then j else i)) H):akh [.int i,.int j] H Q:=⟨i,j,rfl,h⟩
theorem ann {i j:Int} {Q:VK} (h:Q (.int (if j < i then j else i)) H):aki [.int i,.int j] H Q:=⟨i,j,rfl,h⟩
theorem avz {k:Bool} {Q:VK} (h:Q (.int (if k then 1 else 0)) H):ao6 [.bl k] H Q:=.inr ⟨k,rfl,h⟩
theorem ail {c:Prop} [Decidable c] {A B:Prop} (a:c) (h:A):if decide c=true then A else B:=by rw [aD6 a];exact iteT h
theorem aim {c:Prop} [Decidable c] {A B:Prop} (a:¬ c) (h:B):if decide c=true then A else B:=by rw [aD5 a];exact iteF h
theorem adi {c:Prop} [Decidable c] {A B:Prop} (b:c->A) (a:¬ c->B):if decide c=true then A else B:=by
 by_cases hc:c
 ·exact ail hc (b hc)
 ·exact aim hc (a hc)
theorem av0 {c:Prop} [Decidable c] {A B:Prop} (b:¬ c->A) (a:c->B):if (!decide c)=true then A else B:=by
 by_cases hc:c
 ·rw [aD6 hc];exact iteF (a hc)
 ·rw [aD5 hc];exact iteT (b hc)
theorem at0 {x:V} {xs:List V}:atI (x :: xs) 0=some x:=adu (j:=0) rfl
theorem at1 {x y:V} {xs:List V}:atI (x :: y :: xs) 1=some y:=adu (j:=1) rfl
theorem at2 {x y z:V} {xs:List V}:atI (x :: y :: z :: xs) 2=some z:=adu (j:=2) rfl
theorem ixN0 {n:Nat}:ixN (n+1) 0=some 0:=by unfold ixN;rw [aE8 (by decide),aE8 (by omega)];rfl
theorem ixN1 {n:Nat}:ixN (n+2) 1=some 1:=by unfold ixN;rw [aE8 (by decide),aE8 (by omega)];rfl
theorem ixN2 {n:Nat}:ixN (n+3) 2=some 2:=by unfold ixN;rw [aE8 (by decide),aE8 (by omega)];rfl
end
structure CallOk (P:Program) (w:World) (K:Frag) (mg:Str->Option Value) (base:Heap) (x:Str) (k:Nat) (ps:List Str) (sp:Sp) (f:Addr) (fd:FuncData):Prop where
 ok:FnOk P w K mg base CX0 k f fd ps sp
 mgx:mg x=some (.ref f)
 kp:keepIn K (.ref f)=true
 bd:Binds K fd ps []
def Can (P:Program) (w:World) (K:Frag) (mg:Str->Option Value) (base:Heap) (x:Str) (k:Nat) (ps:List Str) (sp:Sp):Prop:=∃ f fd,CallOk P w K mg base x k ps sp f fd
structure DefAt (K:Frag) (mg:Str->Option Value) (x:Str) (st:Stmt) (ps:List Str) (f:Addr) (fd:FuncData):Prop where
 fn:Fun K x x st f fd
 mgx:mg x=some (.ref f)
 bd:Binds K fd ps []
theorem DefAt.can {P:Program} {w:World} {K:Frag} {mg:Str->Option Value} {base:Heap} {x:Str} {st:Stmt} {k:Nat} {ps:List Str} {sp:Sp} {f:Addr} {fd:FuncData} (D:DefAt K mg x st ps f fd) (ok:FnOk P w K mg base CX0 k f fd ps sp):Can P w K mg base x k ps sp :=
 ⟨f,fd,ok,D.mgx,D.fn.kp,D.bd⟩
section
variable {X:Cx} {k j:Nat} {ps:List Str} {sp:Sp} {x:Str} {p pos:Pos} {e:Expr} {es:List Expr} {t:TA}
theorem aag (F:Can X.prog X.w X.K X.mg X.base x k ps sp) (c:Room j X.A) (ha:PA X (e :: es) t) (d:k<=j:=by decide) (g:Gl X x:=by rfl) (b:(x == ("__debug__" : Str))=false:=by decide)
  (h:starEach (e :: es) X.env=(false,eval e X.env) :: starEach es X.env:=by rfl) (a:(backTo pos (starEach es X.env)).any (·.1)=false:=by rfl) :
  PE X (.Call (.Name x p) (e :: es) [] pos) (abx sp [] E0 t):=by
 obtain ⟨f,fd,C⟩:=F
 exact avk C.ok (c.mono d) g C.mgx C.kp C.bd .nil ao5 ha b h a
end
theorem abw {X:Cx} {N:List Str} {sc:Scope} {src:List (Option Nat)} (g:sc.kind=.function) (f:sc.names.all (fun y=>y.2 != .cell)=true) (l:sc.names.all (fun y=>y.2 != .local || sc.names.lookup y.1 == some .local)=true)
  (c:sc.names.all (fun y=>y.2 != .free || X.env.kindOf y.1 == some .cell || X.env.kindOf y.1 == some .free)=true) (h:src.length=N.length)
  (b:(List.range src.length).all (fun i=>match src[i]? with | some (some j)=>(match N[i]?,X.N[j]? with | some x,some y=>x == y && sc.names.lookup x == some .free | _,_=>false) | _=>true)=true):LcOk X N sc src:=by
 refine ⟨g,fun y a e=>?_,fun y a e=>?_,fun y a e=>?_,h,fun i j e=>?_⟩
 ·have:=aE7.mp f y a
  rw [e] at this
  exact absurd this (by decide)
 ·have:=aE7.mp l y a
  rw [e] at this
  simpa using this
 ·have:=aE7.mp c y a
  rw [e] at this
  simpa using this
 ·have hi:i < src.length:=(aA1.mp e).1
  have:=aE7.mp b i (aB8.mpr hi)
  rw [e] at this
  dsimp only at this
  cases h7:N[i]? with
  | none=>rw [h7] at this;cases this
  | some x =>
   cases h8:X.N[j]? with
   | none=>rw [h7,h8] at this;cases this
   | some y =>
    rw [h7,h8] at this
    simp only [aG4] at this
    have d:x=y:=by simpa using this.1
    subst d
    exact ⟨x,rfl,rfl,by simpa using this.2⟩
section
variable {σ:St} {H:Hp} {D:Ends} {K:Frag}
def ForW (J:It) (g:TG) (tb:TS) (D:Ends) (σ:St) (H1:Hp):Prop:=∃ W:Nat->Nat->St->Hp->Prop,(∃ m,W 0 m σ H1)/\∀ i m σ H,W i m σ H ->
 (J.stop i H/\D.nx σ H)\/(J.go i H/\∃ N:St->Hp->Prop,(∀ σ' H',N σ' H'->∃ m',m' < m/\W (i+1) m' σ' H')/\∀ x H',J.yld i H x H'->g x σ H' fun σ2 H2=>tb { D with nx:=N,ct:=N,bk:=D.nx } σ2 H2)
theorem ayp {b:TI} {g:TG} {a:TS} (h:b σ H fun J c=>ForW J g a D σ c):tFor b g a D σ H:=h
def LcW (J:It) (g:TG) (tif:TT) (te:TE) (σ0:St) (Q:VK) (H1:Hp):Prop:=∀ acc,H1 acc=none->∃ W:LW,(∃ m,W 0 m [] σ0 (upd H1 acc (.lst [])))/\afp J g tif te acc (fun _ H'=>Q (.ref acc) H') W
theorem a0c {src:List (Option Nat)} {b:TI} {g:TG} {a:TT} {te:TE} {Q:VK} (h:b σ H fun J c=>LcW J g a te (pick src σ) Q c):tLC src b g a te σ H Q:=h
def au2 (R:It->Hp->Prop):List V->Hp->Prop:=fun vs H1=>∃ j:Int,vs=[.int j]/\-(2 ^ 62)<=j/\j < 2 ^ 62/\R (Itr 0 j.toNat) H1
theorem as0 {a:TA} {R:It->Hp->Prop} (h:a σ H (au2 R)):aor a σ H R:=h
theorem ano {R:It->Hp->Prop} {j:Int} (b:0<=j) (a:j < 2 ^ 62) (h:R (Itr 0 j.toNat) H):au2 R [.int j] H:=⟨j,rfl,by omega,a,h⟩
theorem ayq {a:Addr} {xs:List V} {i:Int} {v:V} {Q:VK} (ha:SqL K H a xs) (b:atI xs i=some v) (h:Q v H):rIxL K (.ref a) (.int i) H Q:=⟨a,xs,i,v,rfl,rfl,ha,b,h⟩
theorem anp {a:Addr} {xs:List V} {Q:VK} (ha:SqL K H a xs) (h:Q (.int xs.length) H):rLen K [.ref a] H Q:=⟨a,xs,rfl,.inl ha,h⟩
theorem ayr {a:Addr} {xs:List V} {R:Prop} (ha:H a=some (.lst xs)) (h:R):tyV K "list" (.ref a) H/\R:=⟨.inl ⟨rfl,_,SqL.of ha⟩,h⟩
theorem ak8 {Q:Bool->Hp->Prop} (h:Q true H):tYes σ H Q:=h
theorem as4 {a:Addr} {xs:List V} {i:Int} {k:Nat} {y:V} {Q:VK} (ha:H a=some (.lst xs)) (c : -(2 ^ 63)<=i) (b:i < 2 ^ 63) (f:seqIndex? i xs.length=some k) (d:xs[k]?=some y) (h:Q y (upd H a (.lst (xs.eraseIdx k)))):ak1 (.ref a) [.int i] H Q :=
 ⟨a,xs,i,k,y,rfl,rfl,ha,c,b,f,d,h⟩
end
end L2
namespace L2
open PySem
theorem ab5:bootBuiltins "len" = some (.builtin "len"):=by decide +kernel
theorem ab6:bootBuiltins "max" = some (.builtin "max"):=by decide +kernel
theorem adj:bootBuiltins "min" = some (.builtin "min"):=by decide +kernel
theorem aqz:bootBuiltins "sum" = some (.builtin "sum"):=by decide +kernel
theorem acv:bootBuiltins "sorted" = some (.builtin "sorted"):=by decide +kernel
theorem abz:bootBuiltins "isinstance" = some (.builtin "isinstance"):=by decide +kernel
theorem aq0:bootBuiltins "all" = some (.builtin "all"):=by decide +kernel
theorem aq1:bootBuiltins "int" = some (.type "int"):=by decide +kernel
theorem aeq:bootBuiltins "list" = some (.type "list"):=by decide +kernel
theorem av1:bootBuiltins "dict" = some (.type "dict"):=by decide +kernel
theorem ak9:bootBuiltins "tuple" = some (.type "tuple"):=by decide +kernel
theorem anq:bootBuiltins "bool" = some (.type "bool"):=by decide +kernel
end L2
namespace TS
open PySem PyProof.Rows
def ain:Bool->Keyed->Array Keyed->Nat->Nat->Nat->StateT SortSt Sem (Option Nat):=sortPriv% PySem.Builtin.gallop
def as6:Array Keyed->Array Keyed->StateT SortSt Sem (Array Keyed):=sortPriv% PySem.Builtin.mergeLo
def as7:Array Keyed->Array Keyed->StateT SortSt Sem (Array Keyed):=sortPriv% PySem.Builtin.mergeHi
def ala:Nat->StateT SortSt Sem Bool:=sortPriv% PySem.Builtin.mergeAt
def av2:Nat->Nat->StateT SortSt Sem (Option Nat):=sortPriv% PySem.Builtin.countRun
def as8:Nat->Nat->Nat->StateT SortSt Sem Bool:=sortPriv% PySem.Builtin.binarySort
def a0d:StateT SortSt Sem Unit:=sortPriv% PySem.Builtin.sortRuns
structure Cmp (M:Model) (A:Around) (E:Value->Shared->Prop) (s:Shared) (κ:SortKind) (S:Keyed->Prop) (R:Keyed->Keyed->Bool):Prop where
 ask:∀ x y,S x->S y->∀ (Q:Option Bool->SortSt->Prop) (st:SortSt),kindOf st = κ->Q (some (R x y)) st->wpS M A E s (lt' x y) Q st
 asy:∀ x y,S x->S y->R x y=true->R y x=false
 tr:∀ x y z,S x->S y->S z->R y x=false->R z y=false->R z x=false
section
variable {M:Model} {A:Around} {E:Value->Shared->Prop} {s:Shared} {κ:SortKind} {S:Keyed->Prop} {R:Keyed->Keyed->Bool}
theorem aav {arr:Array Keyed} {i:Nat} {x:Keyed} {Q:Keyed->SortSt->Prop} {st:SortSt} (a:arr[i]?=some x) (h:Q x st):wpS M A E s (elem' arr i) Q st:=by
 rw [elem'_eq,a]
 exact wpS_pure h
theorem ac8 {x:String} {Q:Unit->SortSt->Prop} {st:SortSt} (h:Q () st):wpS M A E s (liftM (PySem.rule x):StateT SortSt Sem Unit) Q st :=
 wpS_lift (wpAny_rule ⟨rfl,h⟩)
def bey (left:Bool) (key:Keyed) (arr:Array Keyed) (base i:Nat):StateT SortSt Sem (Option Bool):=do
 let x ← elem' arr (base+i)
 if left=true then lt' x key else do
  let r ← lt' key x
  pure (Option.map (fun b => !b) r)
theorem ajj {left:Bool} {p:Keyed} {arr:Array Keyed} {base n a:Nat} {B:Nat->Bool}
  (hb:∀ i,i < n->∀ (Q:Option Bool->SortSt->Prop) (st:SortSt),kindOf st = κ->Q (some (B i)) st->wpS M A E s (bey left p arr base i) Q st)
  (mono:∀ i j,i < j->j < n->B j=true->B i=true) (hh:a < n) {Q:Option Nat->SortSt->Prop} {st:SortSt} (x:kindOf st = κ)
  (h:∀ k,k<=n->(∀ i,i < k->B i=true)->(∀ i,k<=i->i < n->B i=false)->Q (some k) st):wpS M A E s (ain left p arr base n a) Q st:=by
 have c:∀ i j,i < j->j < n->B i=false->B j=false:=fun i j y L hi=>by
  cases e:B j with
  | false=>rfl
  | true=>rw [mono i j y L e] at hi;cases hi
 -- the last loop
 have last:∀ (lo hi:Nat) (F:Option (Option Nat) × Nat × Nat->StateT SortSt Sem (Option Nat)),lo<=hi->hi<=n->(∀ i,i < lo->B i=true)->(∀ i,hi<=i->i < n->B i=false) ->
   (∀ lo hi,F (none,lo,hi)=pure (some hi)) ->
   wpS M A E s (forIn [:n] ((none,lo,hi):Option (Option Nat) × Nat × Nat) (fun (_:Nat) z=>if z.2.1 ≥ z.2.2 then pure (ForInStep.done (none,z.2.1,z.2.2)) else bey left p arr base (z.2.1+(z.2.2 - z.2.1) / 2) >>= fun r=>match r with
    | some more=>if more=true then pure (ForInStep.yield (none,z.2.1+(z.2.2 - z.2.1) / 2+1,z.2.2)) else pure (ForInStep.yield (none,z.2.1,z.2.1+(z.2.2 - z.2.1) / 2))
    | _=>pure (ForInStep.done (some none,z.2.1,z.2.2))) >>= F) Q st:=by
  intro lo hi F H G I J C
  refine wpS_bind (wpS_forRange (fun t z st'=>st'=st/\z.1=none/\z.2.1<=z.2.2/\z.2.2<=n/\z.2.2 - z.2.1+t<=n/\(∀ i,i < z.2.1->B i=true)/\(∀ i,z.2.2<=i->i < n->B i=false)) ?_ ?_ ⟨rfl,rfl,H,G,by dsimp only;omega,I,J⟩)
  ·rintro t ⟨o,l,u⟩ st' _ D ⟨rfl,e,q,d,b,g,w⟩
   dsimp only at e q d b g w ⊢
   subst e
   by_cases hlu:l ≥ u
   ·rw [aE8 hlu]
    have:l=u:=by omega
    subst this
    exact wpS_pure (by dsimp only;rw [C];exact wpS_pure (h l d g w))
   ·rw [aE9 hlu]
    have hm:l+(u - l) / 2 < u:=by omega
    refine wpS_bind (hb _ (by omega) _ _ x ?_)
    dsimp only
    cases e:B (l+(u - l) / 2) with
    | true =>
     rw [aE8 rfl]
     refine wpS_pure ⟨rfl,rfl,by dsimp only;omega,d,by dsimp only;omega,fun i hi=>?_,w⟩
     dsimp only at hi
     by_cases hi2:i=l+(u - l) / 2
     ·rw [hi2];exact e
     ·exact mono i _ (by omega) (by omega) e
    | false =>
     rw [aE9 (by simp)]
     refine wpS_pure ⟨rfl,rfl,by dsimp only;omega,by dsimp only;omega,by dsimp only;omega,g,fun i hi hn=>?_⟩
     dsimp only at hi
     by_cases hi2:i=l+(u - l) / 2
     ·rw [hi2];exact e
     ·exact c _ i (by omega) hn e
  ·rintro ⟨o,l,u⟩ st' ⟨rfl,e,q,d,b,g,w⟩
   dsimp only at e q d b g w ⊢
   subst e
   have : l = u := by have:n ≤ max 0 n := by omega
                      omega
   subst this
   rw [C]
   exact wpS_pure (h l d g w)
 refine wpS_bind (f:=fun K=>_) (m:=bey left p arr base a) (hb a hh _ st x ?_)
 dsimp only
 cases e0:B a with
 | true =>
  rw [aE8 rfl]
  refine wpS_bind ?_
  refine wpS_forRange (fun t (z:Option (Option Nat) × Nat × Nat) st'=>st'=st/\z.1=none/\z.2.1 < z.2.2/\a+z.2.1 < n/\B (a+z.2.1)=true/\t+1<=z.2.2) ?_ ?_ ⟨rfl,rfl,by decide,by dsimp only;omega,e0,Nat.le_refl _⟩
  ·rintro t ⟨o,l,u⟩ st' _ D ⟨rfl,e,q,d,b,g⟩
   dsimp only at e q d b g ⊢
   subst e
   by_cases hu:u ≥ n - a
   ·rw [aE8 hu]
    refine wpS_pure ?_
    dsimp only
    refine last _ _ _ (by omega) (by omega) (fun i hi=>?_) (fun i hi hn=>by omega) (fun _ _=>rfl)
    by_cases hi2:i=a+l
    ·rw [hi2];exact b
    ·exact mono i _ (by omega) d b
   ·rw [aE9 hu]
    refine wpS_bind (m:=bey left p arr base (a+u)) (hb _ (by omega) _ _ x ?_)
    dsimp only
    cases e1:B (a+u) with
    | true =>
     rw [aE9 (by decide)]
     exact wpS_pure ⟨rfl,rfl,by dsimp only;omega,by dsimp only;omega,e1,by dsimp only;omega⟩
    | false =>
     rw [aE8 (by decide)]
     refine wpS_pure ?_
     dsimp only
     refine last _ _ _ (by omega) (by omega) (fun i hi=>?_) (fun i hi hn=>?_) (fun _ _=>rfl)
     ·by_cases hi2:i=a+l
      ·rw [hi2];exact b
      ·exact mono i _ (by omega) d b
     ·by_cases hi2:i=a+u
      ·rw [hi2];exact e1
      ·exact c _ i (by omega) hn e1
  ·rintro ⟨o,l,u⟩ st' ⟨rfl,e,q,d,b,g⟩
   dsimp only at e q d b g ⊢
   subst e
   dsimp only
   refine last _ _ _ (by omega) (by omega) (fun i hi=>?_) (fun i hi hn=>by omega) (fun _ _=>rfl)
   by_cases hi2:i=a+l
   ·rw [hi2];exact b
   ·exact mono i _ (by omega) d b
 | false =>
  rw [aE9 (by decide)]
  refine wpS_bind ?_
  refine wpS_forRange (fun t (z:Option (Option Nat) × Nat × Nat) st'=>st'=st/\z.1=none/\z.2.1 < z.2.2/\z.2.1<=a/\B (a - z.2.1)=false/\t+1<=z.2.2) ?_ ?_ ⟨rfl,rfl,by decide,aF3 _,e0,aA6 _⟩
  ·rintro t ⟨o,l,u⟩ st' _ D ⟨rfl,e,q,d,b,g⟩
   dsimp only at e q d b g ⊢
   subst e
   have v:∀ i,a - l<=i->i < n->B i=false:=fun i hi hn=>by
    by_cases hi2:i=a - l
    ·rw [hi2];exact b
    ·exact c _ i (by omega) hn b
   by_cases hu:u ≥ a+1
   ·rw [aE8 hu]
    refine wpS_pure ?_
    dsimp only
    exact last _ _ _ (by omega) (by omega) (fun i hi=>by omega) v (fun _ _=>rfl)
   ·rw [aE9 hu]
    refine wpS_bind (m:=bey left p arr base (a - u)) (hb _ (by omega) _ _ x ?_)
    dsimp only
    cases e1:B (a - u) with
    | true =>
     rw [aE8 rfl]
     refine wpS_pure ?_
     dsimp only
     refine last _ _ _ (by omega) (by omega) (fun i hi=>?_) v (fun _ _=>rfl)
     by_cases hi2:i=a - u
     ·rw [hi2];exact e1
     ·exact mono i _ (by omega) (by omega) e1
    | false =>
     rw [aE9 (by decide)]
     exact wpS_pure ⟨rfl,rfl,by dsimp only;omega,by dsimp only;omega,e1,by dsimp only;omega⟩
  ·rintro ⟨o,l,u⟩ st' ⟨rfl,e,q,d,b,g⟩
   dsimp only at e q d b g ⊢
   subst e
   dsimp only
   refine last _ _ _ (by omega) (by omega) (fun i hi=>by omega) (fun i hi hn=>?_) (fun _ _=>rfl)
   by_cases hi2:i=a - l
   ·rw [hi2];exact b
   ·exact c _ i (by omega) hn b
end
def Srt (R:Keyed->Keyed->Bool) (l:List Keyed):Prop:=l.Pairwise fun x y=>R y x=false
structure Mid (R:Keyed->Keyed->Bool) (L out a b:List Keyed):Prop where
 perm:(out ++ a ++ b).Perm L
 so:Srt R out
 le:∀ x∈out,∀ y∈a ++ b,R y x=false
 sa:Srt R a
 sb:Srt R b
section
variable {R:Keyed->Keyed->Bool} {L out a b p:List Keyed}
theorem Mid.takeA (m:Mid R L out (p ++ a) b) (h:∀ x∈p,∀ y∈b,R y x=false):Mid R L (out ++ p) a b:=by
 have sp:=aC8.mp m.sa
 refine ⟨by have:=m.perm;rw [← aB3] at this;exact this,aC8.mpr ⟨m.so,sp.1,fun x d y c=>m.le x d y (aC6 _ (aC6 _ c))⟩,fun x d y c=>?_,sp.2.1,m.sb⟩
 rcases aA7.mp d with d | d
 ·refine m.le x d y ?_
  rcases aA7.mp c with c | c
  ·exact aC6 _ (aB2 _ c)
  ·exact aB2 _ c
 ·rcases aA7.mp c with c | c
  ·exact sp.2.2 x d y c
  ·exact h x d y c
theorem Mid.takeB (m:Mid R L out a (p ++ b)) (h:∀ x∈p,∀ y∈a,R y x=false):Mid R L (out ++ p) a b:=by
 have sp:=aC8.mp m.sb
 refine ⟨List.Perm.trans ?_ m.perm,aC8.mpr ⟨m.so,sp.1,fun x d y c=>m.le x d y (aB2 _ (aC6 _ c))⟩,fun x d y c=>?_,m.sa,sp.2.1⟩
 ·rw [← aB3 (out ++ a) p b]
  refine List.Perm.append_right b ?_
  rw [aB3,aB3]
  exact List.Perm.append_left out List.perm_append_comm
 ·rcases aA7.mp d with d | d
  ·refine m.le x d y ?_
   rcases aA7.mp c with c | c
   ·exact aC6 _ c
   ·exact aB2 _ (aB2 _ c)
  ·rcases aA7.mp c with c | c
   ·exact h x d y c
   ·exact sp.2.2 x d y c
theorem Mid.done (m:Mid R L out a b) (h:a=[]\/b=[]):(out ++ a ++ b).Perm L/\Srt R (out ++ a ++ b):=by
 refine ⟨m.perm,?_⟩
 rw [aB3]
 refine aC8.mpr ⟨m.so,?_,m.le⟩
 rcases h with h | h
 ·subst h;exact m.sb
 ·subst h;rw [aE5];exact m.sa
theorem Mid.last (m:Mid R L out a b) (h:∀ y∈b,∀ x∈a,R x y=false):(out ++ b ++ a).Perm L/\Srt R (out ++ b ++ a):=by
 refine ⟨List.Perm.trans ?_ m.perm,?_⟩
 ·rw [aB3,aB3]
  exact List.Perm.append_left out List.perm_append_comm
 ·rw [aB3]
  refine aC8.mpr ⟨m.so,aC8.mpr ⟨m.sb,m.sa,h⟩,fun x d y c=>m.le x d y ?_⟩
  rcases aA7.mp c with c | c
  ·exact aB2 _ c
  ·exact aC6 _ c
end
structure Eqv (st st':SortSt):Prop where
 k:kindOf st'=kindOf st
 a:arrOf st'=arrOf st
 p:pendingOf st'=pendingOf st
 f:failedOf st'=failedOf st
theorem Eqv.refl (st:SortSt):Eqv st st:=⟨rfl,rfl,rfl,rfl⟩
theorem Eqv.trans {a b c:SortSt} (h:Eqv a b) (g:Eqv b c):Eqv a c:=⟨g.k.trans h.k,g.a.trans h.a,g.p.trans h.p,g.f.trans h.f⟩
theorem agc (a:Array Keyed) (i:Nat):(a.extract i a.size).toList=a.toList.drop i:=by
 rw [Array.toList_extract];simp only [List.extract_eq_take_drop];exact aE6 (by simp)
theorem aio (a:Array Keyed) (i k:Nat):(a.extract i (i+k)).toList=(a.toList.drop i).take k:=by
 rw [Array.toList_extract];simp [List.extract]
theorem abm {a:Array Keyed} {i:Nat} (h:i < a.size):a.toList.drop i=a[i] :: a.toList.drop (i+1):=by
 rw [List.drop_eq_getElem_cons (by simpa using h)];simp
section
variable {M:Model} {A:Around} {E:Value->Shared->Prop} {s:Shared} {κ:SortKind} {S:Keyed->Prop} {R:Keyed->Keyed->Bool}
theorem Cmp.irr {x:Keyed} (C:Cmp M A E s κ S R) (a:S x):R x x=false:=by
 cases e:R x x with
 | false=>rfl
 | true=>have:=C.asy x x a a e;rw [e] at this;cases this
theorem afr (C:Cmp M A E s κ S R) {b:Keyed} {arr:Array Keyed} {base n l:Nat} (g:S b) (U:∀ x∈arr.toList,S x) (hn:base+n<=arr.size) (H:Srt R ((arr.toList.drop base).take n)) (hh:l < n)
  {Q:Option Nat->SortSt->Prop} {st:SortSt} (P:kindOf st = κ)
  (h:∀ k,k<=n->(∀ x∈(arr.toList.drop base).take k,R b x=false)->(∀ x∈((arr.toList.drop base).take n).drop k,R b x=true)->Q (some k) st) :
  wpS M A E s (ain false b arr base n l) Q st:=by
 have a:∀ i,i < n->∃ x,arr[base+i]?=some x/\S x/\((arr.toList.drop base).take n)[i]?=some x:=fun i hi=>by
  have p:base+i < arr.size:=by omega
  refine ⟨arr[base+i],aA4 p,U _ (by simp),?_⟩
  rw [aG8 hi,aH6]
  simp [p]
 have o:∀ i j x y,i < j->j < n->arr[base+i]?=some x->arr[base+j]?=some y->R y x=false:=fun i j x y m r ex O=>by
  obtain ⟨Y,d,_,c⟩:=a i (by omega)
  obtain ⟨X,F,_,D⟩:=a j r
  rw [ex] at d;cases d
  rw [O] at F;cases F
  obtain ⟨K,c⟩:=aA1.mp c
  obtain ⟨I,D⟩:=aA1.mp D
  have:=aG0.mp H i j K I m
  rw [c,D] at this
  exact this
 refine ajj (κ:=κ) (B:=fun i=>match arr[base+i]? with | some x => !(R b x) | none=>false) (fun i hi Q' st' w G=>?_) (fun i j m r q=>?_) hh P fun k u N L=>h k u (fun x v=>?_) fun x v=>?_
 ·obtain ⟨x,d,z,_⟩:=a i hi
  unfold bey
  refine wpS_bind (aav d ?_)
  rw [aE9 (by decide)]
  refine wpS_bind (C.ask _ _ g z _ _ w ?_)
  refine wpS_pure ?_
  simp only [d] at G
  exact G
 ·obtain ⟨x,d,z,_⟩:=a i (by omega)
  obtain ⟨y,c,J,_⟩:=a j r
  simp only [d,c] at q ⊢
  have W:=o i j x y m r d c
  have T:R b y=false:=by simpa using q
  have:=C.tr x y b z J g W T
  simp [this]
 ·obtain ⟨i,hi,e⟩:=List.getElem_of_mem v
  have f:i < k:=by rw [aG3] at hi;omega
  obtain ⟨y,d,_,c⟩:=a i (by omega)
  have hb:=N i f
  simp only [d] at hb
  have ex:x=y:=by
   have:((arr.toList.drop base).take k)[i]?=some x:=by rw [aA0 hi,e]
   rw [aG8 f] at this
   rw [aG8 (by omega)] at c
   rw [this] at c;exact aC5 c
  subst ex
  simpa using hb
 ·obtain ⟨i,hi,e⟩:=List.getElem_of_mem v
  have f:k+i < n:=by rw [List.length_drop,aG3] at hi;omega
  obtain ⟨y,d,_,c⟩:=a (k+i) f
  have hb:=L (k+i) (by omega) f
  simp only [d] at hb
  have ex:x=y:=by
   have:(((arr.toList.drop base).take n).drop k)[i]?=some x:=by rw [aA0 hi,e]
   rw [aH6] at this
   rw [this] at c;exact aC5 c
  subst ex
  simpa using hb
theorem agv (C:Cmp M A E s κ S R) {b:Keyed} {arr:Array Keyed} {base n l:Nat} (g:S b) (T:∀ x∈arr.toList,S x) (hn:base+n<=arr.size) (H:Srt R ((arr.toList.drop base).take n)) (hh:l < n)
  {Q:Option Nat->SortSt->Prop} {st:SortSt} (P:kindOf st = κ)
  (h:∀ k,k<=n->(∀ x∈(arr.toList.drop base).take k,R x b=true)->(∀ x∈((arr.toList.drop base).take n).drop k,R x b=false)->Q (some k) st) :
  wpS M A E s (ain true b arr base n l) Q st:=by
 have a:∀ i,i < n->∃ x,arr[base+i]?=some x/\S x/\((arr.toList.drop base).take n)[i]?=some x:=fun i hi=>by
  have q:base+i < arr.size:=by omega
  refine ⟨arr[base+i],aA4 q,T _ (by simp),?_⟩
  rw [aG8 hi,aH6]
  simp [q]
 have o:∀ i j x y,i < j->j < n->arr[base+i]?=some x->arr[base+j]?=some y->R y x=false:=fun i j x y m r ex O=>by
  obtain ⟨X,d,_,c⟩:=a i (by omega)
  obtain ⟨W,F,_,D⟩:=a j r
  rw [ex] at d;cases d
  rw [O] at F;cases F
  obtain ⟨K,c⟩:=aA1.mp c
  obtain ⟨I,D⟩:=aA1.mp D
  have:=aG0.mp H i j K I m
  rw [c,D] at this
  exact this
 refine ajj (κ:=κ) (B:=fun i=>match arr[base+i]? with | some x=>R x b | none=>false) (fun i hi Q' st' w G=>?_) (fun i j m r p=>?_) hh P fun k u N L=>h k u (fun x v=>?_) fun x v=>?_
 ·obtain ⟨x,d,z,_⟩:=a i hi
  unfold bey
  refine wpS_bind (aav d ?_)
  rw [aE8 rfl]
  simp only [d] at G
  exact C.ask _ _ z g _ _ w G
 ·obtain ⟨x,d,z,_⟩:=a i (by omega)
  obtain ⟨y,c,J,_⟩:=a j r
  simp only [d,c] at p ⊢
  have U:=o i j x y m r d c
  cases e:R x b with
  | true=>rfl
  | false =>
   have:=C.tr b x y g z J e U
   rw [this] at p;cases p
 ·obtain ⟨i,hi,e⟩:=List.getElem_of_mem v
  have f:i < k:=by rw [aG3] at hi;omega
  obtain ⟨y,d,_,c⟩:=a i (by omega)
  have hb:=N i f
  simp only [d] at hb
  have ex:x=y:=by
   have:((arr.toList.drop base).take k)[i]?=some x:=by rw [aA0 hi,e]
   rw [aG8 f] at this
   rw [aG8 (by omega)] at c
   rw [this] at c;exact aC5 c
  subst ex
  exact hb
 ·obtain ⟨i,hi,e⟩:=List.getElem_of_mem v
  have f:k+i < n:=by rw [List.length_drop,aG3] at hi;omega
  obtain ⟨y,d,_,c⟩:=a (k+i) f
  have hb:=L (k+i) (by omega) f
  simp only [d] at hb
  have ex:x=y:=by
   have:(((arr.toList.drop base).take n).drop k)[i]?=some x:=by rw [aA0 hi,e]
   rw [aH6] at this
   rw [this] at c;exact aC5 c
  subst ex
  exact hb
end
section
variable {M:Model} {A:Around} {E:Value->Shared->Prop} {s:Shared} {κ:SortKind} {S:Keyed->Prop} {R:Keyed->Keyed->Bool}
structure Two (S:Keyed->Prop) (R:Keyed->Keyed->Bool) (a b:Array Keyed):Prop where
 ha:∀ x∈a.toList,S x
 hb:∀ x∈b.toList,S x
 sa:Srt R a.toList
 sb:Srt R b.toList
 a0:0 < a.size
 b0:0 < b.size
 first:∀ x∈a.toList,∀ y,b[0]?=some y->R x y=false
 last:∀ y∈b.toList,∀ x,a[a.size - 1]?=some x->R x y=false
def Fin2 (R:Keyed->Keyed->Bool) (a b m:Array Keyed):Prop:=m.toList.Perm (a.toList ++ b.toList)/\Srt R m.toList
structure Lo (S:Keyed->Prop) (R:Keyed->Keyed->Bool) (a b out:Array Keyed) (ia ib:Nat):Prop where
 mid:Mid R (a.toList ++ b.toList) out.toList (a.toList.drop ia) (b.toList.drop ib)
 ia:ia<=a.size
 ib:ib<=b.size
theorem Lo.len {a b out:Array Keyed} {ia ib:Nat} (l:Lo S R a b out ia ib):out.size+(a.size - ia)+(b.size - ib)=a.size+b.size:=by
 have:=l.mid.perm.length_eq
 simp at this
 omega
theorem Lo.doneA {a b out:Array Keyed} {ia ib:Nat} (l:Lo S R a b out ia ib) (h:ib=b.size\/ia=a.size):Fin2 R a b (out ++ a.extract ia ++ b.extract ib):=by
 have:=l.mid.done (by
  rcases h with h | h
  ·right;rw [h];simp
  ·left;rw [h];simp)
 unfold Fin2
 rw [aF9,aF9,agc,agc]
 exact this
theorem aq2 {a:Array Keyed} {i:Nat} (h:i+1=a.size):a.toList.drop i=[a[a.size - 1]'(by omega)]:=by
 have hi:i < a.size:=by omega
 rw [abm hi]
 have:i=a.size - 1:=by omega
 subst this
 have e:a.toList.drop (a.size - 1+1)=[]:=by
  apply List.drop_eq_nil_of_le
  simp;omega
 rw [e]
theorem Lo.lastA {a b out:Array Keyed} {ia ib:Nat} (T:Two S R a b) (l:Lo S R a b out ia ib) (h:ia+1=a.size):Fin2 R a b (out ++ b.extract ib ++ a.extract ia):=by
 have:=l.mid.last (by
  intro y d x c
  rw [aq2 h] at c
  have ex:x=a[a.size - 1]'(by omega):=by simpa using c
  refine T.last y (aC3 d) x ?_
  rw [ex]
  exact aA4 _)
 unfold Fin2
 rw [aF9,aF9,agc,agc]
 exact this
theorem ad5 {x:Keyed} {l:List Keyed} (C:Cmp M A E s κ S R) (h:Srt R (x :: l)) (b:S x):∀ y∈x :: l,R y x=false:=by
 intro y a
 rcases aA8.mp a with e | a
 ·rw [e];exact C.irr b
 ·exact (List.pairwise_cons.mp h).1 y a
theorem Lo.pushB {a b out:Array Keyed} {ia ib:Nat} (C:Cmp M A E s κ S R) (T:Two S R a b) (l:Lo S R a b out ia ib) (hb:ib < b.size) (h:∀ x∈a.toList.drop ia,R x b[ib]=false):Lo S R a b (out.push b[ib]) ia (ib+1):=by
 refine ⟨?_,l.ia,hb⟩
 have m:=l.mid
 rw [abm hb] at m
 rw [Array.toList_push]
 exact m.takeB (p:=[b[ib]]) (fun x c y d=>by
  have:x=b[ib]:=by simpa using c
  rw [this];exact h y d)
theorem Lo.pushA {a b out:Array Keyed} {ia ib:Nat} (l:Lo S R a b out ia ib) (ha:ia < a.size) (h:∀ y∈b.toList.drop ib,R y a[ia]=false):Lo S R a b (out.push a[ia]) (ia+1) ib:=by
 refine ⟨?_,ha,l.ib⟩
 have m:=l.mid
 rw [abm ha] at m
 rw [Array.toList_push]
 exact m.takeA (p:=[a[ia]]) (fun x c y d=>by
  have:x=a[ia]:=by simpa using c
  rw [this];exact h y d)
theorem Lo.runA {a b out:Array Keyed} {ia ib k:Nat} (l:Lo S R a b out ia ib) (d:ia+k<=a.size) (h:∀ x∈(a.toList.drop ia).take k,∀ y∈b.toList.drop ib,R y x=false):Lo S R a b (out ++ a.extract ia (ia+k)) (ia+k) ib:=by
 refine ⟨?_,d,l.ib⟩
 have m:=l.mid
 rw [← aC0 k (a.toList.drop ia)] at m
 rw [aF9,aio]
 have c:=m.takeA h
 rw [List.drop_drop] at c
 exact c
theorem Lo.runB {a b out:Array Keyed} {ia ib k:Nat} (l:Lo S R a b out ia ib) (d:ib+k<=b.size) (h:∀ x∈(b.toList.drop ib).take k,∀ y∈a.toList.drop ia,R y x=false):Lo S R a b (out ++ b.extract ib (ib+k)) ia (ib+k):=by
 refine ⟨?_,l.ia,d⟩
 have m:=l.mid
 rw [← aC0 k (b.toList.drop ib)] at m
 rw [aF9,aio]
 have c:=m.takeB h
 rw [List.drop_drop] at c
 exact c
theorem aci {l:List Keyed} {i:Nat} (h:Srt R l):Srt R (l.drop i):=List.Pairwise.sublist (List.drop_sublist i l) h
theorem jpn {α β:Type} {prog : β->StateT SortSt Sem α} {P : β->Prop} {Q : α->SortSt->Prop} {st:SortSt} {G:Prop} (use:(∀ m,P m->wpS M A E s (prog m) Q st)->G) (a:∀ m,P m->wpS M A E s (prog m) Q st):G:=use a
theorem jpn2 {α:Type} {prog:Array Keyed->Nat->StateT SortSt Sem α} {P:Array Keyed->Nat->Prop} {Q : α->SortSt->Prop} {st:SortSt} {G:Prop} (use:(∀ o i,P o i->wpS M A E s (prog o i) Q st)->G) (a:∀ o i,P o i->wpS M A E s (prog o i) Q st):G:=use a
section
variable {ρ β γ δ ε ζ η:Type}
@[elab_as_elim] theorem un5 {J : β->γ->δ->ε->Prop} {G:Option ρ × β × γ × δ × ε->Prop} (z:Option ρ × β × γ × δ × ε) (h:z.1=none/\J z.2.1 z.2.2.1 z.2.2.2.1 z.2.2.2.2) (k:∀ x y u v,J x y u v->G (none,x,y,u,v)):G z:=by
 have e:z=(none,z.2.1,z.2.2.1,z.2.2.2.1,z.2.2.2.2):=by rw [← h.1]
 rw [e];exact k _ _ _ _ h.2
@[elab_as_elim] theorem un6 {J : β->γ->δ->ε->ζ->Prop} {G:Option ρ × β × γ × δ × ε × ζ->Prop} (z:Option ρ × β × γ × δ × ε × ζ) (h:z.1=none/\J z.2.1 z.2.2.1 z.2.2.2.1 z.2.2.2.2.1 z.2.2.2.2.2) (k:∀ x y u v a,J x y u v a->G (none,x,y,u,v,a)):G z:=by
 have e:z=(none,z.2.1,z.2.2.1,z.2.2.2.1,z.2.2.2.2.1,z.2.2.2.2.2):=by rw [← h.1]
 rw [e];exact k _ _ _ _ _ h.2
@[elab_as_elim] theorem un7 {J : β->γ->δ->ε->ζ->η->Prop} {G:Option ρ × β × γ × δ × ε × ζ × η->Prop} (z:Option ρ × β × γ × δ × ε × ζ × η) (h:z.1=none/\J z.2.1 z.2.2.1 z.2.2.2.1 z.2.2.2.2.1 z.2.2.2.2.2.1 z.2.2.2.2.2.2) (k:∀ x y u v a b,J x y u v a b->G (none,x,y,u,v,a,b)):G z:=by
 have e:z=(none,z.2.1,z.2.2.1,z.2.2.2.1,z.2.2.2.2.1,z.2.2.2.2.2.1,z.2.2.2.2.2.2):=by rw [← h.1]
 rw [e];exact k _ _ _ _ _ _ h.2
@[elab_as_elim] theorem unR {κ:Type} {F : ρ->Prop} {J : κ->Prop} {G:Option ρ × κ->Prop} (z:Option ρ × κ) (h:(∃ r,z.1=some r/\F r)\/(z.1=none/\J z.2)) (c:∀ r x,F r->G (some r,x)) (b:z.1=none/\J z.2->G z):G z:=by
 rcases h with ⟨r,e,a⟩ | h
 ·have e:z=(some r,z.2):=by rw [← e]
  rw [e];exact c _ _ a
 ·exact b h
end
theorem aao {c:Prop} [Decidable c] {α:Type} {a b:StateT SortSt Sem α} {Q : α->SortSt->Prop} {st:SortSt} (f:c->wpS M A E s a Q st) (d:¬ c->wpS M A E s b Q st):wpS M A E s (if c then a else b) Q st:=by
 by_cases h:c
 ·rw [aE8 h];exact f h
 ·rw [aE9 h];exact d h
theorem ao8 (C:Cmp M A E s κ S R) {a b:Array Keyed} (T:Two S R a b) {Q:Array Keyed->SortSt->Prop} {st:SortSt} (hk:kindOf st = κ)
  (h:∀ m st',Eqv st st'->Fin2 R a b m->Q m st'):wpS M A E s (as6 a b) Q st:=by
 have L:∀ i (h:i < a.size),S a[i]:=fun i h=>T.ha _ (by simp)
 have N:∀ i (h:i < b.size),S b[i]:=fun i h=>T.hb _ (by simp)
 have b0:=T.b0
 have a0:=T.a0
 refine wpS_bind (ac8 ?_)
 refine wpS_bind (aav (x:=b[0]'b0) (aA4 b0) ?_)
 have l1:Lo S R a b #[b[0]'b0] 0 1:=by
  have l0:Lo S R a b #[] 0 0:=⟨⟨by simp,List.Pairwise.nil,fun x w=>by simp at w,T.sa,T.sb⟩,aF3 _,aF3 _⟩
  exact l0.pushB C T b0 fun x w=>T.first x (by simpa using w) _ (aA4 b0)
 refine aao (fun e1=>wpS_pure (h _ _ (Eqv.refl _) (l1.doneA (.inl (aF6.mp e1))))) (fun e1=>?_)
 refine aao (fun e2=>wpS_pure (h _ _ (Eqv.refl _) (l1.lastA T (aF6.mp e2)))) (fun e2=>?_)
 replace e1:1 ≠ b.size:=fun q=>e1 (aF6.mpr q)
 replace e2:0+1 ≠ a.size:=fun q=>e2 (aF6.mpr q)
 refine wpS_bind (wpS_get ?_)
 refine wpS_bind (wpS_mono (Q:=fun (z:Option (Array Keyed) × Array Keyed × Nat × Nat × Nat) st'=>Eqv st st'/\∃ r,z.1=some r/\Fin2 R a b r) ?_ ?_)
 ·refine wpS_forRange (fun t (z:Option (Array Keyed) × Array Keyed × Nat × Nat × Nat) st'=>Eqv st st'/\z.1=none/\Lo S R a b z.2.1 z.2.2.1 z.2.2.2.1/\z.2.2.1+1 < a.size/\z.2.2.2.1 < b.size/\t+1<=z.2.1.size) ?_ ?_ ⟨Eqv.refl _,rfl,l1,by dsimp only;omega,by dsimp only;omega,by simp⟩
  ·intro t z a3 _ ht n
   have q1:=n.1
   refine un5 (J:=fun out ia ib _=>Lo S R a b out ia ib/\ia+1 < a.size/\ib < b.size/\t+1<=out.size) z n.2 fun out ia ib mg v=>?_
   dsimp only
   refine wpS_bind (wpS_mono (Q:=fun (z:Option (Array Keyed) × Array Keyed × Nat × Nat × Nat × Nat) st'=>Eqv st st'/\((∃ r,z.1=some r/\Fin2 R a b r)\/(z.1=none/\Lo S R a b z.2.1 z.2.2.1 z.2.2.2.1/\z.2.2.1+1 < a.size/\z.2.2.2.1 < b.size/\t+2<=z.2.1.size))) ?_ ?_)
   ·refine wpS_forRange (fun i (z:Option (Array Keyed) × Array Keyed × Nat × Nat × Nat × Nat) st'=>Eqv st st'/\z.1=none/\Lo S R a b z.2.1 z.2.2.1 z.2.2.2.1/\z.2.2.1+1 < a.size/\z.2.2.2.1 < b.size/\t+1+min i 1<=z.2.1.size) ?_ ?_ ⟨q1,rfl,v.1,v.2.1,v.2.2.1,v.2.2.2⟩
    ·intro i z o _ hi n
     have q:=n.1
     refine un6 (J:=fun out ia ib _ _=>Lo S R a b out ia ib/\ia+1 < a.size/\ib < b.size/\t+1+min i 1<=out.size) z n.2 fun out ia ib ac bc v=>?_
     have l:=v.1
     have H:=v.2.1
     have d:=v.2.2.1
     have hsz:=v.2.2.2
     have g:ia < a.size:=Nat.lt_of_succ_lt H
     refine wpS_bind (aav (x:=b[ib]) (aA4 d) ?_)
     refine wpS_bind (aav (x:=a[ia]) (aA4 g) ?_)
     refine wpS_bind (C.ask _ _ (N ib d) (L ia g) _ _ (q.k.trans hk) ?_)
     dsimp only
     refine aao (fun er=>?_) (fun er=>?_)
     ·refine wpS_bind (aav (x:=b[ib]) (aA4 d) ?_)
      have D:Lo S R a b (out.push b[ib]) ia (ib+1):=l.pushB C T d fun x w=>by
       rw [abm g] at w
       have hd:Srt R (a[ia] :: a.toList.drop (ia+1)):=by rw [← abm g];exact aci T.sa
       have sx:S x:=T.ha x (aC3 (i:=ia) (by rw [abm g];exact w))
       exact C.tr _ _ _ (N ib d) (L ia g) sx (C.asy _ _ (N ib d) (L ia g) er) (ad5 C hd (L ia g) x w)
      refine aao (fun F=>wpS_pure ⟨q,.inl ⟨_,rfl,D.doneA (.inl (aF6.mp F))⟩⟩) (fun F=>?_)
      have hf:ib+1 < b.size/\t+2<=(out.push b[ib]).size:=by
       have Z:ib+1 ≠ b.size:=fun q=>F (aF6.mpr q)
       rw [aH2];omega
      refine aao (fun _=>wpS_pure ⟨q,.inr ⟨rfl,D,H,hf⟩⟩) (fun _=>wpS_pure ⟨q,rfl,D,H,hf.1,aC9 (by omega) hf.2⟩)
     ·refine wpS_bind (aav (x:=a[ia]) (aA4 g) ?_)
      have D:Lo S R a b (out.push a[ia]) (ia+1) ib:=l.pushA g fun y K=>by
       rw [abm d] at K
       have hd:Srt R (b[ib] :: b.toList.drop (ib+1)):=by rw [← abm d];exact aci T.sb
       have sy:S y:=T.hb y (aC3 (i:=ib) (by rw [abm d];exact K))
       exact C.tr _ _ _ (L ia g) (N ib d) sy (eq_false_of_ne_true er) (ad5 C hd (N ib d) y K)
      refine aao (fun F=>wpS_pure ⟨q,.inl ⟨_,rfl,D.lastA T (aF6.mp F)⟩⟩) (fun F=>?_)
      have hf:ia+1+1 < a.size/\ib < b.size/\t+2<=(out.push a[ia]).size:=by
       have Z:ia+1+1 ≠ a.size:=fun q=>F (aF6.mpr q)
       rw [aH2];omega
      refine aao (fun _=>wpS_pure ⟨q,.inr ⟨rfl,D,hf⟩⟩) (fun _=>wpS_pure ⟨q,rfl,D,hf.1,d,aC9 (by omega) hf.2.2⟩)
    ·exact fun z o n=>⟨n.1,.inr ⟨n.2.1,n.2.2.1,n.2.2.2.1,n.2.2.2.2.1,aC9 (by omega) n.2.2.2.2.2⟩⟩
   ·intro z o n
    have W:=n.1
    refine unR (J:=fun y:Array Keyed × Nat × Nat × Nat × Nat=>Lo S R a b y.1 y.2.1 y.2.2.1/\y.2.1+1 < a.size/\y.2.2.1 < b.size/\t+2<=y.1.size) z n.2 (fun r x hr=>wpS_pure ⟨W,r,rfl,hr⟩) fun hN=>?_
    refine un6 (J:=fun out ia ib _ _=>Lo S R a b out ia ib/\ia+1 < a.size/\ib < b.size/\t+2<=out.size) z hN fun out ia ib ac bc v=>?_
    dsimp only
    refine wpS_bind (ac8 ?_)
    refine wpS_bind (wpS_mono (Q:=fun (z:Option (Array Keyed) × Array Keyed × Nat × Nat × Nat × Nat × Nat) st'=>Eqv st st'/\((∃ r,z.1=some r/\Fin2 R a b r)\/(z.1=none/\Lo S R a b z.2.1 z.2.2.1 z.2.2.2.1/\z.2.2.1+1 < a.size/\z.2.2.2.1 < b.size/\t+2<=z.2.1.size))) ?_ ?_)
    ·refine wpS_forRange (fun i (z:Option (Array Keyed) × Array Keyed × Nat × Nat × Nat × Nat × Nat) st'=>Eqv st st'/\z.1=none/\Lo S R a b z.2.1 z.2.2.1 z.2.2.2.1/\z.2.2.1+1 < a.size/\z.2.2.2.1 < b.size/\t+2<=z.2.1.size) ?_ (fun z o n=>⟨n.1,.inr n.2⟩) ⟨W,rfl,v⟩
     intro i z o _ hi n
     have q:=n.1
     refine un7 (J:=fun out ia ib _ _ _=>Lo S R a b out ia ib/\ia+1 < a.size/\ib < b.size/\t+2<=out.size) z n.2 fun out ia ib mg ac bc v=>?_
     have l:=v.1
     have H:=v.2.1
     have d:=v.2.2.1
     have hsz:=v.2.2.2
     dsimp only
     refine' jpn (M:=M) (A:=A) (E:=E) (s:=s) (st:=o) (β:=Nat) (P:=fun _=>True) (prog:=?prog) (fun U=>?use) (fun a6 _=>?pf)
     case use =>
      refine aao (fun hm=>?_) (fun hm=>?_)
      ·generalize mg - 1=m
       exact U m trivial
      ·exact U mg trivial
     refine wpS_bind (wpS_mono (Q:=fun _ O=>Eqv o O) (wpS_modify ⟨rfl,rfl,rfl,rfl⟩) fun _ O I=>?_)
     replace I:=q.trans I
     refine wpS_bind (aav (x:=b[ib]) (aA4 d) ?_)
     refine wpS_bind (afr C (N ib d) T.ha (by omega) (by rw [aE6 (by simp)];exact aci T.sa) (by omega) (I.k.trans hk) fun k a7 h1 h2=>?_)
     rw [aE6 (by simp),List.drop_drop] at h2
     dsimp only
     refine' jpn2 (M:=M) (A:=A) (E:=E) (s:=s) (st:=O) (P:=fun j c=>Lo S R a b j c ib/\c+1 < a.size/\(∀ x∈a.toList.drop c,R x b[ib]=false)/\t+2<=j.size) (prog:=?prog2) (fun U=>?use2) (fun j c h5=>?pf2)
     case use2 =>
      have u:∀ x∈a.toList.drop (ia+k),R x b[ib]=false:=fun x w=>C.asy _ _ (N ib d) (T.ha x (aC3 w)) (h2 x w)
      refine aao (fun k0=>?_) (fun k0=>?_)
      ·have D:Lo S R a b (out ++ a.extract ia (ia+k)) (ia+k) ib:=l.runA (by omega) fun x w y K=>by
        rw [abm d] at K
        have hd:Srt R (b[ib] :: b.toList.drop (ib+1)):=by rw [← abm d];exact aci T.sb
        have sy:S y:=T.hb y (aC3 (i:=ib) (by rw [abm d];exact K))
        exact C.tr _ _ _ (T.ha x (aC3 (aB9 w))) (N ib d) sy (h1 x w) (ad5 C hd (N ib d) y K)
       refine aao (fun F=>wpS_pure ⟨I,.inl ⟨_,rfl,D.lastA T (aF6.mp F)⟩⟩) (fun F=>?_)
       refine aao (fun e4=>wpS_pure ⟨I,.inl ⟨_,rfl,D.doneA (.inr (aF6.mp e4))⟩⟩) (fun e4=>?_)
       have X:Lo S R a b (out ++ a.extract ia (ia+k)) (ia+k) ib/\ia+k+1 < a.size/\(∀ x∈a.toList.drop (ia+k),R x b[ib]=false)/\t+2<=(out ++ a.extract ia (ia+k)).size:=by
        have Z:ia+k+1 ≠ a.size:=fun q=>F (aF6.mpr q)
        have a8:ia+k ≠ a.size:=fun q=>e4 (aF6.mpr q)
        exact ⟨D,by omega,u,by rw [Array.size_append];omega⟩
       revert X
       clear F e4 D u
       generalize out ++ a.extract ia (ia+k)=j
       generalize ia+k=c
       intro X
       exact U j c X
      ·have:k=0:=by omega
       rw [this] at u
       exact U out ia ⟨l,H,u,hsz⟩
     have l3:=h5.1
     have Y:=h5.2.1
     have a1:=h5.2.2.1
     have a2:=h5.2.2.2
     have f:c < a.size:=Nat.lt_of_succ_lt Y
     refine wpS_bind (aav (x:=b[ib]) (aA4 d) ?_)
     have l4:=l3.pushB C T d a1
     refine aao (fun e5=>wpS_pure ⟨I,.inl ⟨_,rfl,l4.doneA (.inl (aF6.mp e5))⟩⟩) (fun e5=>?_)
     replace e5:ib+1 ≠ b.size:=fun q=>e5 (aF6.mpr q)
     refine wpS_bind (aav (x:=a[c]) (aA4 f) ?_)
     refine wpS_bind (agv C (L c f) T.hb (by omega) (by rw [aE6 (by simp)];exact aci T.sb) (by omega) (I.k.trans hk) fun G a5 h3 h4=>?_)
     rw [aE6 (by simp),List.drop_drop] at h4
     dsimp only
     refine' jpn2 (M:=M) (A:=A) (E:=E) (s:=s) (st:=O) (P:=fun p B=>Lo S R a b p c B/\B < b.size/\(∀ y∈b.toList.drop B,R y a[c]=false)/\t+2<=p.size) (prog:=?prog3) (fun U=>?use3) (fun p B h6=>?pf3)
     case use3 =>
      refine aao (fun k0=>?_) (fun k0=>?_)
      ·have hd:Srt R (a[c] :: a.toList.drop (c+1)):=by rw [← abm f];exact aci T.sa
       have l5:Lo S R a b (j.push b[ib] ++ b.extract (ib+1) (ib+1+G)) c (ib+1+G):=l4.runB (by omega) fun x w y K=>by
        rw [abm f] at K
        have sy:S y:=T.ha y (aC3 (i:=c) (by rw [abm f];exact K))
        have sx:S x:=T.hb x (aC3 (aB9 w))
        exact C.tr _ _ _ sx (L c f) sy (C.asy _ _ sx (L c f) (h3 x w)) (ad5 C hd (L c f) y K)
       refine aao (fun e6=>wpS_pure ⟨I,.inl ⟨_,rfl,l5.doneA (.inl (aF6.mp e6))⟩⟩) (fun e6=>?_)
       have X:Lo S R a b (j.push b[ib] ++ b.extract (ib+1) (ib+1+G)) c (ib+1+G)/\ib+1+G < b.size/\(∀ y∈b.toList.drop (ib+1+G),R y a[c]=false)/\t+2<=(j.push b[ib] ++ b.extract (ib+1) (ib+1+G)).size:=by
        have a4:ib+1+G ≠ b.size:=fun q=>e6 (aF6.mpr q)
        exact ⟨l5,by omega,h4,by rw [Array.size_append,aH2];omega⟩
       revert X
       clear e6 l5 hd
       generalize j.push b[ib] ++ b.extract (ib+1) (ib+1+G)=p
       generalize ib+1+G=B
       intro X
       exact U p B X
      ·have:G=0:=by omega
       rw [this] at h4
       exact U (j.push b[ib]) (ib+1) ⟨l4,by omega,h4,by rw [aH2];omega⟩
     refine wpS_bind (aav (x:=a[c]) (aA4 f) ?_)
     have l7:=h6.1.pushA f h6.2.2.1
     refine aao (fun e7=>wpS_pure ⟨I,.inl ⟨_,rfl,l7.lastA T (aF6.mp e7)⟩⟩) (fun e7=>?_)
     have hf:c+1+1 < a.size/\B < b.size/\t+2<=(p.push a[c]).size:=by
      have a9:c+1+1 ≠ a.size:=fun q=>e7 (aF6.mpr q)
      have h7:=h6.2.2.2
      exact ⟨by omega,h6.2.1,by rw [aH2];omega⟩
     exact aao (fun _=>wpS_pure ⟨I,.inr ⟨rfl,l7,hf⟩⟩) (fun _=>wpS_pure ⟨I,rfl,l7,hf⟩)
    ·intro z o n
     have W:=n.1
     refine unR (J:=fun y:Array Keyed × Nat × Nat × Nat × Nat × Nat=>Lo S R a b y.1 y.2.1 y.2.2.1/\y.2.1+1 < a.size/\y.2.2.1 < b.size/\t+2<=y.1.size) z n.2 (fun r x hr=>wpS_pure ⟨W,r,rfl,hr⟩) fun hN=>?_
     refine un7 (J:=fun out ia ib _ _ _=>Lo S R a b out ia ib/\ia+1 < a.size/\ib < b.size/\t+2<=out.size) z hN fun out ia ib mg ac bc v=>?_
     dsimp only
     refine wpS_bind (wpS_modify ?_)
     exact wpS_pure ⟨W.trans ⟨rfl,rfl,rfl,rfl⟩,rfl,v⟩
  ·intro z o n
   exfalso
   have h1:=n.2.2.1.len
   have h2:=n.2.2.2
   have:a.size+b.size<=max 0 (a.size+b.size):=by omega
   omega
 ·intro z o n
  have W:=n.1
  exact unR (J:=fun _=>False) z (.inl n.2) (fun r x hr=>wpS_pure (h r o W hr)) fun hN=>hN.2.elim
end
structure MidH (R:Keyed->Keyed->Bool) (L a b tl:List Keyed):Prop where
 perm:(a ++ b ++ tl).Perm L
 so:Srt R tl
 le:∀ x∈a ++ b,∀ y∈tl,R y x=false
 sa:Srt R a
 sb:Srt R b
section
variable {R:Keyed->Keyed->Bool} {L tl a b p:List Keyed}
theorem MidH.takeA (m:MidH R L (a ++ p) b tl) (h:∀ x∈b,∀ y∈p,R y x=false):MidH R L a b (p ++ tl):=by
 have sp:=aC8.mp m.sa
 refine ⟨List.Perm.trans ?_ m.perm,aC8.mpr ⟨sp.2.1,m.so,fun x c y d=>m.le x (aC6 _ (aB2 _ c)) y d⟩,fun x c y d=>?_,sp.1,m.sb⟩
 ·rw [← aB3,aB3 a p b,aB3 a b p]
  exact List.Perm.append_right tl (List.Perm.append_left a List.perm_append_comm)
 ·rcases aA7.mp d with d | d
  ·rcases aA7.mp c with c | c
   ·exact sp.2.2 x c y d
   ·exact h x c y d
  ·refine m.le x ?_ y d
   rcases aA7.mp c with c | c
   ·exact aC6 _ (aC6 _ c)
   ·exact aB2 _ c
theorem MidH.takeB (m:MidH R L a (b ++ p) tl) (h:∀ x∈a,∀ y∈p,R y x=false):MidH R L a b (p ++ tl):=by
 have sp:=aC8.mp m.sb
 refine ⟨by have:=m.perm;simp only [aB3] at this ⊢;exact this,aC8.mpr ⟨sp.2.1,m.so,fun x c y d=>m.le x (aB2 _ (aB2 _ c)) y d⟩,fun x c y d=>?_,m.sa,sp.1⟩
 rcases aA7.mp d with d | d
 ·rcases aA7.mp c with c | c
  ·exact h x c y d
  ·exact sp.2.2 x c y d
 ·refine m.le x ?_ y d
  rcases aA7.mp c with c | c
  ·exact aC6 _ c
  ·exact aB2 _ (aC6 _ c)
theorem MidH.done (m:MidH R L a b tl) (h:a=[]\/b=[]):(a ++ b ++ tl).Perm L/\Srt R (a ++ b ++ tl):=by
 refine ⟨m.perm,aC8.mpr ⟨?_,m.so,m.le⟩⟩
 rcases h with h | h
 ·subst h;exact m.sb
 ·subst h;rw [aE5];exact m.sa
theorem MidH.first (m:MidH R L a b tl) (h:∀ y∈b,∀ x∈a,R x y=false):(b ++ a ++ tl).Perm L/\Srt R (b ++ a ++ tl):=by
 refine ⟨List.Perm.trans (List.Perm.append_right tl List.perm_append_comm) m.perm,aC8.mpr ⟨aC8.mpr ⟨m.sb,m.sa,h⟩,m.so,fun x c y d=>m.le x ?_ y d⟩⟩
 rcases aA7.mp c with c | c
 ·exact aB2 _ c
 ·exact aC6 _ c
end
theorem ab7 {a:Array Keyed} {i:Nat} (c:0 < i) (h:i<=a.size):a.toList.take i=a.toList.take (i - 1) ++ [a[i - 1]'(by omega)]:=by
 obtain ⟨j,rfl⟩:∃ j,i=j+1:=⟨i - 1,by omega⟩
 rw [List.take_succ]
 have b:j < a.size:=by omega
 simp [b]
theorem akj (a:Array Keyed) (k:Nat):(a.extract 0 k).toList=a.toList.take k:=by
 rw [Array.toList_extract];simp [List.extract]
theorem alb (a:Array Keyed) (k n:Nat):(a.extract k n).toList=(a.toList.take n).drop k:=by
 rw [Array.toList_extract];simp [List.extract,List.drop_take]
section
variable {M:Model} {A:Around} {E:Value->Shared->Prop} {s:Shared} {κ:SortKind} {S:Keyed->Prop} {R:Keyed->Keyed->Bool}
structure Hi (S:Keyed->Prop) (R:Keyed->Keyed->Bool) (a b out:Array Keyed) (na nb:Nat):Prop where
 mid:MidH R (a.toList ++ b.toList) (a.toList.take na) (b.toList.take nb) out.toList.reverse
 na:na<=a.size
 nb:nb<=b.size
theorem Hi.len {a b out:Array Keyed} {na nb:Nat} (l:Hi S R a b out na nb):out.size+na+nb=a.size+b.size:=by
 have:=l.mid.perm.length_eq
 have d:=l.na
 have c:=l.nb
 simp at this
 omega
theorem Hi.doneA {a b out:Array Keyed} {na nb:Nat} (l:Hi S R a b out na nb) (h:na=0\/nb=0):Fin2 R a b (a.extract 0 na ++ b.extract 0 nb ++ out.reverse):=by
 have:=l.mid.done (by
  rcases h with h | h
  ·left;rw [h];simp
  ·right;rw [h];simp)
 unfold Fin2
 rw [aF9,aF9,akj,akj,Array.toList_reverse]
 exact this
theorem Hi.firstB {a b out:Array Keyed} {na nb:Nat} (T:Two S R a b) (l:Hi S R a b out na nb) (h:nb=1):Fin2 R a b (b.extract 0 nb ++ a.extract 0 na ++ out.reverse):=by
 subst h
 have:=l.mid.first (by
  intro y c x d
  rw [ab7 (by decide) l.nb] at c
  have f:y=b[0]'T.b0:=by simpa using c
  exact T.first x (aB9 d) y (by rw [f];exact aA4 _))
 unfold Fin2
 rw [aF9,aF9,akj,akj,Array.toList_reverse]
 exact this
theorem ab2 {l:List Keyed} {i:Nat} (h:Srt R l):Srt R (l.take i):=List.Pairwise.sublist (List.take_sublist i l) h
theorem adk {x:Keyed} {l:List Keyed} (C:Cmp M A E s κ S R) (h:Srt R (l ++ [x])) (b:S x):∀ y∈l ++ [x],R x y=false:=by
 intro y a
 rcases aA7.mp a with a | a
 ·exact (aC8.mp h).2.2 y a x (by simp)
 ·have:y=x:=by simpa using a
  rw [this];exact C.irr b
theorem Hi.pushA {a b out:Array Keyed} {na nb:Nat} (l:Hi S R a b out na nb) (f:0 < na) (h:∀ x∈b.toList.take nb,R (a[na - 1]'(by have:=l.na;omega)) x=false):Hi S R a b (out.push (a[na - 1]'(by have:=l.na;omega))) (na - 1) nb:=by
 refine ⟨?_,by have:=l.na;omega,l.nb⟩
 have m:=l.mid
 rw [ab7 f l.na] at m
 rw [Array.toList_push,List.reverse_append]
 exact m.takeA (p:=[_]) (fun x c y d=>by
  rw [aC1.mp d];exact h x c)
theorem Hi.pushB {a b out:Array Keyed} {na nb:Nat} (l:Hi S R a b out na nb) (f:0 < nb) (h:∀ x∈a.toList.take na,R (b[nb - 1]'(by have:=l.nb;omega)) x=false):Hi S R a b (out.push (b[nb - 1]'(by have:=l.nb;omega))) na (nb - 1):=by
 refine ⟨?_,l.na,by have:=l.nb;omega⟩
 have m:=l.mid
 rw [ab7 f l.nb] at m
 rw [Array.toList_push,List.reverse_append]
 exact m.takeB (p:=[_]) (fun x c y d=>by
  rw [aC1.mp d];exact h x c)
theorem Hi.runA {a b out:Array Keyed} {na nb k:Nat} (l:Hi S R a b out na nb) (d:k<=na) (h:∀ x∈b.toList.take nb,∀ y∈(a.toList.take na).drop k,R y x=false):Hi S R a b (out ++ (a.extract k na).reverse) k nb:=by
 refine ⟨?_,by have:=l.na;omega,l.nb⟩
 have m:=l.mid
 rw [← aC0 k (a.toList.take na)] at m
 rw [aF9,Array.toList_reverse,alb,List.reverse_append,List.reverse_reverse]
 have c:=m.takeA h
 rw [List.take_take,Nat.min_eq_left d] at c
 exact c
theorem Hi.runB {a b out:Array Keyed} {na nb k:Nat} (l:Hi S R a b out na nb) (d:k<=nb) (h:∀ x∈a.toList.take na,∀ y∈(b.toList.take nb).drop k,R y x=false):Hi S R a b (out ++ (b.extract k nb).reverse) na k:=by
 refine ⟨?_,l.na,by have:=l.nb;omega⟩
 have m:=l.mid
 rw [← aC0 k (b.toList.take nb)] at m
 rw [aF9,Array.toList_reverse,alb,List.reverse_append,List.reverse_reverse]
 have c:=m.takeB h
 rw [List.take_take,Nat.min_eq_left d] at c
 exact c
theorem ao9 (C:Cmp M A E s κ S R) {a b:Array Keyed} (T:Two S R a b) {Q:Array Keyed->SortSt->Prop} {st:SortSt} (hk:kindOf st = κ)
  (h:∀ m st',Eqv st st'->Fin2 R a b m->Q m st'):wpS M A E s (as7 a b) Q st:=by
 have I:∀ i (h:i < a.size),S a[i]:=fun i h=>T.ha _ (by simp)
 have K:∀ i (h:i < b.size),S b[i]:=fun i h=>T.hb _ (by simp)
 have b0:=T.b0
 have a0:=T.a0
 have la:a.size - 1 < a.size:=by omega
 refine wpS_bind (ac8 ?_)
 refine wpS_bind (aav (x:=a[a.size - 1]'la) (aA4 la) ?_)
 have l1:Hi S R a b #[a[a.size - 1]'la] (a.size - 1) b.size:=by
  have l0:Hi S R a b #[] a.size b.size:=⟨⟨by simp [aE6],List.Pairwise.nil,fun x j y hy=>by simp at hy,ab2 T.sa,ab2 T.sb⟩,aA6 _,aA6 _⟩
  exact l0.pushA a0 fun x j=>T.last x (aB9 j) _ (aA4 la)
 refine aao (fun e1=>wpS_pure (h _ _ (Eqv.refl _) (l1.doneA (.inl (aF6.mp e1))))) (fun e1=>?_)
 refine aao (fun e2=>wpS_pure (h _ _ (Eqv.refl _) (l1.firstB T (aF6.mp e2)))) (fun e2=>?_)
 replace e1:a.size - 1 ≠ 0:=fun q=>e1 (aF6.mpr q)
 replace e2:b.size ≠ 1:=fun q=>e2 (aF6.mpr q)
 refine wpS_bind (wpS_get ?_)
 have a4:∀ {na nb:Nat} (F:0 < na) (N:na<=a.size) (U:0 < nb) (Y:nb<=b.size),R (b[nb - 1]'(by omega)) (a[na - 1]'(by omega))=true->∀ x∈b.toList.take nb,R (a[na - 1]'(by omega)) x=false:=fun {na nb} F N U Y er x j=>by
  have sx:S x:=T.hb x (aB9 j)
  have hs:Srt R (b.toList.take (nb - 1) ++ [b[nb - 1]'(by omega)]):=by rw [← ab7 U Y];exact ab2 T.sb
  rw [ab7 U Y] at j
  exact C.tr _ _ _ sx (K _ _) (I _ _) (adk C hs (K _ _) x j) (C.asy _ _ (K _ _) (I _ _) er)
 have b1:∀ {na nb:Nat} (F:0 < na) (N:na<=a.size) (U:0 < nb) (Y:nb<=b.size),R (b[nb - 1]'(by omega)) (a[na - 1]'(by omega))=false->∀ x∈a.toList.take na,R (b[nb - 1]'(by omega)) x=false:=fun {na nb} F N U Y er x j=>by
  have sx:S x:=T.ha x (aB9 j)
  have hs:Srt R (a.toList.take (na - 1) ++ [a[na - 1]'(by omega)]):=by rw [← ab7 F N];exact ab2 T.sa
  rw [ab7 F N] at j
  exact C.tr _ _ _ sx (I _ _) (K _ _) (adk C hs (I _ _) x j) er
 refine wpS_bind (wpS_mono (Q:=fun (z:Option (Array Keyed) × Nat × Nat × Array Keyed × Nat) st'=>Eqv st st'/\∃ r,z.1=some r/\Fin2 R a b r) ?_ ?_)
 ·refine wpS_forRange (fun t (z:Option (Array Keyed) × Nat × Nat × Array Keyed × Nat) st'=>Eqv st st'/\z.1=none/\Hi S R a b z.2.2.2.1 z.2.1 z.2.2.1/\0 < z.2.1/\1 < z.2.2.1/\t+1<=z.2.2.2.1.size) ?_ ?_ ⟨Eqv.refl _,rfl,l1,by dsimp only;omega,by dsimp only;omega,by simp⟩
  ·intro t z b5 _ ht f
   have q1:=f.1
   refine un5 (J:=fun na nb out _=>Hi S R a b out na nb/\0 < na/\1 < nb/\t+1<=out.size) z f.2 fun na nb out mg o=>?_
   dsimp only
   refine wpS_bind (wpS_mono (Q:=fun (z:Option (Array Keyed) × Nat × Nat × Array Keyed × Nat × Nat) st'=>Eqv st st'/\((∃ r,z.1=some r/\Fin2 R a b r)\/(z.1=none/\Hi S R a b z.2.2.2.1 z.2.1 z.2.2.1/\0 < z.2.1/\1 < z.2.2.1/\t+2<=z.2.2.2.1.size))) ?_ ?_)
   ·refine wpS_forRange (fun i (z:Option (Array Keyed) × Nat × Nat × Array Keyed × Nat × Nat) st'=>Eqv st st'/\z.1=none/\Hi S R a b z.2.2.2.1 z.2.1 z.2.2.1/\0 < z.2.1/\1 < z.2.2.1/\t+1+min i 1<=z.2.2.2.1.size) ?_ ?_ ⟨q1,rfl,o.1,o.2.1,o.2.2.1,o.2.2.2⟩
    ·intro i z g _ hi f
     have q:=f.1
     refine un6 (J:=fun na nb out _ _=>Hi S R a b out na nb/\0 < na/\1 < nb/\t+1+min i 1<=out.size) z f.2 fun na nb out ac bc o=>?_
     have l:=o.1
     have u:=o.2.1
     have a3:=o.2.2.1
     have hsz:=o.2.2.2
     have ia:na - 1 < a.size:=by have:=l.na;omega
     have ib:nb - 1 < b.size:=by have:=l.nb;omega
     refine wpS_bind (aav (x:=b[nb - 1]) (aA4 ib) ?_)
     refine wpS_bind (aav (x:=a[na - 1]) (aA4 ia) ?_)
     refine wpS_bind (C.ask _ _ (K _ ib) (I _ ia) _ _ (q.k.trans hk) ?_)
     dsimp only
     refine aao (fun er=>?_) (fun er=>?_)
     ·refine wpS_bind (aav (x:=a[na - 1]) (aA4 ia) ?_)
      have D:=l.pushA u (a4 u l.na (by omega) l.nb er)
      refine aao (fun w=>wpS_pure ⟨q,.inl ⟨_,rfl,D.doneA (.inl (aF6.mp w))⟩⟩) (fun w=>?_)
      have hf:0 < na - 1/\1 < nb/\t+2<=(out.push a[na - 1]).size:=by
       have a2:na - 1 ≠ 0:=fun q=>w (aF6.mpr q)
       rw [aH2];omega
      exact aao (fun _=>wpS_pure ⟨q,.inr ⟨rfl,D,hf⟩⟩) (fun _=>wpS_pure ⟨q,rfl,D,hf.1,a3,aC9 (by omega) hf.2.2⟩)
     ·refine wpS_bind (aav (x:=b[nb - 1]) (aA4 ib) ?_)
      have D:=l.pushB (by omega) (b1 u l.na (by omega) l.nb (eq_false_of_ne_true er))
      refine aao (fun w=>wpS_pure ⟨q,.inl ⟨_,rfl,D.firstB T (aF6.mp w)⟩⟩) (fun w=>?_)
      have hf:1 < nb - 1/\t+2<=(out.push b[nb - 1]).size:=by
       have a2:nb - 1 ≠ 1:=fun q=>w (aF6.mpr q)
       rw [aH2];omega
      exact aao (fun _=>wpS_pure ⟨q,.inr ⟨rfl,D,u,hf⟩⟩) (fun _=>wpS_pure ⟨q,rfl,D,u,hf.1,aC9 (by omega) hf.2⟩)
    ·exact fun z g f=>⟨f.1,.inr ⟨f.2.1,f.2.2.1,f.2.2.2.1,f.2.2.2.2.1,aC9 (by omega) f.2.2.2.2.2⟩⟩
   ·intro z g f
    have Z:=f.1
    refine unR (J:=fun y:Nat × Nat × Array Keyed × Nat × Nat=>Hi S R a b y.2.2.1 y.1 y.2.1/\0 < y.1/\1 < y.2.1/\t+2<=y.2.2.1.size) z f.2 (fun r x hr=>wpS_pure ⟨Z,r,rfl,hr⟩) fun hN=>?_
    refine un6 (J:=fun na nb out _ _=>Hi S R a b out na nb/\0 < na/\1 < nb/\t+2<=out.size) z hN fun na nb out ac bc o=>?_
    dsimp only
    refine wpS_bind (ac8 ?_)
    refine wpS_bind (wpS_mono (Q:=fun (z:Option (Array Keyed) × Nat × Nat × Array Keyed × Nat × Nat × Nat) st'=>Eqv st st'/\((∃ r,z.1=some r/\Fin2 R a b r)\/(z.1=none/\Hi S R a b z.2.2.2.1 z.2.1 z.2.2.1/\0 < z.2.1/\1 < z.2.2.1/\t+2<=z.2.2.2.1.size))) ?_ ?_)
    ·refine wpS_forRange (fun i (z:Option (Array Keyed) × Nat × Nat × Array Keyed × Nat × Nat × Nat) st'=>Eqv st st'/\z.1=none/\Hi S R a b z.2.2.2.1 z.2.1 z.2.2.1/\0 < z.2.1/\1 < z.2.2.1/\t+2<=z.2.2.2.1.size) ?_ (fun z g f=>⟨f.1,.inr f.2⟩) ⟨Z,rfl,o⟩
     intro i z g _ hi f
     have q:=f.1
     refine un7 (J:=fun na nb out _ _ _=>Hi S R a b out na nb/\0 < na/\1 < nb/\t+2<=out.size) z f.2 fun na nb out mg ac bc o=>?_
     have l:=o.1
     have u:=o.2.1
     have a3:=o.2.2.1
     have hsz:=o.2.2.2
     have b4:=l.na
     have O:=l.nb
     have ib:nb - 1 < b.size:=by omega
     dsimp only
     refine' jpn (M:=M) (A:=A) (E:=E) (s:=s) (st:=g) (β:=Nat) (P:=fun _=>True) (prog:=?prog) (fun X=>?use) (fun b7 _=>?pf)
     case use =>
      refine aao (fun hm=>?_) (fun hm=>?_)
      ·generalize mg - 1=m
       exact X m trivial
      ·exact X mg trivial
     refine wpS_bind (wpS_mono (Q:=fun _ L=>Eqv g L) (wpS_modify ⟨rfl,rfl,rfl,rfl⟩) fun _ L H=>?_)
     replace H:=q.trans H
     refine wpS_bind (aav (x:=b[nb - 1]) (aA4 ib) ?_)
     refine wpS_bind (afr C (K _ ib) T.ha (by omega) (by rw [List.drop_zero];exact ab2 T.sa) (by omega) (H.k.trans hk) fun k a8 F N=>?_)
     rw [List.drop_zero] at F N
     dsimp only
     generalize hac:na - k=ac2
     refine' jpn2 (M:=M) (A:=A) (E:=E) (s:=s) (st:=L) (P:=fun d c=>Hi S R a b d c nb/\0 < c/\(∀ x∈a.toList.take c,R b[nb - 1] x=false)/\t+2<=d.size) (prog:=?prog2) (fun X=>?use2) (fun d c h5=>?pf2)
     case use2 =>
      refine aao (fun k0=>?_) (fun k0=>?_)
      ·have a6:Srt R (b.toList.take (nb - 1) ++ [b[nb - 1]]):=by rw [← ab7 (by omega) O];exact ab2 T.sb
       have D:Hi S R a b (out ++ (a.extract k na).reverse) k nb:=l.runA a8 fun x j y hy=>by
        have sx:S x:=T.hb x (aB9 j)
        have sy:S y:=T.ha y (aB9 (aC3 hy))
        rw [ab7 (by omega) O] at j
        exact C.tr _ _ _ sx (K _ ib) sy (adk C a6 (K _ ib) x j) (C.asy _ _ (K _ ib) sy (N y hy))
       refine aao (fun w=>wpS_pure ⟨H,.inl ⟨_,rfl,D.doneA (.inl (aF6.mp w))⟩⟩) (fun w=>?_)
       have hP:Hi S R a b (out ++ (a.extract k na).reverse) k nb/\0 < k/\(∀ x∈a.toList.take k,R b[nb - 1] x=false)/\t+2<=(out ++ (a.extract k na).reverse).size:=by
        have a2:k ≠ 0:=fun q=>w (aF6.mpr q)
        exact ⟨D,by omega,F,by rw [Array.size_append];omega⟩
       revert hP
       clear w D
       generalize out ++ (a.extract k na).reverse=d
       generalize k=c
       intro hP
       exact X d c hP
      ·have:k=na:=by omega
       rw [this] at F
       exact X out na ⟨l,u,F,hsz⟩
     have l3:=h5.1
     have G:=h5.2.1
     have a9:=h5.2.2.1
     have b3:=h5.2.2.2
     have B:=l3.na
     have ia:c - 1 < a.size:=by omega
     refine wpS_bind (aav (x:=b[nb - 1]) (aA4 ib) ?_)
     have l4:=l3.pushB (by omega) a9
     refine aao (fun e5=>wpS_pure ⟨H,.inl ⟨_,rfl,l4.firstB T (aF6.mp e5)⟩⟩) (fun e5=>?_)
     replace e5:nb - 1 ≠ 1:=fun q=>e5 (aF6.mpr q)
     refine wpS_bind (aav (x:=a[c - 1]) (aA4 ia) ?_)
     refine wpS_bind (agv C (I _ ia) T.hb (by omega) (by rw [List.drop_zero];exact ab2 T.sb) (by omega) (H.k.trans hk) fun v a7 U Y=>?_)
     rw [List.drop_zero] at U Y
     dsimp only
     generalize hbc:nb - 1 - v=bc2
     refine' jpn2 (M:=M) (A:=A) (E:=E) (s:=s) (st:=L) (P:=fun n p=>Hi S R a b n c p/\1 < p/\(∀ x∈b.toList.take p,R a[c - 1] x=false)/\t+2<=n.size) (prog:=?prog3) (fun X=>?use3) (fun n p h6=>?pf3)
     case use3 =>
      have a1:∀ x∈b.toList.take v,R a[c - 1] x=false:=fun x j=>C.asy _ _ (T.hb x (aB9 j)) (I _ ia) (U x j)
      refine aao (fun k0=>?_) (fun k0=>?_)
      ·have a5:Srt R (a.toList.take (c - 1) ++ [a[c - 1]]):=by rw [← ab7 G B];exact ab2 T.sa
       have l5:Hi S R a b (d.push b[nb - 1] ++ (b.extract v (nb - 1)).reverse) c v:=l4.runB a7 fun x j y hy=>by
        have sx:S x:=T.ha x (aB9 j)
        have sy:S y:=T.hb y (aB9 (aC3 hy))
        rw [ab7 G B] at j
        exact C.tr _ _ _ sx (I _ ia) sy (adk C a5 (I _ ia) x j) (Y y hy)
       refine aao (fun e6=>wpS_pure ⟨H,.inl ⟨_,rfl,l5.firstB T (aF6.mp e6)⟩⟩) (fun e6=>?_)
       refine aao (fun W=>wpS_pure ⟨H,.inl ⟨_,rfl,l5.doneA (.inr (aF6.mp W))⟩⟩) (fun W=>?_)
       have hP:Hi S R a b (d.push b[nb - 1] ++ (b.extract v (nb - 1)).reverse) c v/\1 < v/\(∀ x∈b.toList.take v,R a[c - 1] x=false)/\t+2<=(d.push b[nb - 1] ++ (b.extract v (nb - 1)).reverse).size:=by
        have b6:v ≠ 1:=fun q=>e6 (aF6.mpr q)
        have b2:v ≠ 0:=fun q=>W (aF6.mpr q)
        exact ⟨l5,by omega,a1,by rw [Array.size_append,aH2];omega⟩
       revert hP
       clear e6 W l5
       generalize d.push b[nb - 1] ++ (b.extract v (nb - 1)).reverse=n
       generalize v=p
       intro hP
       exact X n p hP
      ·have:v=nb - 1:=by omega
       rw [this] at a1
       exact X (d.push b[nb - 1]) (nb - 1) ⟨l4,by omega,a1,by rw [aH2];omega⟩
     refine wpS_bind (aav (x:=a[c - 1]) (aA4 ia) ?_)
     have l7:=h6.1.pushA G h6.2.2.1
     refine aao (fun W=>wpS_pure ⟨H,.inl ⟨_,rfl,l7.doneA (.inl (aF6.mp W))⟩⟩) (fun W=>?_)
     have hf:0 < c - 1/\1 < p/\t+2<=(n.push a[c - 1]).size:=by
      have b2:c - 1 ≠ 0:=fun q=>W (aF6.mpr q)
      have h7:=h6.2.2.2
      exact ⟨by omega,h6.2.1,by rw [aH2];omega⟩
     exact aao (fun _=>wpS_pure ⟨H,.inr ⟨rfl,l7,hf⟩⟩) (fun _=>wpS_pure ⟨H,rfl,l7,hf⟩)
    ·intro z g f
     have Z:=f.1
     refine unR (J:=fun y:Nat × Nat × Array Keyed × Nat × Nat × Nat=>Hi S R a b y.2.2.1 y.1 y.2.1/\0 < y.1/\1 < y.2.1/\t+2<=y.2.2.1.size) z f.2 (fun r x hr=>wpS_pure ⟨Z,r,rfl,hr⟩) fun hN=>?_
     refine un7 (J:=fun na nb out _ _ _=>Hi S R a b out na nb/\0 < na/\1 < nb/\t+2<=out.size) z hN fun na nb out mg ac bc o=>?_
     dsimp only
     refine wpS_bind (wpS_modify ?_)
     exact wpS_pure ⟨Z.trans ⟨rfl,rfl,rfl,rfl⟩,rfl,o⟩
  ·intro z g f
   exfalso
   have F:=f.2.2.1.len
   have N:=f.2.2.2
   have:a.size+b.size<=max 0 (a.size+b.size):=by omega
   omega
 ·intro z g f
  have Z:=f.1
  exact unR (J:=fun _=>False) z (.inl f.2) (fun r x hr=>wpS_pure (h r g Z hr)) fun hN=>hN.2.elim
end
theorem ajk (base:Nat):∀ (b v u w:List Keyed) (j:Nat) (xs:Array Keyed),xs.toList=u ++ v ++ w->v.length=b.length->u.length=base+j ->
  ((b.zipIdx j).foldl (fun a x=>match x with | (p,j)=>a.setIfInBounds (base+j) p) xs).toList=u ++ b ++ w
 | [],v,u,w,j,xs,h1,h2,h3=>by
  have:v=[]:=aG5 h2
  subst this
  exact h1
 | m :: b,v,u,w,j,xs,h1,h2,h3=>by
  cases v with
  | nil=>cases h2
  | cons y v =>
   rw [List.zipIdx_cons,List.foldl_cons]
   have c:=ajk base b v (u ++ [m]) w (j+1) (xs.setIfInBounds (base+j) m) (by
    rw [Array.toList_setIfInBounds,h1,← h3]
    simp [List.set_append]) (by simpa using h2) (by simp [h3];omega)
   rw [c]
   simp
section
variable {M:Model} {A:Around} {E:Value->Shared->Prop} {s:Shared} {κ:SortKind} {S:Keyed->Prop} {R:Keyed->Keyed->Bool}
theorem av3 {σ:Type} {st st' : σ} {Q:PUnit->σ->Prop} (h:Q ⟨⟩ st'):wpS M A E s (set st':StateT σ Sem PUnit) Q st:=by
 unfold wpS
 rw [StateT.run_set]
 exact aI1 ⟨rfl,h⟩
theorem apa (C:Cmp M A E s κ S R) {st:SortSt} {i pw pw2:Nat} {pre a b g:List Keyed} (F:(arrOf st).toList=pre ++ a ++ b ++ g) (hS:∀ x∈(arrOf st).toList,S x)
  (a9:(pendingOf st)[i]?=some (pre.length,a.length,pw)) (a6:(pendingOf st)[i+1]?=some (pre.length+a.length,b.length,pw2)) (na:a ≠ []) (nb:b ≠ []) (U:Srt R a) (L:Srt R b) (hk:kindOf st = κ) (hf:failedOf st=none)
  {Q:Bool->SortSt->Prop}
  (h:∀ st' m,kindOf st' = κ->failedOf st'=none->pendingOf st'=((pendingOf st).setIfInBounds i (pre.length,a.length+b.length,pw)).eraseIdxIfInBounds (i+1)->(arrOf st').toList=pre ++ m ++ g->m.Perm (a ++ b)->Srt R m->Q true st') :
  wpS M A E s (ala i) Q st:=by
 have la:0 < a.length:=aF2.mpr na
 have lb:0 < b.length:=aF2.mpr nb
 have J:∀ x∈a,S x:=fun x c=>hS x (by rw [F];simp [c])
 have N:∀ x∈b,S x:=fun x c=>hS x (by rw [F];simp [c])
 have lx:(arrOf st).size=pre.length+a.length+b.length+g.length:=by
  have:=congrArg List.length F
  simp at this
  omega
 have D:((arrOf st).toList.drop pre.length).take a.length=a:=by rw [F];simp [aB3]
 have B:((arrOf st).toList.drop (pre.length+a.length)).take b.length=b:=by
  rw [show pre.length+a.length=(pre ++ a).length by simp,F,aB3 (pre ++ a),List.drop_left,List.take_left]
 refine wpS_bind (wpS_get ?_)
 rw [a9,a6]
 refine wpS_bind (wpS_mono (Q:=fun _ n=>kindOf n = κ/\failedOf n=none/\arrOf n=arrOf st/\pendingOf n=((pendingOf st).setIfInBounds i (pre.length,a.length+b.length,pw)).eraseIdxIfInBounds (i+1)) (av3 ⟨hk,hf,rfl,rfl⟩) fun _ n ⟨W,f1,a1,p1⟩=>?_)
 obtain ⟨b0,bt,eb⟩:∃ b0 bt,b=b0 :: bt:=by cases b with | nil=>exact absurd rfl nb | cons x r=>exact ⟨x,r,rfl⟩
 have a5:(arrOf st)[pre.length+a.length]?=some b0:=by
  rw [← aD4,F,eb]
  simp [List.getElem?_append]
 have v:S b0:=N b0 (by rw [eb];simp)
 have w:∀ y∈b,R y b0=false:=fun y d=>by rw [eb] at d L;exact ad5 C L v y d
 -- nothing is laid together: the two stand in order already
 have plain:(∀ x∈a,∀ y∈b,R y x=false)->∀ st',Eqv n st'->Q true st':=fun hc st' q=>by
  refine h st' (a ++ b) (q.k.trans W) (q.f.trans f1) (q.p.trans p1) ?_ (List.Perm.refl _) (aC8.mpr ⟨U,L,hc⟩)
  rw [q.a,a1,F]
  simp [aB3]
 refine wpS_bind (aav a5 ?_)
 refine wpS_bind (afr C v hS (by omega) (by rw [D];exact U) la W fun k a4 h1 h2=>?_)
 rw [D] at h2
 have H:∀ x∈a.take k,R b0 x=false:=fun x c=>h1 x (by
  have:((arrOf st).toList.drop pre.length).take k=a.take k:=by rw [← D,List.take_take,Nat.min_eq_left a4]
  rw [this];exact c)
 dsimp only
 refine aao (fun e=>?_) (fun e=>?_)
 ·have e':a.length - k=0:=by simpa using e
  refine wpS_pure (plain (fun x c y d=>?_) n (Eqv.refl _))
  have:a.take k=a:=aE6 (by omega)
  rw [this] at H
  exact C.tr x b0 y (J x c) v (N y d) (H x c) (w y d)
 ·have e':a.length - k ≠ 0:=by simpa using e
  -- the last of a
  have P:pre.length+k+(a.length - k) - 1=pre.length+(a.length - 1):=by omega
  have o:a.length - 1 < a.length:=by omega
  have a2:(arrOf st)[pre.length+k+(a.length - k) - 1]?=some (a[a.length - 1]'o):=by
   rw [← aD4,F,P]
   simp [List.getElem?_append,o,aB3]
  have Sl:S (a[a.length - 1]'o):=J _ (List.getElem_mem o)
  have u:a=a.take (a.length - 1) ++ [a[a.length - 1]'o]:=by
   have:=List.take_succ (l:=a) (i:=a.length - 1)
   rw [show a.length - 1+1=a.length by omega,aG1] at this
   simpa [o] using this
  have K:∀ x∈a,R (a[a.length - 1]'o) x=false:=fun x c=>by
   have hs:Srt R (a.take (a.length - 1) ++ [a[a.length - 1]'o]):=by rw [← u];exact U
   exact adk C hs Sl x (by rw [← u];exact c)
  refine wpS_bind (aav a2 ?_)
  refine wpS_bind (agv C Sl hS (by omega) (by rw [B];exact L) (by omega) W fun j a3 h3 h4=>?_)
  rw [B] at h4
  have a0:((arrOf st).toList.drop (pre.length+a.length)).take j=b.take j:=by rw [← B,List.take_take,Nat.min_eq_left a3]
  rw [a0] at h3
  dsimp only
  refine aao (fun e2=>?_) (fun e2=>?_)
  ·have Z:j=0:=by simpa using e2
   subst Z
   refine wpS_pure (plain (fun x c y d=>?_) n (Eqv.refl _))
   exact C.tr x _ y (J x c) Sl (N y d) (K x c) (h4 y (by simpa using d))
  ·have Z:j ≠ 0:=by simpa using e2
   have ex:((arrOf st).extract (pre.length+k) (pre.length+a.length)).toList=a.drop k:=by
    rw [alb,F]
    simp [aB3,List.take_append,List.drop_append]
   have O:((arrOf st).extract (pre.length+a.length) (pre.length+a.length+j)).toList=b.take j:=by
    rw [aio,a0]
   generalize hX:(arrOf st).extract (pre.length+k) (pre.length+a.length)=X at ex
   generalize hY:(arrOf st).extract (pre.length+a.length) (pre.length+a.length+j)=Y at O
   have sX:X.size=a.length - k:=by have:=congrArg List.length ex;simpa using this
   have sY:Y.size=j:=by have:=congrArg List.length O;simp at this;omega
   have T:Two S R X Y:=by
    refine ⟨fun x c=>J x (aC3 (by rw [← ex];exact c)),fun x c=>N x (aB9 (by rw [← O];exact c)),by rw [ex];exact aci U,by rw [O];exact ab2 L,by omega,by omega,fun x c y d=>?_,fun y d x c=>?_⟩
    ·rw [← aD4,O,eb] at d
     have:y=b0:=by
      obtain ⟨j',rfl⟩:∃ j',j=j'+1:=⟨j - 1,by omega⟩
      simpa using d.symm
     rw [this]
     rw [ex] at c
     exact C.asy _ _ v (J x (aC3 c)) (h2 x c)
    ·rw [← aD4,ex,sX] at c
     rw [aH6,show k+(a.length - k - 1)=a.length - 1 by omega,aA0 o] at c
     cases c
     rw [O] at d
     exact C.asy _ _ (N y (aB9 d)) Sl (h3 y d)
   have fin:∀ (m:Array Keyed) (st':SortSt),Eqv n st'->Fin2 R X Y m->wpS M A E s (do
     modify fun (z:SortSt)=>setArr z (List.foldl (fun a x=>match x with | (p,j)=>a.setIfInBounds (pre.length+k+j) p) (arrOf z) m.toList.zipIdx)
     let z ← get
     pure (failedOf z).isNone) Q st':=by
    intro m st' q ⟨G,ms⟩
    rw [ex,O] at G
    refine wpS_bind (wpS_modify ?_)
    refine wpS_bind (wpS_get ?_)
    refine wpS_pure ?_
    show Q (failedOf st').isNone _
    rw [q.f,f1]
    have lm:m.toList.length=(a.drop k).length+(b.take j).length:=by rw [G.length_eq,aB0]
    have I:∀ z∈m.toList,z∈a.drop k\/z∈b.take j:=fun z hz=>aA7.mp (G.mem_iff.mp hz)
    refine h _ (a.take k ++ m.toList ++ b.drop j) (q.k.trans W) (q.f.trans f1) (q.p.trans p1) ?_ ?_ ?_
    ·show (List.foldl _ (arrOf st') m.toList.zipIdx).toList=_
     have base:(arrOf st').toList=(pre ++ a.take k) ++ (a.drop k ++ b.take j) ++ (b.drop j ++ g):=by
      rw [q.a,a1,F]
      have t1:=aC0 k a
      have t2:=aC0 j b
      calc pre ++ a ++ b ++ g=pre ++ (a.take k ++ a.drop k) ++ (b.take j ++ b.drop j) ++ g:=by rw [t1,t2]
       _=_:=by simp only [aB3]
     have:=ajk (pre.length+k) m.toList (a.drop k ++ b.take j) (pre ++ a.take k) (b.drop j ++ g) 0 (arrOf st') base (by rw [aB0,lm]) (by rw [aB0,aG3];omega)
     rw [this]
     simp only [aB3]
    ·have t1:=aC0 k a
     have t2:=aC0 j b
     calc (a.take k ++ m.toList ++ b.drop j).Perm (a.take k ++ (a.drop k ++ b.take j) ++ b.drop j):=List.Perm.append_right _ (List.Perm.append_left _ G)
      _ = a ++ b:=by
       simp only [aB3]
       rw [t2,← aB3,t1]
    ·have a8:Srt R (a.take k ++ a.drop k):=by rw [aC0];exact U
     have a7:Srt R (b.take j ++ b.drop j):=by rw [aC0];exact L
     have ca:=(aC8.mp a8).2.2
     have cb:=(aC8.mp a7).2.2
     refine aC8.mpr ⟨aC8.mpr ⟨ab2 U,ms,fun x c y d=>?_⟩,aci L,fun x c y d=>?_⟩
     ·rcases I y d with d | d
      ·exact ca x c y d
      ·exact C.tr x b0 y (J x (aB9 c)) v (N y (aB9 d)) (H x c) (w y (aB9 d))
     ·have Sy:=N y (aC3 d)
      rcases aA7.mp c with c | c
      ·exact C.tr x b0 y (J x (aB9 c)) v Sy (H x c) (w y (aC3 d))
      ·rcases I x c with c | c
       ·exact C.tr x _ y (J x (aC3 c)) Sl Sy (K x (aC3 c)) (h4 y d)
       ·exact cb x c y d
   refine aao (fun e3=>?_) (fun e3=>?_)
   ·exact wpS_bind (ao8 C T W fun m st' q fm=>fin m st' q fm)
   ·exact wpS_bind (ao9 C T W fun m st' q fm=>fin m st' q fm)
end
def e (xs:Array Keyed) (k:Nat):Keyed:=(xs[k]?).getD (.none,.none)
theorem ahl {xs:Array Keyed} {k:Nat} (h:k < xs.size):xs[k]?=some (e xs k):=by
 unfold e;rw [aA4 h];rfl
def Asc (R:Keyed->Keyed->Bool) (xs:Array Keyed) (l h:Nat):Prop:=∀ i j,l<=i->i<=j->j < h->R (e xs j) (e xs i)=false
def Des (R:Keyed->Keyed->Bool) (xs:Array Keyed) (l h:Nat):Prop:=∀ i j,l<=i->i<=j->j < h->R (e xs i) (e xs j)=false
structure Bs (κ:SortKind) (p0:Array (Nat × Nat × Nat)) (a0:Array Keyed) (lo:Nat) (st:SortSt):Prop where
 k:kindOf st = κ
 f:failedOf st=none
 p:pendingOf st=p0
 perm:(arrOf st).toList.Perm a0.toList
 pre:∀ k,k < lo->(arrOf st)[k]?=a0[k]?
theorem as9 {xs:Array Keyed} {src d:Nat} (a:src < xs.size) (hd:d<=src) (k:Nat):e (bubble xs src d) k=if k=src - d then e xs src else if src - d < k/\k<=src then e xs (k - 1) else e xs k:=by
 unfold e
 rw [getElem?_bubble a d hd]
 repeat' split
 all_goals rfl
theorem act {xs:Array Keyed} {i j:Nat} (a:j<=xs.size) (k:Nat):e (mirror xs i j ((j - i) / 2)) k=if i<=k/\k < j then e xs (i+j - 1 - k) else e xs k:=by
 unfold e
 rw [getElem?_mirror_all a]
 split <;> rfl
section
variable {M:Model} {A:Around} {E:Value->Shared->Prop} {s:Shared} {κ:SortKind} {S:Keyed->Prop} {R:Keyed->Keyed->Bool} {p0:Array (Nat × Nat × Nat)} {a0:Array Keyed} {lo:Nat}
theorem Bs.size {st:SortSt} (B:Bs κ p0 a0 lo st):(arrOf st).size=a0.size:=by
 have:=B.perm.length_eq
 simpa using this
theorem Bs.sat {st:SortSt} (B:Bs κ p0 a0 lo st) (a:∀ x∈a0.toList,S x) {k:Nat} (b:k < a0.size):S (e (arrOf st) k):=by
 have h:=ahl (xs:=arrOf st) (k:=k) (by rw [B.size];exact b)
 refine a _ (B.perm.mem_iff.mp ?_)
 rw [← aD4] at h
 exact aA2 h
theorem afs (C:Cmp M A E s κ S R) (a:∀ x∈a0.toList,S x) {st:SortSt} (B:Bs κ p0 a0 lo st) {i j:Nat} (hi:i < a0.size) (b:j < a0.size) {Q:Option Bool->SortSt->Prop} (h:Q (some (R (e (arrOf st) i) (e (arrOf st) j))) st) :
  wpS M A E s (ltAt' i j) Q st:=by
 rw [ltAt'_eq]
 refine wpS_bind (wpS_get ?_)
 refine wpS_bind (aav (ahl (by rw [B.size];exact hi)) ?_)
 refine wpS_bind (aav (ahl (by rw [B.size];exact b)) ?_)
 exact C.ask _ _ (B.sat a hi) (B.sat a b) _ _ B.k h
theorem ata (C:Cmp M A E s κ S R) {xs:Array Keyed} {l h:Nat} (b:∀ k,k<=h->S (e xs k)) (f:l < h) (a:Asc R xs l h) (n:R (e xs h) (e xs (h - 1))=false):Asc R xs l (h+1):=by
 intro i j c d g
 by_cases hj:j=h
 ·subst hj
  by_cases hi:i=j
  ·subst hi;exact C.irr (b _ (aA6 _))
  ·exact C.tr _ (e xs (j - 1)) _ (b _ (by omega)) (b _ (by omega)) (b _ (by omega)) (a i (j - 1) c (by omega) (by omega)) n
 ·exact a i j c d (by omega)
theorem ae1 (C:Cmp M A E s κ S R) {xs:Array Keyed} {l h:Nat} (b:∀ k,k<=h->S (e xs k)) (f:l < h) (a:Des R xs l h) (n:R (e xs (h - 1)) (e xs h)=false):Des R xs l (h+1):=by
 intro i j c d g
 by_cases hj:j=h
 ·subst hj
  by_cases hi:i=j
  ·subst hi;exact C.irr (b _ (aA6 _))
  ·exact C.tr _ (e xs (j - 1)) _ (b _ (by omega)) (b _ (by omega)) (b _ (by omega)) n (a i (j - 1) c (by omega) (by omega))
 ·exact a i j c d (by omega)
theorem Bs.set {st:SortSt} (B:Bs κ p0 a0 lo st) {xs:Array Keyed} (b:xs.Perm (arrOf st)) (c:∀ k,k < lo->xs[k]?=(arrOf st)[k]?):Bs κ p0 a0 lo (setArr st xs) :=
 ⟨B.k,B.f,B.p,b.toList.trans B.perm,fun k a=>(c k a).trans (B.pre k a)⟩
theorem apb (C:Cmp M A E s κ S R) (y:∀ x∈a0.toList,S x) {st:SortSt} (B:Bs κ p0 a0 lo st) {n ok:Nat} (hn:lo+n<=a0.size) (hok:ok<=n) (P:1<=n) (J:Asc R (arrOf st) lo (lo+ok)) {Q:Bool->SortSt->Prop}
  (h:∀ st',Bs κ p0 a0 lo st'->Asc R (arrOf st') lo (lo+n)->Q true st'):wpS M A E s (as8 lo n ok) Q st:=by
 refine wpS_bind (wpS_mono (Q:=fun (z:Option Bool × Unit) st'=>z.1=none/\Bs κ p0 a0 lo st'/\Asc R (arrOf st') lo (lo+n)) ?_ ?_)
 ·refine wpS_forRange (fun k (z:Option Bool × Unit) st'=>z.1=none/\Bs κ p0 a0 lo st'/\Asc R (arrOf st') lo (lo+k)) ?_ ?_ ⟨rfl,B,fun i j m p v=>?_⟩
  ·rintro k ⟨o,_⟩ b N O ⟨rfl,q,as⟩
   have d:∀ j,j < lo+n->S (e (arrOf b) j):=fun j F=>q.sat y (by omega)
   refine wpS_bind (wpS_mono (Q:=fun (z:Option Bool × Nat × Nat) st'=>st'=b/\z.1=none/\z.2.1<=k/\(∀ i,i < z.2.1->R (e (arrOf b) (lo+k)) (e (arrOf b) (lo+i))=false)/\(∀ i,z.2.1<=i->i < k->R (e (arrOf b) (lo+k)) (e (arrOf b) (lo+i))=true)) ?_ ?_)
   ·refine wpS_forRange (fun t (z:Option Bool × Nat × Nat) st'=>st'=b/\z.1=none/\z.2.1<=z.2.2/\z.2.2<=k/\z.2.2 - z.2.1+t<=k/\(∀ i,i < z.2.1->R (e (arrOf b) (lo+k)) (e (arrOf b) (lo+i))=false)/\(∀ i,z.2.2<=i->i < k->R (e (arrOf b) (lo+k)) (e (arrOf b) (lo+i))=true)) ?_ ?_
     ⟨rfl,rfl,Nat.zero_le _,Nat.le_refl _,by dsimp only;omega,fun i hi=>absurd hi (Nat.not_lt_zero _),fun i m p=>by dsimp only at m;omega⟩
    ·rintro t ⟨o,l,r⟩ a _ T ⟨rfl,c,m,p,v,g,f⟩
     dsimp only at c m p v g f ⊢
     subst c
     refine aao (fun D=>?_) (fun D=>?_)
     ·have:l=r:=by omega
      subst this
      exact wpS_pure ⟨rfl,rfl,p,g,f⟩
     ·have hm:(l+r) / 2 < r:=by omega
      have w:l<=(l+r) / 2:=by omega
      refine wpS_bind (afs C y q (by omega) (by omega) ?_)
      dsimp only
      cases er:R (e (arrOf a) (lo+k)) (e (arrOf a) (lo+(l+r) / 2)) with
      | true =>
       rw [aE8 rfl]
       refine wpS_pure ⟨rfl,rfl,w,by dsimp only;omega,by dsimp only;omega,g,fun i u G=>?_⟩
       dsimp only at u
       cases e2:R (e (arrOf a) (lo+k)) (e (arrOf a) (lo+i)) with
       | true=>rfl
       | false =>
        have:=C.tr _ _ _ (d _ (by omega)) (d _ (by omega)) (d _ (by omega)) (as (lo+(l+r) / 2) (lo+i) (by omega) (by omega) (by omega)) e2
        rw [this] at er;cases er
      | false =>
       rw [aE9 (by decide)]
       refine wpS_pure ⟨rfl,rfl,by dsimp only;omega,p,by dsimp only;omega,fun i u=>?_,f⟩
       dsimp only at u
       exact C.tr _ _ _ (d _ (by omega)) (d _ (by omega)) (d _ (by omega)) (as (lo+i) (lo+(l+r) / 2) (by omega) (by omega) (by omega)) er
    ·rintro ⟨o,l,r⟩ a ⟨rfl,c,m,p,v,g,f⟩
     dsimp only at c m p v g f ⊢
     have : l = r := by have:k ≤ max 0 k := by omega
                        omega
     subst this
     exact ⟨rfl,c,p,g,f⟩
   ·rintro ⟨o,l,r⟩ a ⟨rfl,c,m,g,f⟩
    dsimp only at c m g f ⊢
    subst c
    dsimp only
    have hsz:lo+k < (arrOf a).size:=by rw [q.size];omega
    have hd:(lo+k) - (lo+l)=k - l:=by omega
    refine wpS_bind (wpS_modify ?_)
    have H:∀ j,e (bubble (arrOf a) (lo+k) (lo+k - (lo+l))) j=if j=lo+l then e (arrOf a) (lo+k) else if lo+l < j/\j<=lo+k then e (arrOf a) (j - 1) else e (arrOf a) j:=fun j=>by
     rw [as9 hsz (by omega),show lo+k - (lo+k - (lo+l))=lo+l by omega]
    refine wpS_pure ⟨rfl,q.set (bubble_perm _ _ _) (fun j F=>?_),fun i j u G L=>?_⟩
    ·show (bubble (arrOf a) (lo+k) (lo+k - (lo+l)))[j]?=_
     rw [getElem?_bubble hsz _ (by omega),aE9 (by omega),aE9 (by omega)]
    ·show R (e (bubble (arrOf a) (lo+k) (lo+k - (lo+l))) j) (e (bubble (arrOf a) (lo+k) (lo+k - (lo+l))) i)=false
     rw [H,H]
     have K:∀ j,j < lo+n->S (e (arrOf a) j):=d
     by_cases j1:j=lo+l
     ·rw [aE8 j1]
      by_cases i4:i=lo+l
      ·rw [aE8 i4];exact C.irr (d _ (by omega))
      ·rw [aE9 i4,aE9 (by omega)]
       have:=g (i - lo) (by omega)
       rw [show lo+(i - lo)=i by omega] at this
       exact this
     ·rw [aE9 j1]
      by_cases j2:lo+l < j/\j<=lo+k
      ·rw [aE8 j2]
       have I:=f (j - 1 - lo) (by omega) (by omega)
       rw [show lo+(j - 1 - lo)=j - 1 by omega] at I
       by_cases i4:i=lo+l
       ·rw [aE8 i4];exact C.asy _ _ (d _ (by omega)) (d _ (by omega)) I
       ·rw [aE9 i4]
        by_cases i5:lo+l < i/\i<=lo+k
        ·rw [aE8 i5];exact as (i - 1) (j - 1) (by omega) (by omega) (by omega)
        ·rw [aE9 i5];exact as i (j - 1) (by omega) (by omega) (by omega)
      ·rw [aE9 j2,aE9 (by omega),aE9 (by omega)]
       exact as i j (by omega) (by omega) (by omega)
  ·rintro ⟨o,_⟩ b ⟨c,q,as⟩
   exact ⟨c,q,fun i j u G L=>as i j u G (by omega)⟩
  ·by_cases F:j < lo+ok
   ·exact J i j m p F
   ·have:i=j:=by omega
    subst this
    exact C.irr (B.sat y (by omega))
 ·rintro ⟨o,_⟩ b ⟨c,q,as⟩
  dsimp only at c ⊢
  subst c
  exact wpS_pure (h b q as)
end
def Eqb (R:Keyed->Keyed->Bool) (xs:Array Keyed) (l h:Nat):Prop:=∀ i j,l<=i->i < h->l<=j->j < h->R (e xs i) (e xs j)=false
section
variable {M:Model} {A:Around} {E:Value->Shared->Prop} {s:Shared} {κ:SortKind} {S:Keyed->Prop} {R:Keyed->Keyed->Bool} {p0:Array (Nat × Nat × Nat)} {a0:Array Keyed} {lo:Nat}
theorem anr {α:Type} {prog:StateT SortSt Sem α} {P:SortSt->Prop} {Q : α->SortSt->Prop} {G:Prop} (use:(∀ st,P st->wpS M A E s prog Q st)->G) (a:∀ st,P st->wpS M A E s prog Q st):G:=use a
theorem alc (C:Cmp M A E s κ S R) (f:∀ x∈a0.toList,S x) {st:SortSt} (B:Bs κ p0 a0 lo st) {a nrem:Nat} (j:1<=a) (g:a<=nrem) (hn:lo+nrem<=a0.size) (as:Asc R (arrOf st) lo (lo+a)) {Q:Option (Option Nat) × Nat->SortSt->Prop}
  (h:∀ n,a<=n->n<=nrem->Asc R (arrOf st) lo (lo+n)->(n < nrem->R (e (arrOf st) (lo+n)) (e (arrOf st) (lo+n - 1))=true)->Q (none,n) st) :
  wpS M A E s (forIn [a:nrem] ((none,a):Option (Option Nat) × Nat) (fun (_:Nat) z=>ltAt' (lo+z.2) (lo+z.2 - 1) >>= fun x=>match x with
   | some smaller=>if smaller=true then pure (ForInStep.done (none,z.2)) else pure (ForInStep.yield (none,z.2+1))
   | _=>pure (ForInStep.done (some none,z.2)))) Q st:=by
 refine wpS_forRange (fun t (z:Option (Option Nat) × Nat) st'=>st'=st/\z=(none,t)/\Asc R (arrOf st) lo (lo+t)) ?_ ?_ ⟨rfl,rfl,as⟩
 ·rintro t ⟨o,n⟩ c i m ⟨rfl,d,b⟩
  cases d
  dsimp only
  refine wpS_bind (afs C f B (by omega) (by omega) ?_)
  dsimp only
  cases er:R (e (arrOf c) (lo+t)) (e (arrOf c) (lo+t - 1)) with
  | true =>
   rw [aE8 rfl]
   exact wpS_pure (h t i (by omega) b fun _=>er)
  | false =>
   rw [aE9 (by decide)]
   exact wpS_pure ⟨rfl,rfl,ata C (h:=lo+t) (fun k l=>B.sat f (by omega)) (by omega) b er⟩
 ·rintro ⟨o,n⟩ c ⟨rfl,d,b⟩
  cases d
  rw [show max a nrem=nrem by omega] at b ⊢
  exact h nrem g (aA6 _) b fun z=>absurd z (aF7 _)
theorem atb (C:Cmp M A E s κ S R) {st:SortSt} (B:Bs κ p0 a0 lo st) {n:Nat} (hn:lo+n<=a0.size) (a:Des R (arrOf st) lo (lo+n)) :
  Bs κ p0 a0 lo (setArr st (mirror (arrOf st) lo (lo+n) ((lo+n - lo) / 2)))/\Asc R (mirror (arrOf st) lo (lo+n) ((lo+n - lo) / 2)) lo (lo+n):=by
 have hz:lo+n<=(arrOf st).size:=by rw [B.size];exact hn
 refine ⟨B.set (mirror_perm _ _ _ _) (fun k c=>by rw [getElem?_mirror_all hz,aE9 (by omega)]),fun i j d b f=>?_⟩
 rw [act hz,act hz,aE8 (by omega),aE8 (by omega)]
 exact a _ _ (by omega) (by omega) (by omega)
theorem aip (C:Cmp M A E s κ S R) (d:∀ x∈a0.toList,S x) {st:SortSt} (B:Bs κ p0 a0 lo st) {l h m:Nat} (n:lo<=l) (hh:h<=a0.size) (hm:h<=m) (b:m<=a0.size) (a:Des R (arrOf st) lo m) (eq:Eqb R (arrOf st) l h) :
  Bs κ p0 a0 lo (setArr st (mirror (arrOf st) l h ((h - l) / 2)))/\Des R (mirror (arrOf st) l h ((h - l) / 2)) lo m:=by
 have hz:h<=(arrOf st).size:=by rw [B.size];exact hh
 refine ⟨B.set (mirror_perm _ _ _ _) (fun k c=>by rw [getElem?_mirror_all hz,aE9 (by omega)]),fun i j g f o=>?_⟩
 rw [act hz,act hz]
 have p:∀ k,k < m->S (e (arrOf st) k):=fun k c=>B.sat d (by omega)
 by_cases c1:l<=i/\i < h
 ·rw [aE8 c1]
  by_cases c2:l<=j/\j < h
  ·rw [aE8 c2]
   exact eq _ _ (by omega) (by omega) (by omega) (by omega)
  ·rw [aE9 c2]
   exact a _ _ (by omega) (by omega) (by omega)
 ·rw [aE9 c1]
  by_cases c2:l<=j/\j < h
  ·rw [aE8 c2]
   exact a _ _ (by omega) (by omega) (by omega)
  ·rw [aE9 c2]
   exact a _ _ (by omega) (by omega) (by omega)
theorem aq3 (C:Cmp M A E s κ S R) (p:∀ x∈a0.toList,S x) {st:SortSt} (B:Bs κ p0 a0 lo st) {nrem:Nat} (h1:1<=nrem) (hn:lo+nrem<=a0.size) {Q:Option Nat->SortSt->Prop}
  (h:∀ st' n,Bs κ p0 a0 lo st'->1<=n->n<=nrem->Asc R (arrOf st') lo (lo+n)->Q (some n) st'):wpS M A E s (av2 lo nrem) Q st:=by
 refine wpS_bind (alc C p B (aA6 1) h1 hn (fun i j r u W=>?_) fun n n1 n2 as br=>?_)
 ·have:i=j:=by omega
  subst this
  exact C.irr (B.sat p (by omega))
 dsimp only
 refine aao (fun en=>wpS_pure (h st n B n1 n2 as)) (fun en=>?_)
 have a4:n ≠ nrem:=by simpa using en
 have Y:n < nrem:=by omega
 have I:=br Y
 refine anr (M:=M) (A:=A) (E:=E) (s:=s) (α:=Option Nat) (Q:=Q) (P:=fun v=>Bs κ p0 a0 lo v/\Des R (arrOf v) lo (lo+n)/\R (e (arrOf v) (lo+n)) (e (arrOf v) (lo+n - 1))=true) (prog:=?prog) (fun N=>?use) (fun v ⟨O,de,X⟩=>?pf)
 case use =>
  refine aao (fun g1=>?_) (fun g1=>?_)
  ·refine wpS_bind (afs C p B (by omega) (by omega) ?_)
   dsimp only
   cases er:R (e (arrOf st) lo) (e (arrOf st) (lo+n - 1)) with
   | true=>rw [aE8 rfl];exact wpS_pure (h st n B n1 n2 as)
   | false =>
    rw [aE9 (by decide)]
    -- all of them are equal
    have c:∀ k,k < lo+n->S (e (arrOf st) k):=fun k K=>B.sat p (by omega)
    have all:Eqb R (arrOf st) lo (lo+n):=fun i j r u D y=>by
     -- j<=last<=first<=i
     have a1:=as j (lo+n - 1) D (by omega) (by omega)
     have a2:=as lo i (aA6 _) r u
     exact C.tr _ _ _ (c j y) (c lo (by omega)) (c i u) (C.tr _ _ _ (c j y) (c (lo+n - 1) (by omega)) (c lo (by omega)) a1 er) a2
    have de:Des R (arrOf st) lo (lo+n):=fun i j r u W=>all i j r (by omega) (by omega) W
    have hz:lo+n<=(arrOf st).size:=by rw [B.size];omega
    obtain ⟨q,a⟩:=aip C p B (aA6 lo) (show lo+n<=a0.size by omega) (aA6 _) (by omega) de all
    refine wpS_bind (wpS_modify ?_)
    refine N _ ⟨q,a,?_⟩
    show R (e (mirror (arrOf st) lo (lo+n) ((lo+n - lo) / 2)) (lo+n)) (e (mirror (arrOf st) lo (lo+n) ((lo+n - lo) / 2)) (lo+n - 1))=true
    rw [act hz,act hz,aE9 (by omega),aE8 (by omega)]
    rw [show lo+(lo+n) - 1 - (lo+n - 1)=lo by omega]
    cases e2:R (e (arrOf st) (lo+n)) (e (arrOf st) lo) with
    | true=>rfl
    | false =>
     have:=C.tr _ _ _ (c (lo+n - 1) (by omega)) (c lo (by omega)) (B.sat p (show lo+n < a0.size by omega)) er e2
     rw [this] at I;cases I
  ·have:n=1:=by omega
   subst this
   refine N st ⟨B,fun i j r u W=>?_,I⟩
   have:i=j:=by omega
   subst this
   exact C.irr (B.sat p (by omega))
 case pf =>
  -- the falling part
  refine wpS_bind (ac8 ?_)
  refine wpS_bind (wpS_mono (Q:=fun (z:Option (Option Nat) × Nat × Nat) st'=>z.1=none/\Bs κ p0 a0 lo st'/\z.2.1<=nrem/\z.2.2+1<=z.2.1/\Des R (arrOf st') lo (lo+z.2.1)/\Eqb R (arrOf st') (lo+z.2.1 - (z.2.2+1)) (lo+z.2.1)) ?_ ?_)
  ·refine wpS_forRange (fun t (z:Option (Option Nat) × Nat × Nat) st'=>z.1=none/\z.2.1=t/\Bs κ p0 a0 lo st'/\z.2.2+1<=z.2.1/\Des R (arrOf st') lo (lo+z.2.1)/\Eqb R (arrOf st') (lo+z.2.1 - (z.2.2+1)) (lo+z.2.1)) ?_ ?_ ⟨rfl,rfl,O,by dsimp only;omega,?_,fun i j r u D y=>?_⟩
   ·rintro t ⟨o,m,b⟩ f t1 t2 ⟨F,T,q,J,a,d⟩
    dsimp only at F T J a d ⊢
    subst F T
    have c:∀ k,k < a0.size->S (e (arrOf f) k):=fun k K=>q.sat p K
    refine wpS_bind (afs C p q (by omega) (by omega) ?_)
    dsimp only
    cases er:R (e (arrOf f) (lo+m)) (e (arrOf f) (lo+m - 1)) with
    | true =>
     rw [aE8 rfl]
     refine aao (fun g=>?_) (fun g=>?_)
     ·have hz:lo+m<=(arrOf f).size:=by rw [q.size];omega
      obtain ⟨G,w⟩:=aip C p q (l:=lo+m - (b+1)) (h:=lo+m) (by omega) (by omega) (aA6 _) (by omega) a d
      have L:∀ k,e (mirror (arrOf f) (lo+m - (b+1)) (lo+m) ((lo+m - (lo+m - (b+1))) / 2)) k=if lo+m - (b+1)<=k/\k < lo+m then e (arrOf f) (lo+m - (b+1)+(lo+m) - 1 - k) else e (arrOf f) k:=fun k=>act hz k
      refine wpS_bind (wpS_modify ?_)
      refine wpS_pure ⟨rfl,rfl,G,by dsimp only;omega,?_,fun i j r u D y=>?_⟩
      ·show Des R (mirror (arrOf f) (lo+m - (b+1)) (lo+m) ((lo+m - (lo+m - (b+1))) / 2)) lo (lo+(m+1))
       refine ae1 C (h:=lo+m) (fun k K=>G.sat p (by omega)) (by omega) w ?_
       rw [L,L,aE8 (by omega),aE9 (by omega)]
       rw [show lo+m - (b+1)+(lo+m) - 1 - (lo+m - 1)=lo+m - (b+1) by omega]
       exact C.tr _ _ _ (c _ (by omega)) (c (lo+m - 1) (by omega)) (c _ (by omega)) (C.asy _ _ (c _ (by omega)) (c _ (by omega)) er) (a _ _ (by omega) (by omega) (by omega))
      ·dsimp only at r u D y
       have:i=j:=by omega
       subst this
       exact C.irr (G.sat p (by omega))
     ·have:b=0:=by omega
      subst this
      refine wpS_pure ⟨rfl,rfl,q,by dsimp only;omega,ae1 C (h:=lo+m) (fun k K=>c k (by omega)) (by omega) a (C.asy _ _ (c _ (by omega)) (c _ (by omega)) er),fun i j r u D y=>?_⟩
      dsimp only at r u D y
      have:i=j:=by omega
      subst this
      exact C.irr (c _ (by omega))
    | false =>
     rw [aE9 (by decide)]
     refine wpS_bind (afs C p q (by omega) (by omega) ?_)
     dsimp only
     cases er2:R (e (arrOf f) (lo+m - 1)) (e (arrOf f) (lo+m)) with
     | true =>
      rw [aE8 rfl]
      exact wpS_pure ⟨rfl,q,by dsimp only;omega,J,a,d⟩
     | false =>
      rw [aE9 (by decide)]
      refine wpS_pure ⟨rfl,rfl,q,by dsimp only;omega,ae1 C (h:=lo+m) (fun k K=>c k (by omega)) (by omega) a er2,fun i j r u D y=>?_⟩
      dsimp only at r u D y
      by_cases ci:i=lo+m
      ·by_cases cj:j=lo+m
       ·rw [ci,cj];exact C.irr (c _ (by omega))
       ·rw [ci]
        exact C.tr _ _ _ (c j (by omega)) (c (lo+m - 1) (by omega)) (c _ (by omega)) (d (lo+m - 1) j (by omega) (by omega) (by omega) (by omega)) er
      ·by_cases cj:j=lo+m
       ·rw [cj]
        exact C.tr _ _ _ (c _ (by omega)) (c (lo+m - 1) (by omega)) (c i (by omega)) er2 (d i (lo+m - 1) (by omega) (by omega) (by omega) (by omega))
       ·exact d i j (by omega) (by omega) (by omega) (by omega)
   ·rintro ⟨o,m,b⟩ f ⟨F,T,q,J,a,d⟩
    dsimp only at F T J a d ⊢
    exact ⟨F,q,by omega,J,a,d⟩
   ·exact ae1 C (h:=lo+n) (fun k K=>O.sat p (by omega)) (by omega) de (C.asy _ _ (O.sat p (by omega)) (O.sat p (by omega)) X)
   ·dsimp only at r u D y
    have:i=j:=by omega
    subst this
    exact C.irr (O.sat p (by omega))
  ·rintro ⟨o,m,b⟩ f ⟨F,q,hm,J,a,d⟩
   dsimp only at F hm J a d ⊢
   subst F
   dsimp only
   refine anr (M:=M) (A:=A) (E:=E) (s:=s) (α:=Option Nat) (Q:=Q) (P:=fun H=>Bs κ p0 a0 lo H/\Des R (arrOf H) lo (lo+m)) (prog:=?prog2) (fun N=>?use2) (fun H ⟨G,w⟩=>?pf2)
   case use2 =>
    refine aao (fun g=>?_) (fun g=>?_)
    ·obtain ⟨G,w⟩:=aip C p q (l:=lo+m - (b+1)) (h:=lo+m) (by omega) (by omega) (aA6 _) (by omega) a d
     refine wpS_bind (wpS_modify ?_)
     exact N _ ⟨G,w⟩
    ·exact N _ ⟨q,a⟩
   case pf2 =>
    obtain ⟨B5,Z⟩:=atb C G (n:=m) (by omega) w
    refine wpS_bind (wpS_modify ?_)
    refine wpS_bind (alc C p B5 (by omega) hm hn Z fun n' a5 U a3 _=>?_)
    exact wpS_pure (h _ n' B5 (by omega) U a3)
end
def flat (rs:List (List Keyed × Nat)):List Keyed:=(rs.map (·.1)).flatten
def pend:Nat->List (List Keyed × Nat)->List (Nat × Nat × Nat)
 | _,[]=>[]
 | k,(r,pw) :: t=>(k,r.length,pw) :: pend (k+r.length) t
theorem agw:flat []=[]:=rfl
theorem abv (r:List Keyed × Nat) (t:List (List Keyed × Nat)):flat (r :: t)=r.1 ++ flat t:=rfl
theorem abo (p q:List (List Keyed × Nat)):flat (p ++ q)=flat p ++ flat q:=by simp [flat]
theorem ab3:∀ (k:Nat) (p q:List (List Keyed × Nat)),pend k (p ++ q)=pend k p ++ pend (k+(flat p).length) q
 | k,[],q=>by simp [pend,agw]
 | k,(r,pw) :: t,q=>by
  simp only [List.cons_append,pend,abv,aB0,List.cons.injEq,true_and]
  rw [ab3 (k+r.length) t q,Nat.add_assoc]
theorem ade:∀ (k:Nat) (p:List (List Keyed × Nat)),(pend k p).length=p.length
 | _,[]=>rfl
 | k,(r,pw) :: t=>by simp [pend,ade _ t]
section
variable {M:Model} {A:Around} {E:Value->Shared->Prop} {s:Shared} {κ:SortKind} {S:Keyed->Prop} {R:Keyed->Keyed->Bool} {a0:Array Keyed}
structure Rn (κ:SortKind) (R:Keyed->Keyed->Bool) (a0:Array Keyed) (rs:List (List Keyed × Nat)) (rest:List Keyed) (st:SortSt):Prop where
 k:kindOf st = κ
 f:failedOf st=none
 arr:(arrOf st).toList=flat rs ++ rest
 pn:(pendingOf st).toList=pend 0 rs
 ok:∀ r∈rs,r.1 ≠ []/\Srt R r.1
 perm:(arrOf st).toList.Perm a0.toList
theorem av4 {α:Type} (a b:List α) (x c y : α):((a ++ x :: y :: b).set a.length c).eraseIdx (a.length+1)=a ++ c :: b:=by
 rw [List.set_append_right _ _ (aA6 _),Nat.sub_self,List.set_cons_zero,List.eraseIdx_append_of_length_le (by omega)]
 rw [show a.length+1 - a.length=1 by omega]
 rfl
theorem ahm (C:Cmp M A E s κ S R) (H:∀ x∈a0.toList,S x) {st:SortSt} {rs:List (List Keyed × Nat)} {rest:List Keyed} (N:Rn κ R a0 rs rest st) {i:Nat} (hi:i+1 < rs.length) {Q:Bool->SortSt->Prop}
  (h:∀ st' l,Rn κ R a0 l rest st'->l.length+1=rs.length->(flat l).length=(flat rs).length->Q true st'):wpS M A E s (ala i) Q st:=by
 obtain ⟨p,a,pw,b,pw2,q,e,w⟩:∃ p a pw b pw2 q,rs=p ++ (a,pw) :: (b,pw2) :: q/\p.length=i:=by
  have D:rs=rs.take i ++ rs.drop i:=(aC0 i rs).symm
  have hd:rs.drop i=rs[i] :: rs[i+1] :: rs.drop (i+2):=by
   rw [List.drop_eq_getElem_cons (by omega),List.drop_eq_getElem_cons hi]
  exact ⟨rs.take i,rs[i].1,rs[i].2,rs[i+1].1,rs[i+1].2,rs.drop (i+2),by rw [← hd];exact D,by simp;omega⟩
 subst w
 have c:=N.ok (a,pw) (by rw [e];simp)
 have g:=N.ok (b,pw2) (by rw [e];simp)
 have o:(pendingOf st).toList=pend 0 p ++ ((flat p).length,a.length,pw) :: ((flat p).length+a.length,b.length,pw2) :: pend ((flat p).length+a.length+b.length) q:=by
  rw [N.pn,e,ab3];simp [pend]
 have d:(pend 0 p).length=p.length:=ade 0 p
 have j:(arrOf st).toList=flat p ++ a ++ b ++ (flat q ++ rest):=by
  rw [N.arr,e,abo,abv,abv];simp [aB3]
 refine apa C (i:=p.length) (pw:=pw) (pw2:=pw2) j (fun x F=>H x (N.perm.mem_iff.mp F)) ?_ ?_ c.1 g.1 c.2 g.2 N.k N.f fun st' m B G y u pm I=>?_
 ·rw [← aD4,o,aC7 (by omega),d,Nat.sub_self];rfl
 ·rw [← aD4,o,aC7 (by omega),d,show p.length+1 - p.length=1 by omega];rfl
 ·refine h st' (p ++ (m,pw) :: q) ⟨B,G,?_,?_,fun r n=>?_,?_⟩ (by rw [e];simp;omega) ?_
  ·rw [u,abo,abv];simp [aB3]
  ·rw [y,Array.toList_eraseIdxIfInBounds,Array.toList_setIfInBounds,o,← d,av4,ab3]
   simp [pend,pm.length_eq,Nat.add_assoc]
  ·rcases aA7.mp n with n | n
   ·exact N.ok r (by rw [e];simp [n])
   ·rcases aA8.mp n with rfl | n
    ·refine ⟨?_,I⟩
     intro z
     have:=pm.length_eq
     have v:m=[]:=z
     rw [v] at this
     have:=aF2.mpr c.1
     simp at *
     omega
    ·exact N.ok r (by rw [e];simp [n])
  ·rw [u]
   refine List.Perm.trans ?_ N.perm
   rw [j]
   have:(flat p ++ a ++ b ++ (flat q ++ rest))=flat p ++ (a ++ b) ++ (flat q ++ rest):=by simp [aB3]
   rw [this]
   exact (pm.append_left (flat p)).append_right _
  ·rw [e,abo,abo,abv,abv,abv]
   simp [pm.length_eq]
   omega
theorem Rn.run {rs:List (List Keyed × Nat)} {rest:List Keyed} {st st':SortSt} {n:Nat} (N:Rn κ R a0 rs rest st) (B:Bs κ (pendingOf st) (arrOf st) (flat rs).length st') (u:1<=n) (hn:(flat rs).length+n<=(arrOf st).size) (as:Asc R (arrOf st') (flat rs).length ((flat rs).length+n)) :
  ∃ r a,r.length=n/\r ≠ []/\Srt R r/\Rn κ R a0 rs (r ++ a) st':=by
 have hsz:=B.size
 have c:(arrOf st').toList.take (flat rs).length=flat rs:=by
  have m:(arrOf st').toList.take (flat rs).length=(arrOf st).toList.take (flat rs).length:=by
   apply aF5
   intro k
   rw [List.getElem?_take,List.getElem?_take]
   split
   ·rename_i d
    have:=B.pre k d
    simpa using this
   ·rfl
  rw [m,N.arr,List.take_left]
 refine ⟨((arrOf st').toList.drop (flat rs).length).take n,((arrOf st').toList.drop (flat rs).length).drop n,?_,?_,?_,B.k,B.f,?_,?_,N.ok,B.perm.trans N.perm⟩
 ·simp;omega
 ·intro z
  have:=congrArg List.length z
  simp at this
  omega
 ·unfold Srt
  rw [aG0]
  intro i j hi h l
  have b:j < n:=by simp at h;omega
  have get:∀ k,k < n->∀ (d:k < (((arrOf st').toList.drop (flat rs).length).take n).length),(((arrOf st').toList.drop (flat rs).length).take n)[k]=e (arrOf st') ((flat rs).length+k):=by
   intro k d s
   rw [List.getElem_take,List.getElem_drop]
   have o:=ahl (xs:=arrOf st') (k:=(flat rs).length+k) (by omega)
   have q:(flat rs).length+k < (arrOf st').toList.length:=by simp;omega
   have g:(arrOf st').toList[(flat rs).length+k]?=some (e (arrOf st') ((flat rs).length+k)):=by simpa using o
   rw [aA0 q] at g
   exact aC5 g
  rw [get i (by omega) hi,get j b h]
  exact as _ _ (by omega) (by omega) (by omega)
 ·rw [aC0]
  conv=>lhs;rw [← aC0 (flat rs).length (arrOf st').toList,c]
 ·rw [B.p];exact N.pn
theorem Rn.bs {rs:List (List Keyed × Nat)} {rest:List Keyed} {st:SortSt} (N:Rn κ R a0 rs rest st):Bs κ (pendingOf st) (arrOf st) (flat rs).length st:=⟨N.k,N.f,rfl,List.Perm.refl _,fun _ _=>rfl⟩
theorem Rn.size {rs:List (List Keyed × Nat)} {rest:List Keyed} {st:SortSt} (N:Rn κ R a0 rs rest st):(arrOf st).size=a0.size:=by
 have:=N.perm.length_eq;simpa using this
theorem Rn.len {rs:List (List Keyed × Nat)} {rest:List Keyed} {st:SortSt} (N:Rn κ R a0 rs rest st):(flat rs).length+rest.length=a0.size:=by
 have:=congrArg List.length N.arr
 have a:=N.size
 simp at this
 omega
theorem atc {rs:List (List Keyed × Nat)} (h:∀ r∈rs,r.1 ≠ []):rs.length<=(flat rs).length:=by
 induction rs with
 | nil=>simp [flat]
 | cons r t ih =>
  rw [abv,aB0,aE1]
  have:=ih fun q a=>h q (aB4 _ a)
  have:=aF2.mpr (h r aB7)
  omega
theorem ald {α:Type} (f : α->α):∀ (l:List α) (x : α),(l ++ [x]).modify l.length f=l ++ [f x]
 | [],x=>rfl
 | y :: l,x=>by
  show (y :: (l ++ [x])).modify (l.length+1) f=_
  rw [List.modify_succ_cons,ald f l x];rfl
theorem am1 {α:Type} (arr:Array α) (f : α->α) {l:List α} {x : α} (h:arr.toList=l ++ [x]):(arr.modify (arr.size - 1) f).toList=l ++ [f x]:=by
 have a:arr.size=l.length+1:=by have:=congrArg List.length h;simpa using this
 rw [Array.toList_modify,h,a,show l.length+1 - 1=l.length by omega]
 exact ald f l x
theorem av5 {α:Type} (arr:Array α) {l:List α} {x : α} (h:arr.toList=l ++ [x]):arr.back?=some x:=by
 have a:arr.size=l.length+1:=by have:=congrArg List.length h;simpa using this
 rw [Array.back?_eq_getElem?,← aD4,h,a]
 simp
theorem ans:∀ (rs:List (List Keyed × Nat)),rs ≠ []->∃ p x,rs=p ++ [x]
 | rs,h=>⟨rs.dropLast,rs.getLast h,(List.dropLast_concat_getLast h).symm⟩
theorem Rn.push {rs:List (List Keyed × Nat)} {r rest:List Keyed} {st st':SortSt} (N:Rn κ R a0 rs (r ++ rest) st) (d:r ≠ []) (c:Srt R r) (k:kindOf st'=kindOf st) (f:failedOf st'=failedOf st) (a:arrOf st'=arrOf st)
  (p:pendingOf st'=(pendingOf st).push ((flat rs).length,r.length,0)):Rn κ R a0 (rs ++ [(r,0)]) rest st':=by
 refine ⟨k.trans N.k,f.trans N.f,?_,?_,fun q b=>?_,by rw [a];exact N.perm⟩
 ·rw [a,N.arr,abo];simp [flat,aB3]
 ·rw [p,Array.toList_push,N.pn,ab3];simp [pend]
 ·rcases aA7.mp b with b | b
  ·exact N.ok q b
  ·have:q=(r,0):=by simpa using b
   subst this;exact ⟨d,c⟩
theorem Rn.pow {rs:List (List Keyed × Nat)} {rest:List Keyed} {st st':SortSt} {pw:Nat} (N:Rn κ R a0 rs rest st) (hz:rs ≠ []) (k:kindOf st'=kindOf st) (f:failedOf st'=failedOf st) (a:arrOf st'=arrOf st)
  (p:pendingOf st'=(pendingOf st).modify ((pendingOf st).size - 1) fun x=>(x.1,x.2.1,pw)):∃ d,Rn κ R a0 d rest st'/\(flat d).length=(flat rs).length:=by
 obtain ⟨q,⟨b,c⟩,e⟩:=ans rs hz
 subst e
 have h:(pendingOf st).toList=pend 0 q ++ [((flat q).length,b.length,c)]:=by rw [N.pn,ab3];simp [pend]
 refine ⟨q ++ [(b,pw)],⟨k.trans N.k,f.trans N.f,?_,?_,fun x g=>?_,by rw [a];exact N.perm⟩,by simp [abo,abv,agw]⟩
 ·rw [a,N.arr];simp [abo,abv,agw]
 ·rw [p,am1 _ _ h,ab3];simp [pend]
 ·rcases aA7.mp g with g | g
  ·exact N.ok x (by simp [g])
  ·have:x=(b,pw):=by simpa using g
   subst this
   exact N.ok (b,c) (by simp)
theorem ays {c:Prop} [Decidable c] {x y z:Nat} (b:x+1 < z) (a:y+1 < z):(if c then x else y)+1 < z:=by
 split
 ·exact b
 ·exact a
theorem Rn.powK {rs:List (List Keyed × Nat)} {rest:List Keyed} {st st':SortSt} {pw:Nat} {G:SortSt->Prop} (N:Rn κ R a0 rs rest st) (hz:rs ≠ []) (h:∀ b,Rn κ R a0 b rest st'->(flat b).length=(flat rs).length->G st') (k:kindOf st'=kindOf st) (f:failedOf st'=failedOf st) (a:arrOf st'=arrOf st)
  (p:pendingOf st'=(pendingOf st).modify ((pendingOf st).size - 1) fun x=>(x.1,x.2.1,pw)):G st':=by
 obtain ⟨b,d,c⟩:=N.pow hz k f a p
 exact h b d c
theorem av6 (C:Cmp M A E s κ S R) (Y:∀ x∈a0.toList,S x) {st:SortSt} (h0:arrOf st=a0) (hk:kindOf st = κ) (hf:failedOf st=none) (hp:pendingOf st = #[]) {Q:Unit->SortSt->Prop}
  (h:∀ st',failedOf st'=none->(arrOf st').toList.Perm a0.toList->Srt R (arrOf st').toList->Q () st'):wpS M A E s a0d Q st:=by
 have o:(arrOf st).size=a0.size:=by rw [h0]
 refine wpS_bind (wpS_get ?_)
 dsimp only
 refine wpS_bind (wpS_mono (Q:=fun (c:Option Unit × Nat) u=>c.1=none/\∃ rs,Rn κ R a0 rs [] u) ?_ ?_)
 ·refine wpS_forRange (fun i (c:Option Unit × Nat) u=>c.1=none/\∃ rs rest,Rn κ R a0 rs rest u/\c.2=(flat rs).length/\i<=c.2) ?_ ?_ ⟨rfl,[],a0.toList,⟨hk,hf,by rw [h0];rfl,by rw [hp];rfl,fun r J=>(by cases J),by rw [h0]⟩,rfl,aA6 _⟩
  ·rintro i ⟨c1,lo⟩ u _ hi ⟨F,rs,rest,N,e2,D⟩
   dsimp only at F e2 D ⊢
   subst F e2
   have P:=N.len
   have b2:i < a0.size:=by rw [← o];exact hi
   refine aao (fun a4=>?_) (fun a5=>?_)
   ·have a8:a0.size<=(flat rs).length:=by rw [← o];exact a4
    refine wpS_pure ⟨rfl,rs,?_⟩
    have:rest=[]:=aG5 (by omega)
    subst this
    exact N
   ·have b0:(flat rs).length < a0.size:=by
     have:¬ (flat rs).length ≥ (arrOf st).size:=a5
     omega
    refine wpS_bind (aq3 C (fun x hx=>Y x (N.perm.mem_iff.mp hx)) N.bs (nrem:=(arrOf st).size - (flat rs).length) (by omega) (by rw [N.size];omega) fun b1 n B2 n1 n2 T=>?_)
    dsimp only
    have w:=N.size
    refine aao (fun m=>?g1) (fun m=>?g2)
    case' g1 =>
     refine wpS_bind (ac8 ?_)
     generalize hmr:min (_:Nat) _=nn
     refine wpS_bind (apb C (fun x hx=>Y x (N.perm.mem_iff.mp hx)) B2 (n:=nn) (ok:=n) ?_ ?_ ?_ T fun b3 B3 a2=>?_)
     ·have:nn<=(arrOf st).size - (flat rs).length:=by rw [← hmr];exact Nat.min_le_left _ _
      rw [w];omega
     ·rw [← hmr];exact Nat.le_min.mpr ⟨n2,aF8 m⟩
     ·have:n<=nn:=by rw [← hmr];exact Nat.le_min.mpr ⟨n2,aF8 m⟩
      omega
     rw [aE9 (by decide)]
     have W:1<=nn:=by
      have:n<=nn:=by rw [← hmr];exact Nat.le_min.mpr ⟨n2,aF8 m⟩
      omega
     have a9:nn<=(arrOf st).size - (flat rs).length:=by rw [← hmr];exact Nat.min_le_left _ _
     obtain ⟨r,g,J,y,I,U⟩:=N.run B3 W (by rw [w];omega) a2
     clear hmr
     subst J
    case' g2 =>
     obtain ⟨r,g,J,y,I,U⟩:=N.run B2 n1 (by rw [w];omega) T
     clear m
     subst J
    all_goals
     refine wpS_bind (wpS_get ?_)
     rcases Classical.em (rs=[]) with hz | hz
     ·have B:=U.pn
      rw [hz] at B
      have hb:=Array.back?_eq_none_iff.mpr (Array.toList_eq_nil_iff.mp B)
      rw [hb]
      dsimp only
      refine wpS_bind (wpS_modify (wpS_pure ⟨rfl,rs ++ [(r,0)],g,U.push y I rfl rfl rfl rfl,?_,?_⟩))
      ·rw [abo,aB0];simp [flat]
      ·have:=aF2.mpr y
       show i+1<=(flat rs).length+r.length
       omega
     ·obtain ⟨q,⟨b,O⟩,eq⟩:=ans rs hz
      have B:=U.pn
      rw [eq,ab3,show pend (0+(flat q).length) [(b,O)]=[((flat q).length,b.length,O)] by simp [pend]] at B
      have hb:=av5 _ B
      rw [hb]
      dsimp only
      refine wpS_bind (wpS_mono (Q:=fun (c:Option Unit × Unit) d=>c.1=none/\∃ a,Rn κ R a0 a (r ++ g) d/\a ≠ []/\(flat a).length=(flat rs).length) ?_ ?_)
      ·refine wpS_forRange (fun _ (c:Option Unit × Unit) d=>c.1=none/\∃ a,Rn κ R a0 a (r ++ g) d/\a ≠ []/\(flat a).length=(flat rs).length) ?_ (fun c d h4=>h4) ⟨rfl,rs,U,hz,rfl⟩
       rintro i4 ⟨Z,u4⟩ d _ _ ⟨v,a,l,X,p⟩
       dsimp only at v
       subst v
       refine wpS_bind (wpS_get ?_)
       have L:(pendingOf d).size=a.length:=by
        have:=congrArg List.length l.pn
        rw [ade] at this
        simpa using this
       by_cases K:(pendingOf d).size > 1
       ·rw [aE8 K]
        obtain ⟨x4,a7⟩:∃ x4,(pendingOf d)[(pendingOf d).size - 2]?=some x4:=⟨_,aA4 (by omega)⟩
        obtain ⟨y1,y2,y3⟩:=x4
        rw [a7]
        dsimp only
        refine aao (fun _=>wpS_pure ⟨rfl,a,l,X,p⟩) (fun _=>?_)
        rw [L]
        refine wpS_bind (ahm C Y l (i:=a.length - 2) (by omega) fun a6 H N5 l5 f5=>?_)
        rw [aE9 (by decide)]
        refine wpS_pure ⟨rfl,H,N5,?_,by omega⟩
        rintro rfl
        simp at l5
        omega
       ·rw [aE9 K]
        exact wpS_pure ⟨rfl,a,l,X,p⟩
      ·rintro ⟨Z,u4⟩ d ⟨v,a,l,X,p⟩
       dsimp only at v ⊢
       subst v
       dsimp only
       refine wpS_bind (wpS_modify ?_)
       refine l.powK (G:=fun z=>wpS M A E s _ _ z) X (fun a3 N6 l6=>?_) rfl rfl rfl rfl
       refine wpS_bind (wpS_modify (wpS_pure ⟨rfl,a3 ++ [(r,0)],g,N6.push y I rfl rfl rfl ?_,?_,?_⟩))
       ·rw [l6,p]
       ·rw [abo,aB0,l6,p];simp [flat]
       ·have:=aF2.mpr y
        show i+1<=(flat rs).length+r.length
        omega
  ·rintro ⟨c1,lo⟩ u ⟨F,rs,rest,N,e2,D⟩
   dsimp only at F e2 D ⊢
   refine ⟨F,rs,?_⟩
   have P:=N.len
   have a1:(arrOf st).size<=lo:=aC9 (Nat.le_max_right 0 _) D
   have:rest=[]:=aG5 (by rw [o] at a1;omega)
   subst this
   exact N
 ·rintro ⟨c1,lo⟩ u ⟨F,rs,N⟩
  dsimp only at F ⊢
  subst F
  dsimp only
  refine wpS_bind (wpS_mono (Q:=fun (c:Option Unit × Unit) d=>c.1=none/\∃ a,Rn κ R a0 a [] d/\a.length<=1) ?_ ?_)
  ·refine wpS_forRange (fun j (c:Option Unit × Unit) d=>c.1=none/\∃ a,Rn κ R a0 a [] d/\(a.length<=1\/a.length+j<=a0.size)) ?_ ?_ ⟨rfl,rs,N,.inr ?_⟩
   ·rintro j ⟨Z,u4⟩ d _ _ ⟨v,a,l,p⟩
    dsimp only at v
    subst v
    refine wpS_bind (wpS_get ?_)
    have L:(pendingOf d).size=a.length:=by
     have:=congrArg List.length l.pn
     rw [ade] at this
     simpa using this
    refine aao (fun K=>wpS_pure ⟨rfl,a,l,?_⟩) (fun K=>?_)
    ·have:(pendingOf d).size<=1:=K
     omega
    ·have b4:¬ (pendingOf d).size<=1:=K
     refine wpS_bind (ahm C Y l (i:=_) ?_ fun a6 H N5 l5 f5=>?_)
     ·refine ays ?_ ?_
      ·show (pendingOf d).size - 2 - 1+1 < a.length
       omega
      ·show (pendingOf d).size - 2+1 < a.length
       omega
     rw [aE9 (by decide)]
     exact wpS_pure ⟨rfl,H,N5,by omega⟩
   ·rintro ⟨Z,u4⟩ d ⟨v,a,l,p⟩
    refine ⟨v,a,l,?_⟩
    rcases p with p | p
    ·exact p
    ·have:(arrOf st).size<=max 0 (arrOf st).size:=Nat.le_max_right _ _
     have h3:a.length+max 0 (arrOf st).size<=a0.size:=p
     omega
   ·have:=atc fun r J=>(N.ok r J).1
    have:=N.len
    omega
  ·rintro ⟨Z,u4⟩ d ⟨v,a,l,p⟩
   dsimp only at v ⊢
   subst v
   dsimp only
   refine wpS_pure (h d l.f l.perm ?_)
   rw [l.arr]
   match a,p with
   | [],_=>exact List.Pairwise.nil
   | [x],_=>simpa [flat] using (l.ok x (by simp)).2
end
end TS
namespace L2
open PySem PySem.Spec PyProof.Rows
mutual
inductive Rep (H:Hp):V->PyData->Prop
 | non:Rep H .non .none
 | bl (b:Bool):Rep H (.bl b) (.bool b)
 | int (i:Int):Rep H (.int i) (.int i)
 | str (x:Str):Rep H (.str x) (.str x)
 | lst {a:Addr} {xs:List V} {ds:List PyData}:H a=some (.lst xs)->Reps H xs ds->Rep H (.ref a) (.list ds)
 | tup {a:Addr} {xs:List V} {ds:List PyData}:H a=some (.tup xs)->Reps H xs ds->Rep H (.ref a) (.tuple ds)
inductive Reps (H:Hp):List V->List PyData->Prop
 | nil:Reps H [] []
 | cons {v:V} {vs:List V} {d:PyData} {ds:List PyData}:Rep H v d->Reps H vs ds->Reps H (v :: vs) (d :: ds)
end
mutual
theorem Rep.same {H H':Hp} (s:Same H H'):∀ {v:V} {d:PyData},Rep H v d->Rep H' v d
 | _,_,.non => .non
 | _,_,.bl b => .bl b
 | _,_,.int i => .int i
 | _,_,.str x => .str x
 | _,_,.lst h r => .lst (s _ _ h) (Reps.same s r)
 | _,_,.tup h r => .tup (s _ _ h) (Reps.same s r)
theorem Reps.same {H H':Hp} (s:Same H H'):∀ {vs:List V} {ds:List PyData},Reps H vs ds->Reps H' vs ds
 | _,_,.nil => .nil
 | _,_,.cons r t => .cons (Rep.same s r) (Reps.same s t)
end
theorem Reps.length {H:Hp}:∀ {vs:List V} {ds:List PyData},Reps H vs ds->vs.length=ds.length
 | _,_,.nil=>rfl
 | _,_,.cons _ t=>by simp [Reps.length t]
theorem Reps.get {H:Hp}:∀ {vs:List V} {ds:List PyData} {i:Nat} {d:PyData},Reps H vs ds->ds[i]?=some d->∃ v,vs[i]?=some v/\Rep H v d
 | _,_,_,_,.nil,e=>by simp at e
 | _,_,0,_,.cons r _,e=>by simp at e;subst e;exact ⟨_,rfl,r⟩
 | _,_,i+1,d,.cons _ t,e=>by
  obtain ⟨u,b,a⟩:=Reps.get (i:=i) (d:=d) t (by simpa using e)
  exact ⟨u,by simpa using b,a⟩
theorem Reps.append {H:Hp}:∀ {vs a:List V} {ds es:List PyData},Reps H vs ds->Reps H a es->Reps H (vs ++ a) (ds ++ es)
 | _,_,_,_,.nil,s=>s
 | _,_,_,_,.cons r t,s => .cons r (Reps.append t s)
section
variable {X:Cx} {pins:List (Addr × Obj)} {σ:St} {H:Hp} {s:Shared}
mutual
theorem Rep.reads (I:Inv X pins σ H s):∀ {v:V} {d:PyData} {u:Value},Rep H v d->RelV v u->∃ as,Reads s.heap u d as
 | _,_,_,.non,r=>by cases r;exact ⟨_,.none⟩
 | _,_,_,.bl b,r=>by cases r;exact ⟨_,.bool b⟩
 | _,_,_,.int i,r=>by obtain ⟨t,rfl⟩:=r;exact ⟨_,.int i t⟩
 | _,_,_,.str x,r=>by obtain ⟨t,rfl⟩:=r;exact ⟨_,.str x t⟩
 | _,_,_,.lst (a:=a) (xs:=xs) h q,r=>by
  cases r
  obtain ⟨_,its,n,g,e⟩:=(show ObjOk X.prog X.w H s.heap a (.lst xs) from I.hok a _ h)
  obtain ⟨as,f⟩:=Reps.reads I q g
  exact ⟨_,.list e rfl rfl (by simpa using f)⟩
 | _,_,_,.tup (a:=a) (xs:=xs) h q,r=>by
  cases r
  obtain ⟨_,its,g,o,e,c,n,dd⟩:=(show ObjOk X.prog X.w H s.heap a (.tup xs) from I.hok a _ h)
  obtain ⟨as,f⟩:=Reps.reads I q g
  exact ⟨_,.tuple e c dd (by simpa using f)⟩
theorem Reps.reads (I:Inv X pins σ H s):∀ {vs:List V} {ds:List PyData} {us:List Value},Reps H vs ds->Vals vs us->∃ as,ReadsAll s.heap us ds as
 | _,_,_,.nil,.nil=>⟨_,.nil⟩
 | _,_,_,.cons r t,.cons q qs=>by
  obtain ⟨as,a⟩:=Rep.reads I r q
  obtain ⟨bs,rb⟩:=Reps.reads I t qs
  exact ⟨_,.cons a rb⟩
end
end
mutual
def aap:PyData->Bool
 | .none | .int _=>true
 | .list xs | .tuple xs=>plainDs xs
 | _=>false
def plainDs:List PyData->Bool
 | []=>true
 | x :: xs=>aap x && plainDs xs
end
mutual
theorem acj:∀ (d:PyData),aap d=true->d.canLay0=true
 | .none,_=>by simp [PyData.canLay0]
 | .int _,_=>by simp [PyData.canLay0]
 | .list xs,h=>by simp only [PyData.canLay0];exact plain_lays xs (by simpa [aap] using h)
 | .tuple xs,h=>by simp only [PyData.canLay0];exact plain_lays xs (by simpa [aap] using h)
 | .bool _,h=>by simp [aap] at h
 | .str _,h=>by simp [aap] at h
 | .dict _,h=>by simp [aap] at h
theorem plain_lays:∀ (ds:List PyData),plainDs ds=true->PyData.canLayAll0 ds=true
 | [],_=>by simp [PyData.canLayAll0]
 | x :: xs,h=>by
  have h':aap x=true/\plainDs xs=true:=by simpa [plainDs] using h
  simp only [PyData.canLayAll0,acj x h'.1,plain_lays xs h'.2,Bool.and_self]
end
mutual
theorem aft:∀ (d e:PyData),aap d=true->aap e=true->(PyData.eqv d e=true ↔ d=e)
 | .none,e,_,h=>by cases e <;> simp_all [aap,PyData.eqv]
 | .int i,e,_,h=>by cases e <;> simp_all [aap,PyData.eqv]
 | .list xs,e,g,h=>by
  cases e with
  | list ys=>simp only [PyData.eqv,PyData.list.injEq];exact eqvAll_plain xs ys (by simpa [aap] using g) (by simpa [aap] using h)
  | _=>simp_all [aap,PyData.eqv]
 | .tuple xs,e,g,h=>by
  cases e with
  | tuple ys=>simp only [PyData.eqv,PyData.tuple.injEq];exact eqvAll_plain xs ys (by simpa [aap] using g) (by simpa [aap] using h)
  | _=>simp_all [aap,PyData.eqv]
 | .bool _,_,h,_=>by simp [aap] at h
 | .str _,_,h,_=>by simp [aap] at h
 | .dict _,_,h,_=>by simp [aap] at h
theorem eqvAll_plain:∀ (ds es:List PyData),plainDs ds=true->plainDs es=true->(PyData.eqvAll ds es=true ↔ ds=es)
 | [],[],_,_=>by simp [PyData.eqvAll]
 | [],_ :: _,_,_=>by simp [PyData.eqvAll]
 | _ :: _,[],_,_=>by simp [PyData.eqvAll]
 | x :: xs,y :: ys,g,h=>by
  have g':aap x=true/\plainDs xs=true:=by simpa [plainDs] using g
  have h':aap y=true/\plainDs ys=true:=by simpa [plainDs] using h
  simp only [PyData.eqvAll,aG4,List.cons.injEq,aft x y g'.1 h'.1,eqvAll_plain xs ys g'.2 h'.2]
end
theorem ael (ds:List PyData):plainDs ds=true ↔ ∀ d∈ds,aap d=true:=by
 induction ds with
 | nil=>simp [plainDs]
 | cons d ds ih=>simp [plainDs,ih]
def rEqD:R2:=fun x y H Q=>∃ d e,Rep H x d/\Rep H y e/\aap d=true/\aap e=true/\d.depth<=60/\Q (.bl (PyData.eqv d e)) H
def rNeD:R2:=fun x y H Q=>∃ d e,Rep H x d/\Rep H y e/\aap d=true/\aap e=true/\d.depth<=60/\Q (.bl (!PyData.eqv d e)) H
section
variable {X:Cx}
theorem ayt (i:X.A.units+64 < cLine):OpR X (compareOp .Eq) rEqD:=by
 intro pins s σ H x y v u Q I f g h
 obtain ⟨d,e,a,re,hd,c,hz,q⟩:=h
 obtain ⟨as,b⟩:=a.reads I f
 obtain ⟨bs,rb⟩:=re.reads I g
 refine SeqAt.compareEq_reads b rb (acj _ hd) (acj _ c) ?_ ⟨.bl _,H,I,rfl,q⟩
 have:=Nat.min_le_left d.depth e.depth
 omega
theorem ahn (i:X.A.units+64 < cLine):OpR X (compareOp .NotEq) rNeD:=by
 intro pins s σ H x y v u Q I f g h
 obtain ⟨d,e,a,re,hd,c,hz,q⟩:=h
 obtain ⟨as,b⟩:=a.reads I f
 obtain ⟨bs,rb⟩:=re.reads I g
 refine SeqAt.compareNe_reads b rb (acj _ hd) (acj _ c) ?_ ⟨.bl _,H,I,rfl,q⟩
 have:=Nat.min_le_left d.depth e.depth
 omega
def rInD (neg:Bool):R2:=fun x y H Q=>∃ d es,Rep H x d/\(Rep H y (.list es)\/Rep H y (.tuple es))/\aap d=true/\plainDs es=true/\d.depth<=60/\Q (.bl (if neg then !es.any (fun z=>PyData.eqv z d) else es.any (fun z=>PyData.eqv z d))) H
theorem ajl (i:X.A.units+64 < cLine):OpR X (compareOp .NotIn) (rInD true):=by
 intro pins s σ H x y v u Q I g c h
 obtain ⟨d,es,f,re,hd,b,hz,q⟩:=h
 obtain ⟨as,a⟩:=f.reads I g
 have hm:=Nat.min_le_right (PyData.depthAll es) d.depth
 rcases re with re | re
 ·obtain ⟨bs,rb⟩:=re.reads I c
  exact SeqAt.notIn_list_reads rb a (plain_lays _ b) (acj _ hd) (by omega) ⟨.bl _,H,I,rfl,q⟩
 ·obtain ⟨bs,rb⟩:=re.reads I c
  exact SeqAt.notIn_tuple_reads rb a (plain_lays _ b) (acj _ hd) (by omega) ⟨.bl _,H,I,rfl,q⟩
def rIsi (K:Frag):List V->Hp->VK->Prop:=fun xs H Q=>∃ (x:V) (T:String) (t:Value) (b:Bool),xs=[x,.ty T]/\TyOf K H x t/\kitOne K t (.type T)=some b/\Q (.bl b) H
theorem ac9:aa2 X (.builtin "isinstance") (rIsi X.K):=by
 intro pins s σ H xs us Q I r h
 obtain ⟨x,T,t,b,rfl,ty,e,q⟩:=h
 obtain ⟨u,c,rfl,d,a⟩:=aow r
 cases a
 exact aqh I d ty e fun f=>⟨.bl b,H,I.tok _,rfl,q⟩
end
end L2
namespace HT
open PySem PyProof.Rows
section
open PySem.SeqAt
open PySem.AutoSeq1 (wpAny_loadPart')
open PySem.MeetsSeq PySem.MeetsSeq2 PySem.MeetsSeq3
end
section
variable {prog:Program} {w:World} {A:Around} {E:Value->Shared->Prop} {s:Shared}
end
end HT
namespace L2
open PySem PySem.Spec PyProof.Rows
section
variable {X:Cx}
end
end L2
namespace HT
open PySem PyProof.Rows
theorem aiq (val:Nat->Int):∀ k,argBest (fun i j=>decide (val i > val j)) k<=k/\∀ i,i<=k->val i<=val (argBest (fun i j=>decide (val i > val j)) k)
 | 0 => ⟨Nat.le_refl _, fun i hi => by have:i=0 := by omega
                                       subst this;exact Int.le_refl _⟩
 | k+1=>by
  obtain ⟨b,a⟩:=aiq val k
  unfold argBest
  by_cases hc:val (k+1) > val (argBest (fun i j=>decide (val i > val j)) k)
  ·rw [aE8 (aD6 hc)]
   refine ⟨aA6 _,fun i hi=>?_⟩
   by_cases e:i=k+1
   ·subst e;exact Int.le_refl _
   ·have:=a i (by omega)
    exact Int.le_trans this (Int.le_of_lt hc)
  ·rw [aE9 (by simpa using hc)]
   refine ⟨by omega,fun i hi=>?_⟩
   by_cases e:i=k+1
   ·subst e;omega
   ·exact a i (by omega)
theorem air (val:Nat->Int):∀ k,argBest (fun i j=>decide (val i < val j)) k<=k/\∀ i,i<=k->val (argBest (fun i j=>decide (val i < val j)) k)<=val i
 | 0 => ⟨Nat.le_refl _, fun i hi => by have:i=0 := by omega
                                       subst this;exact Int.le_refl _⟩
 | k+1=>by
  obtain ⟨b,a⟩:=air val k
  unfold argBest
  by_cases hc:val (k+1) < val (argBest (fun i j=>decide (val i < val j)) k)
  ·rw [aE8 (aD6 hc)]
   refine ⟨aA6 _,fun i hi=>?_⟩
   by_cases e:i=k+1
   ·subst e;exact Int.le_refl _
   ·have:=a i (by omega)
    exact Int.le_trans (Int.le_of_lt hc) this
  ·rw [aE9 (by simpa using hc)]
   refine ⟨by omega,fun i hi=>?_⟩
   by_cases e:i=k+1
   ·subst e;omega
   ·exact a i (by omega)
def val (ns:List Int) (i:Nat):Int:=(ns[i]?).getD 0
theorem acz {us:List Value} {ns:List Int} (hi:IntsAre us ns) (i:Nat) (v:Value) (h:us.toArray[i]?=some v):∃ t,v=.int (val ns i) t:=by
 induction hi generalizing i with
 | nil=>simp at h
 | cons n t r ih =>
  cases i with
  | zero=>simp at h;subst h;exact ⟨t,by simp [val]⟩
  | succ i =>
   obtain ⟨t',e⟩:=ih i (by simpa using h)
   exact ⟨t',by simpa [val] using e⟩
theorem agd {ns:List Int} {i:Nat} (h:i < ns.length):val ns i∈ns:=by
 unfold val
 rw [aA0 h]
 exact List.getElem_mem h
theorem aho {ns:List Int} {x:Int} (h:x∈ns):∃ i,i < ns.length/\val ns i=x:=by
 obtain ⟨i,hi,e⟩:=aG9.mp h
 exact ⟨i,hi,by unfold val;rw [aA0 hi];exact e⟩
section
variable {prog:Program} {w:World} {A:Around} {E:Value->Shared->Prop} {s:Shared}
theorem max_list {l:Addr} {us:List Value} {ns:List Int} {Q:Value->Shared->Prop} (hh:A.handled=none) (d:s.heap.IsList l us.toArray) (hi:IntsAre us ns) (f:ns ≠ [])
  (h:∀ m t h' g,m∈ns->(∀ x∈ns,x<=m)->(∀ b o,s.heap.get? b=some o->h'.get? b=some o)->Q (.int m t) { s with heap:=h',toks:=g }) :
  wpAny (model prog w) A (call (.builtin "max") [.ref l]) Q E s:=by
 have a:l < s.heap.objs.size:=by obtain ⟨_,e,_⟩:=d;exact aI3 e
 have hz:us.length=ns.length:=hi.length
 have y:0 < ns.length:=aF2.mpr f
 refine call_max_walk (aJ3 d ?_)
 refine ⟨_,[s.heap.objs.size,l],_,_,_,_,_,rfl,Walks.list (A:=A.in1) hh _ l (aB5 a) us.toArray,⟨⟨_,aI4 _ rfl,rfl,rfl⟩,d.push _⟩,fun b hb=>?_,by simp;omega,CmpOf.ints_gt (val ns) (fun i v=>acz hi i v),fun v h' g u q=>?_⟩
 ·show b < (s.heap.push _).objs.size
  rw [aJ0]
  rcases aA8.mp hb with rfl | hb
  ·exact aH8 _
  ·rcases aA8.mp hb with rfl | hb
   ·exact aF1 a
   ·cases hb
 ·obtain ⟨t,e⟩:=acz hi _ _ u
  obtain ⟨b1,j⟩:=aiq (val ns) (us.toArray.size - 1)
  have c:us.toArray.size=ns.length:=by simp [hz]
  rw [c] at b1 j
  subst e
  refine h _ t h' g (agd (by rw [c];omega)) (fun x r=>?_) fun b o e=>?_
  ·obtain ⟨i,n,e⟩:=aho r
   have:=j i (by omega)
   rw [e] at this
   rw [c]
   exact this
  ·refine q b o (fun hm=>?_) (aI2 _ e)
   rcases aA8.mp hm with p | hm
   ·exact absurd (p ▸ aI3 e) (aF7 _)
   ·cases hm
theorem min_list {l:Addr} {us:List Value} {ns:List Int} {Q:Value->Shared->Prop} (hh:A.handled=none) (d:s.heap.IsList l us.toArray) (hi:IntsAre us ns) (f:ns ≠ [])
  (h:∀ m t h' g,m∈ns->(∀ x∈ns,m<=x)->(∀ b o,s.heap.get? b=some o->h'.get? b=some o)->Q (.int m t) { s with heap:=h',toks:=g }) :
  wpAny (model prog w) A (call (.builtin "min") [.ref l]) Q E s:=by
 have a:l < s.heap.objs.size:=by obtain ⟨_,e,_⟩:=d;exact aI3 e
 have hz:us.length=ns.length:=hi.length
 have y:0 < ns.length:=aF2.mpr f
 refine call_min_walk (aJ3 d ?_)
 refine ⟨_,[s.heap.objs.size,l],_,_,_,_,_,rfl,Walks.list (A:=A.in1) hh _ l (aB5 a) us.toArray,⟨⟨_,aI4 _ rfl,rfl,rfl⟩,d.push _⟩,fun b hb=>?_,by simp;omega,CmpOf.ints_lt (val ns) (fun i v=>acz hi i v),fun v h' g u q=>?_⟩
 ·show b < (s.heap.push _).objs.size
  rw [aJ0]
  rcases aA8.mp hb with rfl | hb
  ·exact aH8 _
  ·rcases aA8.mp hb with rfl | hb
   ·exact aF1 a
   ·cases hb
 ·obtain ⟨t,e⟩:=acz hi _ _ u
  obtain ⟨b1,j⟩:=air (val ns) (us.toArray.size - 1)
  have c:us.toArray.size=ns.length:=by simp [hz]
  rw [c] at b1 j
  subst e
  refine h _ t h' g (agd (by rw [c];omega)) (fun x r=>?_) fun b o e=>?_
  ·obtain ⟨i,n,e⟩:=aho r
   have:=j i (by omega)
   rw [e] at this
   rw [c]
   exact this
  ·refine q b o (fun hm=>?_) (aI2 _ e)
   rcases aA8.mp hm with p | hm
   ·exact absurd (p ▸ aI3 e) (aF7 _)
   ·cases hm
theorem max_tup {l:Addr} {us:List Value} {ns:List Int} {Q:Value->Shared->Prop} (hh:A.handled=none) (g:s.heap.IsTuple l us.toArray) (hi:IntsAre us ns) (j:ns ≠ [])
  (h:∀ m t h' d,m∈ns->(∀ x∈ns,x<=m)->(∀ b o,s.heap.get? b=some o->h'.get? b=some o)->Q (.int m t) { s with heap:=h',toks:=d }) :
  wpAny (model prog w) A.in1 (pyIter (.ref l)) (fun it a=>∃ I fp p n P St r,it=.ref I/\Walks prog w A.in1 I fp p n P St/\St 0 a.heap/\(∀ b∈fp,b < a.heap.objs.size)/\0 < n/\CmpOf prog w A.in1 .Gt P r /\
   ∀ v h' d,P (argBest r (n - 1)) v->(∀ b o,b ∉ p->a.heap.get? b=some o->h'.get? b=some o)->Q v { a with heap:=h',toks:=d }) E s:=by
 have c:l < s.heap.objs.size:=by obtain ⟨_,e,_⟩:=g;exact aI3 e
 have hz:us.length=ns.length:=hi.length
 have D:0 < ns.length:=aF2.mpr j
 refine wpAny_pyIter_tuple g ?_
 refine ⟨_,[s.heap.objs.size,l],[_],_,_,_,_,rfl,Walks.tuple (A:=A.in1) hh _ l (aB5 c) us.toArray,⟨⟨_,aI4 _ rfl,rfl,rfl⟩,g.push _⟩,fun b hb=>?_,by simp;omega,CmpOf.ints_gt (val ns) (fun i v=>acz hi i v),fun v h' d C z=>?_⟩
 ·show b < (s.heap.push _).objs.size
  rw [aJ0]
  rcases aA8.mp hb with rfl | hb
  ·exact aH8 _
  ·rcases aA8.mp hb with rfl | hb
   ·exact aF1 c
   ·cases hb
 ·obtain ⟨t,e⟩:=acz hi _ _ C
  obtain ⟨b1,q⟩:=aiq (val ns) (us.toArray.size - 1)
  have f:us.toArray.size=ns.length:=by simp [hz]
  rw [f] at b1 q
  subst e
  refine h _ t h' d (agd (by rw [f];omega)) (fun x B=>?_) fun b o e=>?_
  ·obtain ⟨i,u,e⟩:=aho B
   have:=q i (by omega)
   rw [e] at this
   rw [f]
   exact this
  ·refine z b o (fun hm=>?_) (aI2 _ e)
   rcases aA8.mp hm with y | hm
   ·exact absurd (y ▸ aI3 e) (aF7 _)
   ·cases hm
theorem min_tup {l:Addr} {us:List Value} {ns:List Int} {Q:Value->Shared->Prop} (hh:A.handled=none) (g:s.heap.IsTuple l us.toArray) (hi:IntsAre us ns) (j:ns ≠ [])
  (h:∀ m t h' d,m∈ns->(∀ x∈ns,m<=x)->(∀ b o,s.heap.get? b=some o->h'.get? b=some o)->Q (.int m t) { s with heap:=h',toks:=d }) :
  wpAny (model prog w) A.in1 (pyIter (.ref l)) (fun it a=>∃ I fp p n P St r,it=.ref I/\Walks prog w A.in1 I fp p n P St/\St 0 a.heap/\(∀ b∈fp,b < a.heap.objs.size)/\0 < n/\CmpOf prog w A.in1 .Lt P r /\
   ∀ v h' d,P (argBest r (n - 1)) v->(∀ b o,b ∉ p->a.heap.get? b=some o->h'.get? b=some o)->Q v { a with heap:=h',toks:=d }) E s:=by
 have c:l < s.heap.objs.size:=by obtain ⟨_,e,_⟩:=g;exact aI3 e
 have hz:us.length=ns.length:=hi.length
 have D:0 < ns.length:=aF2.mpr j
 refine wpAny_pyIter_tuple g ?_
 refine ⟨_,[s.heap.objs.size,l],[_],_,_,_,_,rfl,Walks.tuple (A:=A.in1) hh _ l (aB5 c) us.toArray,⟨⟨_,aI4 _ rfl,rfl,rfl⟩,g.push _⟩,fun b hb=>?_,by simp;omega,CmpOf.ints_lt (val ns) (fun i v=>acz hi i v),fun v h' d C z=>?_⟩
 ·show b < (s.heap.push _).objs.size
  rw [aJ0]
  rcases aA8.mp hb with rfl | hb
  ·exact aH8 _
  ·rcases aA8.mp hb with rfl | hb
   ·exact aF1 c
   ·cases hb
 ·obtain ⟨t,e⟩:=acz hi _ _ C
  obtain ⟨b1,q⟩:=air (val ns) (us.toArray.size - 1)
  have f:us.toArray.size=ns.length:=by simp [hz]
  rw [f] at b1 q
  subst e
  refine h _ t h' d (agd (by rw [f];omega)) (fun x B=>?_) fun b o e=>?_
  ·obtain ⟨i,u,e⟩:=aho B
   have:=q i (by omega)
   rw [e] at this
   rw [f]
   exact this
  ·refine z b o (fun hm=>?_) (aI2 _ e)
   rcases aA8.mp hm with y | hm
   ·exact absurd (y ▸ aI3 e) (aF7 _)
   ·cases hm
end
end HT
namespace L2
open PySem PySem.Spec PyProof.Rows
section
variable {X:Cx}
def ac0 (ns:List Int) (m:Int):Prop:=m∈ns/\∀ x∈ns,x<=m
def apc (ns:List Int) (m:Int):Prop:=m∈ns/\∀ x∈ns,m<=x
def aed (K:Frag):List V->Hp->VK->Prop:=fun xs H Q=>∃ (a:Addr) (ns:List Int),xs=[.ref a]/\(SqL K H a (ns.map V.int)\/SqT K H a (ns.map V.int))/\ns ≠ []/\∀ m,ac0 ns m->Q (.int m) H
def akk (K:Frag):List V->Hp->VK->Prop:=fun xs H Q=>∃ (a:Addr) (ns:List Int),xs=[.ref a]/\(SqL K H a (ns.map V.int)\/SqT K H a (ns.map V.int))/\ns ≠ []/\∀ m,apc ns m->Q (.int m) H
theorem acw (j:X.calm=true):aa2 X (.builtin "max") (aed X.K):=by
 intro pins s σ H xs us Q I r h
 obtain ⟨a,ns,rfl,ha,b,q⟩:=h
 obtain ⟨u,rfl,l⟩:=ab9 r
 cases l
 rcases ha with ha | ha
 ·obtain ⟨its,f,i,_⟩:=I.list ha
  have d:IntsAre its.toArray.toList ns:=ab1 f
  exact HT.max_list (I.ok.hd j) i.isList (by simpa using d) b fun m t h' n c g kp=>⟨.int m,H,I.kept kp,⟨_,rfl⟩,q m ⟨c,g⟩⟩
 ·obtain ⟨its,f,i,_⟩:=I.tuple ha
  have d:IntsAre its.toArray.toList ns:=ab1 f
  refine call_max_walk (HT.max_tup (I.ok.hd j) i (by simpa using d) b fun m t h' n c g kp=>⟨.int m,H,I.kept kp,⟨_,rfl⟩,q m ⟨c,g⟩⟩)
theorem aq4 (j:X.calm=true):aa2 X (.builtin "min") (akk X.K):=by
 intro pins s σ H xs us Q I r h
 obtain ⟨a,ns,rfl,ha,b,q⟩:=h
 obtain ⟨u,rfl,l⟩:=ab9 r
 cases l
 rcases ha with ha | ha
 ·obtain ⟨its,f,i,_⟩:=I.list ha
  have d:IntsAre its.toArray.toList ns:=ab1 f
  exact HT.min_list (I.ok.hd j) i.isList (by simpa using d) b fun m t h' n c g kp=>⟨.int m,H,I.kept kp,⟨_,rfl⟩,q m ⟨c,g⟩⟩
 ·obtain ⟨its,f,i,_⟩:=I.tuple ha
  have d:IntsAre its.toArray.toList ns:=ab1 f
  refine call_min_walk (HT.min_tup (I.ok.hd j) i (by simpa using d) b fun m t h' n c g kp=>⟨.int m,H,I.kept kp,⟨_,rfl⟩,q m ⟨c,g⟩⟩)
end
def tTru (K:Frag) (ta:TE):TT:=fun σ H Q=>ta σ H fun x H'=>∃ k,TruV K x H' k/\Q k H'
def rIsN:R2:=fun x y H Q=>y=.non/\Q (.bl (decide (x=.non))) H
def au3:R2:=fun x y H Q=>y=.non/\Q (.bl (!decide (x=.non))) H
section
variable {X:Cx} {a:Expr} {ta:TE}
theorem ayu (ha:PE X a ta) (b:∀ whole,isTrue a X.env whole=(do let v ← whole;standAt a.pos;holding [v] (truthy v)):=by intro _;rfl):PT X a (tTru X.K ta):=asm ha b
def acm (K:Frag):R2:=fun x y H Q=>rIxL K x y H Q\/rIxT K x y H Q
theorem aar:IxR X (acm X.K):=ix_list.or aya
theorem av7 {i j n:Int} {c d:Nat} {f p2 a:Pos} (h:i ^ j.toNat=n) (b:CPow i j):PE X (.BinOp (.Constant (.int i) c f) .Pow (.Constant (.int j) d p2) a) (tC (.int n)):=by
 intro pins s σ H Q I q
 subst h
 exact aat ax6 aae aae pins s σ H Q I ⟨i,j,rfl,rfl,b,q⟩
theorem av8:OpR X (compareOp .Is) rIsN:=ax7
theorem atd:OpR X (compareOp .IsNot) au3:=avg
end
section
variable {σ:St} {H:Hp} {D:Ends} {K:Frag}
theorem ae2 {a:Addr} {xs:List V} {i:Int} {v:V} {Q:VK} (ha:H a=some (.lst xs)) (b:atI xs i=some v) (h:Q v H):acm K (.ref a) (.int i) H Q:=.inl (ayl ha b h)
theorem ale {a:Addr} {xs:List V} {i:Int} {v:V} {Q:VK} (ha:H a=some (.tup xs)) (b:atI xs i=some v) (h:Q v H):acm K (.ref a) (.int i) H Q:=.inr (aym ha b h)
theorem ate {a:Addr} {xs:List V} {i:Int} {v:V} {Q:VK} (ha:SqL K H a xs) (b:atI xs i=some v) (h:Q v H):acm K (.ref a) (.int i) H Q:=.inl (ayq ha b h)
theorem ace {A B:Prop} (h:A):if true=true then A else B:=by rw [aE8 rfl];exact h
theorem acp {A B:Prop} (h:B):if false=true then A else B:=by rw [aE9 aA9];exact h
theorem age {A B:Prop} (h:B):if (!true)=true then A else B:=by rw [aE9 (by decide)];exact h
theorem ais {A B:Prop} (h:A):if (!false)=true then A else B:=by rw [aE8 (by decide)];exact h
theorem atf {c:Prop} [Decidable c] {A B:Prop} (a:c) (h:B):if (!decide c)=true then A else B:=by rw [aD6 a];exact age h
theorem atg {c:Prop} [Decidable c] {A B:Prop} (a:¬ c) (h:A):if (!decide c)=true then A else B:=by rw [aD5 a];exact ais h
theorem agx {K:Frag}:kitOne K (.type "NoneType") (.type "int")=some false:=by first | rfl | decide
theorem agm {K:Frag}:kitOne K (.type "NoneType") (.type "bool")=some false:=by first | rfl | decide
theorem afu {K:Frag}:kitOne K (.type "NoneType") (.type "tuple")=some false:=by first | rfl | decide
theorem agn {K:Frag}:kitOne K (.type "NoneType") (.type "list")=some false:=by first | rfl | decide
theorem agy {K:Frag}:kitOne K (.type "NoneType") (.type "str")=some false:=by first | rfl | decide
theorem ago {K:Frag}:kitOne K (.type "NoneType") (.type "dict")=some false:=by first | rfl | decide
theorem alf {K:Frag}:kitOne K (.type "bool") (.type "int")=some true:=by first | rfl | decide
theorem ajz {K:Frag}:kitOne K (.type "bool") (.type "bool")=some true:=by first | rfl | decide
theorem ait {K:Frag}:kitOne K (.type "bool") (.type "tuple")=some false:=by first | rfl | decide
theorem aj0 {K:Frag}:kitOne K (.type "bool") (.type "list")=some false:=by first | rfl | decide
theorem alg {K:Frag}:kitOne K (.type "bool") (.type "str")=some false:=by first | rfl | decide
theorem aj1 {K:Frag}:kitOne K (.type "bool") (.type "dict")=some false:=by first | rfl | decide
theorem am2 {K:Frag}:kitOne K (.type "int") (.type "int")=some true:=by first | rfl | decide
theorem alh {K:Frag}:kitOne K (.type "int") (.type "bool")=some false:=by first | rfl | decide
theorem aj2 {K:Frag}:kitOne K (.type "int") (.type "tuple")=some false:=by first | rfl | decide
theorem ali {K:Frag}:kitOne K (.type "int") (.type "list")=some false:=by first | rfl | decide
theorem am3 {K:Frag}:kitOne K (.type "int") (.type "str")=some false:=by first | rfl | decide
theorem alj {K:Frag}:kitOne K (.type "int") (.type "dict")=some false:=by first | rfl | decide
theorem am4 {K:Frag}:kitOne K (.type "str") (.type "int")=some false:=by first | rfl | decide
theorem alk {K:Frag}:kitOne K (.type "str") (.type "bool")=some false:=by first | rfl | decide
theorem aj3 {K:Frag}:kitOne K (.type "str") (.type "tuple")=some false:=by first | rfl | decide
theorem alm {K:Frag}:kitOne K (.type "str") (.type "list")=some false:=by first | rfl | decide
theorem am5 {K:Frag}:kitOne K (.type "str") (.type "str")=some true:=by first | rfl | decide
theorem aln {K:Frag}:kitOne K (.type "str") (.type "dict")=some false:=by first | rfl | decide
theorem alo {K:Frag}:kitOne K (.type "list") (.type "int")=some false:=by first | rfl | decide
theorem aj4 {K:Frag}:kitOne K (.type "list") (.type "bool")=some false:=by first | rfl | decide
theorem aiu {K:Frag}:kitOne K (.type "list") (.type "tuple")=some false:=by first | rfl | decide
theorem aj5 {K:Frag}:kitOne K (.type "list") (.type "list")=some true:=by first | rfl | decide
theorem alp {K:Frag}:kitOne K (.type "list") (.type "str")=some false:=by first | rfl | decide
theorem aj6 {K:Frag}:kitOne K (.type "list") (.type "dict")=some false:=by first | rfl | decide
theorem aj7 {K:Frag}:kitOne K (.type "tuple") (.type "int")=some false:=by first | rfl | decide
theorem aiv {K:Frag}:kitOne K (.type "tuple") (.type "bool")=some false:=by first | rfl | decide
theorem ahp {K:Frag}:kitOne K (.type "tuple") (.type "tuple")=some true:=by first | rfl | decide
theorem aiw {K:Frag}:kitOne K (.type "tuple") (.type "list")=some false:=by first | rfl | decide
theorem aj8 {K:Frag}:kitOne K (.type "tuple") (.type "str")=some false:=by first | rfl | decide
theorem aix {K:Frag}:kitOne K (.type "tuple") (.type "dict")=some false:=by first | rfl | decide
theorem alq {K:Frag}:kitOne K (.type "dict") (.type "int")=some false:=by first | rfl | decide
theorem aj9 {K:Frag}:kitOne K (.type "dict") (.type "bool")=some false:=by first | rfl | decide
theorem aiy {K:Frag}:kitOne K (.type "dict") (.type "tuple")=some false:=by first | rfl | decide
theorem aka {K:Frag}:kitOne K (.type "dict") (.type "list")=some false:=by first | rfl | decide
theorem alr {K:Frag}:kitOne K (.type "dict") (.type "str")=some false:=by first | rfl | decide
theorem akb {K:Frag}:kitOne K (.type "dict") (.type "dict")=some true:=by first | rfl | decide
end
end L2
namespace L2
open PySem
section
variable {σ:St} {H:Hp} {K:Frag}
theorem abe {p:Addr} {o:HO} (a:H p=none):Same H (upd H p o):=fun b u e=>by rw [aad (aal e a)];exact e
theorem Same.new {H H':Hp} {q:Addr} {o:HO} (s:Same H H') (h:H' q=none):Same H (upd H' q o):=fun b u e=>by
 have:=s b u e
 rw [aad (aal this h)];exact this
theorem Same.set {H H':Hp} {q:Addr} {o:HO} (s:Same H H') (h:H q=none):Same H (upd H' q o):=fun b u e=>by
 have:=s b u e
 rw [aad (aal e h)];exact this
theorem Same.at {H H':Hp} {b:Addr} {o:HO} (s:Same H H') (h:H b=some o):H' b=some o:=s b o h
end
section
variable {σ:St} {H:Hp} {K:Frag}
abbrev NewL (Q:VK):List V->Hp->Prop:=fun xs H1=>xs.length<=sizeLine/\∀ p,H1 p=none->Q (.ref p) (upd H1 p (.lst xs))
theorem av9 {t:TA} {Q:VK} (h:t σ H (NewL Q)):tLst t σ H Q:=h
end
end L2
namespace Gr
inductive Walk (T:Int->Int->Prop) (u:Int):Nat->Int->Prop
 | refl:Walk T u 0 u
 | step {k:Nat} {v w:Int}:Walk T u k v->T v w->Walk T u (k+1) w
def Dist (T:Int->Int->Prop) (u v:Int) (d:Nat):Prop:=Walk T u d v/\∀ k,Walk T u k v->d<=k
theorem Dist.uniq {T:Int->Int->Prop} {u v:Int} {d e:Nat} (h:Dist T u v d) (g:Dist T u v e):d=e:=Nat.le_antisymm (h.2 _ g.1) (g.2 _ h.1)
theorem Dist.self (T:Int->Int->Prop) (u:Int):Dist T u u 0:=⟨.refl,fun _ _=>aF3 _⟩
theorem Dist.of_walk {T:Int->Int->Prop} {u v:Int} {k:Nat} (h:Walk T u k v):∃ d,d<=k/\Dist T u v d:=by
 induction k using Nat.strongRecOn with
 | ind k ih =>
  by_cases hx:∃ j,j < k/\Walk T u j v
  ·obtain ⟨j,a,w⟩:=hx
   obtain ⟨d,hd,e⟩:=ih j a w
   exact ⟨d,by omega,e⟩
  ·refine ⟨k,aA6 _,h,fun j w=>?_⟩
   by_cases a:j < k
   ·exact absurd ⟨j,a,w⟩ hx
   ·omega
theorem Dist.pred {T:Int->Int->Prop} {u w:Int} {d:Nat} (h:Dist T u w (d+1)):∃ v,T v w/\Dist T u v d:=by
 obtain ⟨a,hm⟩:=h
 cases a with
 | step hv ht =>
  rename_i v
  refine ⟨v,ht,hv,fun k b=>?_⟩
  have:=hm (k+1) (.step b ht)
  omega
theorem Dist.next {T:Int->Int->Prop} {u v w:Int} {d:Nat} (h:Dist T u v d) (t:T v w):∃ e,e<=d+1/\Dist T u w e:=Dist.of_walk (.step h.1 t)
structure Bfs (T:Int->Int->Prop) (a:Int) (line:List Int) (ds:List Nat) (at_:Nat):Prop where
 len:ds.length=line.length
 fst:line[0]?=some a
 nd:line.Nodup
 le:at_<=line.length
 dist:∀ (i:Nat) v d,line[i]?=some v->ds[i]?=some d->Dist T a v d
 mono:∀ (i j:Nat) d e,i<=j->ds[i]?=some d->ds[j]?=some e->d<=e
 near:∀ (i j:Nat) d e,at_<=i->ds[i]?=some d->ds[j]?=some e->e<=d+1
 done:∀ (i:Nat) v w,i < at_->line[i]?=some v->T v w->w∈line
theorem Bfs.start (T:Int->Int->Prop) (a:Int):Bfs T a [a] [0] 0:=by
 refine ⟨rfl,rfl,by simp,aF3 _,fun i v d c b=>?_,fun i j d e h c b=>?_,fun i j d e h c b=>?_,fun i v w h=>absurd h (by omega)⟩
 ·match i,c,b with
  | 0,c,b=>simp at c b;subst c b;exact Dist.self T a
  | i+1,c,_=>simp at c
 ·match j,b with
  | 0,b =>
   have:i=0:=by omega
   subst this
   rw [c] at b;cases b;exact aA6 _
  | j+1,b=>simp at b
 ·match i,j,c,b with
  | 0,0,c,b=>rw [c] at b;cases b;omega
  | i+1,_,c,_=>simp at c
  | 0,j+1,_,b=>simp at b
theorem Bfs.all {T:Int->Int->Prop} {a:Int} {line:List Int} {ds:List Nat} {at_:Nat} {d:Nat} (b:Bfs T a line ds at_) (hd:ds[at_]?=some d) :
  ∀ k w,k<=d->Dist T a w k->w∈line:=by
 intro k
 induction k with
 | zero =>
  intro w _ h
  have:w=a:=by
   cases h.1;rfl
  subst this
  exact aA2 b.fst
 | succ k ih =>
  intro w o h
  obtain ⟨v,m,j⟩:=h.pred
  have l:=ih v (by omega) j
  obtain ⟨i,hi,e⟩:=aG9.mp l
  have f:line[i]?=some v:=by rw [aA0 hi,e]
  have c:i < ds.length:=by rw [b.len];exact hi
  have g:ds[i]?=some ds[i]:=aA0 c
  have n:=(b.dist i v _ f g).uniq j
  by_cases hlt:i < at_
  ·exact b.done i v w hlt f m
  ·have:=b.mono at_ i d _ (by omega) hd g
   omega
theorem Bfs.add {T:Int->Int->Prop} {a:Int} {line:List Int} {ds:List Nat} {at_:Nat} {p w:Int} {d:Nat} (b:Bfs T a line ds at_) (n:line[at_]?=some p) (hd:ds[at_]?=some d) (t:T p w) (r:w ∉ line) :
  Bfs T a (line ++ [w]) (ds ++ [d+1]) at_:=by
 have z:at_ < line.length:=(aA1.mp n).1
 have dw:Dist T a w (d+1):=by
  obtain ⟨e,C,h⟩:=(b.dist _ _ _ n hd).next t
  by_cases c:e<=d
  ·exact absurd (b.all hd e w c h) r
  ·have:e=d+1:=by omega
   rw [← this];exact h
 have g:∀ (j:Nat) e,(ds ++ [d+1])[j]?=some e->(ds[j]?=some e)\/(j=ds.length/\e=d+1):=by
  intro j e h
  rw [List.getElem?_append] at h
  split at h
  ·exact .inl h
  ·rename_i hj
   right
   have:j - ds.length=0:=by
    match hz:j - ds.length,h with
    | 0,_=>rfl
    | k+1,h=>simp at h
   rw [this] at h
   simp at h
   exact ⟨by omega,h.symm⟩
 refine ⟨by simp [b.len],?_,?_,by simp;omega,fun i v e f c=>?_,fun i j x y h f c=>?_,fun i j x y h f c=>?_,fun i v u h f B=>?_⟩
 ·rw [aC2 (by omega)];exact b.fst
 ·rw [aE3]
  exact ⟨b.nd,by simp,fun x A y o=>by simp at o;subst o;intro e;subst e;exact r A⟩
 ·rcases g _ _ c with c | ⟨q,l⟩
  ·have hi:i < ds.length:=(aA1.mp c).1
   rw [aC2 (by rw [← b.len];exact hi)] at f
   exact b.dist i v e f c
  ·subst l
   rw [aC7 (by rw [← b.len];omega)] at f
   have:i - line.length=0:=by rw [← b.len];omega
   rw [this] at f
   simp at f;subst f
   exact dw
 ·rcases g _ _ f with f | ⟨q,l⟩
  ·rcases g _ _ c with c | ⟨m,l⟩
   ·exact b.mono i j x y h f c
   ·subst l
    by_cases hia:at_<=i
    ·exact b.near at_ i d x (aA6 _) hd f
    ·have:=b.mono i at_ x d (by omega) f hd;omega
  ·rcases g _ _ c with c | ⟨m,s⟩
   ·have:=(aA1.mp c).1;omega
   ·omega
 ·rcases g _ _ f with f | ⟨q,l⟩
  ·rcases g _ _ c with c | ⟨m,l⟩
   ·exact b.near i j x y h f c
   ·subst l
    have:=b.mono at_ i d x h hd f;omega
  ·subst l
   rcases g _ _ c with c | ⟨m,l⟩
   ·have:=b.near at_ j d y (aA6 _) hd c;omega
   ·omega
 ·rw [aC2 (by omega)] at f
  exact aC6 _ (b.done i v u h f B)
theorem Bfs.next {T:Int->Int->Prop} {a:Int} {line:List Int} {ds:List Nat} {at_:Nat} {p:Int} (b:Bfs T a line ds at_) (g:line[at_]?=some p) (h:∀ w,T p w->w∈line):Bfs T a line ds (at_+1):=by
 have f:at_ < line.length:=(aA1.mp g).1
 refine ⟨b.len,b.fst,b.nd,f,b.dist,b.mono,fun i j d e hi=>b.near i j d e (by omega),fun i v w hi c t=>?_⟩
 by_cases e:i=at_
 ·subst e
  rw [g] at c;cases c
  exact h w t
 ·exact b.done i v w (by omega) c t
theorem Bfs.fin {T:Int->Int->Prop} {a:Int} {line:List Int} {ds:List Nat} (b:Bfs T a line ds line.length):∀ k w,Walk T a k w->w∈line:=by
 intro k w h
 induction h with
 | refl=>exact aA2 b.fst
 | step _ t ih =>
  obtain ⟨i,hi,e⟩:=aG9.mp ih
  exact b.done i _ _ hi (by rw [aA0 hi,e]) t
end Gr
namespace L2
open PySem PySem.Spec PyProof.Rows
section
variable {σ:St} {H:Hp} {D:Ends} {K:Frag}
end
theorem few_places:∀ (n:Nat) (l:List Int),l.Nodup->(∀ v∈l,0<=v/\v < (n:Int))->l.length<=n
 | 0,l,_,h=>by
  cases l with
  | nil=>simp
  | cons v r=>have:=h v (by simp);omega
 | n+1,l,hn,h=>by
  have d:=few_places n (l.erase (n:Int)) (hn.erase _) fun v a=>by
   have hm:=List.mem_of_mem_erase a
   have hb:=h v hm
   have b:v ≠ (n:Int):=by
    rintro rfl
    exact absurd a (List.Nodup.not_mem_erase hn)
   omega
  have c:l.length<=(l.erase (n:Int)).length+1:=by
   rw [List.length_erase]
   split <;> omega
  omega
end L2
namespace L2
open PySem
end L2
namespace HT
open PySem PyProof.Rows
theorem ahq (ns:List Int):∀ k,k<=ns.length->preSum (val ns) k=(ns.take k).sum
 | 0,_=>by simp [preSum]
 | k+1,h=>by
  have a:=ahq ns k (by omega)
  have e:ns.take (k+1)=ns.take k ++ [ns[k]]:=by rw [aG7,aA0 (by omega)];rfl
  rw [e,List.sum_append]
  unfold preSum
  rw [a]
  unfold val
  rw [aA0 (by omega)]
  simp
section
variable {prog:Program} {w:World} {A:Around} {E:Value->Shared->Prop} {s:Shared}
theorem sum_list {l:Addr} {us:List Value} {ns:List Int} {Q:Value->Shared->Prop} (hh:A.handled=none) (c:s.heap.IsList l us.toArray) (hi:IntsAre us ns)
  (h:∀ t h' d,(∀ b o,s.heap.get? b=some o->h'.get? b=some o)->Q (.int ns.sum t) { s with heap:=h',toks:=d }) :
  wpAny (model prog w) A (call (.builtin "sum") [.ref l]) Q E s:=by
 have a:l < s.heap.objs.size:=by obtain ⟨_,e,_⟩:=c;exact aI3 e
 have hz:us.length=ns.length:=hi.length
 refine call_sum_walkG (aJ3 c ?_)
 refine ⟨_,[s.heap.objs.size,l],_,_,_,_,val ns,rfl,Walks.list (A:=A.in1) hh _ l (aB5 a) us.toArray,⟨⟨_,aI4 _ rfl,rfl,rfl⟩,c.push _⟩,fun b hb=>?_,fun i v=>acz hi i v,fun h' d t' j=>?_⟩
 ·show b < (s.heap.push _).objs.size
  rw [aJ0]
  rcases aA8.mp hb with rfl | hb
  ·exact aH8 _
  ·rcases aA8.mp hb with rfl | hb
   ·exact aF1 a
   ·cases hb
 ·have f:us.toArray.size=ns.length:=by simp [hz]
  rw [f,ahq ns _ (aA6 _),aG1]
  refine h t' h' d fun b o e=>?_
  refine j b o (fun hm=>?_) (aI2 _ e)
  rcases aA8.mp hm with g | hm
  ·exact absurd (g ▸ aI3 e) (aF7 _)
  ·cases hm
end
end HT
namespace L2
open PySem PySem.Spec PyProof.Rows
section
variable {X:Cx}
def apd (K:Frag):List V->Hp->VK->Prop:=fun xs H Q=>∃ (a:Addr) (ns:List Int),xs=[.ref a]/\SqL K H a (ns.map V.int)/\Q (.int ns.sum) H
theorem ajm (c:X.calm=true):aa2 X (.builtin "sum") (apd X.K):=by
 intro pins s σ H xs us Q I r h
 obtain ⟨a,ns,rfl,ha,q⟩:=h
 obtain ⟨u,rfl,b⟩:=ab9 r
 cases b
 obtain ⟨its,f,g,_⟩:=I.list ha
 have d:IntsAre its.toArray.toList ns:=ab1 f
 exact HT.sum_list (I.ok.hd c) g.isList (by simpa using d) fun t h' i kp=>⟨.int _,H,I.kept kp,⟨_,rfl⟩,q⟩
end
section
variable {X:Cx} {pins:List (Addr × Obj)} {σ:St} {H:Hp} {s:Shared} {A:Around} {E:Value->Shared->Prop} {Q:Value->Shared->Prop} {b:Bool}
end
section
variable {X:Cx}
end
end L2
namespace HT
open PySem PyProof.Rows L2
def LtAt (A:Around) (s:Shared) (y x:Value) (b:Bool):Prop :=
 ∀ (prog:Program) (w:World) (E:Value->Shared->Prop) (Q:Value->Shared->Prop),Q (.bool b) s->wpAny (model prog w) A (richCompare .Lt y x) Q E s
section
open PySem.SeqAt
open PySem.AutoSeq1 (wpAny_loadPart')
open PySem.MeetsSeq PySem.MeetsSeq2 PySem.MeetsSeq3
inductive Its (A:Around) (s:Shared):List Value->List Value->Bool->Prop
 | nn:Its A s [] [] false
 | nc {x:Value} {ys:List Value}:Its A s [] (x :: ys) true
 | cn {x:Value} {xs:List Value}:Its A s (x :: xs) [] false
 | eq {x y:Value} {xs ys:List Value} {b:Bool}:EqAt A s x y true->Its A s xs ys b->Its A s (x :: xs) (y :: ys) b
 | ne {x y:Value} {xs ys:List Value} {b:Bool}:EqAt A s x y false->LtAt A s x y b->Its A s (x :: xs) (y :: ys) b
theorem als (l b:Addr) (items a:Array Value) (n F:Nat) (dd o:Option Addr) (sl p:Array (Option Value)) (r:Bool) :
  Meets (Builtin.«tuple.__lt__» ⟨[.ref l,.ref b],[]⟩)
   (fun A R s=>s.heap.get? l=some { cls:=.type "tuple",dict:=dd,data:=.seq items n,slots:=sl }/\s.heap.get? b=some { cls:=.type "tuple",dict:=o,data:=.seq a F,slots:=p } /\
    Its A.in1 s items.toList a.toList r/\R (.ok (.ret (.bool r))) s) :=
 .of_wp fun prog w A R s h=>by
  obtain ⟨C,g,d,D,os⟩:=s;obtain ⟨G,hb,hi,h⟩:=h
  have H:=AutoSeq1.sub_tuple_tuple
  wp_walk using wpAny_loadPart' G,wpAny_loadPart' hb,wpAny_forIn_list _ (fun rest b q=>b.1=none/\q=⟨C,g,d,D,os⟩/\∃ (vs m:List Value),rest=vs.zip m /\
   vs.length+a.size=m.length+items.size/\Its A.in1 ⟨C,g,d,D,os⟩ vs m r) _
  case turn =>
   rintro ⟨y,x⟩ rest b q ⟨i,rfl,vs,m,hz,c,u⟩
   cases u with
   | nn=>cases hz
   | nc=>cases hz
   | cn=>cases hz
   | eq he hI' =>
    rw [List.zip_cons_cons] at hz
    injection hz with j f
    injection j with z v
    subst z v
    simp only [aE1] at c
    refine aI0 (he prog w _ _ ?_)
    wp_walk
    exact ⟨rfl,rfl,_,_,f,by omega,hI'⟩
   | ne he hlt =>
    rw [List.zip_cons_cons] at hz
    injection hz with j f
    injection j with z v
    subst z v
    refine aI0 (he prog w _ _ ?_)
    have B:=hlt prog w
    wp_walk using B
    exact ⟨_,rfl,by simpa using h⟩
  case fin =>
   rintro ⟨b1,I⟩ q ⟨i,rfl,vs,m,hz,c,u⟩
   simp only at i
   subst i
   have E:r=decide (items.size < a.size):=by
    cases u with
    | nn =>
     simp only [aH9] at c
     exact (aD5 (by omega)).symm
    | nc =>
     simp only [aH9,aE1] at c
     exact (aD6 (by omega)).symm
    | cn =>
     simp only [aH9,aE1] at c
     exact (aD5 (by omega)).symm
    | eq=>cases hz
    | ne=>cases hz
   rw [E] at h
   wp_walk
   exact ⟨_,rfl,by simpa [Builtin.Tuple.tupleCompareSizes] using h⟩
  case h =>
   exact ⟨rfl,rfl,items.toList,a.toList,rfl,by simp;omega,hi⟩
end
section
variable {A:Around} {s:Shared}
theorem LtAt.tup {l b:Addr} {o f:Obj} {items a:Array Value} {n m:Nat} {r:Bool} (p:s.heap.get? l=some o) (u:o.cls=.type "tuple") (hd:o.data=.seq items n) (hb:s.heap.get? b=some f) (d:f.cls=.type "tuple") (c:f.data=.seq a m)
  (v:A.units < cLine) (hi:Its A.in1 s items.toList a.toList r):LtAt A s (.ref l) (.ref b) r:=by
 intro prog w E Q q
 obtain ⟨cls,dd,data,sl⟩:=o
 obtain ⟨j,g,i,h⟩:=f
 simp only at u hd d c
 subst u hd d c
 exact richCompare_meets_room (op:=.Lt) ⟨_,p,rfl⟩ ⟨_,hb,rfl⟩ PySem.F.slot_tuple_lt PySem.F.entry_tuple_lt (PySem.F.args_tuple_lt_2 _ _) (als l b items a n m dd g sl h r)
  ⟨p,hb,hi,show Value.bool r ≠ Value.notImplemented/\Q (.bool r) s from ⟨(fun x=>nomatch x),q⟩⟩ v
end
end HT
namespace L2
open PySem PySem.Spec PyProof.Rows
section
variable {X:Cx}
end
end L2
namespace L2
open PySem
end L2
namespace TS
open PySem PyProof.Rows HT
theorem ant:∀ x y:List Int,HT.lexLt x y=true->HT.lexLt y x=false
 | [],[],h=>by simp [HT.lexLt] at h
 | [],_ :: _,_=>rfl
 | _ :: _,[],h=>by simp [HT.lexLt] at h
 | a :: x,b :: y,h=>by
  rw [ado] at h ⊢
  by_cases e:a=b
  ·subst e
   rw [aE8 rfl] at h ⊢
   exact ant x y h
  ·rw [aE9 e] at h
   rw [aE9 (fun z=>e z.symm)]
   have:=of_decide_eq_true h
   exact aD5 (by omega)
theorem aq5:∀ x y z:List Int,HT.lexLt y x=false->HT.lexLt z y=false->HT.lexLt z x=false
 | _,[],[],h,_=>h
 | [],[],_ :: _,_,_=>rfl
 | _ :: _,[],_ :: _,h,_=>by simp [HT.lexLt] at h
 | _,_ :: _,[],_,h=>by simp [HT.lexLt] at h
 | [],_ :: _,_ :: _,_,_=>rfl
 | a :: x,b :: y,c :: z,h,g=>by
  rw [ado] at h g ⊢
  by_cases e:b=a
  ·subst e
   rw [aE8 rfl] at h
   by_cases e2:c=b
   ·subst e2
    rw [aE8 rfl] at g ⊢
    exact aq5 x y z h g
   ·rw [aE9 e2] at g ⊢
    exact g
  ·rw [aE9 e] at h
   have h':=of_decide_eq_false h
   by_cases e2:c=b
   ·subst e2
    rw [aE9 e]
    exact h
   ·rw [aE9 e2] at g
    have g':=of_decide_eq_false g
    rw [aE9 (by omega)]
    exact aD5 (by omega)
def TI (h:Heap) (a:Addr) (ns:List Int):Prop:=∃ o xs n,h.get? a=some o/\o.cls=.type "tuple"/\o.data=.seq xs n/\IntsAre xs.toList ns
def kfV (kf:Addr->List Int):Value->List Int
 | .ref a=>kf a
 | _=>[]
section
variable {prog:Program} {w:World} {A:Around} {E:Value->Shared->Prop} {s:Shared}
theorem ags {fin:Bool} {Q:Bool->Shared->Prop}:∀ {xs ys:List Value} {ns c:List Int} (i:Nat),IntsAre xs ns->IntsAre ys c->(ns.length < c.length->fin=true)->(c.length<=ns.length->fin=false)->Q (HT.lexLt ns c) s ->
  PySem.W.KatLex prog w A true fin Q (xs.zip ys) i s
 | _,_,_,_,i,.nil,.nil,_,h2,q=>by
  rw [h2 (aA6 _)];exact q
 | _,_,_,_,i,.nil,.cons b u r,h1,_,q=>by
  rw [h1 (by simp)];exact q
 | _,_,_,_,i,.cons a t r,.nil,_,h2,q=>by
  rw [List.zip_nil_right,h2 (by simp)];exact q
 | _,_,_,_,i,.cons a t r,.cons b u r2,h1,h2,q=>by
  rw [List.zip_cons_cons]
  refine PySem.W.kat_cons (SeqAt.EqAt.int_int a t b u prog w _ _ ?_)
  rw [ado] at q
  by_cases e:a=b
  ·subst e
   rw [aE8 rfl] at q
   rw [show (a == a)=true by simp]
   exact PySem.W.kat_yes (ags (i+1) r r2 (fun z=>h1 (by simpa using z)) (fun z=>h2 (by simpa using z)) q)
  ·rw [aE9 e] at q
   rw [show (a == b)=false by simpa using e]
   refine PySem.W.kat_no ?_
   by_cases hi:i=0
   ·subst hi
    exact oneLt_int q
   ·rw [show (true && i == 0)=false by simpa using hi]
    exact PySem.W.kat_one _ _ (PyProof.Rows.lt_int q)
def tS (h:Heap) (kf:Addr->List Int) (x:Keyed):Prop:=x.1=x.2/\∃ a,x.1=.ref a/\TI h a (kf a)
def tR (kf:Addr->List Int) (x y:Keyed):Bool:=HT.lexLt (kfV kf x.1) (kfV kf y.1)
theorem cmp_tups (i:Addr->List Int):Cmp (model prog w) A E s (tuples' true) (tS s.heap i) (tR i):=by
 refine ⟨fun x y v B Q st u q=>?_,fun x y _ _=>ant _ _,fun x y z _ _ _=>aq5 _ _ _⟩
 obtain ⟨C,D⟩:=x
 obtain ⟨H,G⟩:=y
 obtain ⟨_,a,j,o,xs,n,l,I,p,g⟩:=v
 obtain ⟨_,b,h,o',ys,F,m,J,r,f⟩:=B
 dsimp only at j h
 subst j h
 rw [lt'_eq]
 refine wpS_bind (wpS_get ?_)
 rw [u]
 refine wpS_bind (wpS_lift (wpAny_attempt (PySem.W.kat_lt l p m r (ags 0 g f (fun z=>?_) (fun z=>?_) ⟨rfl,?_⟩))))
 ·have d:=g.length;have c:=f.length
  simp at d c
  exact aD6 (by omega)
 ·have d:=g.length;have c:=f.length
  simp at d c
  exact aD5 (by omega)
 ·exact wpS_pure q
theorem ape {vs:List Value} {ps:List Keyed} (h:ps.Perm (vs.zip vs)):(∀ p∈ps,p.1=p.2/\p.1∈vs)/\(ps.map (·.2)).Perm vs:=by
 refine ⟨fun p a=>mem_zip_self (h.mem_iff.mp a),?_⟩
 have b:=h.map (fun p=>p.2)
 have e:(vs.zip vs).map (fun p=>p.2)=vs:=List.map_snd_zip (aA6 _)
 rwa [e] at b
theorem afa {a:Addr} {vs:List Value} {n:Nat} {P:PySem.Fin->Shared->Prop} (j:s.heap.get? a=some (seqObj "list" vs.toArray n)) (c:vs.length<=sizeLine)
  (r:2<=vs.length->∀ h',(∀ b o,b ≠ a->s.heap.get? b=some o->h'.get? b=some o)->∃ κ S R,(∀ (Q:SortKind->Shared->Prop),Q κ { s with heap:=h' }->wpAny (model prog w) A (keyKind' vs.toArray) Q E { s with heap:=h' })/\Cmp (model prog w) A E { s with heap:=h' } κ S R/\(∀ v∈vs,S (v,v)) /\
   ∀ out:List Value,out.Perm vs->out.Pairwise (fun x y=>R (y,y) (x,x)=false)->P (.done (.ret .none)) { s with heap:=sortedHeap s.heap a vs out.toArray })
  (I:vs.length < 2->P (.done (.ret .none)) { s with heap:=sortedHeap s.heap a vs vs.toArray }) :
  wpAny (model prog w) A (Builtin.«list.sort» ⟨[.ref a],[]⟩) P E s:=by
 rw [list_sort_plain]
 have ha:a < s.heap.objs.size:=aI3 j
 refine aI0 (listItems_at j rfl ?_)
 refine aI0 (listUpdate_at j rfl ?_ (by rw [aB1];exact c) (aF3 _))
 obtain ⟨l,g⟩:∃ l,(s.heap.update a (Obj.mapSeq fun _ => #[])).get? a=some (seqObj "list" #[] l):=⟨_,get?_update_seq j (fun _ => #[])⟩
 refine aI0 (seqEpoch_at g rfl ?_)
 refine aI0 (wpAny_newTuple ?_ (by show vs.length<=_;exact c))
 refine aI0 (wpAny_newList ?_ (aF3 _))
 refine aI5 ?_
 have d:(((s.heap.update a (Obj.mapSeq fun _ => #[])).push (seqObj "tuple" vs.toArray 0)).push (seqObj "list" #[] 0)).get? a=some (seqObj "list" #[] l):=by
  rw [Heap.get?_push_ne _ _ _ (by rw [size_push',Heap.size_update];exact aB5 (aF1 ha)),Heap.get?_push_ne _ _ _ (by rw [Heap.size_update];exact aB5 ha)]
  exact g
 show wpAny (model prog w) A _ P E { s with heap:=((s.heap.update a (Obj.mapSeq fun _ => #[])).push (seqObj "tuple" vs.toArray 0)).push (seqObj "list" #[] 0) }
 dsimp only
 have hsz:vs.toArray.size=vs.length:=by simp
 have kp:∀ b o,b ≠ a->s.heap.get? b=some o->(((s.heap.update a (Obj.mapSeq fun _ => #[])).push (seqObj "tuple" vs.toArray 0)).push (seqObj "list" #[] 0)).get? b=some o:=fun b o hb e=>by
  refine aI2 _ (aI2 _ ?_)
  rw [Heap.get?_update_ne _ _ _ _ hb];exact e
 by_cases h2:vs.toArray.size < 2
 ·rw [aE8 h2,aE8 h2]
  refine aI0 (aI1 ?_)
  rw [StateT.run_pure]
  refine aI0 (aI1 ?_)
  dsimp only
  have m:(arrOf (SortSt.mk' general' (vs.toArray.zip vs.toArray) #[] 7 none)).map (·.2)=vs.toArray:=by
   show (vs.toArray.zip vs.toArray).map (·.2)=vs.toArray
   apply Array.toList_inj.mp
   rw [Array.toList_map,Array.toList_zip]
   exact List.map_snd_zip (aA6 _)
  rw [m]
  refine aI0 (seqEpoch_at d rfl ?_)
  refine aI0 (listUpdate_at d rfl ?_ (aF3 _) (by rw [aB1];exact Nat.le_succ_of_le c))
  simp only [bne_self_eq_false,Bool.false_eq_true,if_false]
  exact aI1 (I (by omega))
 ·rw [aE9 h2,aE9 h2]
  obtain ⟨κ,S,R,K,C,N,h⟩:=r (by omega) _ kp
  refine aI0 (K _ ?_)
  refine aI0 (aI7 (av6 C (a0:=vs.toArray.zip vs.toArray) (st:=SortSt.mk' κ (vs.toArray.zip vs.toArray) #[] 7 none) (Q:=fun _ st'=>failedOf st'=none/\(arrOf st').toList.Perm (vs.zip vs)/\Srt R (arrOf st').toList) (fun x p=>?_) rfl rfl rfl rfl fun st' M H u=>⟨M,by simpa using H,u⟩) ?_ fun _ _ e=>e)
  ·have:x∈vs.zip vs:=by simpa using p
   obtain ⟨f,i⟩:=mem_zip_self this
   obtain ⟨B,F⟩:=x
   dsimp only at f i
   subst f
   exact N _ i
  rintro ⟨⟨⟩,st'⟩ u ⟨rfl,hf,G,D⟩
  dsimp only
  obtain ⟨f,i⟩:=ape G
  have m:(arrOf st').map (·.2)=(((arrOf st').toList.map (·.2)).toArray):=by
   apply Array.toList_inj.mp
   simp
  rw [m]
  have q:((arrOf st').toList.map (·.2)).length=vs.length:=i.length_eq
  refine aI0 (seqEpoch_at d rfl ?_)
  refine aI0 (listUpdate_at d rfl ?_ (aF3 _) (by rw [aB1,q];exact Nat.le_succ_of_le c))
  rw [hf]
  simp only [bne_self_eq_false,Bool.false_eq_true,if_false]
  refine aI1 (h _ i ?_)
  rw [aF4]
  refine aH3 ?_ D
  intro x y p L J
  have ex:=(f x p).1
  have z:=(f y L).1
  obtain ⟨B,F⟩:=x
  obtain ⟨T,O⟩:=y
  dsimp only at ex z
  subst ex z
  exact J
theorem sorted_any {l:Addr} {vs:List Value} {Q:Value->Shared->Prop} (n:s.heap.IsList l vs.toArray) (a:vs.length<=sizeLine)
  (h:2<=vs.length->∀ h',(∀ b o,s.heap.get? b=some o->h'.get? b=some o)->∃ κ S R,(∀ (Q:SortKind->Shared->Prop),Q κ { s with heap:=h' }->wpAny (model prog w) A.in1.in1 (keyKind' vs.toArray) Q E { s with heap:=h' })/\Cmp (model prog w) A.in1.in1 E { s with heap:=h' } κ S R/\(∀ v∈vs,S (v,v)) /\
   ∀ out:List Value,out.Perm vs->out.Pairwise (fun x y=>R (y,y) (x,x)=false)->Q (.ref (s.heap.objs.size+1)) { s with heap:=sortedAll s.heap vs out.toArray })
  (j:vs.length < 2->Q (.ref (s.heap.objs.size+1)) { s with heap:=sortedAll s.heap vs vs.toArray }) :
  wpAny (model prog w) A (call (.builtin "sorted") [.ref l]) Q E s:=by
 refine Calls.call_function_entry kind_sorted plain_sorted entry_sorted (args_sorted1 _) ?_
 unfold Builtin.«sorted»
 refine aI0 (m:=checkCount "sorted" 1 1 _) (aI1 ?_)
 refine aI0 (collect_list n ?_ a)
 refine aI0 (wpAny_newList ?_ a)
 have hsz:((s.heap.push (seqObj "list" #[] 0)).update s.heap.objs.size (Obj.mapSeq (· ++ vs.toArray))).objs.size=s.heap.objs.size+1:=by
  rw [Heap.size_update,size_push']
 have d:(((s.heap.push (seqObj "list" #[] 0)).update s.heap.objs.size (Obj.mapSeq (· ++ vs.toArray))).push (seqObj "list" vs.toArray 0)).get? (s.heap.objs.size+1)=some (seqObj "list" vs.toArray 0):=by
  rw [← hsz];exact aI4 _ rfl
 have keep:∀ b o,s.heap.get? b=some o->(((s.heap.push (seqObj "list" #[] 0)).update s.heap.objs.size (Obj.mapSeq (· ++ vs.toArray))).push (seqObj "list" vs.toArray 0)).get? b=some o:=fun b o q=>by
  have c:b < s.heap.objs.size:=aI3 q
  rw [Heap.get?_push_ne _ _ _ (by rw [hsz];exact aB5 (aF1 c)),Heap.get?_update_ne _ _ _ _ (aB5 c),Heap.get?_push_ne _ _ _ (aB5 c)]
  exact q
 show wpAny _ _ _ _ _ { s with heap:=((s.heap.push (seqObj "list" #[] 0)).update s.heap.objs.size (Obj.mapSeq (· ++ vs.toArray))).push (seqObj "list" vs.toArray 0) }
 rw [hsz]
 refine aI0 (aI5 (aJ1 slot_list_sort ⟨_,d,rfl⟩ entry_list_sort ?body (args_list_sort _)))
 case body =>
  refine afa (s:={ s with heap:=((s.heap.push (seqObj "list" #[] 0)).update s.heap.objs.size (Obj.mapSeq (· ++ vs.toArray))).push (seqObj "list" vs.toArray 0) }) d a (fun g h' kp=>?_) fun c=>?_
  ·obtain ⟨κ,S,R,p,C,r,f⟩:=h g h' fun b o e=>kp b o (aB5 (aF1 (aI3 e))) (keep b o e)
   exact ⟨κ,S,R,p,C,r,fun out i u=>⟨_,rfl,aI1 ⟨_,rfl,f out i u⟩⟩⟩
  ·exact ⟨_,rfl,aI1 ⟨_,rfl,j c⟩⟩
end
end TS
namespace L2
open PySem PySem.Spec PyProof.Rows
def toI:V->Int
 | .int i=>i
 | _=>0
def kH (H:Hp):V->List Int
 | .ref t=>match H t with
  | some (.tup xs)=>xs.map toI
  | _=>[]
 | _=>[]
theorem awa (ns:List Int):(ns.map V.int).map toI=ns:=by
 rw [aD8]
 have:(toI ∘ V.int)=id:=by funext i;rfl
 rw [this,List.map_id]
theorem akl {H:Hp} {t:Addr} {ns:List Int} (h:H t=some (.tup (ns.map V.int))):kH H (.ref t)=ns:=by
 simp only [kH,h];exact awa ns
def TupI (H:Hp) (v:V):Prop:=∃ t ns,v=.ref t/\H t=some (.tup (ns.map V.int))/\ns ≠ []
def ac1:Value->V
 | .ref a => .ref a
 | _ => .non
theorem afv:∀ {us:List Value},(∀ u∈us,∃ a,u=.ref a)->Vals (us.map ac1) us
 | [],_ => .nil
 | u :: us,h=>by
  obtain ⟨a,e⟩:=h u aB7
  subst e
  exact .cons rfl (afv fun v b=>h v (aB4 _ b))
theorem afw {H:Hp}:∀ {vs:List V} {us:List Value},Vals vs us->(∀ v∈vs,TupI H v)->(∀ u∈us,∃ a,u=.ref a)/\us.map ac1=vs
 | _,_,.nil,_=>⟨fun u d=>(by cases d),rfl⟩
 | v :: vs,u :: us,.cons r t,h=>by
  obtain ⟨a,ns,rfl,_,_⟩:=h v aB7
  cases r
  obtain ⟨f,c⟩:=afw t fun v g=>h v (aB4 _ g)
  refine ⟨fun x b=>?_,by rw [aD0,c];rfl⟩
  rcases aA8.mp b with rfl | b
  ·exact ⟨_,rfl⟩
  ·exact f x b
section
variable {X:Cx}
def ahr (K:Frag):List V->Hp->VK->Prop:=fun xs H Q=>∃ (a:Addr) (vs:List V),xs=[.ref a]/\SqL K H a vs/\(∀ v∈vs,TupI H v) /\
 ∀ (vs':List V) (p:Addr),vs'.Perm vs->vs'.Pairwise (fun x y=>HT.lexLt (kH H y) (kH H x)=false)->H p=none->Q (.ref p) (upd H p (.lst vs'))
theorem agz {H:Hp} {pins:List (Addr × Obj)} {σ:St} {s:Shared} (I:Inv X pins σ H s) {h':Heap} (kp:∀ b o,s.heap.get? b=some o->h'.get? b=some o):∀ {vs:List V} {us:List Value},Vals vs us->(∀ v∈vs,TupI H v) ->
  (∃ fs,PySem.W.KatTups h' us fs/\fs.length=us.length/\∀ f∈fs,∃ i t,f=.int i t)/\∀ u∈us,∃ a,u=.ref a/\TS.TI h' a (kH H (.ref a))
 | _,_,.nil,_=>⟨⟨[],trivial,rfl,fun f hf=>by cases hf⟩,fun u D=>by cases D⟩
 | v :: vs,u :: us,.cons r t,h=>by
  obtain ⟨a,ns,rfl,e,j⟩:=h v aB7
  cases r
  obtain ⟨⟨fs,B,G,E⟩,z⟩:=agz I kp t fun v A=>h v (aB4 _ A)
  obtain ⟨_,its,y,o,m,q,n,p⟩:=(show ObjOk X.prog X.w H s.heap a (.tup (ns.map V.int)) from I.hok a _ e)
  have hi:IntsAre its ns:=by simpa using (ab1 y:IntsAre its.toArray.toList ns)
  have C:TS.TI h' a (kH H (.ref a)):=⟨o,its.toArray,n,kp _ _ m,q,p,by rw [akl e];simpa using hi⟩
  obtain ⟨f,hf,i,l,F⟩:∃ f,its.toArray[0]?=some f/\∃ i t,f=.int i t:=by
   cases hi with
   | nil=>exact absurd rfl j
   | cons i l _=>exact ⟨_,by simp,i,l,rfl⟩
  refine ⟨⟨f :: fs,PySem.W.KatTups.cons (kp _ _ m) q p hf B,by simp [G],fun g c=>?_⟩,fun x d=>?_⟩
  ·rcases aA8.mp c with rfl | c
   ·exact ⟨i,l,F⟩
   ·exact E g c
  ·rcases aA8.mp d with rfl | d
   ·exact ⟨a,rfl,C⟩
   ·exact z x d
theorem alt {α:Type} {R : α->α->Prop}:∀ {l:List α},l.length < 2->l.Pairwise R
 | [],_=>List.Pairwise.nil
 | [_],_=>List.pairwise_singleton _ _
 | _ :: _ :: _,h=>absurd h (by simp)
theorem adq:aa2 X (.builtin "sorted") (ahr X.K):=by
 intro pins s σ H xs us Q I r h
 obtain ⟨a,vs,rfl,ha,p,q⟩:=h
 obtain ⟨u,rfl,A⟩:=ab9 r
 cases A
 obtain ⟨its,n,M,hz⟩:=I.list ha
 obtain ⟨b1,C⟩:=afw n p
 have c:its.length<=sizeLine:=by rw [← n.length];exact hz
 have f:H (s.heap.objs.size+1)=none:=I.hok.fresh (Nat.le_succ _)
 have fin:∀ out:List Value,out.Perm its->(out.map ac1).Pairwise (fun x y=>HT.lexLt (kH H y) (kH H x)=false)->EP X pins σ Q (.ref (s.heap.objs.size+1)) { s with heap:=sortedAll s.heap its out.toArray }:=by
  intro out d j
  obtain ⟨e,F⟩:=sortedAll_at s.heap its out.toArray
  have g:Vals (out.map ac1) out:=afv fun u G=>b1 u (d.mem_iff.mp G)
  refine ⟨.ref (s.heap.objs.size+1),_,I.laid (t':=s.toks) (o:=.lst (out.map ac1)) (fun b R q=>sortedAll_old q) (Nat.le_succ _) ?_,rfl,q _ _ ?_ j f⟩
  ·refine ⟨by rw [aA3,d.length_eq];exact c,out,e,g,by rw [F]⟩
  ·rw [← C];exact d.map ac1
 refine TS.sorted_any M.isList c (fun N h' kp=>?_) fun l=>?_
 ·obtain ⟨⟨fs,z,S,J⟩,w⟩:=agz I kp n p
  have m:(Value.type "int" != Value.type "tuple")=true:=by rfl
  refine ⟨tuples' true,TS.tS h' (fun a=>kH H (.ref a)),TS.tR (fun a=>kH H (.ref a)),fun Q' O=>?_,TS.cmp_tups (s:={ s with heap:=h' }) (fun a=>kH H (.ref a)),fun v g=>?_,fun out d j=>fin out d ?_⟩
  ·refine PySem.W.kat_kind (T:=.type "int") (s:={ s with heap:=h' }) z (by omega) (fun v g=>?_) (by rfl) ?_
   ·obtain ⟨i,t,rfl⟩:=J v g
    exact .now
   ·rw [m];exact O
  ·obtain ⟨a,e,L⟩:=w v g
   exact ⟨rfl,a,e,L⟩
  ·rw [aF4]
   refine aH3 ?_ j
   intro x y D E B
   obtain ⟨U,rfl⟩:=b1 x (d.mem_iff.mp D)
   obtain ⟨P,rfl⟩:=b1 y (d.mem_iff.mp E)
   exact B
 ·refine fin its (List.Perm.refl _) ?_
  exact alt (by rw [aA3];exact l)
end
end L2
namespace HT
open PySem PySem.Spec PyProof.Rows L2
section
variable {prog:Program} {w:World} {A:Around} {kw:List (Str × Value)} {R:Result->Shared->Prop} {I S:Addr} {fp wr:List Addr} {n:Nat} {P:Nat->Value->Prop} {St:Nat->Heap->Prop} {Hd:Heap->Prop}
end
section
variable {prog:Program} {w:World} {A:Around} {E:Value->Shared->Prop} {s:Shared}
end
end HT
namespace L2
open PySem PySem.Spec PyProof.Rows
section
variable {X:Cx} {x:Str} {p pos kpos:Pos} {e en:Expr} {t:TA}
end
end L2
namespace HT
open PySem PySem.Spec PyProof.Rows
section
variable {prog:Program} {w:World} {A:Around} {E:Value->Shared->Prop} {s:Shared}
end
end HT
namespace L2
open PySem PySem.Spec PyProof.Rows
section
variable {X:Cx}
end
end L2
namespace VL
open PySem PySem.Spec L2
def kD:Key->PyData
 | .inl i => .int i
 | .inr x => .str x
mutual
inductive Rp (G:Hp):V->PyData->Prop
 | non:Rp G .non .none
 | bl (b:Bool):Rp G (.bl b) (.bool b)
 | int (i:Int):Rp G (.int i) (.int i)
 | str (x:Str):Rp G (.str x) (.str x)
 | lst {a:Addr} {xs:List V} {ds:List PyData}:G a=some (.lst xs)->Rps G xs ds->Rp G (.ref a) (.list ds)
 | tup {a:Addr} {xs:List V} {ds:List PyData}:G a=some (.tup xs)->Rps G xs ds->Rp G (.ref a) (.tuple ds)
 | dk {a:Addr} {kvs:List (Key × V)} {es:List (Key × PyData)} {ds:List (PyData × PyData)}:G a=some (.dK kvs)->RpK G kvs es->ds=es.map (fun p=>(kD p.1,p.2))->Rp G (.ref a) (.dict ds)
 | dt {a:Addr} {kvs:List (List Key × V)} {es:List (List Key × PyData)} {ds:List (PyData × PyData)}:G a=some (.dT kvs)->RpT G kvs es->ds=es.map (fun p=>(.tuple (p.1.map kD),p.2))->Rp G (.ref a) (.dict ds)
inductive Rps (G:Hp):List V->List PyData->Prop
 | nil:Rps G [] []
 | cons {v:V} {vs:List V} {d:PyData} {ds:List PyData}:Rp G v d->Rps G vs ds->Rps G (v :: vs) (d :: ds)
inductive RpK (G:Hp):List (Key × V)->List (Key × PyData)->Prop
 | nil:RpK G [] []
 | cons {k:Key} {v:V} {d:PyData} {r:List (Key × V)} {s:List (Key × PyData)}:Rp G v d->RpK G r s->RpK G ((k,v) :: r) ((k,d) :: s)
inductive RpT (G:Hp):List (List Key × V)->List (List Key × PyData)->Prop
 | nil:RpT G [] []
 | cons {k:List Key} {v:V} {d:PyData} {r:List (List Key × V)} {s:List (List Key × PyData)}:Rp G v d->RpT G r s->RpT G ((k,v) :: r) ((k,d) :: s)
end
mutual
theorem Rp.same {G G':Hp} (s:Same G G'):∀ {v:V} {d:PyData},Rp G v d->Rp G' v d
 | _,_,.non => .non
 | _,_,.bl b => .bl b
 | _,_,.int i => .int i
 | _,_,.str x => .str x
 | _,_,.lst h r => .lst (s _ _ h) (Rps.same s r)
 | _,_,.tup h r => .tup (s _ _ h) (Rps.same s r)
 | _,_,.dk h r e => .dk (s _ _ h) (RpK.same s r) e
 | _,_,.dt h r e => .dt (s _ _ h) (RpT.same s r) e
theorem Rps.same {G G':Hp} (s:Same G G'):∀ {vs:List V} {ds:List PyData},Rps G vs ds->Rps G' vs ds
 | _,_,.nil => .nil
 | _,_,.cons r t => .cons (Rp.same s r) (Rps.same s t)
theorem RpK.same {G G':Hp} (s:Same G G'):∀ {vs:List (Key × V)} {ds:List (Key × PyData)},RpK G vs ds->RpK G' vs ds
 | _,_,.nil => .nil
 | _,_,.cons r t => .cons (Rp.same s r) (RpK.same s t)
theorem RpT.same {G G':Hp} (s:Same G G'):∀ {vs:List (List Key × V)} {ds:List (List Key × PyData)},RpT G vs ds->RpT G' vs ds
 | _,_,.nil => .nil
 | _,_,.cons r t => .cons (Rp.same s r) (RpT.same s t)
end
theorem Rps.length {G:Hp}:∀ {vs:List V} {ds:List PyData},Rps G vs ds->vs.length=ds.length
 | _,_,.nil=>rfl
 | _,_,.cons _ t=>by simp [Rps.length t]
theorem Rps.get {G:Hp}:∀ {vs:List V} {ds:List PyData} {i:Nat} {d:PyData},Rps G vs ds->ds[i]?=some d->∃ v,vs[i]?=some v/\Rp G v d
 | _,_,_,_,.nil,e=>by simp at e
 | _,_,0,_,.cons r _,e=>by simp at e;subst e;exact ⟨_,rfl,r⟩
 | _,_,i+1,d,.cons _ t,e=>by
  obtain ⟨u,b,a⟩:=Rps.get (i:=i) (d:=d) t (by simpa using e)
  exact ⟨u,by simpa using b,a⟩
theorem Rps.append {G:Hp}:∀ {vs a:List V} {ds es:List PyData},Rps G vs ds->Rps G a es->Rps G (vs ++ a) (ds ++ es)
 | _,_,_,_,.nil,s=>s
 | _,_,_,_,.cons r t,s => .cons r (Rps.append t s)
theorem Rps.set {G:Hp} {v:V} {d:PyData} (h:Rp G v d):∀ {vs:List V} {ds:List PyData} (i:Nat),Rps G vs ds->Rps G (vs.set i v) (ds.set i d)
 | _,_,_,.nil => .nil
 | _,_,0,.cons _ t => .cons h t
 | _,_,i+1,.cons r t => .cons r (Rps.set h i t)
theorem Rps.erase {G:Hp}:∀ {vs:List V} {ds:List PyData} (i:Nat),Rps G vs ds->Rps G (vs.eraseIdx i) (ds.eraseIdx i)
 | _,_,_,.nil => .nil
 | _,_,0,.cons _ t=>t
 | _,_,i+1,.cons r t => .cons r (Rps.erase i t)
theorem Rps.take {G:Hp}:∀ {vs:List V} {ds:List PyData} (i:Nat),Rps G vs ds->Rps G (vs.take i) (ds.take i)
 | _,_,0,_ => .nil
 | _,_,_+1,.nil => .nil
 | _,_,i+1,.cons r t => .cons r (Rps.take i t)
theorem Rps.drop {G:Hp}:∀ {vs:List V} {ds:List PyData} (i:Nat),Rps G vs ds->Rps G (vs.drop i) (ds.drop i)
 | _,_,0,r=>r
 | _,_,_+1,.nil => .nil
 | _,_,i+1,.cons _ t=>Rps.drop i t
theorem Rps.rep {G:Hp} {vs:List V} {ds:List PyData} (h:Rps G vs ds):∀ (k:Nat),Rps G (List.replicate k vs).flatten (List.replicate k ds).flatten
 | 0 => .nil
 | k+1=>by
  rw [aG6,aG6,List.flatten_cons,List.flatten_cons]
  exact h.append (Rps.rep h k)
theorem Rps.ints {G:Hp}:∀ (ns:List Int),Rps G (ns.map V.int) (ns.map PyData.int)
 | [] => .nil
 | n :: ns => .cons (.int n) (Rps.ints ns)
theorem Rps.ints_inv {G:Hp}:∀ {ns:List Int} {vs:List V},Rps G vs (ns.map PyData.int)->vs=ns.map V.int
 | [],_,.nil=>rfl
 | n :: ns,_,.cons r t=>by
  cases r
  rw [Rps.ints_inv t];rfl
mutual
theorem Rp.rep {G:Hp}:∀ {v:V} {d:PyData},Rp G v d->aap d=true->Rep G v d
 | _,_,.non,_ => .non
 | _,_,.bl b,_ => .bl b
 | _,_,.int i,_ => .int i
 | _,_,.str x,_ => .str x
 | _,_,.lst h r,p => .lst h (Rps.reps r (by simpa [aap] using p))
 | _,_,.tup h r,p => .tup h (Rps.reps r (by simpa [aap] using p))
 | _,_,.dk h r e,p=>by simp [aap] at p
 | _,_,.dt h r e,p=>by simp [aap] at p
theorem Rps.reps {G:Hp}:∀ {vs:List V} {ds:List PyData},Rps G vs ds->plainDs ds=true->Reps G vs ds
 | _,_,.nil,_ => .nil
 | _,_,.cons r t,p=>by
  simp only [plainDs,aG4] at p
  exact .cons (Rp.rep r p.1) (Rps.reps t p.2)
end
structure Own where
 P:Hp->Hp->V->(Addr->Prop)->Prop
 mono:∀ {G H G' H':Hp} {v:V} {F:Addr->Prop},P G H v F->Same G G'->(∀ a o,F a->H a=some o->H' a=some o)->P G' H' v F
 dom:∀ {G H:Hp} {v:V} {F:Addr->Prop},P G H v F->∀ a,F a->∃ o,H a=some o
inductive Sl where
 | st (d:PyData) | own (A:Own) | io (A:Own) | scr (ns:List Int)
abbrev En:=List (Option Sl)
structure Bs where
 K:Frag
 G:Hp
 H:Hp
 R:Hp
 S:St
 F:Nat->Addr->Prop
def SlOk (B:Bs) (G H:Hp) (i:Nat) (v:V) (F:Addr->Prop):Sl->Prop
 | .st d=>Rp G v d/\∀ a,¬ F a
 | .own A=>A.P G H v F/\∀ a,F a->B.H a=none
 | .io A=>A.P G H v F/\(∀ a,F a->B.F i a\/B.H a=none)/\B.S[i]?=some (some v)
 | .scr ns=>(∃ a,v=.ref a/\SqL B.K G a (ns.map V.int))/\∀ a,¬ F a
def FT (G H:Hp):Prop:=∀ (a:Addr) (ks:List Key),H a=some (.tup (ks.map kV))->G a=some (.tup (ks.map kV))
structure VI (B:Bs) (G H:Hp) (σ:St) (env:En) (F:Nat->Addr->Prop):Prop where
 gh:Same G H
 g0:Same B.G G
 gn:∀ a o,G a=some o->B.G a=some o\/B.H a=none
 rs:Same B.R H
 rb:Same B.R B.H
 bh:∀ a o,B.H a=some o->∃ o',H a=some o'
 fg:∀ i a,F i a->G a=none
 fr:∀ i a,F i a->B.R a=none
 fd:∀ i j a,F i a->F j a->i=j
 fo:∀ i a,F i a->∃ o,H a=some o
 sl:∀ i s,env[i]?=some (some s)->∃ v,σ[i]?=some (some v)/\SlOk B G H i v (F i) s
 ln : σ.length=env.length
 ft:FT G H
def RsOk (G H:Hp) (v:V) (F:Addr->Prop):Sl->Prop
 | .st d=>Rp G v d/\∀ a,¬ F a
 | .own A=>A.P G H v F
 | _=>False
structure RsX (B:Bs) (G H:Hp) (v:V) (Fv:Addr->Prop) (s:Sl) (F:Nat->Addr->Prop):Prop where
 ok:RsOk G H v Fv s
 fb:∀ a,Fv a->B.H a=none
 fg:∀ a,Fv a->G a=none
 fo:∀ a,Fv a->∃ o,H a=some o
 fd:∀ j a,Fv a->¬ F j a
structure Out (G H:Hp) (v:V) (G' H':Hp) (s:Sl) (Fv:Addr->Prop):Prop where
 gg:Same G G'
 gh:Same G' H'
 hh:Same H H'
 gn:∀ a o,G' a=some o->G a=some o\/H a=none
 fn:∀ a,Fv a->H a=none
 fg:∀ a,Fv a->G' a=none
 fo:∀ a,Fv a->∃ o,H' a=some o
 ok:RsOk G' H' v Fv s
 ft:FT G H->FT G' H'
theorem ahs {α:Type} {o:Option α} (h:o ≠ none):∃ x,o=some x:=by
 cases o with
 | none=>exact absurd rfl h
 | some x=>exact ⟨x,rfl⟩
theorem SlOk.mono {B:Bs} {G H G' H':Hp} {i:Nat} {v:V} {F:Addr->Prop} {s:Sl} (h:SlOk B G H i v F s) (g:Same G G') (hh:∀ a o,F a->H a=some o->H' a=some o):SlOk B G' H' i v F s:=by
 cases s with
 | st d=>exact ⟨h.1.same g,h.2⟩
 | own A=>exact ⟨A.mono h.1 g hh,h.2⟩
 | io A=>exact ⟨A.mono h.1 g hh,h.2⟩
 | scr ns =>
  obtain ⟨⟨a,e,q⟩,n⟩:=h
  exact ⟨⟨a,e,g.seq q⟩,n⟩
section
variable {B:Bs} {G H G' H':Hp} {σ:St} {env:En} {F:Nat->Addr->Prop} {v:V} {s:Sl} {Fv:Addr->Prop}
theorem VI.no_r (I:VI B G H σ env F) {a:Addr} (h:H a=none):B.R a=none:=by
 cases e:B.R a with
 | none=>rfl
 | some o=>rw [I.rs a o e] at h;cases h
theorem VI.no_b (I:VI B G H σ env F) {a:Addr} (h:H a=none):B.H a=none:=by
 cases e:B.H a with
 | none=>rfl
 | some o=>obtain ⟨o',b⟩:=I.bh a o e;rw [b] at h;cases h
theorem VI.no_g (I:VI B G H σ env F) {a:Addr} (h:H a=none):G a=none:=by
 cases e:G a with
 | none=>rfl
 | some o=>rw [I.gh a o e] at h;cases h
theorem VI.no_f (I:VI B G H σ env F) {a:Addr} (h:H a=none) (i:Nat):¬ F i a:=fun z=>by
 obtain ⟨o,e⟩:=I.fo i a z;rw [e] at h;cases h
theorem VI.grow (I:VI B G H σ env F) (gg:Same G G') (gh:Same G' H') (hh:Same H H') (gn:∀ a o,G' a=some o->G a=some o\/H a=none) (ft:FT G' H'):VI B G' H' σ env F where
 gh:=gh
 g0:=I.g0.trans gg
 gn:=fun a o e=>by
  rcases gn a o e with e | e
  ·exact I.gn a o e
  ·exact .inr (I.no_b e)
 rs:=I.rs.trans hh
 rb:=I.rb
 bh:=fun a o e=>by obtain ⟨o',c⟩:=I.bh a o e;exact ⟨o',hh _ _ c⟩
 fg:=fun i a z=>by
  cases e:G' a with
  | none=>rfl
  | some o =>
   rcases gn a o e with e | e
   ·rw [I.fg i a z] at e;cases e
   ·exact absurd z (I.no_f e i)
 fr:=I.fr
 fd:=I.fd
 fo:=fun i a z=>by obtain ⟨o,e⟩:=I.fo i a z;exact ⟨o,hh _ _ e⟩
 sl:=fun i s e=>by
  obtain ⟨v,b,d⟩:=I.sl i s e
  exact ⟨v,b,d.mono gg fun a o _ q=>hh _ _ q⟩
 ln:=I.ln
 ft:=ft
theorem VI.out (I:VI B G H σ env F) (o:Out G H v G' H' s Fv):VI B G' H' σ env F/\RsX B G' H' v Fv s F :=
 ⟨I.grow o.gg o.gh o.hh o.gn (o.ft I.ft),o.ok,fun a z=>I.no_b (o.fn a z),o.fg,o.fo,fun j a z y=>I.no_f (o.fn a z) j y⟩
theorem VI.b_r (I:VI B G H σ env F) {a:Addr} (h:B.H a=none):B.R a=none:=by
 cases e:B.R a with
 | none=>rfl
 | some o=>rw [I.rb a o e] at h;cases h
def putF (F:Nat->Addr->Prop) (i:Nat) (Fv:Addr->Prop):Nat->Addr->Prop:=fun j a=>if j=i then Fv a else F j a
theorem putF_same {i:Nat} {a:Addr}:putF F i Fv i a ↔ Fv a:=by unfold putF;rw [aE8 rfl]
theorem aer {i:Nat}:putF F i Fv i=Fv:=by funext a;unfold putF;rw [aE8 rfl]
theorem aa7 {i j:Nat} (h:j ≠ i):putF F i Fv j=F j:=by funext a;unfold putF;rw [aE9 h]
theorem VI.slot (I:VI B G H σ env F) (i:Nat) (o:Option V) (os:Option Sl) (fg:∀ a,Fv a->G a=none) (fr:∀ a,Fv a->B.R a=none) (fo:∀ a,Fv a->∃ o,H a=some o) (fd:∀ j a,j ≠ i->Fv a->¬ F j a)
  (ok:∀ s,os=some s->∃ v,o=some v/\SlOk B G H i v Fv s):VI B G H (σ.set i o) (env.set i os) (putF F i Fv) where
 gh:=I.gh
 g0:=I.g0
 gn:=I.gn
 rs:=I.rs
 rb:=I.rb
 bh:=I.bh
 fg:=fun j a z=>by
  by_cases h:j=i
  ·subst h;exact fg a (putF_same.mp z)
  ·rw [aa7 h] at z;exact I.fg j a z
 fr:=fun j a z=>by
  by_cases h:j=i
  ·subst h;exact fr a (putF_same.mp z)
  ·rw [aa7 h] at z;exact I.fr j a z
 fd:=fun j k a y z=>by
  by_cases h:j=i
  ·by_cases g:k=i
   ·rw [h,g]
   ·subst h;rw [aa7 g] at z;exact absurd z (fd k a g (putF_same.mp y))
  ·by_cases g:k=i
   ·subst g;rw [aa7 h] at y;exact absurd y (fd j a h (putF_same.mp z))
   ·rw [aa7 h] at y;rw [aa7 g] at z;exact I.fd j k a y z
 fo:=fun j a z=>by
  by_cases h:j=i
  ·subst h;exact fo a (putF_same.mp z)
  ·rw [aa7 h] at z;exact I.fo j a z
 sl:=fun j t e=>by
  by_cases h:j=i
  ·subst h
   rw [aD1,aE8 rfl] at e
   by_cases hl:j < env.length
   ·rw [aE8 hl] at e
    obtain ⟨v,b,q⟩:=ok t (aC5 e)
    refine ⟨v,by rw [aD1,aE8 rfl,aE8 (by rw [I.ln];exact hl),b],?_⟩
    rw [aer];exact q
   ·rw [aE9 hl] at e;cases e
  ·rw [aD1,aE9 (fun z=>h z.symm)] at e
   obtain ⟨v,b,q⟩:=I.sl j t e
   refine ⟨v,by rw [aD1,aE9 (fun z=>h z.symm)];exact b,?_⟩
   rw [aa7 h];exact q
 ln:=by simp [I.ln]
 ft:=I.ft
theorem VI.store (I:VI B G H σ env F) (r:RsX B G H v Fv s F) (i:Nat):VI B G H (σ.set i (some v)) (env.set i (some s)) (putF F i Fv):=by
 refine I.slot i (some v) (some s) r.fg (fun a z=>I.b_r (r.fb a z)) r.fo (fun j a _ z=>r.fd j a z) fun t e=>?_
 cases e
 refine ⟨v,rfl,?_⟩
 have:=r.ok
 cases s with
 | st d=>exact this
 | own A=>exact ⟨this,r.fb⟩
 | io A=>exact this.elim
 | scr ns=>exact this.elim
theorem VI.drop (I:VI B G H σ env F) (i:Nat):VI B G H σ (env.set i none) (putF F i fun _=>False):=by
 have:=I.slot (Fv:=fun _=>False) i ((σ[i]?).getD none) none (fun a z=>z.elim) (fun a z=>z.elim) (fun a z=>z.elim) (fun j a _ z=>z.elim) (fun s e=>by cases e)
 rwa [show σ.set i ((σ[i]?).getD none) = σ from ?_] at this
 apply aF5
 intro j
 rw [aD1]
 by_cases h:i=j
 ·subst h
  rw [aE8 rfl]
  by_cases hl:i < σ.length
  ·rw [aE8 hl,aA0 hl];rfl
  ·rw [aE9 hl,aF0.mpr (by omega)]
 ·rw [aE9 h]
theorem VI.change {A:Own} (I:VI B G H σ env F) (i:Nat) {H2:Hp} {F2:Addr->Prop} {os os':Sl} (e:env[i]?=some (some os)) (g : σ[i]?=some (some v))
  (keep:∀ a o,¬ F i a->H a=some o->H2 a=some o) (m:∀ a o,H a=some o->∃ o',H2 a=some o') (c:∀ a,F2 a->(F i a\/H a=none)/\∃ o,H2 a=some o) (l:A.P G H2 v F2) (N:FT G H2)
  (r:(os'=.own A/\∃ f,os=.own f)\/(os'=.io A/\∃ f,os=.io f)):VI B G H2 σ (env.set i (some os')) (putF F i F2):=by
 obtain ⟨R,d,q⟩:=I.sl i os e
 rw [g] at d;cases d
 have n:∀ j a,j ≠ i->F j a->¬ F i a:=fun j a b y z=>b (I.fd j i a y z)
 have Q:∀ a,F2 a->G a=none:=fun a z=>by
  rcases (c a z).1 with y | y
  ·exact I.fg i a y
  ·exact I.no_g y
 have J:VI B G H2 σ (env.set i none) (putF F i fun _=>False):=by
  have D:=I.drop i
  refine ⟨fun a o x=>keep a o (fun z=>by rw [I.fg i a z] at x;cases x) (I.gh a o x),D.g0,D.gn,fun a o x=>keep a o (fun z=>by rw [I.fr i a z] at x;cases x) (I.rs a o x),D.rb,fun a o x=>?_,D.fg,D.fr,D.fd,fun j a z=>?_,fun j s x=>?_,D.ln,N⟩
  ·obtain ⟨o',M⟩:=I.bh a o x
   exact m a o' M
  ·obtain ⟨o,x⟩:=D.fo j a z
   exact m a o x
  ·obtain ⟨u,K,C⟩:=D.sl j s x
   refine ⟨u,K,C.mono (Same.refl G) fun a o z y=>?_⟩
   by_cases b:j=i
   ·subst b;exact (putF_same.mp z).elim
   ·rw [aa7 b] at z
    exact keep a o (n j a b z) y
 have p:=J.slot (Fv:=F2) i (some v) (some os') Q (fun a z=>by
   rcases (c a z).1 with y | y
   ·exact I.fr i a y
   ·exact I.no_r y) (fun a z=>(c a z).2) (fun j a b z y=>by
   rw [aa7 b] at y
   rcases (c a z).1 with x | x
   ·exact n j a b y x
   ·exact I.no_f x j y) fun t w=>by
   cases w
   refine ⟨v,rfl,?_⟩
   rcases r with ⟨rfl,f,rfl⟩ | ⟨rfl,f,rfl⟩
   ·refine ⟨l,fun a z=>?_⟩
    rcases (c a z).1 with y | y
    ·exact q.2 a y
    ·exact I.no_b y
   ·refine ⟨l,fun a z=>?_,q.2.2⟩
    rcases (c a z).1 with y | y
    ·exact q.2.1 a y
    ·exact .inr (I.no_b y)
 have E : σ.set i (some v) = σ:=by
  apply aF5
  intro j
  rw [aD1]
  by_cases h:i=j
  ·subst h
   rw [aE8 rfl,g,aE8 (aA1.mp g).1]
  ·rw [aE9 h]
 have O:(env.set i none).set i (some os')=env.set i (some os'):=by simp
 have L:putF (putF F i fun _=>False) i F2=putF F i F2:=by
  funext j a
  by_cases h:j=i
  ·subst h;rw [aer,aer]
  ·rw [aa7 h,aa7 h,aa7 h]
 rw [E,O,L] at p
 exact p
end
open Classical in
def jn (G H:Hp) (F:Addr->Prop):Hp:=fun a=>if F a then H a else G a
theorem ac5 {G H:Hp} {F:Addr->Prop} {a:Addr} (h:F a):jn G H F a=H a:=aE8 h
theorem aht {G H:Hp} {F:Addr->Prop} {a:Addr} (h:¬ F a):jn G H F a=G a:=aE9 h
theorem abb {G H:Hp} {F:Addr->Prop} (h:∀ a,F a->G a=none):Same G (jn G H F):=fun a o e=>by
 rw [aht (fun z=>by rw [h a z] at e;cases e)];exact e
theorem akm {G H:Hp} {F:Addr->Prop} (h:Same G H):Same (jn G H F) H:=fun a o e=>by
 by_cases z:F a
 ·rw [ac5 z] at e;exact e
 ·rw [aht z] at e;exact h a o e
def Frz (A:Own) (d:PyData):Prop:=∀ (G H:Hp) (v:V) (F:Addr->Prop),A.P G H v F->(∀ a,F a->G a=none)->Same G H->Rp (jn G H F) v d
def FQ:Sl->(PyData->Prop)->Prop
 | .st d,R=>R d
 | .own A,R=>∃ d,Frz A d/\R d
 | _,_=>False
def OL (ds:List PyData):Own where
 P:=fun G H v F=>∃ a vs,v=.ref a/\H a=some (.lst vs)/\Rps G vs ds/\∀ b,F b ↔ b=a
 mono:=fun ⟨a,vs,e,h,r,f⟩ g hh=>⟨a,vs,e,hh a _ ((f a).mpr rfl) h,r.same g,f⟩
 dom:=fun ⟨a,vs,e,h,r,f⟩ b z=>by rw [(f b).mp z];exact ⟨_,h⟩
def OD (es:List (Key × PyData)):Own where
 P:=fun G H v F=>∃ a kvs,v=.ref a/\H a=some (.dK kvs)/\RpK G kvs es/\∀ b,F b ↔ b=a
 mono:=fun ⟨a,vs,e,h,r,f⟩ g hh=>⟨a,vs,e,hh a _ ((f a).mpr rfl) h,r.same g,f⟩
 dom:=fun ⟨a,vs,e,h,r,f⟩ b z=>by rw [(f b).mp z];exact ⟨_,h⟩
def OT (es:List (List Key × PyData)):Own where
 P:=fun G H v F=>∃ a kvs,v=.ref a/\H a=some (.dT kvs)/\RpT G kvs es/\∀ b,F b ↔ b=a
 mono:=fun ⟨a,vs,e,h,r,f⟩ g hh=>⟨a,vs,e,hh a _ ((f a).mpr rfl) h,r.same g,f⟩
 dom:=fun ⟨a,vs,e,h,r,f⟩ b z=>by rw [(f b).mp z];exact ⟨_,h⟩
theorem acq {ds:List PyData}:Frz (OL ds) (.list ds):=fun G H v F ⟨a,vs,e,h,r,f⟩ n g=>by
 subst e
 exact .lst (by rw [ac5 ((f a).mpr rfl)];exact h) (r.same (abb n))
theorem ayv {es:List (Key × PyData)}:Frz (OD es) (.dict (es.map fun p=>(kD p.1,p.2))):=fun G H v F ⟨a,vs,e,h,r,f⟩ n g=>by
 subst e
 exact .dk (by rw [ac5 ((f a).mpr rfl)];exact h) (r.same (abb n)) rfl
theorem a0e {d:PyData} {R:PyData->Prop} (h:R d):FQ (.st d) R:=h
theorem acr {ds:List PyData} {R:PyData->Prop} (h:R (.list ds)):FQ (.own (OL ds)) R:=⟨_,acq,h⟩
section
variable {B:Bs} {G H G' H':Hp} {σ:St} {env:En} {F:Nat->Addr->Prop} {v:V} {s:Sl} {Fv:Addr->Prop}
theorem VI.freeze (I:VI B G H σ env F) (fb:∀ a,Fv a->B.H a=none) (fd:∀ j a,Fv a->¬ F j a) (fg:∀ a,Fv a->G a=none):VI B (jn G H Fv) H σ env F where
 gh:=akm I.gh
 g0:=I.g0.trans (abb fg)
 gn:=fun a o e=>by
  by_cases z:Fv a
  ·exact .inr (fb a z)
  ·rw [aht z] at e;exact I.gn a o e
 rs:=I.rs
 rb:=I.rb
 bh:=I.bh
 fg:=fun i a z=>by
  rw [aht (fun y=>fd i a y z)];exact I.fg i a z
 fr:=I.fr
 fd:=I.fd
 fo:=I.fo
 sl:=fun i s e=>by
  obtain ⟨v,b,d⟩:=I.sl i s e
  exact ⟨v,b,d.mono (abb fg) fun a o _ q=>q⟩
 ln:=I.ln
 ft:=fun a c e=>abb fg _ _ (I.ft a c e)
theorem VI.frz {A:Own} {d:PyData} {i:Nat} (I:VI B G H σ env F) (e:env[i]?=some (some (.own A))) (f:Frz A d) :
  ∃ v,σ[i]?=some (some v)/\Rp (jn G H (F i)) v d/\Same G (jn G H (F i))/\VI B (jn G H (F i)) H σ (env.set i (some (.st d))) (putF F i fun _=>False):=by
 obtain ⟨v,b,q⟩:=I.sl i _ e
 have c:=f G H v (F i) q.1 (I.fg i) I.gh
 refine ⟨v,b,c,abb (I.fg i),?_⟩
 have D:=(I.drop i).freeze (Fv:=F i) q.2 (fun j a z y=>by
  by_cases h:j=i
  ·subst h;exact (putF_same.mp y).elim
  ·rw [aa7 h] at y;exact h (I.fd j i a y z)) (I.fg i)
 have J:=D.slot (Fv:=fun _=>False) i (some v) (some (.st d)) (fun a z=>z.elim) (fun a z=>z.elim) (fun a z=>z.elim) (fun j a _ z=>z.elim) (fun t g=>by cases g;exact ⟨v,rfl,c,fun a z=>z⟩)
 have l : σ.set i (some v) = σ:=by
  apply aF5
  intro j
  rw [aD1]
  by_cases h:i=j
  ·subst h
   rw [aE8 rfl,b,aE8 (aA1.mp b).1]
  ·rw [aE9 h]
 have m:putF (putF F i fun _=>False) i (fun _=>False)=putF F i fun _=>False:=by
  funext j a
  by_cases h:j=i
  ·subst h;rw [aer,aer]
  ·rw [aa7 h,aa7 h]
 rw [l,m,List.set_set] at J
 exact J
theorem Out.refl {d:PyData} (g:Same G H) (r:Rp G v d):Out G H v G H (.st d) (fun _=>False):=⟨Same.refl _,g,Same.refl _,fun a o e => .inl e,fun a z=>z.elim,fun a z=>z.elim,fun a z=>z.elim,⟨r,fun a z=>z⟩,fun t=>t⟩
theorem awb {p:Addr} {o:HO} (g:Same G H) (h:H p=none):Same (upd G p o) (upd H p o):=fun a u e=>by
 by_cases z:a=p
 ·subst z;rw [aaf] at e ⊢;exact e
 ·rw [aad z] at e ⊢;exact g a u e
theorem aa4 {p:Addr} (g:Same G H) (h:H p=none):G p=none:=by
 cases e:G p with
 | none=>rfl
 | some o=>rw [g p o e] at h;cases h
theorem Out.newT {p:Addr} {xs:List V} {ds:List PyData} (g:Same G H) (h:H p=none) (r:Rps G xs ds):Out G H (.ref p) (upd G p (.tup xs)) (upd H p (.tup xs)) (.st (.tuple ds)) (fun _=>False) where
 gg:=abe (aa4 g h)
 gh:=awb g h
 hh:=abe h
 gn:=fun a o e=>by
  by_cases z:a=p
  ·subst z;exact .inr h
  ·rw [aad z] at e;exact .inl e
 fn:=fun a z=>z.elim
 fg:=fun a z=>z.elim
 fo:=fun a z=>z.elim
 ok:=⟨.tup aaf (r.same (abe (aa4 g h))),fun a z=>z⟩
 ft:=fun t a b e=>by
  by_cases z:a=p
  ·subst z;rw [aaf] at e ⊢;exact e
  ·rw [aad z] at e ⊢;exact t a b e
theorem Out.newO {p:Addr} {o:HO} {A:Own} (g:Same G H) (h:H p=none) (c:∀ xs,o ≠ .tup xs) (r:A.P G (upd H p o) (.ref p) (· = p)):Out G H (.ref p) G (upd H p o) (.own A) (· = p) where
 gg:=Same.refl _
 gh:=g.trans (abe h)
 hh:=abe h
 gn:=fun a o e => .inl e
 fn:=fun a z=>by rw [z];exact h
 fg:=fun a z=>by rw [z];exact aa4 g h
 fo:=fun a z=>by rw [z];exact ⟨_,aaf⟩
 ok:=r
 ft:=fun t a b e=>by
  by_cases z:a=p
  ·subst z;rw [aaf] at e;exact absurd (aC5 e) (c _)
  ·rw [aad z] at e;exact t a b e
theorem Out.newL {p:Addr} {xs:List V} {ds:List PyData} (g:Same G H) (h:H p=none) (r:Rps G xs ds):Out G H (.ref p) G (upd H p (.lst xs)) (.own (OL ds)) (· = p) :=
 .newO g h (fun _ z=>nomatch z) ⟨p,xs,rfl,aaf,r,fun b=>Iff.rfl⟩
theorem Out.newD {p:Addr} {xs:List (Key × V)} {ds:List (Key × PyData)} (g:Same G H) (h:H p=none) (r:RpK G xs ds):Out G H (.ref p) G (upd H p (.dK xs)) (.own (OD ds)) (· = p) :=
 .newO g h (fun _ z=>nomatch z) ⟨p,xs,rfl,aaf,r,fun b=>Iff.rfl⟩
theorem Out.newDT {p:Addr} {xs:List (List Key × V)} {ds:List (List Key × PyData)} (g:Same G H) (h:H p=none) (r:RpT G xs ds):Out G H (.ref p) G (upd H p (.dT xs)) (.own (OT ds)) (· = p) :=
 .newO g h (fun _ z=>nomatch z) ⟨p,xs,rfl,aaf,r,fun b=>Iff.rfl⟩
end
def EvO (B:Bs) (te:TE) (env:En) (Q':Sl->En->Prop):Prop:=∀ (σ:St) (G H:Hp) (F:Nat->Addr->Prop) (Q:VK),VI B G H σ env F ->
 (∀ v G' H' F' Fv s env',VI B G' H' σ env' F'->Same G G'->RsX B G' H' v Fv s F'->Q' s env'->Q v H')->te σ H Q
def Ev (B:Bs) (te:TE) (env:En) (Q':PyData->En->Prop):Prop:=∀ (σ:St) (G H:Hp) (F:Nat->Addr->Prop) (Q:VK),VI B G H σ env F ->
 (∀ v G' H' F' d env',VI B G' H' σ env' F'->Same G G'->Rp G' v d->Q' d env'->Q v H')->te σ H Q
def EvT (B:Bs) (tt:TT) (env:En) (Q':Bool->En->Prop):Prop:=∀ (σ:St) (G H:Hp) (F:Nat->Addr->Prop) (Q:Bool->Hp->Prop),VI B G H σ env F ->
 (∀ b G' H' F' env',VI B G' H' σ env' F'->Same G G'->Q' b env'->Q b H')->tt σ H Q
def EvA (B:Bs) (ta:TA) (env:En) (Q':List PyData->En->Prop):Prop:=∀ (σ:St) (G H:Hp) (F:Nat->Addr->Prop) (Q:List V->Hp->Prop),VI B G H σ env F ->
 (∀ vs G' H' F' ds env',VI B G' H' σ env' F'->Same G G'->Rps G' vs ds->Q' ds env'->Q vs H')->ta σ H Q
structure ItOk (G:Hp) (J:It) (ds:List PyData):Prop where
 go:∀ i G' H',Same G G'->Same G' H'->i < ds.length->J.go i H'
 stop:∀ i G' H',Same G G'->Same G' H'->i=ds.length->J.stop i H'
 yld:∀ i G' H' x H'' d,Same G G'->Same G' H'->FT G' H'->ds[i]?=some d->J.yld i H' x H''->∃ G'',Out G' H' x G'' H'' (.st d) (fun _=>False)
def EvI (B:Bs) (ti:TI) (env:En) (Q':List PyData->En->Prop):Prop:=∀ (σ:St) (G H:Hp) (F:Nat->Addr->Prop) (R:It->Hp->Prop),VI B G H σ env F ->
 (∀ J G' H' F' ds env',VI B G' H' σ env' F'->Same G G'->ItOk G' J ds->Q' ds env'->R J H')->ti σ H R
def EvG (B:Bs) (g:TG) (s:Sl) (env:En) (Q':En->Prop):Prop:=∀ (σ:St) (G H:Hp) (F:Nat->Addr->Prop) (v:V) (Fv:Addr->Prop) (Q:St->Hp->Prop),VI B G H σ env F->RsX B G H v Fv s F ->
 (∀ σ' G' H' F' env',VI B G' H' σ' env' F'->Same G G'->Q' env'->Q σ' H')->g v σ H Q
def EvGs (B:Bs) (g:TGs) (ds:List PyData) (env:En) (Q':En->Prop):Prop:=∀ (σ:St) (G H:Hp) (F:Nat->Addr->Prop) (vs:List V) (Q:St->Hp->Prop),VI B G H σ env F->Rps G vs ds ->
 (∀ σ' G' H' F' env',VI B G' H' σ' env' F'->Same G G'->Q' env'->Q σ' H')->g vs σ H Q
structure VEnds where
 nx:En->Prop
 rt:Sl->En->Prop
 bk:En->Prop:=fun _=>False
 ct:En->Prop:=fun _=>False
structure RelE (B:Bs) (G:Hp) (D:Ends) (D':VEnds):Prop where
 nx:∀ σ G' H F env,VI B G' H σ env F->Same G G'->D'.nx env->D.nx σ H
 rt:∀ σ G' H F env v Fv s,VI B G' H σ env F->Same G G'->RsX B G' H v Fv s F->D'.rt s env->D.rt v H
 bk:∀ σ G' H F env,VI B G' H σ env F->Same G G'->D'.bk env->D.bk σ H
 ct:∀ σ G' H F env,VI B G' H σ env F->Same G G'->D'.ct env->D.ct σ H
def EvS (B:Bs) (ts:TS) (D':VEnds) (env:En):Prop:=∀ (σ:St) (G H:Hp) (F:Nat->Addr->Prop) (D:Ends),VI B G H σ env F->RelE B G D D'->ts D σ H
theorem RelE.later {B:Bs} {G G':Hp} {D:Ends} {D':VEnds} (r:RelE B G D D') (g:Same G G'):RelE B G' D D' :=
 ⟨fun σ a H F env I q=>r.nx σ a H F env I (g.trans q),fun σ a H F env v Fv s I q=>r.rt σ a H F env v Fv s I (g.trans q),fun σ a H F env I q=>r.bk σ a H F env I (g.trans q),fun σ a H F env I q=>r.ct σ a H F env I (g.trans q)⟩
section
variable {B:Bs} {env:En} {Q':PyData->En->Prop} {QO:Sl->En->Prop} {QT:Bool->En->Prop} {QA:List PyData->En->Prop} {te ta tb:TE}
theorem aes {G H:Hp} {v:V} {d:PyData} {F:Nat->Addr->Prop} (r:Rp G v d):RsX B G H v (fun _=>False) (.st d) F:=⟨⟨r,fun a z=>z⟩,fun a z=>z.elim,fun a z=>z.elim,fun a z=>z.elim,fun j a z=>z.elim⟩
theorem aba (h:Ev B te env fun d e=>QO (.st d) e):EvO B te env QO:=fun σ G H F Q I k =>
 h σ G H F Q I fun v G' H' F' d a b g r q=>k v G' H' F' _ (.st d) a b g (aes r) q
theorem abk (h:EvO B te env fun s e=>FQ s fun d=>Q' d e):Ev B te env Q':=fun σ G H F Q I k =>
 h σ G H F Q I fun v G' H' F' Fv s a b g r q=>by
  cases s with
  | st d=>exact k v G' H' F' d a b g r.ok.1 q
  | own A =>
   obtain ⟨d,f,q⟩:=q
   exact k v _ H' F' d a (b.freeze r.fb r.fd r.fg) (g.trans (abb r.fg)) (f G' H' v Fv r.ok r.fg b.gh) q
  | io A=>exact q.elim
  | scr ns=>exact q.elim
theorem ayw {i:Nat} {d:PyData} (e:env[i]?=some (some (.st d))) (q:Q' d env):Ev B (tVar i) env Q':=fun σ G H F Q I k=>by
 obtain ⟨v,a,r⟩:=I.sl i _ e
 exact ⟨v,a,k v G H F d env I (Same.refl _) r.1 q⟩
theorem awc {i:Nat} {A:Own} {d:PyData} (e:env[i]?=some (some (.own A))) (f:Frz A d) (q:Q' d (env.set i (some (.st d)))):Ev B (tVar i) env Q':=fun σ G H F Q I k=>by
 obtain ⟨v,a,r,g,J⟩:=I.frz e f
 exact ⟨v,a,k v _ H _ d _ J g r q⟩
theorem ath {i:Nat} {A:Own} (e:env[i]?=some (some (.own A))) (q:QO (.own A) (env.set i none)):EvO B (tVar i) env QO:=fun σ G H F Q I k=>by
 obtain ⟨v,b,r⟩:=I.sl i _ e
 refine ⟨v,b,k v G H _ (F i) (.own A) _ (I.drop i) (Same.refl _) ⟨r.1,r.2,I.fg i,I.fo i,fun j a z y=>?_⟩ q⟩
 by_cases h:j=i
 ·subst h;exact putF_same.mp y
 ·rw [aa7 h] at y;exact h (I.fd j i a y z)
theorem ayx {i:Int} (q:Q' (.int i) env):Ev B (tC (.int i)) env Q':=fun σ G H F Q I k=>k _ G H F _ env I (Same.refl _) (.int i) q
theorem a0f {b:Bool} (q:Q' (.bool b) env):Ev B (tC (.bl b)) env Q':=fun σ G H F Q I k=>k _ G H F _ env I (Same.refl _) (.bl b) q
theorem ayy (q:Q' .none env):Ev B (tC .non) env Q':=fun σ G H F Q I k=>k _ G H F _ env I (Same.refl _) .non q
def Op2 (r:R2) (x y:PyData) (R:Sl->Prop):Prop:=∀ (G H:Hp) (vx vy:V) (Q:VK),Same G H->Rp G vx x->Rp G vy y->(∀ v G' H' s Fv,Out G H v G' H' s Fv->R s->Q v H')->r vx vy H Q
def Op1 (r:V->Hp->VK->Prop) (x:PyData) (R:Sl->Prop):Prop:=∀ (G H:Hp) (vx:V) (Q:VK),Same G H->Rp G vx x->(∀ v G' H' s Fv,Out G H v G' H' s Fv->R s->Q v H')->r vx H Q
def OpA (r:List V->Hp->VK->Prop) (ds:List PyData) (R:Sl->Prop):Prop:=∀ (G H:Hp) (vs:List V) (Q:VK),Same G H->Rps G vs ds->(∀ v G' H' s Fv,Out G H v G' H' s Fv->R s->Q v H')->r vs H Q
theorem alu {r:R2} (h:Ev B ta env fun x c=>Ev B tb c fun y b=>Op2 r x y fun s=>QO s b):EvO B (tOp r ta tb) env QO:=fun σ G H F Q I k =>
 h σ G H F _ I fun l z f C x c n m u j=>j σ z f C _ n fun A q H2 F2 y b a d p w =>
  w q H2 l A Q a.gh (u.same d) p fun v i H3 s Fv o g=>k v i H3 F2 Fv s b (a.out o).1 (m.trans (d.trans o.gg)) (a.out o).2 g
theorem au4 {r:R2} (h:Ev B ta env fun x a=>Ev B tb a fun y b=>Op2 r x y fun s=>FQ s fun d=>Q' d b):Ev B (tOp r ta tb) env Q':=abk (alu h)
theorem ayz {r:V->Hp->VK->Prop} (h:Ev B ta env fun x a=>Op1 r x fun s=>QO s a):EvO B (tUn r ta) env QO:=fun σ G H F Q I k =>
 h σ G H F _ I fun i m c n x a b j l g=>g m c i Q b.gh l fun v f H3 s Fv o d=>k v f H3 n Fv s a (b.out o).1 (j.trans o.gg) (b.out o).2 d
theorem a0g {r:V->Hp->VK->Prop} (h:Ev B ta env fun x a=>Op1 r x fun s=>FQ s fun d=>Q' d a):Ev B (tUn r ta) env Q':=abk (ayz h)
theorem anu (q:QA [] env):EvA B tNil env QA:=fun σ G H F Q I k=>k [] G H F [] env I (Same.refl _) .nil q
theorem ag0 {tr:TA} (h:Ev B ta env fun x b=>EvA B tr b fun xs a=>QA (x :: xs) a):EvA B (aa1 ta tr) env QA:=fun σ G H F Q I k =>
 h σ G H F _ I fun r p d q x b j i n g=>g σ p d q _ j fun vs m H2 F2 ds a f c l o=>k _ m H2 F2 _ a f (i.trans c) (.cons (n.same c) l) o
theorem aq6 {r:List V->Hp->VK->Prop} {t:TA} (h:EvA B t env fun ds a=>OpA r ds fun s=>QO s a):EvO B (tCB r t) env QO:=fun σ G H F Q I k =>
 h σ G H F _ I fun vs l c m ds a b i j g=>g l c vs Q b.gh j fun v f H3 s Fv o d=>k v f H3 m Fv s a (b.out o).1 (i.trans o.gg) (b.out o).2 d
theorem au5 {r:List V->Hp->VK->Prop} {t:TA} (h:EvA B t env fun ds a=>OpA r ds fun s=>FQ s fun d=>Q' d a):Ev B (tCB r t) env Q':=abk (aq6 h)
theorem anv {t:TA} (h:EvA B t env fun ds a=>ds.length<=1000/\QO (.st (.tuple ds)) a):EvO B (tTup t) env QO:=fun σ G H F Q I k =>
 h σ G H F _ I fun vs l j i ds a b g d c=>⟨by rw [d.length];exact aF8 (ad9 c.1),fun p f=>by
  have o:=Out.newT b.gh f d
  exact k _ _ _ i _ _ a (b.out o).1 (g.trans o.gg) (b.out o).2 c.2⟩
theorem ay0 {t:TA} (h:EvA B t env fun ds a=>ds.length<=1000/\Q' (.tuple ds) a):Ev B (tTup t) env Q':=abk (anv h)
theorem anw {t:TA} (h:EvA B t env fun ds a=>ds.length<=1000/\QO (.own (OL ds)) a):EvO B (tLst t) env QO:=fun σ G H F Q I k =>
 h σ G H F _ I fun vs l j i ds a b g d c=>⟨by rw [d.length];exact aF8 (ad9 c.1),fun p f=>by
  have o:=Out.newL b.gh f d
  exact k _ _ _ i _ _ a (b.out o).1 (g.trans o.gg) (b.out o).2 c.2⟩
theorem ay1 {t:TA} (h:EvA B t env fun ds a=>ds.length<=1000/\Q' (.list ds) a):Ev B (tLst t) env Q':=abk (anw fun σ G H F Q I k=>h σ G H F Q I fun vs G' H' F' ds a b g r q=>k vs G' H' F' ds a b g r ⟨q.1,acr q.2⟩)
theorem ag1 (h:Ev B te env fun x a=>∃ b,x=.bool b/\QT b a):EvT B (aou te) env QT:=fun σ G H F Q I k =>
 h σ G H F _ I fun v j c l x a g f i d=>by
  obtain ⟨b,e,q⟩:=d
  subst e
  cases i
  exact ⟨b,rfl,k b j c l a g f q⟩
theorem a0h (h:Ev B te env fun x a=>∃ b,x=.bool b/\QT b a):EvT B (tB te) env QT:=ag1 h
theorem x_bl {b:Bool} {R:Bool->Prop} (h:R b):∃ c,PyData.bool b=.bool c/\R c:=⟨b,rfl,h⟩
theorem awd {t u:TT} (h:EvT B t env fun c a=>if c=true then EvT B u a QT else QT false a):EvT B (tAnd t u) env QT:=fun σ G H F Q I k =>
 h σ G H F _ I fun b i d j a g f q=>by
  cases b with
  | true=>rw [aE8 rfl] at q ⊢;exact q σ i d j Q g fun c m H2 F2 n l o p=>k c m H2 F2 n l (f.trans o) p
  | false=>rw [aE9 aA9] at q ⊢;exact k false i d j a g f q
theorem ay2 {t u:TT} (h:EvT B t env fun c a=>if c=true then QT true a else EvT B u a QT):EvT B (tOr t u) env QT:=fun σ G H F Q I k =>
 h σ G H F _ I fun b i d j a g f q=>by
  cases b with
  | false=>rw [aE9 aA9] at q ⊢;exact q σ i d j Q g fun c m H2 F2 n l o p=>k c m H2 F2 n l (f.trans o) p
  | true=>rw [aE8 rfl] at q ⊢;exact k true i d j a g f q
theorem anx {t:TT} (h:EvT B t env fun c a=>QT (!c) a):EvT B (tNot t) env QT:=fun σ G H F Q I k =>
 h σ G H F _ I fun b i d j a f g q=>k (!b) i d j a f g q
theorem aiz (q:QT true env):EvT B tYes env QT:=fun σ G H F Q I k=>k true G H F env I (Same.refl _) q
def TruD:PyData->Bool->Prop
 | .bool b,k=>k=b
 | .list ds,k=>k = !ds.isEmpty
 | _,_=>False
theorem awe {K:Frag} (h:Ev B te env fun x a=>∃ b,TruD x b/\QT b a):EvT B (tTru K te) env QT:=fun σ G H F Q I k =>
 h σ G H F _ I fun v i f j x a d g n l=>by
  obtain ⟨b,e,q⟩:=l
  cases n with
  | bl c=>cases e;exact ⟨_,rfl,k _ i f j a d g q⟩
  | lst ha rs =>
   refine ⟨b,.inl ⟨_,SqL.of (d.gh _ _ ha),?_⟩,k _ i f j a d g q⟩
   have m:b = !_:=e
   rw [m]
   cases rs <;> rfl
  | _=>exact e.elim
theorem awf (h:Ev B ta env fun x a=>∃ b,x=.bool b/\if b=true then Ev B tb a Q' else Q' (.bool false) a):Ev B (aok ta tb) env Q':=fun σ G H F Q I k =>
 h σ G H F _ I fun v i c j x a g f s l=>by
  obtain ⟨b,e,q⟩:=l
  subst e
  cases s
  refine ⟨b,rfl,?_⟩
  cases b with
  | true=>rw [aE8 rfl] at q ⊢;exact q σ i c j Q g fun v o H2 F2 d p m r n u=>k v o H2 F2 d p m (f.trans r) n u
  | false=>rw [aE9 aA9] at q ⊢;exact k _ i c j _ a g f (.bl false) q
theorem awg (h:Ev B ta env fun x a=>∃ b,x=.bool b/\Q' (.bool (!b)) a):Ev B (aol ta) env Q':=fun σ G H F Q I k =>
 h σ G H F _ I fun v j c l x a g f i d=>by
  obtain ⟨b,e,q⟩:=d
  subst e
  cases i
  exact ⟨b,rfl,k _ j c l _ a g f (.bl _) q⟩
theorem ati {r w:R2} {M:TE} (h:Ev B ta env fun x E=>Ev B tb E fun y g=>Op2 r x y fun s=>∃ b,s=.st (.bool b)/\if b=true then Ev B M g fun z e3=>Op2 w y z fun s'=>FQ s' fun d=>Q' d e3 else Q' (.bool false) g):Ev B (akw r w ta tb M) env Q':=fun σ G H F Q I k =>
 h σ G H F _ I fun v1 G1 U F1 x E I1 K r1 Z=>Z σ G1 U F1 _ I1 fun S G2 H2 F2 y g D n N q2 =>
  q2 G2 H2 v1 S _ D.gh (r1.same n) N fun v C H3 s Fv o X=>by
   obtain ⟨b,es,a⟩:=X
   have T:=(D.out o).1
   have i:=o.ok
   subst es
   obtain ⟨i,_⟩:=i
   cases i
   refine ⟨b,rfl,?_⟩
   cases b with
   | false=>rw [aE9 aA9] at a ⊢;exact k _ C H3 F2 _ g T (K.trans (n.trans o.gg)) (.bl _) a
   | true =>
    rw [aE8 rfl] at a ⊢
    refine a σ C H3 F2 _ T fun v3 G4 W O z R u L r4 Y=>Y G4 W S v3 Q u.gh (N.same (o.gg.trans L)) r4 fun m P l s5 p j c=>?_
    have J:=u.out j
    have gg:=K.trans (n.trans (o.gg.trans (L.trans j.gg)))
    cases s5 with
    | st d=>exact k m P l O d R J.1 gg j.ok.1 c
    | own A =>
     obtain ⟨d,f,q⟩:=c
     exact k m _ l O d R (J.1.freeze J.2.fb J.2.fd J.2.fg) (gg.trans (abb J.2.fg)) (f P l m p J.2.ok J.2.fg J.1.gh) q
    | io A=>exact c.elim
    | scr ns=>exact c.elim
end
section
variable {B:Bs} {env:En} {D':VEnds} {t u tb:TS} {te:TE} {g:TG} {c:TT} {QE:En->Prop}
theorem anz (h:EvS B t { D' with nx:=fun e=>EvS B u D' e } env):EvS B (tSeq t u) D' env:=fun σ G H F D I r =>
 h σ G H F { D with nx:=u D } I ⟨fun σ G' H F env a g q=>q σ G' H F D a (r.later g),r.rt,r.bk,r.ct⟩
theorem atj (h:D'.nx env):EvS B aom D' env:=fun σ G H F D I r=>r.nx σ G H F env I (Same.refl _) h
theorem awh (h:EvO B te env fun s e=>EvG B g s e D'.nx):EvS B (tAsg te g) D' env:=fun σ G H F D I r =>
 h σ G H F _ I fun v p c q Fv s u j i b f=>f σ p c q v Fv D.nx j b fun a l H2 F2 m d n o=>r.nx a l H2 F2 m d (i.trans n) o
theorem abf {i:Nat} {s:Sl} (h:QE (env.set i (some s))):EvG B (abr i) s env QE:=fun σ G H F v Fv Q I x k=>k _ G H _ _ (I.store x i) (Same.refl _) h
theorem atk (h:QE env):EvGs B gNil [] env QE:=fun σ G H F vs Q I x k=>by cases x;exact ⟨rfl,k σ G H F env I (Same.refl _) h⟩
theorem aq7 {f:TGs} {d:PyData} {ds:List PyData} (h:EvG B g (.st d) env fun e=>EvGs B f ds e QE):EvGs B (auu g f) (d :: ds) env QE:=fun σ G H F vs Q I x k=>by
 cases x with
 | cons r rs =>
  refine ⟨_,_,rfl,h σ G H F _ _ _ I (aes r) fun b s i u v m c l=>l b s i u _ Q m (rs.same c) fun a n H2 F2 o j p q=>k a n H2 F2 o j (c.trans p) q⟩
theorem awi {K:Frag} {n:Nat} {a:TGs} {ds:List PyData} (b:ds.length=n) (h:EvGs B a ds env QE):EvG B (gTup K n a) (.st (.tuple ds)) env QE:=fun σ G H F v Fv Q I x k=>by
 obtain ⟨r,_⟩:=x.ok
 cases r with
 | tup ha rs=>exact ⟨_,_,rfl,SqT.of (I.gh _ _ ha),by rw [rs.length,b],h σ G H F _ Q I rs k⟩
theorem an0 (h:EvO B te env fun s e=>D'.rt s e):EvS B (tRet te) D' env:=fun σ G H F D I r =>
 h σ G H F _ I fun v i b j Fv s d g f a c=>r.rt σ i b j d v Fv s g f a c
theorem alv (h:EvO B te env fun _ e=>D'.nx e):EvS B (aon te) D' env:=fun σ G H F D I r =>
 h σ G H F _ I fun v g a i Fv s c f d j b=>r.nx σ g a i c f d b
theorem aq8 (h:EvT B c env fun b e=>if b=true then EvS B t D' e else EvS B u D' e):EvS B (tIfS c t u) D' env:=fun σ G H F D I r =>
 h σ G H F _ I fun b g a i j d f q=>by
  cases b with
  | true=>rw [aE8 rfl] at q ⊢;exact q σ g a i D d (r.later f)
  | false=>rw [aE9 aA9] at q ⊢;exact q σ g a i D d (r.later f)
def ForV (B:Bs) (g:TG) (tb:TS) (D':VEnds) (ds:List PyData) (e1:En):Prop:=∃ J:Nat->En->Prop,J 0 e1/\(∀ i d e,ds[i]?=some d->J i e->EvG B g (.st d) e fun e2=>EvS B tb { D' with nx:=J (i+1),ct:=J (i+1),bk:=D'.nx } e2)/\∀ e,J ds.length e->D'.nx e
theorem awj {M:TI} (h:EvI B M env fun ds w=>ForV B g tb D' ds w):EvS B (tFor M g tb) D' env:=fun σ G H F D I r =>
 h σ G H F _ I fun J C H1 F1 ds w Z z it T=>by
  obtain ⟨L,Q,js,P⟩:=T
  refine ⟨fun i m σ H=>m=ds.length - i/\i<=ds.length/\∃ f F2 p,VI B f H σ p F2/\Same C f/\L i p,⟨ds.length,by simp,aF3 _,C,F1,w,Z,Same.refl _,Q⟩,?_⟩
  rintro i m σ H ⟨rfl,hi,f,F2,p,n,s,K⟩
  by_cases hlt:i < ds.length
  ·refine .inr ⟨it.go i f H s n.gh hlt,fun σ H=>∃ u F3 N,VI B u H σ N F3/\Same C u/\L (i+1) N,fun a0 H' h'=>⟨ds.length - (i+1),by omega,rfl,hlt,h'⟩,fun x H' y=>?_⟩
   obtain ⟨u,o⟩:=it.yld i f H x H' _ s n.gh n.ft (aA0 hlt) y
   have O:=n.out o
   refine js i _ p (aA0 hlt) K σ u H' F2 x _ _ O.1 O.2 fun A X S F4 e4 R W U=>?_
   have gg:=s.trans (o.gg.trans W)
   refine U A X S F4 _ R ⟨fun a j q d c l b v=>⟨j,d,c,l,gg.trans b,v⟩,fun a j q d c Y E s5 l b=>r.rt a j q d c Y E s5 l (z.trans (gg.trans b)),fun a j q d c l b=>r.nx a j q d c l (z.trans (gg.trans b)),fun a j q d c l b v=>⟨j,d,c,l,gg.trans b,v⟩⟩
  ·have e:i=ds.length:=by omega
   subst e
   exact .inl ⟨it.stop _ f H s n.gh rfl,r.nx σ f H F2 p n (z.trans s) (P p K)⟩
theorem ajn (J:Nat->En->Prop) (w:∃ m,J m env) (h:∀ m e,J m e->EvT B c e fun b A=>if b=true then EvS B tb { D' with nx:=fun f=>∃ d,d < m/\J d f,ct:=fun f=>∃ d,d < m/\J d f,bk:=D'.nx } A else D'.nx A):EvS B (ap5 c tb) D' env:=fun σ G H F D I r=>by
 obtain ⟨R,w⟩:=w
 refine ⟨fun m σ H=>∃ s F2 f,VI B s H σ f F2/\Same G s/\J m f,⟨R,G,F,env,I,Same.refl _,w⟩,?_⟩
 rintro m σ H ⟨s,F2,f,M,U,K⟩
 refine h m f K σ s H F2 _ M fun b z H3 C O E Q p=>?_
 have gg:=U.trans Q
 cases b with
 | false=>rw [aE9 aA9] at p ⊢;exact r.nx σ z H3 C O E gg p
 | true =>
  rw [aE8 rfl] at p ⊢
  refine ⟨fun σ H=>∃ q x u,VI B q H σ u x/\Same G q/\∃ d,d < m/\J d u,fun S H' ⟨q,x,u,L,N,d,hm,T⟩=>⟨d,hm,q,x,u,L,N,T⟩,?_⟩
  exact p σ z H3 C _ E ⟨fun a l o j i n g v=>⟨l,j,i,n,gg.trans g,v⟩,fun a l o j i P y W n g=>r.rt a l o j i P y W n (gg.trans g),fun a l o j i n g=>r.nx a l o j i n (gg.trans g),fun a l o j i n g v=>⟨l,j,i,n,gg.trans g,v⟩⟩
variable {QI:List PyData->En->Prop}
theorem atl {K:Frag} (h:Ev B te env fun d e=>∃ ds,d=.list ds/\QI ds e):EvI B (auv K te) env QI:=fun σ G H F R I k =>
 h σ G H F _ I fun v r c s d o b p q l=>by
  obtain ⟨ds,n,m⟩:=l
  subst n
  cases q with
  | @lst a vs ds ha rs =>
   refine ⟨a,rfl,⟨vs,SqL.of (b.gh _ _ ha)⟩,k _ r c s ds o b p ⟨fun i G' H' g h hi=>?_,fun i G' H' g h hi=>?_,fun i G' H' x H'' d g h ft hd y=>?_⟩ m⟩
   ·have:i < vs.length:=by rw [rs.length];exact hi
    exact ⟨vs,vs[i],SqL.of (h _ _ (g _ _ ha)),aA0 this⟩
   ·exact ⟨vs,SqL.of (h _ _ (g _ _ ha)),by rw [rs.length];exact Nat.le_of_eq hi.symm⟩
   ·obtain ⟨e,y⟩:=y
    subst e
    obtain ⟨v,j,f⟩:=rs.get hd
    have:=y vs (SqL.of (h _ _ (g _ _ ha)))
    rw [j] at this
    cases this
    exact ⟨G',Out.refl h (f.same g)⟩
theorem awk {K:Frag} (h:Ev B te env fun d e=>∃ ds,d=.tuple ds/\QI ds e):EvI B (iTup K te) env QI:=fun σ G H F R I k =>
 h σ G H F _ I fun v r c s d o b p q l=>by
  obtain ⟨ds,n,m⟩:=l
  subst n
  cases q with
  | @tup a vs ds ha rs =>
   refine ⟨a,rfl,⟨vs,SqT.of (b.gh _ _ ha)⟩,k _ r c s ds o b p ⟨fun i G' H' g h hi=>?_,fun i G' H' g h hi=>?_,fun i G' H' x H'' d g h ft hd y=>?_⟩ m⟩
   ·have:i < vs.length:=by rw [rs.length];exact hi
    exact ⟨vs,vs[i],SqT.of (h _ _ (g _ _ ha)),aA0 this⟩
   ·exact ⟨vs,SqT.of (h _ _ (g _ _ ha)),by rw [rs.length];exact Nat.le_of_eq hi.symm⟩
   ·obtain ⟨e,y⟩:=y
    subst e
    obtain ⟨v,j,f⟩:=rs.get hd
    have:=y vs (SqT.of (h _ _ (g _ _ ha)))
    rw [j] at this
    cases this
    exact ⟨G',Out.refl h (f.same g)⟩
theorem ay3 {ds:List PyData} {R:List PyData->Prop} (h:R ds):∃ xs,PyData.list ds=.list xs/\R xs:=⟨ds,rfl,h⟩
theorem awl {ds:List PyData} {R:List PyData->Prop} (h:R ds):∃ xs,PyData.tuple ds=.tuple xs/\R xs:=⟨ds,rfl,h⟩
def rngD (lo:Int) (n:Nat):List PyData:=(List.range n).map fun (i:Nat) => .int (lo+(i:Int))
theorem acf {lo:Int} {n:Nat}:(rngD lo n).length=n:=by simp [rngD]
theorem ag2 {lo:Int} {n i:Nat} {d:PyData} (h:(rngD lo n)[i]?=some d):i < n/\d=.int (lo+(i:Int)):=by
 unfold rngD at h
 rw [aA5] at h
 have hi:i < n:=by
  have:=(aA1 (l:=(List.range n).map fun (i:Nat)=>PyData.int (lo+(i:Int)))).mp (by rw [aA5];exact h)
  obtain ⟨q,_⟩:=this
  simpa using q
 rw [aA0 (by simpa using hi)] at h
 simp at h
 exact ⟨hi,h.symm⟩
theorem aq9 {G:Hp} {lo:Int} {n:Nat}:ItOk G (Itr lo n) (rngD lo n):=by
 refine ⟨fun i G' H' g h hi=>?_,fun i G' H' g h hi=>?_,fun i G' H' x H'' d g h ft hd y=>?_⟩
 ·rw [acf] at hi;exact hi
 ·rw [acf] at hi;exact Nat.le_of_eq hi.symm
 ·obtain ⟨e,y⟩:=y
  subst e y
  rw [(ag2 hd).2]
  exact ⟨G',Out.refl h (.int _)⟩
def akn (ds:List PyData) (R:List PyData->Prop):Prop:=∃ j:Int,ds=[.int j]/\-(2 ^ 62)<=j/\j < 2 ^ 62/\R (rngD 0 j.toNat)
def ako (ds:List PyData) (R:List PyData->Prop):Prop:=∃ i j:Int,ds=[.int i,.int j]/\(-(2 ^ 62)<=i/\i < 2 ^ 62/\-(2 ^ 62)<=j/\j < 2 ^ 62)/\R (rngD i (j - i).toNat)
theorem atm {a:TA} (h:EvA B a env fun ds e=>akn ds fun xs=>QI xs e):EvI B (aor a) env QI:=fun σ G H F R I k =>
 h σ G H F _ I fun vs o b p ds g m i n c=>by
  obtain ⟨j,f,b1,l,d⟩:=c
  subst f
  obtain rfl:vs=[V.int j]:=Rps.ints_inv (ns:=[j]) n
  exact ⟨j,rfl,b1,l,k _ o b p _ g m i aq9 d⟩
theorem atn {a:TA} (h:EvA B a env fun ds e=>ako ds fun xs=>QI xs e):EvI B (auw a) env QI:=fun σ G H F R I k =>
 h σ G H F _ I fun vs o b p ds g m l n c=>by
  obtain ⟨i,j,f,b1,d⟩:=c
  subst f
  obtain rfl:vs=[V.int i,V.int j]:=Rps.ints_inv (ns:=[i,j]) n
  exact ⟨i,j,rfl,b1,k _ o b p _ g m l aq9 d⟩
theorem ay4 {j:Int} {R:List PyData->Prop} (b : -4611686018427387904<=j) (a:j < 4611686018427387904) (h:R (rngD 0 j.toNat)):akn [.int j] R:=⟨j,rfl,by omega,by omega,h⟩
theorem ay5 {a b:Int} {R:List PyData->Prop} (c : -4611686018427387904<=a/\a < 4611686018427387904/\-4611686018427387904<=b/\b < 4611686018427387904) (h:R (rngD a (b - a).toNat)):ako [.int a,.int b] R:=⟨a,b,rfl,by omega,h⟩
theorem ack {lo:Int} {n:Nat} (J:Nat->En->Prop) (c:J 0 env) (a:∀ i e,i < n->J i e->EvG B g (.st (.int (lo+(i:Int)))) e fun b=>EvS B tb { D' with nx:=J (i+1),ct:=J (i+1),bk:=D'.nx } b) (hd:∀ e,J n e->D'.nx e):ForV B g tb D' (rngD lo n) env :=
 ⟨J,c,fun i d e h j=>by obtain ⟨hi,rfl⟩:=ag2 h;exact a i e hi j,fun e j=>hd e (by rw [acf] at j;exact j)⟩
theorem acu {α:Type} {f : α->PyData} {xs:List α} (J:Nat->En->Prop) (c:J 0 env) (a:∀ i x e,xs[i]?=some x->J i e->EvG B g (.st (f x)) e fun b=>EvS B tb { D' with nx:=J (i+1),ct:=J (i+1),bk:=D'.nx } b) (hd:∀ e,J xs.length e->D'.nx e):ForV B g tb D' (xs.map f) env :=
 ⟨J,c,fun i d e h j=>by
  rw [aA5] at h
  cases hx:xs[i]? with
  | none=>rw [hx] at h;cases h
  | some x=>rw [hx] at h;cases h;exact a i x e hx j,fun e j=>hd e (by rw [aA3] at j;exact j)⟩
end
theorem alw {B:Bs} {a b:TS} {D':VEnds} {env:En} (h:∀ c:TS,c=b->EvS B a { D' with nx:=fun e=>EvS B c D' e } env):EvS B (tSeq a b) D' env:=anz (h b rfl)
theorem ai0 {B:Bs} {c b:TS} {D':VEnds} {env:En} (e:c=b) (h:EvS B b D' env):EvS B c D' env:=by rw [e];exact h
@[elab_as_elim] theorem exS1 {c:Type} {σ:Type} {f : c->σ} {p : c->Prop} {a : σ->Prop} (s : σ) (h:∃ b,s=f b/\p b) (k:∀ b,p b->a (f b)):a s:=by
 obtain ⟨b,e,h⟩:=h
 rw [e];exact k _ h
@[elab_as_elim] theorem exE1 {c:Type} {σ:Type} {f : c->σ} {a : σ->Prop} (s : σ) (h:∃ b,s=f b) (k:∀ b,a (f b)):a s:=by
 obtain ⟨b,e⟩:=h
 rw [e];exact k _
@[elab_as_elim] theorem exS2 {d:Type} {g:Type} {σ:Type} {f : d->g->σ} {p : d->g->Prop} {a : σ->Prop} (s : σ) (h:∃ c b,s=f c b/\p c b) (k:∀ c b,p c b->a (f c b)):a s:=by
 obtain ⟨c,b,e,h⟩:=h
 rw [e];exact k _ _ h
@[elab_as_elim] theorem exS3 {g:Type} {i:Type} {j:Type} {σ:Type} {f : g->i->j->σ} {p : g->i->j->Prop} {a : σ->Prop} (s : σ) (h:∃ d b c,s=f d b c/\p d b c) (k:∀ d b c,p d b c->a (f d b c)):a s:=by
 obtain ⟨d,b,c,e,h⟩:=h
 rw [e];exact k _ _ _ h
@[elab_as_elim] theorem exS4 {j:Type} {l:Type} {m:Type} {i:Type} {σ:Type} {f : j->l->m->i->σ} {p : j->l->m->i->Prop} {a : σ->Prop} (s : σ) (h:∃ d b c g,s=f d b c g/\p d b c g) (k:∀ d b c g,p d b c g->a (f d b c g)):a s:=by
 obtain ⟨d,b,c,g,e,h⟩:=h
 rw [e];exact k _ _ _ _ h
@[elab_as_elim] theorem exS5 {l:Type} {m:Type} {n:Type} {j:Type} {o:Type} {σ:Type} {f : l->m->n->j->o->σ} {p : l->m->n->j->o->Prop} {a : σ->Prop} (s : σ) (h:∃ d b c i g,s=f d b c i g/\p d b c i g) (k:∀ d b c i g,p d b c i g->a (f d b c i g)):a s:=by
 obtain ⟨d,b,c,i,g,e,h⟩:=h
 rw [e];exact k _ _ _ _ _ h
@[elab_as_elim] theorem exS6 {r:Type} {n:Type} {l:Type} {o:Type} {m:Type} {q:Type} {σ:Type} {f : r->n->l->o->m->q->σ} {p : r->n->l->o->m->q->Prop} {a : σ->Prop} (s : σ) (h:∃ d b c i g j,s=f d b c i g j/\p d b c i g j) (k:∀ d b c i g j,p d b c i g j->a (f d b c i g j)):a s:=by
 obtain ⟨d,b,c,i,g,j,e,h⟩:=h
 rw [e];exact k _ _ _ _ _ _ h
@[elab_as_elim] theorem exS7 {v:Type} {o:Type} {m:Type} {q:Type} {n:Type} {r:Type} {u:Type} {σ:Type} {f : v->o->m->q->n->r->u->σ} {p : v->o->m->q->n->r->u->Prop} {a : σ->Prop} (s : σ) (h:∃ d b c i g l j,s=f d b c i g l j/\p d b c i g l j) (k:∀ d b c i g l j,p d b c i g l j->a (f d b c i g l j)):a s:=by
 obtain ⟨d,b,c,i,g,l,j,e,h⟩:=h
 rw [e];exact k _ _ _ _ _ _ _ h
@[elab_as_elim] theorem exS8 {x:Type} {r:Type} {n:Type} {u:Type} {o:Type} {v:Type} {w:Type} {q:Type} {σ:Type} {f : x->r->n->u->o->v->w->q->σ} {p : x->r->n->u->o->v->w->q->Prop} {a : σ->Prop} (s : σ) (h:∃ d b c i g m j l,s=f d b c i g m j l/\p d b c i g m j l) (k:∀ d b c i g m j l,p d b c i g m j l->a (f d b c i g m j l)):a s:=by
 obtain ⟨d,b,c,i,g,m,j,l,e,h⟩:=h
 rw [e];exact k _ _ _ _ _ _ _ _ h
theorem big {n:Nat} (h:n<=1000000):n < sizeLine:=Nat.lt_of_le_of_lt h (by decide)
section
variable {B B1:Bs} {G H G' H':Hp} {σ σI:St} {env envI:En} {F F':Nat->Addr->Prop} {v:V} {s:Sl} {Fv:Addr->Prop} {inv:Nat->Option Nat}
open Classical in
def ach (H:Hp) (F:Nat->Addr->Prop) (inv:Nat->Option Nat):Hp:=fun a=>if ∃ i j,inv i=some j/\F i a then none else H a
theorem ae3 {i j:Nat} {a:Addr} (h:inv i=some j) (f:F i a):ach H F inv a=none:=aE8 ⟨i,j,h,f⟩
theorem ag3 {a:Addr} (h:∀ i j,inv i=some j->¬ F i a):ach H F inv a=H a:=aE9 fun ⟨i,j,x,y⟩=>h i j x y
theorem ac6:Same (ach H F inv) H:=fun a o e=>by
 unfold ach at e
 split at e
 ·cases e
 ·exact e
theorem VI.enter (I:VI B G H σ env F) (inj:∀ i b j,inv i=some j->inv b=some j->i=b) (ln : σI.length=envI.length)
  (sl:∀ j s,envI[j]?=some (some s)->∃ v,σI[j]?=some (some v)/\((∃ d,s=.st d/\Rp G v d/\∀ i,inv i ≠ some j)\/(∃ ns a,s=.scr ns/\v=.ref a/\SqL B.K G a (ns.map V.int)/\∀ i,inv i ≠ some j) ∨
   ∃ i A,inv i=some j/\s=.io A/\σ[i]?=some (some v)/\(env[i]?=some (some (.own A))\/env[i]?=some (some (.io A))))) :
  VI ⟨B.K,G,H,ach H F inv,σI,fun j a=>∃ i,inv i=some j/\F i a⟩ G H σI envI (fun j a=>∃ i,inv i=some j/\F i a) where
 gh:=I.gh
 g0:=Same.refl _
 gn:=fun a o e => .inl e
 rs:=ac6
 rb:=ac6
 bh:=fun a o e=>⟨o,e⟩
 fg:=fun j a ⟨i,_,z⟩=>I.fg i a z
 fr:=fun j a ⟨i,h,z⟩=>ae3 h z
 fd:=fun j k a ⟨i,h,z⟩ ⟨b,h',p⟩=>by
  have:=I.fd i b a z p
  subst this
  rw [h] at h';cases h';rfl
 fo:=fun j a ⟨i,h,z⟩=>I.fo i a z
 sl:=fun j s e=>by
  obtain ⟨v,m,q⟩:=sl j s e
  refine ⟨v,m,?_⟩
  rcases q with ⟨d,rfl,r,n⟩ | ⟨ns,a,rfl,rfl,q,n⟩ | ⟨i,A,hi,rfl,l,f⟩
  ·exact ⟨r,fun a ⟨i,h,_⟩=>n i h⟩
  ·exact ⟨⟨a,rfl,q⟩,fun a ⟨i,h,_⟩=>n i h⟩
  ·refine ⟨?_,fun a z => .inl z,m⟩
   have w:(fun a=>∃ b,inv b=some j/\F b a)=F i:=by
    funext a
    exact propext ⟨fun ⟨b,h,z⟩=>by rw [inj i b j hi h];exact z,fun z=>⟨i,hi,z⟩⟩
   show A.P G H v (fun a=>∃ b,inv b=some j/\F b a)
   rw [w]
   rcases f with f | f
   ·obtain ⟨u,c,g⟩:=I.sl i _ f
    rw [l] at c;cases c;exact g.1
   ·obtain ⟨u,c,g⟩:=I.sl i _ f
    rw [l] at c;cases c;exact g.1
 ln:=ln
 ft:=I.ft
theorem VI.leave (I:VI B G H σ env F) (inj:∀ i m j,inv i=some j->inv m=some j->i=m) (r:B1.G=G) (h:B1.H=H) (E:∀ a o,H a=some o->(∀ i j,inv i=some j->¬ F i a)->B1.R a=some o)
  (D:∀ i j,inv i=some j->∀ a,B1.F j a->F i a) (O:∀ i j,inv i=some j->B1.S[j]? = σ[i]?) (J:VI B1 G' H' σI envI F') (io:∀ i j,inv i=some j->∃ A',envI[j]?=some (some (.io A'))) {env2:En} (M:env2.length=env.length)
  (K:∀ i s,env2[i]?=some (some s)->(inv i=none/\env[i]?=some (some s))\/∃ j A A',inv i=some j/\envI[j]?=some (some (.io A'))/\((env[i]?=some (some (.own A))/\s=.own A')\/(env[i]?=some (some (.io A))/\s=.io A'))) :
  VI B G' H' σ env2 (fun i a=>match inv i with | some j=>F' j a | none=>F i a):=by
 have f:∀ a o,G' a=some o->G a=some o\/H a=none:=fun a o e=>by
  have:=J.gn a o e
  rw [r,h] at this;exact this
 have fi:∀ i j a,inv i=some j->F' j a->F i a\/H a=none:=fun i j a hi z=>by
  obtain ⟨A',e⟩:=io i j hi
  obtain ⟨v,_,q⟩:=J.sl j _ e
  rcases q.2.1 a z with y | y
  ·exact .inl (D i j hi a y)
  ·rw [h] at y;exact .inr y
 have kp:∀ a o,H a=some o->(∀ i j,inv i=some j->¬ F i a)->H' a=some o:=fun a o e n=>J.rs a o (E a o e n)
 refine ⟨J.gh,I.g0.trans (r ▸ J.g0),fun a o e=>?_,fun a o e=>?_,I.rb,fun a o e=>?_,fun i a z=>?_,fun i a z=>?_,fun i k a y z=>?_,fun i a z=>?_,fun i t e=>?_,by rw [M];exact I.ln,J.ft⟩
 ·rcases f a o e with e | e
  ·exact I.gn a o e
  ·exact .inr (I.no_b e)
 ·refine kp a o (I.rs a o e) fun i j _ z=>?_
  rw [I.fr i a z] at e;cases e
 ·obtain ⟨L,c⟩:=I.bh a o e
  exact J.bh a L (by rw [h];exact c)
 ·cases hi:inv i with
  | some j=>rw [hi] at z;exact J.fg j a z
  | none =>
   rw [hi] at z
   cases e:G' a with
   | none=>rfl
   | some o =>
    rcases f a o e with e | e
    ·rw [I.fg i a z] at e;cases e
    ·exact absurd z (I.no_f e i)
 ·cases hi:inv i with
  | some j =>
   rw [hi] at z
   rcases fi i j a hi z with y | y
   ·exact I.fr i a y
   ·exact I.no_r y
  | none=>rw [hi] at z;exact I.fr i a z
 ·cases hi:inv i with
  | some j =>
   rw [hi] at y
   cases hk:inv k with
   | some l =>
    rw [hk] at z
    have:=J.fd j l a y z
    subst this
    exact inj i k j hi hk
   | none =>
    rw [hk] at z
    rcases fi i j a hi y with x | x
    ·exact I.fd i k a x z
    ·exact absurd z (I.no_f x k)
  | none =>
   rw [hi] at y
   cases hk:inv k with
   | some l =>
    rw [hk] at z
    rcases fi k l a hk z with x | x
    ·exact I.fd i k a y x
    ·exact absurd y (I.no_f x i)
   | none=>rw [hk] at z;exact I.fd i k a y z
 ·cases hi:inv i with
  | some j=>rw [hi] at z;exact J.fo j a z
  | none =>
   rw [hi] at z
   obtain ⟨o,e⟩:=I.fo i a z
   exact J.bh a o (by rw [h];exact e)
 ·rcases K i t e with ⟨hi,c⟩ | ⟨j,A,A',hi,c,g⟩
  ·obtain ⟨v,u,q⟩:=I.sl i t c
   refine ⟨v,u,?_⟩
   simp only [hi]
   refine q.mono (r ▸ J.g0) fun a o z y=>kp a o y fun m P b C=>?_
   have:=I.fd i m a z C
   subst this
   rw [hi] at b;cases b
  ·obtain ⟨v,u,q⟩:=J.sl j _ c
   have w : σ[i]?=some (some v):=by rw [← O i j hi];exact q.2.2
   refine ⟨v,w,?_⟩
   simp only [hi]
   rcases g with ⟨g,rfl⟩ | ⟨g,rfl⟩
   ·obtain ⟨N,_,p⟩:=I.sl i _ g
    refine ⟨q.1,fun a z=>?_⟩
    rcases fi i j a hi z with y | y
    ·exact p.2 a y
    ·exact I.no_b y
   ·obtain ⟨N,d,p⟩:=I.sl i _ g
    rw [w] at d;cases d
    refine ⟨q.1,fun a z=>?_,p.2.2⟩
    rcases fi i j a hi z with y | y
    ·exact p.2.1 a y
    ·exact .inr (I.no_b y)
theorem RsX.leave (I:VI B G H σ env F) (b:B1.H=H) (r:RsX B1 G' H' v Fv s F'):RsX B G' H' v Fv s (fun i a=>match inv i with | some j=>F' j a | none=>F i a):=by
 have hn:∀ a,Fv a->H a=none:=fun a z=>b ▸ r.fb a z
 refine ⟨r.ok,fun a z=>I.no_b (hn a z),r.fg,r.fo,fun i a z y=>?_⟩
 cases hi:inv i with
 | some j=>rw [hi] at y;exact r.fd j a z y
 | none=>rw [hi] at y;exact I.no_f (hn a z) i y
end
abbrev VP:=List Sl->(Sl->Prop)->Prop
abbrev VIo:=Own->List Sl->(Own->Sl->Prop)->Prop
def noF:Nat->Addr->Prop:=fun _ _=>False
def bsP (K:Frag) (G H:Hp) (vs:List V):Bs:=⟨K,G,H,H,vs.map some,noF⟩
def au6 (K:Frag) (G:Hp):V->Sl->Prop
 | v,.st d=>Rp G v d
 | v,.scr ns=>∃ a,v=.ref a/\SqL K G a (ns.map V.int)
 | _,_=>False
inductive ArgsOk (K:Frag) (G:Hp):List V->List Sl->Prop
 | nil:ArgsOk K G [] []
 | cons {v:V} {s:Sl} {vs:List V} {ss:List Sl}:au6 K G v s->ArgsOk K G vs ss->ArgsOk K G (v :: vs) (s :: ss)
theorem ArgsOk.length {K:Frag} {G:Hp}:∀ {vs:List V} {ss:List Sl},ArgsOk K G vs ss->vs.length=ss.length
 | _,_,.nil=>rfl
 | _,_,.cons _ t=>by simp [ArgsOk.length t]
theorem ArgsOk.get {K:Frag} {G:Hp}:∀ {vs:List V} {ss:List Sl} {i:Nat} {s:Sl},ArgsOk K G vs ss->ss[i]?=some s->∃ v,vs[i]?=some v/\au6 K G v s
 | _,_,_,_,.nil,e=>by simp at e
 | _,_,0,_,.cons r _,e=>by simp at e;subst e;exact ⟨_,rfl,r⟩
 | _,_,i+1,s,.cons _ t,e=>by
  obtain ⟨u,a,b⟩:=ArgsOk.get (i:=i) (s:=s) t (by simpa using e)
  exact ⟨u,by simpa using a,b⟩
theorem ArgsOk.of {K:Frag} {G:Hp}:∀ {vs:List V} {ds:List PyData},Rps G vs ds->ArgsOk K G vs (ds.map Sl.st)
 | _,_,.nil => .nil
 | _,_,.cons r t => .cons r (ArgsOk.of t)
theorem an1 {α:Type} {xs:List α} {n i:Nat} {s : α} (e:(xs.map some ++ List.replicate n none)[i]?=some (some s)):xs[i]?=some s:=by
 by_cases h:i < xs.length
 ·rw [aC2 (by simpa using h),aA5] at e
  rw [aA0 h] at e ⊢
  simpa using e
 ·rw [aC7 (by simpa using h),aH0] at e
  split at e <;> cases e
theorem an2 {α:Type} {xs:List α} {n i:Nat} {s : α} (e:xs[i]?=some s):(xs.map some ++ List.replicate n none)[i]?=some (some s):=by
 have h:i < xs.length:=(aA1.mp e).1
 rw [aC2 (by simpa using h),aA5,e];rfl
def spP (K:Frag) (f:VP):Sp:=fun vs H Q _=>∃ G ss Q',Same G H/\FT G H/\ArgsOk K G vs ss/\f ss Q'/\∀ s,Q' s->∀ v G' H' Fv,Out G H v G' H' s Fv->Q v H'
structure OutI (G H R:Hp) (F0:Addr->Prop) (v0:V) (A':Own) (s:Sl) (v:V) (G' H':Hp) (F' Fv:Addr->Prop):Prop where
 gg:Same G G'
 gh:Same G' H'
 ft:FT G' H'
 gn:∀ a o,G' a=some o->G a=some o\/H a=none
 rs:Same R H'
 bh:∀ a o,H a=some o->∃ o',H' a=some o'
 ap:A'.P G' H' v0 F'
 fi:∀ a,F' a->F0 a\/H a=none
 fg:∀ a,F' a->G' a=none
 ok:RsOk G' H' v Fv s
 fv:∀ a,Fv a->H a=none/\G' a=none/\(∃ o,H' a=some o)/\¬ F' a
def spI (K:Frag) (f:VIo):Sp:=fun vs H Q _=>∃ v0 vr G R A ss F0 Q',vs=v0 :: vr/\Same G H/\FT G H/\Same R H/\A.P G H v0 F0/\(∀ a,F0 a->G a=none)/\(∀ a,F0 a->R a=none)/\ArgsOk K G vr ss /\
 f A ss Q'/\∀ A' s,Q' A' s->∀ v G' H' F' Fv,OutI G H R F0 v0 A' s v G' H' F' Fv->Q v H'
theorem abg {K:Frag} {f:VP} {c:TS} {N:List Str} {vs:List V} {H:Hp} {Q:VK} {E:XK} (h:spP K f vs H Q E)
  (hb:∀ ss Q',f ss Q'->∀ B,B.K=K->EvS B c { nx:=fun _=>Q' (.st .none),rt:=fun s _=>Q' s } (ss.map some ++ List.replicate (N.length - ss.length) none)):c { nx:=fun _ H'=>Q .non H',rt:=Q } (L2.start N vs) H:=by
 obtain ⟨G,ss,Q',gh,ft,l,hf,b⟩:=h
 have fin:∀ {σ G' H' F env v Fv s},VI (bsP K G H vs) G' H' σ env F->RsX (bsP K G H vs) G' H' v Fv s F->Out G H v G' H' s Fv:=fun I r =>
  ⟨I.g0,I.gh,I.rs,I.gn,r.fb,r.fg,r.fo,r.ok,fun _=>I.ft⟩
 refine hb ss _ hf (bsP K G H vs) rfl (L2.start N vs) G H noF _ ?_ ⟨fun σ G' H' F env I g q=>b _ q _ _ _ _ (fin I (aes .non)),fun σ G' H' F env v Fv s I g r q=>b _ q v G' H' Fv (fin I r),fun _ _ _ _ _ _ _ q=>q,fun _ _ _ _ _ _ _ q=>q⟩
 refine ⟨gh,Same.refl _,fun a o e => .inl e,Same.refl _,Same.refl _,fun a o e=>⟨o,e⟩,fun i a z=>z.elim,fun i a z=>z.elim,fun i j a z=>z.elim,fun i a z=>z.elim,fun i s e=>?_,?_,ft⟩
 ·obtain ⟨v,m,q⟩:=l.get (an1 e)
  refine ⟨v,by unfold L2.start;exact an2 m,?_⟩
  cases s with
  | st d=>exact ⟨q,fun a z=>z⟩
  | scr ns=>exact ⟨q,fun a z=>z⟩
  | own A=>exact q.elim
  | io A=>exact q.elim
 ·unfold L2.start;simp [l.length]
theorem adr {K:Frag} {f:VIo} {p:TS} {N:List Str} {vs:List V} {H:Hp} {Q:VK} {E:XK} (h:spI K f vs H Q E)
  (hb:∀ A ss Q',f A ss Q'->∀ B,B.K=K->EvS B p { nx:=fun e=>∃ A',e[0]?=some (some (.io A'))/\Q' A' (.st .none),rt:=fun s e=>∃ A',e[0]?=some (some (.io A'))/\Q' A' s } (some (.io A) :: (ss.map some ++ List.replicate (N.length - (ss.length+1)) none))):p { nx:=fun _ H'=>Q .non H',rt:=Q } (L2.start N vs) H:=by
 obtain ⟨v0,b,G,R,A,ss,F0,Q',rfl,gh,ft,n,ap,fg,fr,l,hf,w⟩:=h
 have M:(v0 :: b).length=ss.length+1:=by simp [l.length]
 refine hb A ss _ hf ⟨K,G,H,R,(v0 :: b).map some,fun i a=>i=0/\F0 a⟩ rfl (L2.start N (v0 :: b)) G H (fun i a=>i=0/\F0 a) _ ?_ ?_
 ·refine ⟨gh,Same.refl _,fun a o e => .inl e,n,n,fun a o e=>⟨o,e⟩,fun i a z=>fg a z.2,fun i a z=>fr a z.2,fun i j a z y=>by rw [z.1,y.1],fun i a z=>A.dom ap a z.2,fun i s e=>?_,?_,ft⟩
  ·cases i with
   | zero =>
    simp at e
    subst e
    refine ⟨v0,rfl,?_,fun a z => .inl z,rfl⟩
    have:(fun a=>0=0/\F0 a)=F0:=by funext a;simp
    rw [this];exact ap
   | succ i =>
    have J:(ss.map some ++ List.replicate (N.length - (ss.length+1)) none)[i]?=some (some s):=by simpa using e
    obtain ⟨v,C,q⟩:=l.get (an1 J)
    refine ⟨v,?_,?_⟩
    ·unfold L2.start;exact an2 (by simpa using C)
    ·cases s with
     | st d=>exact ⟨q,fun a z=>by cases z.1⟩
     | scr ns=>exact ⟨q,fun a z=>by cases z.1⟩
     | own A=>exact q.elim
     | io A=>exact q.elim
  ·unfold L2.start;simp [l.length]
 ·have fin:∀ σ G' H' F env v Fv s,VI ⟨K,G,H,R,(v0 :: b).map some,fun i a=>i=0/\F0 a⟩ G' H' σ env F->RsX ⟨K,G,H,R,(v0 :: b).map some,fun i a=>i=0/\F0 a⟩ G' H' v Fv s F->(∃ A',env[0]?=some (some (.io A'))/\Q' A' s)->Q v H':=by
   intro σ G' H' F env v Fv s I r ⟨A',e,q⟩
   obtain ⟨m,x,D,L,u⟩:=I.sl 0 _ e
   have:m=v0:=by
    have c:((v0 :: b).map some)[0]?=some (some m):=u
    simpa using c.symm
   subst this
   exact w A' s q v G' H' (F 0) Fv ⟨I.g0,I.gh,I.ft,I.gn,I.rs,I.bh,D,fun a z=>by
    rcases L a z with y | y
    ·exact .inl y.2
    ·exact .inr y,I.fg 0,r.ok,fun a z=>⟨r.fb a z,r.fg a z,r.fo a z,r.fd 0 a z⟩⟩
  refine ⟨fun σ G' H' F env I g q=>fin σ G' H' F env .non _ (.st .none) I (aes .non) q,fun σ G' H' F env v Fv s I g r q=>fin σ G' H' F env v Fv s I r q,fun _ _ _ _ _ _ _ q=>q,fun _ _ _ _ _ _ _ q=>q⟩
section
variable {B:Bs} {env:En} {Q':PyData->En->Prop} {QO:Sl->En->Prop} {K:Frag} {E:XK}
theorem ajo {f:VP} {t:TA} (h:EvA B t env fun ds b=>f (ds.map Sl.st) fun s=>QO s b):EvO B (abx (spP K f) [] E t) env QO:=fun σ G H F Q I k=>by
 unfold abx
 simp only [aE5]
 exact h σ G H F _ I fun vs i l j ds b a d g c=>⟨i,_,_,a.gh,a.ft,ArgsOk.of g,c,fun s q v G' H' Fv o=>k v G' H' j Fv s b (a.out o).1 (d.trans o.gg) (a.out o).2 q⟩
theorem ato {f:VP} {t:TA} (h:EvA B t env fun ds a=>f (ds.map Sl.st) fun s=>FQ s fun d=>Q' d a):Ev B (abx (spP K f) [] E t) env Q':=abk (ajo h)
theorem ara {f:VP} {t:TA} {i:Nat} {ns:List Int} (e:env[i]?=some (some (.scr ns))) (m:B.K=K) (h:EvA B t env fun ds c=>f (.scr ns :: ds.map Sl.st) fun s=>QO s c):EvO B (abx (spP K f) [] E (aa1 (tVar i) t)) env QO:=fun σ G H F Q I k=>by
 subst m
 unfold abx
 simp only [aE5]
 obtain ⟨v0,j,⟨a,u,g⟩,_⟩:=I.sl i _ e
 refine ⟨v0,j,h σ G H F _ I fun vs p w r ds c b d n l=>⟨p,_,_,b.gh,b.ft,.cons (s:=.scr ns) ⟨a,u,d.seq g⟩ (ArgsOk.of n),l,fun s q v G' H' Fv o=>k v G' H' r Fv s c (b.out o).1 (d.trans o.gg) (b.out o).2 q⟩⟩
def reS:Sl->Own->Sl
 | .io _,A => .io A
 | _,A => .own A
theorem afx {f:VIo} {t:TA} {i:Nat} (S:∃ s,env[i]?=some (some s)) (h:EvA B t env fun ds C=>∃ w A,C[i]?=some (some w)/\(w=.own A\/w=.io A)/\f A (ds.map Sl.st) fun A' s=>QO s (C.set i (some (reS w A')))):EvO B (abx (spI K f) [] E (aa1 (tVar i) t)) env QO:=fun σ G H F Q I k=>by
 unfold abx
 simp only [aE5]
 obtain ⟨s,e⟩:=S
 obtain ⟨v0,O,_⟩:=I.sl i _ e
 refine ⟨v0,O,h σ G H F _ I fun vs M p m ds C r U W ⟨w,A,N,R,T⟩=>?_⟩
 obtain ⟨Z,D,q⟩:=r.sl i _ N
 rw [O] at D;cases D
 have ap:A.P M p v0 (m i):=by
  rcases R with rfl | rfl
  ·exact q.1
  ·exact q.1
 let inv:Nat->Option Nat:=fun j=>if j=i then some 0 else none
 have d:inv i=some 0:=aE8 rfl
 have g:∀ j,j ≠ i->inv j=none:=fun j h=>aE9 h
 have c:∀ j l,inv j=some l->j=i/\l=0:=fun j l h=>by
  by_cases hj:j=i
  ·subst hj;rw [d] at h;cases h;exact ⟨rfl,rfl⟩
  ·rw [g j hj] at h;cases h
 refine ⟨v0,vs,M,ach p m inv,A,_,m i,_,rfl,r.gh,r.ft,ac6,ap,r.fg i,fun a z=>ae3 d z,ArgsOk.of W,T,fun A' s q v G' H' F' Fv o=>?_⟩
 have hi:i < C.length:=(aA1.mp N).1
 have J:VI ⟨K,M,p,ach p m inv,[some v0],fun j a=>j=0/\m i a⟩ G' H' [some v0] [some (.io A')] (fun j a=>j=0/\F' a):=by
  refine ⟨o.gh,o.gg,o.gn,o.rs,ac6,o.bh,fun j a z=>o.fg a z.2,fun j a z=>?_,fun j l a y z=>by rw [y.1,z.1],fun j a z=>A'.dom o.ap a z.2,fun j s e=>?_,rfl,o.ft⟩
  ·rcases o.fi a z.2 with y | y
   ·exact ae3 d y
   ·cases e:ach p m inv a with
    | none=>exact e
    | some u=>rw [ac6 a u e] at y;cases y
  ·cases j with
   | zero =>
    simp at e
    subst e
    refine ⟨v0,rfl,?_,fun a z=>?_,rfl⟩
    ·have:(fun a=>0=0/\F' a)=F':=by funext a;simp
     rw [this];exact o.ap
    ·rcases o.fi a z.2 with y | y
     ·exact .inl ⟨rfl,y⟩
     ·exact .inr y
   | succ j=>simp at e
 have L:=r.leave (inv:=inv) (env2:=C.set i (some (reS w A'))) (fun a b j ha hb=>by rw [(c a j ha).1,(c b j hb).1]) rfl rfl (fun a u e n=>by show ach p m inv a=_;rw [ag3 n];exact e)
  (fun a j ha x z=>by rw [(c a j ha).1];exact z.2) (fun a j ha=>by rw [(c a j ha).1,(c a j ha).2,O];rfl) J (fun a j ha=>⟨A',by rw [(c a j ha).2];rfl⟩) (by simp) fun j Y e=>by
   by_cases hj:j=i
   ·subst hj
    rw [aD1,aE8 rfl,aE8 hi] at e
    cases e
    refine .inr ⟨0,A,A',d,rfl,?_⟩
    rcases R with rfl | rfl
    ·exact .inl ⟨N,rfl⟩
    ·exact .inr ⟨N,rfl⟩
   ·rw [aD1,aE9 (fun z=>hj z.symm)] at e
    exact .inl ⟨g j hj,e⟩
 have X:RsX ⟨K,M,p,ach p m inv,[some v0],fun j a=>j=0/\m i a⟩ G' H' v Fv s (fun j a=>j=0/\F' a):=⟨o.ok,fun a z=>(o.fv a z).1,fun a z=>(o.fv a z).2.1,fun a z=>(o.fv a z).2.2.1,fun j a z y=>(o.fv a z).2.2.2 y.2⟩
 exact k v G' H' _ Fv s _ L (U.trans o.gg) (X.leave (inv:=inv) r rfl) q
end
def ahu:Option Sl->Option Sl
 | some (.own A)=>some (.io A)
 | s=>s
def aau (src:List (Option Nat)) (env:En):En:=src.map fun o=>match o with | some j=>ahu ((env[j]?).getD none) | none=>none
def isIo:Option Sl->Bool
 | some (.io _)=>true
 | _=>false
def idxE (i:Nat):List (Option Nat)->Nat->Option Nat
 | [],_=>none
 | o :: r,k=>if o=some i then some k else idxE i r (k+1)
def agf (src:List (Option Nat)) (e:En) (i:Nat) (s:Option Sl):Option Sl :=
 match s with
 | some (.own A)=>(match idxE i src 0 with | some j=>(match e[j]? with | some (some (.io A'))=>some (.own A') | _=>none) | none=>some (.own A))
 | some (.io A)=>(match idxE i src 0 with | some j=>(match e[j]? with | some (some (.io A'))=>some (.io A') | _=>none) | none=>some (.io A))
 | s=>s
def aet (src:List (Option Nat)) (e:En):Nat->En->En
 | _,[]=>[]
 | k,s :: r=>agf src e k s :: aet src e (k+1) r
def ahv (src:List (Option Nat)) (e1 e:En):En:=aet src e 0 e1
theorem ae4 (src:List (Option Nat)) (e:En):∀ (k:Nat) (l:En) (i:Nat),(aet src e k l)[i]?=(l[i]?).map (agf src e (k+i))
 | _,[],i=>by simp [aet]
 | k,s :: r,0=>by simp [aet]
 | k,s :: r,i+1=>by
  have:=ae4 src e (k+1) r i
  simp only [aet,aH4,this]
  rw [show k+1+i=k+(i+1) by omega]
theorem aee {i:Nat}:∀ {src:List (Option Nat)} {k j:Nat},idxE i src k=some j->k<=j/\src[j - k]?=some (some i)
 | [],_,_,h=>by cases h
 | o :: r,k,j,h=>by
  unfold idxE at h
  by_cases e:o=some i
  ·rw [aE8 e] at h;cases h
   exact ⟨aA6 _,by simp [e]⟩
  ·rw [aE9 e] at h
   obtain ⟨b,a⟩:=aee h
   refine ⟨by omega,?_⟩
   rw [show j - k=(j - (k+1))+1 by omega]
   simpa using a
theorem ajp {i:Nat}:∀ {src:List (Option Nat)} {k:Nat},idxE i src k=none->∀ j:Nat,src[j]? ≠ some (some i)
 | [],_,_,j=>by simp
 | o :: r,k,h,j=>by
  unfold idxE at h
  by_cases e:o=some i
  ·rw [aE8 e] at h;cases h
  ·rw [aE9 e] at h
   cases j with
   | zero=>simpa using e
   | succ j=>simpa using ajp h j
theorem alx:∀ (src:List (Option Nat)),(src.filterMap id).Nodup->∀ j a i:Nat,src[j]?=some (some i)->src[a]?=some (some i)->j=a
 | [],_,j,_,_,h,_=>by simp at h
 | none :: r,h,j,a,i,h1,h2=>by
  cases j with
  | zero=>simp at h1
  | succ j =>
   cases a with
   | zero=>simp at h2
   | succ a=>rw [alx r (by simpa using h) j a i (by simpa using h1) (by simpa using h2)]
 | some x :: r,h,j,a,i,h1,h2=>by
  have h':=aH7.mp (show (x :: r.filterMap id).Nodup by simpa using h)
  have c:∀ k,r[k]?=some (some x)->False:=fun k d=>h'.1 (List.mem_filterMap.mpr ⟨some x,aA2 d,rfl⟩)
  cases j with
  | zero =>
   have b:x=i:=by simpa using h1
   subst b
   cases a with
   | zero=>rfl
   | succ a=>exact (c a (by simpa using h2)).elim
  | succ j =>
   cases a with
   | zero =>
    have b:x=i:=by simpa using h2
    subst b
    exact (c j (by simpa using h1)).elim
   | succ a=>rw [alx r h'.2 j a i (by simpa using h1) (by simpa using h2)]
def agg:Option Sl->Bool
 | some (.own _)=>true
 | _=>false
def ioLe:En->En->Prop
 | a :: r,b :: s=>(isIo a=isIo b/\agg b=false)/\ioLe r s
 | [],[]=>True
 | _,_=>False
theorem aly {x:Option Sl} (h:isIo x=true):∃ A,x=some (.io A):=by
 cases x with
 | none=>simp [isIo] at h
 | some y =>
  cases y with
  | io A=>exact ⟨A,rfl⟩
  | _=>simp [isIo] at h
theorem ioLe.get:∀ {a b:En} {j:Nat} {x:Option Sl},ioLe a b->a[j]?=some x->isIo x=true->∃ A,b[j]?=some (some (.io A))
 | [],_,_,_,_,e,_=>by simp at e
 | x :: r,[],_,_,h,_,_=>h.elim
 | x :: r,y :: s,0,z,h,e,p=>by
  simp at e;subst e
  have:=h.1.1
  rw [p] at this
  obtain ⟨A,q⟩:=aly this.symm
  exact ⟨A,by simp [q]⟩
 | x :: r,y :: s,j+1,z,h,e,p=>by
  obtain ⟨A,q⟩:=ioLe.get (j:=j) h.2 (by simpa using e) p
  exact ⟨A,by simpa using q⟩
theorem ioLe.got:∀ {a b:En} {j:Nat} {x:Option Sl},ioLe a b->b[j]?=some x->(isIo x=true->∃ A,a[j]?=some (some (.io A)))/\agg x=false
 | [],[],_,_,_,e=>by simp at e
 | [],_ :: _,_,_,h,e=>h.elim
 | x :: r,[],_,_,h,_=>h.elim
 | x :: r,y :: s,0,z,h,e=>by
  simp at e;subst e
  refine ⟨fun p=>?_,h.1.2⟩
  have:=h.1.1
  rw [p] at this
  obtain ⟨A,q⟩:=aly this
  exact ⟨A,by simp [q]⟩
 | x :: r,y :: s,j+1,z,h,e=>by
  obtain ⟨p,q⟩:=ioLe.got (j:=j) (x:=z) h.2 (by simpa using e)
  exact ⟨fun t=>by obtain ⟨A,u⟩:=p t;exact ⟨A,by simpa using u⟩,q⟩
section
variable {B:Bs} {G H:Hp} {σ:St} {env:En} {F:Nat->Addr->Prop}
theorem VI.aside (I:VI B G H σ env F) {p:Addr} {o:HO} (f:∀ xs,o ≠ .tup xs) (c:G p=none) (hf:∀ j,¬ F j p) (hb:B.H p=none):VI B G (upd H p o) σ env F where
 gh:=fun a u e=>by rw [aad (aal e c)];exact I.gh a u e
 g0:=I.g0
 gn:=I.gn
 rs:=fun a u e=>by rw [aad (aal e (I.b_r hb))];exact I.rs a u e
 rb:=I.rb
 bh:=fun a u e=>by rw [aad (aal e hb)];exact I.bh a u e
 fg:=I.fg
 fr:=I.fr
 fd:=I.fd
 fo:=fun j a z=>by rw [aad (fun e:a=p=>hf j (e ▸ z))];exact I.fo j a z
 sl:=fun i s e=>by
  obtain ⟨v,b,q⟩:=I.sl i s e
  exact ⟨v,b,q.mono (Same.refl _) fun a u z y=>by rw [aad (fun e:a=p=>hf i (e ▸ z))];exact y⟩
 ln:=I.ln
 ft:=fun a d e=>by
  by_cases z:a=p
  ·subst z;rw [aaf] at e;exact absurd (aC5 e) (f _)
  ·rw [aad z] at e;exact I.ft a d e
def LcV (K:Frag) (src:List (Option Nat)) (g:TG) (tif:TT) (te:TE) (ds:List PyData) (e1:En) (R:List PyData->En->Prop):Prop:=∃ J:Nat->List PyData->En->Prop,J 0 [] (aau src e1)/\(∀ i ys e,J i ys e->ioLe (aau src e1) e) /\
 (∀ i d ys e,ds[i]?=some d->J i ys e->∀ B':Bs,B'.K=K->EvG B' g (.st d) e fun e2=>EvT B' tif e2 fun b e3=>if b=true then Ev B' te e3 fun y e4=>ys.length<=999999/\J (i+1) (ys ++ [y]) e4 else J (i+1) ys e3)/\∀ ys e,J ds.length ys e->R ys (ahv src e1 e)
theorem ajq {src:List (Option Nat)} {j:Nat} {s:Sl} (h:(aau src env)[j]?=some (some s)):∃ i t,src[j]?=some (some i)/\env[i]?=some (some t)/\ahu (some t)=some s:=by
 unfold aau at h
 rw [aA5] at h
 cases e:src[j]? with
 | none=>rw [e] at h;cases h
 | some o =>
  rw [e] at h
  cases o with
  | none=>cases h
  | some i =>
   simp only [aH5,Option.some.injEq] at h
   cases e2:env[i]? with
   | none=>rw [e2] at h;cases h
   | some o2 =>
    rw [e2] at h
    cases o2 with
    | none=>cases h
    | some t=>exact ⟨i,t,rfl,e2,h⟩
theorem atp {src:List (Option Nat)} {i j:Nat} {v:V} (h:src[j]?=some (some i)) (a : σ[i]?=some (some v)):(pick src σ)[j]?=some (some v):=by
 unfold pick
 rw [aA5,h]
 simp [a]
theorem arb {src:List (Option Nat)} {wi:TI} {g:TG} {b5:TT} {te:TE} {QO:Sl->En->Prop} (nd:(src.filterMap id).Nodup) (h:EvI B wi env fun ds U=>LcV B.K src g b5 te ds U fun ys X=>QO (.own (OL ys)) X):EvO B (tLC src wi g b5 te) env QO:=fun σ G H F Q I k=>by
 refine h σ G H F _ I fun J G1 H1 F1 ds U I1 g1 it ⟨Jv,j0,a9,js,jd⟩ p T=>?_
 let M:Nat->Bool:=fun i=>match U[i]? with | some (some (.own _))=>true | some (some (.io _))=>true | _=>false
 let inv:Nat->Option Nat:=fun i=>if M i=true then idxE i src 0 else none
 have E:∀ i j,inv i=some j->src[j]?=some (some i)/\M i=true:=fun i j hi=>by
  by_cases hm:M i=true
  ·have f:idxE i src 0=some j:=by simpa [inv,hm] using hi
   have:=(aee f).2
   exact ⟨by simpa using this,hm⟩
  ·simp [inv,hm] at hi
 have a0:∀ i j,src[j]?=some (some i)->M i=true->inv i=some j:=fun i j Y hm=>by
  have e0:inv i=idxE i src 0:=by simp [inv,hm]
  cases e:idxE i src 0 with
  | none=>exact absurd Y (ajp e j)
  | some j' =>
   have:=(aee e).2
   rw [e0,e,alx src nd j j' i Y (by simpa using this)]
 have inj:∀ i c j,inv i=some j->inv c=some j->i=c:=fun i c j Z C=>by
  have a:=(E i j Z).1
  rw [(E c j C).1] at a
  simpa using a.symm
 have b2:∀ i,M i=true->∃ A,U[i]?=some (some (.own A))\/U[i]?=some (some (.io A)):=fun i hm=>by
  cases e:U[i]? with
  | none=>simp [M,e] at hm
  | some o =>
   cases o with
   | none=>simp [M,e] at hm
   | some s =>
    cases s with
    | own A=>exact ⟨A,.inl rfl⟩
    | io A=>exact ⟨A,.inr rfl⟩
    | st d=>simp [M,e] at hm
    | scr ns=>simp [M,e] at hm
 have b3:∀ i ys e,Jv i ys e->∀ c j,inv c=some j->∃ A,e[j]?=some (some (.io A)):=fun i ys e hj c j hi=>by
  obtain ⟨Y,hm⟩:=E c j hi
  obtain ⟨A,N⟩:=b2 c hm
  refine (a9 i ys e hj).get (x:=some (.io A)) ?_ rfl
  unfold aau
  rw [aA5,Y]
  rcases N with N | N <;> simp [N,ahu]
 -- between two turns
 let Wv:Nat->List V->St->Hp->Prop:=fun i ys σI H=>∃ G2 F2 e env2 yd,VI B G2 H σ env2 F2/\Same G1 G2/\H p=some (.lst ys)/\Rps G2 ys yd/\G2 p=none/\(∀ j,¬ F2 j p)/\Jv i yd e/\σI.length=e.length/\env2.length=U.length /\
  (∀ j s,e[j]?=some (some s)->∃ v,σI[j]?=some (some v)/\((∃ d,s=.st d/\Rp G2 v d/\∀ i,inv i ≠ some j)\/(∃ ns a,s=.scr ns/\v=.ref a/\SqL B.K G2 a (ns.map V.int)/\∀ i,inv i ≠ some j) ∨
   ∃ i A,inv i=some j/\s=.io A/\σ[i]?=some (some v)/\(env2[i]?=some (some (.own A))\/env2[i]?=some (some (.io A))))) /\
  (∀ i,inv i=none->env2[i]?=U[i]?)/\(∀ i j,inv i=some j->∃ A0 A,e[j]?=some (some (.io A))/\((U[i]?=some (some (.own A0))/\env2[i]?=some (some (.own A)))\/(U[i]?=some (some (.io A0))/\env2[i]?=some (some (.io A)))))
 have hb:B.H p=none:=I1.no_b T
 refine ⟨fun i m ys σI H=>m=ds.length - i/\i<=ds.length/\Wv i ys σI H,⟨ds.length,by simp,aF3 _,?_⟩,?_⟩
 ·refine ⟨G1,F1,aau src U,U,[],I1.aside (fun _ z=>nomatch z) (I1.no_g T) (I1.no_f T) hb,Same.refl _,aaf,.nil,I1.no_g T,I1.no_f T,j0,by simp [pick,aau],rfl,fun j s e=>?_,fun _ _=>rfl,fun i j hi=>?_⟩
  ·obtain ⟨i,t,Y,ht,hp⟩:=ajq e
   obtain ⟨v,hv,q⟩:=I1.sl i t ht
   refine ⟨v,atp Y hv,?_⟩
   cases t with
   | st d =>
    cases hp
    refine .inl ⟨d,rfl,q.1,fun c f=>?_⟩
    have a:=(E c j f).1
    rw [Y] at a
    have:i=c:=by simpa using a
    subst this
    have:=(E i j f).2
    simp [M,ht] at this
   | scr ns =>
    cases hp
    obtain ⟨⟨a,ea,sq⟩,_⟩:=q
    refine .inr (.inl ⟨ns,a,rfl,ea,sq,fun c f=>?_⟩)
    have a:=(E c j f).1
    rw [Y] at a
    have:i=c:=by simpa using a
    subst this
    have:=(E i j f).2
    simp [M,ht] at this
   | own A=>cases hp;exact .inr (.inr ⟨i,A,a0 i j Y (by simp [M,ht]),rfl,hv,.inl ht⟩)
   | io A=>cases hp;exact .inr (.inr ⟨i,A,a0 i j Y (by simp [M,ht]),rfl,hv,.inr ht⟩)
  ·obtain ⟨Y,hm⟩:=E i j hi
   obtain ⟨A,N⟩:=b2 i hm
   refine ⟨A,A,?_,?_⟩
   ·unfold aau
    rw [aA5,Y]
    rcases N with N | N <;> simp [N,ahu]
   ·rcases N with N | N
    ·exact .inl ⟨N,N⟩
    ·exact .inr ⟨N,N⟩
 ·rintro i m ys σI H2 ⟨rfl,hi,G2,F2,e,env2,yd,I2,g2,a4,ry,ga,fa,jv,ln,c0,sl,un,mv⟩
  refine ⟨a4,?_⟩
  by_cases hlt:i < ds.length
  ·refine .inr ⟨it.go i G2 H2 g2 I2.gh hlt,Wv (i+1),fun a3 c3 H' hw=>⟨ds.length - (i+1),by omega,rfl,hlt,hw⟩,fun x H3 y=>?_⟩
   obtain ⟨G3,o⟩:=it.yld i G2 H2 x H3 _ g2 I2.gh I2.ft (aA0 hlt) y
   obtain ⟨I3,X3⟩:=I2.out o
   have a7:=o.hh _ _ a4
   have a8:=fa
   have c2:G3 p=none:=by
    cases e':G3 p with
    | none=>rfl
    | some u =>
     rcases o.gn p u e' with q | q
     ·rw [ga] at q;cases q
     ·rw [a4] at q;cases q
   have b8:∀ j s,e[j]?=some (some s)->∃ v,σI[j]?=some (some v)/\((∃ d,s=.st d/\Rp G3 v d/\∀ i,inv i ≠ some j)\/(∃ ns a,s=.scr ns/\v=.ref a/\SqL B.K G3 a (ns.map V.int)/\∀ i,inv i ≠ some j) ∨
     ∃ i A,inv i=some j/\s=.io A/\σ[i]?=some (some v)/\(env2[i]?=some (some (.own A))\/env2[i]?=some (some (.io A)))):=fun j s es=>by
    obtain ⟨v,hv,q⟩:=sl j s es
    refine ⟨v,hv,?_⟩
    rcases q with ⟨d,b0,r,n⟩ | ⟨ns,a,b0,b7,r,n⟩ | q
    ·exact .inl ⟨d,b0,r.same o.gg,n⟩
    ·exact .inr (.inl ⟨ns,a,b0,b7,o.gg.seq r,n⟩)
    ·exact .inr (.inr q)
   have E3:=I3.enter (inv:=inv) (σI:=σI) (envI:=e) inj ln b8
   -- back from the turn
   have fin:∀ (S:St) (G4 H4:Hp) (F4:Nat->Addr->Prop) (e4:En) (a5:List PyData) (a3:List V) (o4:HO),VI ⟨B.K,G3,H3,ach H3 F2 inv,σI,fun j a=>∃ i,inv i=some j/\F2 i a⟩ G4 H4 S e4 F4->Jv (i+1) a5 e4->Rps G4 a3 a5 ->
     Wv (i+1) a3 S (upd H4 p (.lst a3))/\H4 p=some (.lst ys):=by
    intro S G4 H4 F4 e4 a5 a3 o4 I4 j4 r4
    have a1:=b3 (i+1) a5 e4 j4
    have c1:H4 p=some (.lst ys):=I4.rs p _ (by show ach H3 F2 inv p=_;rw [ag3 (fun c _ _=>a8 c)];exact a7)
    have b1:G4 p=none:=by
     cases e':G4 p with
     | none=>rfl
     | some u =>
      rcases I4.gn p u e' with q | q
      ·change G3 p=_ at q;rw [c2] at q;cases q
      ·change H3 p=_ at q;rw [a7] at q;cases q
    -- the slots of the outer frame
    let D:En:=(List.range env2.length).map fun c=>match inv c with
     | some j=>(match env2[c]?,e4[j]? with | some (some (.own _)),some (some (.io A))=>some (.own A) | some (some (.io _)),some (some (.io A))=>some (.io A) | _,_=>none)
     | none=>(env2[c]?).getD none
    have P:∀ c,c < env2.length->D[c]?=some (match inv c with
     | some j=>(match env2[c]?,e4[j]? with | some (some (.own _)),some (some (.io A))=>some (.own A) | some (some (.io _)),some (some (.io A))=>some (.io A) | _,_=>none)
     | none=>(env2[c]?).getD none):=fun c hl=>by
     simp only [D,aA5]
     rw [aA0 (by simpa using hl)]
     simp
    have L:=I3.leave (inv:=inv) (env2:=D) inj rfl rfl (fun a u q n=>by show ach H3 F2 inv a=_;rw [ag3 n];exact q) (fun c j f a z=>by obtain ⟨W,Z,C⟩:=z;rw [inj c W j f Z];exact C)
     (fun c j f=>by
      obtain ⟨A0,A,Z,C⟩:=mv c j f
      obtain ⟨v,hv,q⟩:=sl j _ Z
      rcases q with ⟨d,q,_⟩ | ⟨ns,a,q,_⟩ | ⟨W,b6,q1,q2,q3,_⟩
      ·cases q
      ·cases q
      ·rw [inj c W j f q1]
       show σI[j]?=_
       rw [hv,q3]) I4 a1 (by simp [D]) (fun c s es=>by
      have hl:c < env2.length:=by
       have:=(aA1.mp es).1
       simpa [D] using this
      rw [P c hl] at es
      cases f:inv c with
      | none =>
       refine .inl ⟨rfl,?_⟩
       rw [f] at es
       simp only [Option.some.injEq] at es
       cases q:env2[c]? with
       | none=>rw [q] at es;cases es
       | some u=>rw [q] at es;simp at es;rw [es]
      | some j =>
       rw [f] at es
       obtain ⟨A',R⟩:=a1 c j f
       obtain ⟨A0,A,Z,C⟩:=mv c j f
       simp only [R] at es
       rcases C with ⟨_,C⟩ | ⟨_,C⟩
       ·rw [C] at es
        simp only [Option.some.injEq] at es
        exact .inr ⟨j,A,A',rfl,R,.inl ⟨C,es.symm⟩⟩
       ·rw [C] at es
        simp only [Option.some.injEq] at es
        exact .inr ⟨j,A,A',rfl,R,.inr ⟨C,es.symm⟩⟩)
    have b4:∀ j,¬ (match inv j with | some j=>F4 j p | none=>F2 j p):=fun j z=>by
     cases hj:inv j with
     | none=>rw [hj] at z;exact a8 j z
     | some l =>
      rw [hj] at z
      obtain ⟨A',R⟩:=a1 j l hj
      obtain ⟨v,_,q⟩:=I4.sl l _ R
      rcases q.2.1 p z with ⟨W,_,q⟩ | q
      ·exact a8 W q
      ·change H3 p=_ at q;rw [a7] at q;cases q
    refine ⟨⟨G4,_,e4,D,a5,L.aside (fun _ z=>nomatch z) b1 b4 hb,g2.trans (o.gg.trans I4.g0),aaf,r4,b1,b4,j4,I4.ln,by simp [D,c0],fun j s es=>?_,fun c f=>?_,fun c j f=>?_⟩,c1⟩
    ·obtain ⟨v,hv,q⟩:=I4.sl j s es
     refine ⟨v,hv,?_⟩
     have a2:(∀ A,s ≠ .io A)->∀ c,inv c ≠ some j:=fun hn c f=>by
      obtain ⟨A,N⟩:=a1 c j f
      rw [es] at N
      exact hn A (by simpa using N)
     cases s with
     | st d=>exact .inl ⟨d,rfl,q.1,a2 (by intro A z;cases z)⟩
     | scr ns =>
      obtain ⟨⟨a,ea,sq⟩,_⟩:=q
      exact .inr (.inl ⟨ns,a,rfl,ea,sq,a2 (by intro A z;cases z)⟩)
     | own A =>
      have:=((a9 _ _ _ j4).got es).2
      simp [agg] at this
     | io A =>
      obtain ⟨A0,h0⟩:=((a9 _ _ _ j4).got es).1 rfl
      obtain ⟨c,t,Y,ht,hp⟩:=ajq h0
      have hm:M c=true:=by
       cases t with
       | own A=>simp [M,ht]
       | io A=>simp [M,ht]
       | st d=>cases hp
       | scr ns=>cases hp
      have f:=a0 c j Y hm
      obtain ⟨B0,A1,Z,C⟩:=mv c j f
      have hl:c < env2.length:=by
       rcases C with ⟨_,C⟩ | ⟨_,C⟩ <;> exact (aA1.mp C).1
      refine .inr (.inr ⟨c,A,f,rfl,?_,?_⟩)
      ·have hS : σI[j]?=some (some v):=q.2.2
       obtain ⟨v',b9,q'⟩:=sl j _ Z
       rcases q' with ⟨d,q',_⟩ | ⟨ns,a,q',_⟩ | ⟨W,b6,q1,q2,q3,_⟩
       ·cases q'
       ·cases q'
       ·rw [inj c W j f q1,q3,← b9,hS]
      ·rw [P c hl,f]
       simp only [es]
       rcases C with ⟨_,C⟩ | ⟨_,C⟩
       ·rw [C];exact .inl rfl
       ·rw [C];exact .inr rfl
    ·by_cases hl:c < env2.length
     ·rw [P c hl,f]
      simp only
      rw [← un c f]
      rw [aA0 hl];rfl
     ·rw [aF0.mpr (by simp [D];omega),← un c f,aF0.mpr (by omega)]
    ·obtain ⟨A',R⟩:=a1 c j f
     obtain ⟨A0,A,Z,C⟩:=mv c j f
     have hl:c < env2.length:=by
      rcases C with ⟨_,C⟩ | ⟨_,C⟩ <;> exact (aA1.mp C).1
     refine ⟨A0,A',R,?_⟩
     rw [P c hl,f]
     simp only [R]
     rcases C with ⟨h3,C⟩ | ⟨h3,C⟩
     ·rw [C];exact .inl ⟨h3,rfl⟩
     ·rw [C];exact .inr ⟨h3,rfl⟩
   have hd:ds[i]?=some ds[i]:=aA0 hlt
   refine js i _ yd e hd jv ⟨B.K,G3,H3,ach H3 F2 inv,σI,fun j a=>∃ i,inv i=some j/\F2 i a⟩ rfl σI G3 H3 _ x _ _ E3 (aes o.ok.1) fun S G4 H4 F4 e4 I4 g4 q4=>?_
   refine q4 S G4 H4 F4 _ I4 fun b G5 H5 F5 e5 I5 g5 q5=>?_
   cases b with
   | false =>
    rw [aE9 aA9] at q5 ⊢
    obtain ⟨w,ac⟩:=fin S G5 H5 F5 e5 yd ys (.lst ys) I5 q5 (ry.same (o.gg.trans (g4.trans g5)))
    have:upd H5 p (.lst ys)=H5:=by
     funext b
     unfold upd
     split
     ·rename_i hb';rw [hb'];exact ac.symm
     ·rfl
    rw [this] at w
    exact w
   | true =>
    rw [aE8 rfl] at q5 ⊢
    refine q5 S G5 H5 F5 _ I5 fun y G6 H6 F6 d6 e6 I6 g6 r6 q6=>?_
    obtain ⟨w,ac⟩:=fin S G6 H6 F6 e6 (yd ++ [d6]) (ys ++ [y]) (.lst ys) I6 q6.2 ((ry.same (o.gg.trans (g4.trans (g5.trans g6)))).append (.cons r6 .nil))
    exact ⟨ac,by rw [ry.length];exact big (by have:=q6.1;omega),w⟩
  ·have ei:i=ds.length:=by omega
   subst ei
   refine .inl ⟨it.stop _ G2 H2 g2 I2.gh rfl,?_⟩
   have q:=jd yd e jv
   have eb:ahv src U e=env2:=by
    apply aF5
    intro c
    unfold ahv
    rw [ae4,Nat.zero_add]
    have O:M c=false->env2[c]?=U[c]?:=fun hm=>un c (by simp [inv,hm])
    cases X:U[c]? with
    | none =>
     rw [O (by simp [M,X]),X];rfl
    | some o =>
     cases o with
     | none=>rw [O (by simp [M,X]),X];rfl
     | some t =>
      have a6:∀ A,(t=.own A\/t=.io A)->M c=true:=fun A h=>by rcases h with rfl | rfl <;> simp [M,X]
      cases t with
      | st d=>rw [O (by simp [M,X]),X];rfl
      | scr ns=>rw [O (by simp [M,X]),X];rfl
      | own A =>
       have hm:=a6 A (.inl rfl)
       simp only [aH5,agf]
       cases e3:idxE c src 0 with
       | none =>
        have:inv c=none:=by simp [inv,e3]
        rw [un c this,X]
       | some j =>
        have f:inv c=some j:=by simp [inv,hm,e3]
        obtain ⟨A0,A1,Z,C⟩:=mv c j f
        simp only [Z]
        rcases C with ⟨h3,C⟩ | ⟨h3,C⟩
        ·rw [C]
        ·rw [X] at h3;cases h3
      | io A =>
       have hm:=a6 A (.inr rfl)
       simp only [aH5,agf]
       cases e3:idxE c src 0 with
       | none =>
        have:inv c=none:=by simp [inv,e3]
        rw [un c this,X]
       | some j =>
        have f:inv c=some j:=by simp [inv,hm,e3]
        obtain ⟨A0,A1,Z,C⟩:=mv c j f
        simp only [Z]
        rcases C with ⟨h3,C⟩ | ⟨h3,C⟩
        ·rw [X] at h3;cases h3
        ·rw [C]
   rw [eb] at q
   refine k (.ref p) G2 H2 F2 (· = p) (.own (OL yd)) env2 I2 (g1.trans g2) ⟨⟨p,ys,rfl,a4,ry,fun b=>Iff.rfl⟩,fun a z=>by rw [z];exact hb,fun a z=>by rw [z];exact ga,fun a z=>by rw [z];exact ⟨_,a4⟩,fun j a z=>by rw [z];exact fa j⟩ q
end
def noIo (e:En):Bool:=e.all fun s => !isIo s
theorem atq {e:En} {j:Nat} {x:Option Sl} (h:noIo e=true) (a:e[j]?=some x):isIo x=false:=by
 have:=aE7.mp h x (aA2 a)
 simpa using this
theorem ai1 {src:List (Option Nat)} {b e:En} (h:noIo (aau src b)=true):ahv src b e=b:=by
 apply aF5
 intro i
 unfold ahv
 rw [ae4,Nat.zero_add]
 cases e2:b[i]? with
 | none=>rfl
 | some o =>
  have a:∀ A,(o=some (.own A)\/o=some (.io A))->idxE i src 0=none:=fun A f=>by
   cases e3:idxE i src 0 with
   | none=>rfl
   | some j =>
    have c:=(aee e3).2
    have:(aau src b)[j]?=some (some (.io A)):=by
     unfold aau
     rw [aA5,show src[j]?=some (some i) by simpa using c]
     rcases f with rfl | rfl <;> simp [e2,ahu]
    have:=atq h this
    simp [isIo] at this
  cases o with
  | none=>rfl
  | some t =>
   cases t with
   | st d=>rfl
   | scr ns=>rfl
   | own A=>simp only [aH5,agf,a A (.inl rfl)]
   | io A=>simp only [aH5,agf,a A (.inr rfl)]
def stO:Option PyData->Option Sl:=Option.map Sl.st
theorem isIo_stO {o:Option PyData}:isIo (stO o)=false:=by cases o <;> rfl
theorem afy {o:Option PyData}:agg (stO o)=false:=by cases o <;> rfl
theorem aem {src:List (Option Nat)} {a:En}:∀ x∈aau src a,agg x=false:=by
 intro x b
 unfold aau at b
 obtain ⟨o,_,rfl⟩:=aB6.mp b
 cases o with
 | none=>rfl
 | some j =>
  dsimp only
  cases (a[j]?).getD none with
  | none=>rfl
  | some t=>cases t <;> rfl
theorem aef:∀ {e:En},(∀ x∈e,agg x=false)->ioLe e e
 | [],_=>True.intro
 | x :: r,h=>⟨⟨rfl,h x aB7⟩,aef fun y a=>h y (aB4 _ a)⟩
section
variable {B:Bs} {env:En} {g:TG} {tif:TT} {te:TE} {K:Frag} {src:List (Option Nat)} {ds:List PyData} {e1:En} {R:List PyData->En->Prop}
theorem alz (f:PyData->PyData) (p:PyData->Bool) (g:noIo (aau src e1)=true) (C:ds.length<=999999)
  (h:∀ d∈ds,∀ a:Bs,a.K=K->EvT a tif (some (.st d) :: aau src e1) fun b j=>b=p d/\j=some (.st d) :: aau src e1/\(b=true->Ev a te (some (.st d) :: aau src e1) fun y n=>y=f d/\n=some (.st d) :: aau src e1))
  (u:R ((ds.filter p).map f) e1):LcV K (none :: src) (abr 0) tif te ds e1 R:=by
 have c:noIo (aau (none :: src) e1)=true:=by
  show ((none :: aau src e1).all fun s => !isIo s)=true
  rw [List.all_cons]
  exact (aG4 _ _).mpr ⟨rfl,g⟩
 refine ⟨fun i ys e=>ys=((ds.take i).filter p).map f/\∃ o,e=stO o :: aau src e1,⟨by simp,none,rfl⟩,?_,?_,?_⟩
 ·rintro i ys e ⟨_,o,rfl⟩
  exact ⟨⟨isIo_stO.symm,afy⟩,aef aem⟩
 ·rintro i d ys e hd ⟨rfl,o,rfl⟩ a w
  have hi:i < ds.length:=(aA1.mp hd).1
  have q:ds.take (i+1)=ds.take i ++ [d]:=by rw [aG7,hd];rfl
  refine abf ?_
  show EvT a tif (some (.st d) :: aau src e1) _
  intro σ G H F Q I k
  refine h d (aA2 hd) a w σ G H F Q I fun b G' H' F' j m g' ⟨hb,z,A⟩=>k b G' H' F' j m g' ?_
  subst z
  by_cases hp:b=true
  ·rw [aE8 hp]
   intro σ G H F Q I k
   refine A hp σ G H F Q I fun v G' H' F' d' n m g' r ⟨x,l⟩=>k v G' H' F' d' n m g' r ?_
   subst x l
   refine ⟨?_,?_,some d,rfl⟩
   ·have:=List.length_filter_le p (ds.take i)
    simp only [aA3]
    have B:(ds.take i).length<=i:=by simp;omega
    omega
   ·rw [q,List.filter_append,aE0]
    have:p d=true:=by rw [← hb];exact hp
    simp [this]
  ·rw [aE9 hp]
   refine ⟨?_,some d,rfl⟩
   rw [q,List.filter_append,aE0]
   have:p d=false:=by rw [← hb];simpa using hp
   simp [this]
 ·rintro ys e ⟨rfl,o,rfl⟩
  rw [ai1 c,aG1]
  exact u
theorem apf {α:Type} (xs:List α):xs.filter (fun _=>true)=xs:=by simp
theorem an3 (f:PyData->PyData) (b:noIo (aau src e1)=true) (j:ds.length<=999999)
  (h:∀ d∈ds,∀ a:Bs,a.K=K->Ev a te (some (.st d) :: aau src e1) fun y i=>y=f d/\i=some (.st d) :: aau src e1)
  (g:R (ds.map f) e1):LcV K (none :: src) (abr 0) tYes te ds e1 R :=
 alz f (fun _=>true) b j (fun d hd a c=>aiz ⟨rfl,rfl,fun _=>h d hd a c⟩) (by rw [apf];exact g)
end
section
variable {R:Sl->Prop}
theorem awm {g:Int->Int->Int} {i j:Int} (h:R (.st (.int (g i j)))):Op2 (rI0 fun i j => .int (g i j)) (.int i) (.int j) R:=fun G H d c Q gh b a k=>by
 cases b;cases a
 exact ⟨i,j,rfl,rfl,k _ _ _ _ _ (Out.refl gh (.int _)) h⟩
theorem awn {g:Int->Int->Bool} {i j:Int} (h:R (.st (.bool (g i j)))):Op2 (rI0 fun i j => .bl (g i j)) (.int i) (.int j) R:=fun G H d c Q gh b a k=>by
 cases b;cases a
 exact ⟨i,j,rfl,rfl,k _ _ _ _ _ (Out.refl gh (.bl _)) h⟩
theorem ay6 {C:Int->Int->Prop} {g:Int->Int->Int} {i j:Int} (a:C i j) (h:R (.st (.int (g i j)))):Op2 (rI C fun i j => .int (g i j)) (.int i) (.int j) R:=fun G H f d Q gh c b k=>by
 cases c;cases b
 exact ⟨i,j,rfl,rfl,a,k _ _ _ _ _ (Out.refl gh (.int _)) h⟩
theorem ay7 {g:Int->Int} {i:Int} (h:R (.st (.int (g i)))):Op1 (rU fun i => .int (g i)) (.int i) R:=fun G H b Q gh a k=>by
 cases a
 exact ⟨i,rfl,k _ _ _ _ _ (Out.refl gh (.int _)) h⟩
theorem awo {i j:Int} (h:R (.st (.bool (decide (i=j))))):Op2 rEq (.int i) (.int j) R:=fun G H d c Q gh b a k=>by
 cases b;cases a
 exact aqx (k _ _ _ _ _ (Out.refl gh (.bl _)) h)
theorem awp {i j:Int} (h:R (.st (.bool (!decide (i=j))))):Op2 rNe (.int i) (.int j) R:=fun G H d c Q gh b a k=>by
 cases b;cases a
 exact ayk (k _ _ _ _ _ (Out.refl gh (.bl _)) h)
theorem awq {x y:PyData} (a:aap x=true) (b:aap y=true) (hd:x.depth<=60) (h:R (.st (.bool (PyData.eqv x y)))):Op2 rEqD x y R:=fun G H g f Q gh d c k =>
 ⟨x,y,(d.rep a).same gh,(c.rep b).same gh,a,b,hd,k _ _ _ _ _ (Out.refl gh (.bl _)) h⟩
theorem agh {x y:PyData} (a:aap x=true) (b:aap y=true) (hd:x.depth<=60) (h:R (.st (.bool (!PyData.eqv x y)))):Op2 rNeD x y R:=fun G H g f Q gh d c k =>
 ⟨x,y,(d.rep a).same gh,(c.rep b).same gh,a,b,hd,k _ _ _ _ _ (Out.refl gh (.bl _)) h⟩
theorem an4 {a:Bool} {x:PyData} {es:List PyData} (b:aap x=true) (c:plainDs es=true) (hd:x.depth<=60) (h:R (.st (.bool (if a then !es.any (fun z=>PyData.eqv z x) else es.any (fun z=>PyData.eqv z x))))):Op2 (rInD a) x (.list es) R:=fun G H i g Q gh f d k =>
 ⟨x,es,(f.rep b).same gh,.inl ((d.rep (by simpa [aap] using c)).same gh),b,c,hd,k _ _ _ _ _ (Out.refl gh (.bl _)) h⟩
theorem Rps.at {G:Hp} {vs:List V} {ds:List PyData} {i:Int} {d:PyData} (r:Rps G vs ds) (h:atI ds i=some d):∃ v,atI vs i=some v/\Rp G v d:=by
 unfold atI at h ⊢
 rw [r.length]
 cases e:ixN ds.length i with
 | none=>rw [e] at h;cases h
 | some j =>
  rw [e] at h
  exact r.get h
theorem awr {K:Frag} {ds:List PyData} {i:Int} {d:PyData} (hd:atI ds i=some d) (h:R (.st d)):Op2 (acm K) (.list ds) (.int i) R:=fun G H j g Q gh f b k=>by
 cases b
 cases f with
 | lst ha rs =>
  obtain ⟨v,c,a⟩:=rs.at hd
  exact ae2 (gh _ _ ha) c (k _ _ _ _ _ (Out.refl gh a) h)
theorem aws {K:Frag} {ds:List PyData} {i:Int} {d:PyData} (hd:atI ds i=some d) (h:R (.st d)):Op2 (acm K) (.tuple ds) (.int i) R:=fun G H j g Q gh f b k=>by
 cases b
 cases f with
 | tup ha rs =>
  obtain ⟨v,c,a⟩:=rs.at hd
  exact ale (gh _ _ ha) c (k _ _ _ _ _ (Out.refl gh a) h)
def isNone:PyData->Bool
 | .none=>true
 | _=>false
theorem an5 {G:Hp} {v:V} {x:PyData} (r:Rp G v x):decide (v=.non)=isNone x:=by cases r <;> rfl
theorem awt {x:PyData} (h:R (.st (.bool (isNone x)))):Op2 rIsN x .none R:=fun G H d c Q gh b a k=>by
 cases a
 refine ⟨rfl,?_⟩
 rw [an5 b]
 exact k _ _ _ _ _ (Out.refl gh (.bl _)) h
theorem atr {x:PyData} (h:R (.st (.bool (!isNone x)))):Op2 au3 x .none R:=fun G H d c Q gh b a k=>by
 cases a
 refine ⟨rfl,?_⟩
 rw [an5 b]
 exact k _ _ _ _ _ (Out.refl gh (.bl _)) h
theorem awu {xs ys:List PyData} (c:xs.length+ys.length<=1000000) (h:R (.own (OL (xs ++ ys)))):Op2 rCat (.list xs) (.list ys) R:=fun G H g f Q gh d b k=>by
 cases d with
 | lst ha ra =>
  cases b with
  | lst hb rb =>
   refine ayo (gh _ _ ha) (gh _ _ hb) ?_ fun p a=>k _ _ _ _ _ (Out.newL gh a (ra.append rb)) h
   rw [ra.length,rb.length];exact aF8 (big c)
theorem awv {xs:List PyData} {n:Int} (d : -(2 ^ 63)<=n) (c:n < 2 ^ 63) (g:xs.length * n.toNat<=1000000) (h:R (.own (OL (List.replicate n.toNat xs).flatten))):Op2 rRep (.list xs) (.int n) R:=fun G H j i Q gh b f k=>by
 cases f
 cases b with
 | lst ha ra =>
  refine ⟨_,n,_,rfl,rfl,gh _ _ ha,d,c,?_,fun p a=>k _ _ _ _ _ (Out.newL gh a (ra.rep _)) h⟩
  rw [ra.length];exact aF8 (big g)
theorem ats {K:Frag} {xs:List PyData} (h:R (.st (.int xs.length))):OpA (rLen K) [.list xs] R:=fun G H vs Q gh rs k=>by
 cases rs with
 | cons r t =>
  cases t
  cases r with
  | lst ha ra =>
   refine anl (gh _ _ ha) ?_
   rw [ra.length]
   exact k _ _ _ _ _ (Out.refl gh (.int _)) h
theorem att {K:Frag} {xs:List PyData} (h:R (.st (.int xs.length))):OpA (rLen K) [.tuple xs] R:=fun G H vs Q gh rs k=>by
 cases rs with
 | cons r t =>
  cases t
  cases r with
  | tup ha ra =>
   refine avy (gh _ _ ha) ?_
   rw [ra.length]
   exact k _ _ _ _ _ (Out.refl gh (.int _)) h
theorem atu {i j:Int} (h:R (.st (.int (if j > i then j else i)))):OpA akh [.int i,.int j] R:=fun G H vs Q gh rs k=>by
 obtain rfl:vs=[V.int i,V.int j]:=Rps.ints_inv (ns:=[i,j]) rs
 exact anm (k _ _ _ _ _ (Out.refl gh (.int _)) h)
theorem atv {i j:Int} (h:R (.st (.int (if j < i then j else i)))):OpA aki [.int i,.int j] R:=fun G H vs Q gh rs k=>by
 obtain rfl:vs=[V.int i,V.int j]:=Rps.ints_inv (ns:=[i,j]) rs
 exact ann (k _ _ _ _ _ (Out.refl gh (.int _)) h)
theorem ad6 {K:Frag} {ns:List Int} (a:ns ≠ []) (h:∀ m,ac0 ns m->R (.st (.int m))):OpA (aed K) [.list (ns.map .int)] R:=fun G H vs Q gh rs k=>by
 cases rs with
 | cons r t =>
  cases t
  cases r with
  | lst ha ra =>
   have:=Rps.ints_inv ra
   subst this
   exact ⟨_,ns,rfl,.inl (SqL.of (gh _ _ ha)),a,fun m hm=>k _ _ _ _ _ (Out.refl gh (.int _)) (h m hm)⟩
theorem atw {K:Frag} {ns:List Int} {ds:List PyData} (e:ds=ns.map .int) (a:ns ≠ []) (h:∀ m,ac0 ns m->R (.st (.int m))):OpA (aed K) [.tuple ds] R:=fun G H vs Q gh rs k=>by
 subst e
 cases rs with
 | cons r t =>
  cases t
  cases r with
  | tup ha ra =>
   have:=Rps.ints_inv ra
   subst this
   exact ⟨_,ns,rfl,.inr (SqT.of (gh _ _ ha)),a,fun m hm=>k _ _ _ _ _ (Out.refl gh (.int _)) (h m hm)⟩
theorem atx {K:Frag} {ns:List Int} {ds:List PyData} (e:ds=ns.map .int) (a:ns ≠ []) (h:∀ m,apc ns m->R (.st (.int m))):OpA (akk K) [.tuple ds] R:=fun G H vs Q gh rs k=>by
 subst e
 cases rs with
 | cons r t =>
  cases t
  cases r with
  | tup ha ra =>
   have:=Rps.ints_inv ra
   subst this
   exact ⟨_,ns,rfl,.inr (SqT.of (gh _ _ ha)),a,fun m hm=>k _ _ _ _ _ (Out.refl gh (.int _)) (h m hm)⟩
theorem an6 {K:Frag} {ns:List Int} {ds:List PyData} (e:ds=ns.map .int) (h:R (.st (.int ns.sum))):OpA (apd K) [.list ds] R:=fun G H vs Q gh rs k=>by
 subst e
 cases rs with
 | cons r t =>
  cases t
  cases r with
  | lst ha ra =>
   have:=Rps.ints_inv ra
   subst this
   exact ⟨_,ns,rfl,SqL.of (gh _ _ ha),k _ _ _ _ _ (Out.refl gh (.int _)) h⟩
end
section
variable {B:Bs} {env:En} {QO:Sl->En->Prop} {Q':PyData->En->Prop} {te tl th:TE} {K:Frag}
end
def agi:PyData->Bool
 | .none | .bool _ | .int _ | .str _=>true
 | _=>false
theorem an7 {G G':Hp} {v:V} {d:PyData} (r:Rp G v d) (h:agi d=true):Rp G' v d:=by
 cases r with
 | non=>exact .non
 | bl b=>exact .bl b
 | int i=>exact .int i
 | str x=>exact .str x
 | _=>simp [agi] at h
def Has (env:En) (i:Nat) (A:Own):Prop:=env[i]?=some (some (.own A))\/env[i]?=some (some (.io A))
section
variable {B:Bs} {env:En} {QO:Sl->En->Prop} {Q':PyData->En->Prop} {QT:Bool->En->Prop} {QE:En->Prop} {te ta tb tk:TE} {K:Frag} {i:Nat}
theorem VI.has {G H:Hp} {σ:St} {F:Nat->Addr->Prop} {A:Own} (I:VI B G H σ env F) (h:Has env i A):∃ v,σ[i]?=some (some v)/\A.P G H v (F i):=by
 rcases h with h | h
 ·obtain ⟨v,a,q⟩:=I.sl i _ h;exact ⟨v,a,q.1⟩
 ·obtain ⟨v,a,q⟩:=I.sl i _ h;exact ⟨v,a,q.1⟩
theorem VI.moment {G d c H H3:Hp} {σ:St} {F:Nat->Addr->Prop} {v:V} {s:Sl} {Fv:Addr->Prop} (I:VI B G H σ env F) (j:Same G d) (o:Out d H v c H3 s Fv):∃ f,Same G f/\VI B f H3 σ env F:=by
 refine ⟨fun a=>if H a=none then c a else G a,fun a u e=>?_,I.grow (fun a u e=>?_) (fun a u e=>?_) o.hh (fun a u e=>?_) fun a b e=>?_⟩
 ·show (if H a=none then c a else G a)=some u;rw [aE9 (by rw [I.gh a u e];simp)];exact e
 ·rw [aE9 (by rw [I.gh a u e];simp)];exact e
 ·by_cases h:H a=none
  ·rw [aE8 h] at e;exact o.gh a u e
  ·rw [aE9 h] at e;exact o.hh _ _ (I.gh a u e)
 ·by_cases h:H a=none
  ·exact .inr h
  ·rw [aE9 h] at e;exact .inl e
 ·have i:FT d H:=fun a b e=>j _ _ (I.ft a b e)
  by_cases h:H a=none
  ·rw [aE8 h];exact o.ft i a b e
  ·rw [aE9 h]
   obtain ⟨u,g⟩:=ahs h
   have:=o.hh _ _ g
   rw [e] at this
   exact I.ft a b (by rw [g,← this])
theorem ay8 {r:R2} {J:Own} (n:Has env i J) (h:Ev B tb env fun y c=>∃ A dx,Has c i A/\Frz A dx/\Op2 r dx y fun s=>∃ d,s=.st d/\agi d=true/\Q' d c):Ev B (tOp r (tVar i) tb) env Q':=fun σ G H F Q I k=>by
 obtain ⟨v,f,_⟩:=I.has n
 refine ⟨v,f,h σ G H F _ I fun u C H2 F2 y c a D z ⟨A,dx,l,x,E⟩=>?_⟩
 obtain ⟨L,b,ap⟩:=a.has l
 rw [f] at b;cases b
 refine E (jn C H2 (F2 i)) H2 v u Q (akm a.gh) (x _ _ _ _ ap (a.fg i) a.gh) (z.same (abb (a.fg i))) fun w K H3 s Fv o ⟨d,es,g,j⟩=>?_
 subst es
 obtain ⟨q,p,m⟩:=a.moment (abb (a.fg i)) o
 exact k w q H3 F2 d c m (D.trans p) (an7 o.ok.1 g) j
theorem x_sc {d:PyData} {R:PyData->Prop} (a:agi d=true) (h:R d):∃ d',Sl.st d=.st d'/\agi d'=true/\R d':=⟨d,rfl,a,h⟩
theorem ay9 {f:List PyData} (p:Has env i (OL f)) (h:Ev B tb env fun y c=>∃ ds k d,Has c i (OL ds)/\y=.int k/\atI ds k=some d/\Q' d c):Ev B (tOp (acm K) (tVar i) tb) env Q':=fun σ G H F Q I k=>by
 obtain ⟨v,m,_⟩:=I.has p
 refine ⟨v,m,h σ G H F _ I fun u x H2 F2 y c n z s ⟨ds,j,d,o,r,l,q⟩=>?_⟩
 subst r
 cases s
 obtain ⟨D,b,a,vs,C,ha,rs,_⟩:=n.has o
 rw [m] at b;cases b
 subst C
 obtain ⟨w,A,g⟩:=rs.at l
 exact ae2 ha A (k w x H2 F2 d c n z g q)
theorem VI.upd1 {G H:Hp} {σ:St} {F:Nat->Addr->Prop} {s:Sl} {A A':Own} {a:Addr} {o:HO} (I:VI B G H σ env F) (e:env[i]?=some (some s)) (d:s=.own A\/s=.io A) (g : σ[i]?=some (some (.ref a))) (hf:∀ b,F i b ↔ b=a) (f:A'.P G (upd H a o) (.ref a) (· = a)) (j:∀ xs,o ≠ .tup xs:=by intro _ z;cases z) :
  VI B G (upd H a o) σ (env.set i (some (reS s A'))) (putF F i (· = a)):=by
 refine I.change (A:=A') i e g (fun b u hb c=>by rw [aad (fun z=>hb ((hf b).mpr z))];exact c) (fun b u c=>?_) (fun b z=>⟨.inl ((hf b).mpr z),by rw [z];exact ⟨_,aaf⟩⟩) f (fun b h e=>?_) ?_
 ·by_cases z:b=a
  ·rw [z];exact ⟨_,aaf⟩
  ·rw [aad z];exact ⟨u,c⟩
 ·by_cases z:b=a
  ·subst z;rw [aaf] at e;exact absurd (aC5 e) (j _)
  ·rw [aad z] at e;exact I.ft b h e
 ·rcases d with rfl | rfl
  ·exact .inl ⟨rfl,A,rfl⟩
  ·exact .inr ⟨rfl,A,rfl⟩
theorem arc {g:List PyData} (r:Has env i (OL g)) (h:Ev B te env fun y f=>∃ s ds,f[i]?=some (some s)/\(s=.own (OL ds)\/s=.io (OL ds))/\ds.length<=999999/\Q' .none (f.set i (some (reS s (OL (ds ++ [y])))))):Ev B (tBM K "list" ac7 (tVar i) (aa1 te tNil)) env Q':=fun σ G H F Q I k=>by
 obtain ⟨v,j,a,vs,C,ha,rs,_⟩:=I.has r
 subst C
 refine ⟨_,j,.inl ⟨rfl,_,SqL.of ha⟩,h σ G H F _ I fun u z H2 F2 y f o A x ⟨s,ds,es,n,E,q⟩=>?_⟩
 have p:Has f i (OL ds):=by rcases n with rfl | rfl;exact .inl es;exact .inr es
 obtain ⟨J,d,D,w,l,m,c,hf⟩:=o.has p
 rw [j] at d;cases d;cases l
 refine adh m (by rw [c.length];exact big (by omega)) ?_
 exact k _ z _ _ _ _ (o.upd1 (A':=OL (ds ++ [y])) es n j hf ⟨a,_,rfl,aaf,c.append (.cons x .nil),fun b=>Iff.rfl⟩) A .non q
theorem apg {a:List PyData} (c:Has env i (OL a)) (h:Ev B te env fun y b=>∃ ds,b[i]?=some (some (.own (OL ds)))/\ds.length<=999999/\Q' .none (b.set i (some (.own (OL (ds ++ [y])))))):Ev B (tBM K "list" ac7 (tVar i) (aa1 te tNil)) env Q' :=
 arc c fun σ G H F Q I k=>h σ G H F Q I fun v G' H' F' d e l g r ⟨ds,j,f,q⟩=>k v G' H' F' d e l g r ⟨_,ds,j,.inl rfl,f,q⟩
theorem aph {f:List PyData} (o:Has env i (OL f)) (h:Ev B te env fun y n=>∃ ds ys,y=.list ys/\n[i]?=some (some (.own (OL ds)))/\ds.length+ys.length<=1000000/\Q' .none (n.set i (some (.own (OL (ds ++ ys)))))):Ev B (tBM K "list" aih (tVar i) (aa1 te tNil)) env Q':=fun σ G H F Q I k=>by
 obtain ⟨v,g,a,vs,A,ha,rs,_⟩:=I.has o
 subst A
 refine ⟨_,g,.inl ⟨rfl,_,SqL.of ha⟩,h σ G H F _ I fun u x H2 F2 y n j z w ⟨ds,ys,s,es,r,q⟩=>?_⟩
 subst s
 cases w with
 | lst hb rb =>
  obtain ⟨D,d,C,p,l,m,c,hf⟩:=j.has (.inl es)
  rw [g] at d;cases d;cases l
  refine aqy m (j.gh _ _ hb) (by rw [c.length,rb.length];exact aF8 (big r)) ?_
  exact k _ x _ _ _ _ (j.upd1 (A':=OL (ds ++ ys)) es (.inl rfl) g hf ⟨a,_,rfl,aaf,c.append rb,fun b=>Iff.rfl⟩) z .non q
theorem aty {d:PyData} {l:List PyData} (D:Has env i (OL l)) (h:Ev B tk env fun y g=>∃ s ds k j,y=.int k/\g[i]?=some (some s)/\(s=.own (OL ds)\/s=.io (OL ds))/\ixN ds.length k=some j/\QE (g.set i (some (reS s (OL (ds.set j d)))))):EvG B (gSub (tVar i) tk ao4) (.st d) env QE:=fun σ G H F v Fv Q I x k=>by
 obtain ⟨A,_⟩:=x.ok
 obtain ⟨P,m,a,vs,N,ha,rs,_⟩:=I.has D
 subst N
 refine ⟨_,m,h σ G H F _ I fun u L H2 F2 y g w z K ⟨s,ds,n,j,J,es,r,M,q⟩=>?_⟩
 subst J
 cases K
 have C:Has g i (OL ds):=by rcases r with rfl | rfl;exact .inl es;exact .inr es
 obtain ⟨R,f,O,E,o,p,c,hf⟩:=w.has C
 rw [m] at f;cases f;cases o
 refine ank p (by rw [c.length];exact M) ?_
 exact k _ L _ _ _ (w.upd1 (A':=OL (ds.set j d)) es r m hf ⟨a,_,rfl,aaf,c.set (A.same z) j,fun b=>Iff.rfl⟩) z q
theorem an8 {t:TS} {D':VEnds} {A:Own} {d:PyData} (i:Nat) (e:env[i]?=some (some (.own A))) (f:Frz A d) (h:EvS B t D' (env.set i (some (.st d)))):EvS B t D' env:=fun σ G H F D I r=>by
 obtain ⟨v,b,a,g,J⟩:=I.frz e f
 exact h σ _ H _ D J (r.later g)
end
def tyD:PyData->String
 | .none => "NoneType" | .bool _ => "bool" | .int _ => "int" | .str _ => "str" | .list _ => "list" | .tuple _ => "tuple" | .dict _ => "dict"
def adv (T:String):Prop:=T = "int"\/T = "bool"\/T = "tuple"\/T = "list"\/T = "str"\/T = "dict"
def isiD (T:String) (d:PyData):Bool:=tyD d == T || (T == "int" && tyD d == "bool")
theorem a0i {K:Frag} {H:Hp} {v:V} {d:PyData} (r:Rp H v d):TyOf K H v (.type (tyD d)):=by
 cases r with
 | non=>exact .non
 | bl b=>exact .bl b
 | int i=>exact .int i
 | str x=>exact .str x
 | lst h _=>exact .lst h
 | tup h _=>exact .tup h
 | dk h _ _=>exact .dK h
 | dt h _ _=>exact .dT h
theorem a0j {K:Frag} {T:String} (h:adv T) (d:PyData):kitOne K (.type (tyD d)) (.type T)=some (isiD T d):=by
 rcases h with rfl | rfl | rfl | rfl | rfl | rfl
 ·cases d with
  | none=>exact agx
  | bool _=>exact alf
  | int _=>exact am2
  | str _=>exact am4
  | list _=>exact alo
  | tuple _=>exact aj7
  | dict _=>exact alq
 ·cases d with
  | none=>exact agm
  | bool _=>exact ajz
  | int _=>exact alh
  | str _=>exact alk
  | list _=>exact aj4
  | tuple _=>exact aiv
  | dict _=>exact aj9
 ·cases d with
  | none=>exact afu
  | bool _=>exact ait
  | int _=>exact aj2
  | str _=>exact aj3
  | list _=>exact aiu
  | tuple _=>exact ahp
  | dict _=>exact aiy
 ·cases d with
  | none=>exact agn
  | bool _=>exact aj0
  | int _=>exact ali
  | str _=>exact alm
  | list _=>exact aj5
  | tuple _=>exact aiw
  | dict _=>exact aka
 ·cases d with
  | none=>exact agy
  | bool _=>exact alg
  | int _=>exact am3
  | str _=>exact am5
  | list _=>exact alp
  | tuple _=>exact aj8
  | dict _=>exact alr
 ·cases d with
  | none=>exact ago
  | bool _=>exact aj1
  | int _=>exact alj
  | str _=>exact aln
  | list _=>exact aj6
  | tuple _=>exact aix
  | dict _=>exact akb
section
variable {B:Bs} {env:En} {QO:Sl->En->Prop} {Q':PyData->En->Prop} {QT:Bool->En->Prop} {QE:En->Prop} {te ta tb tk:TE} {K:Frag} {i:Nat}
theorem aza {T:String} (i:adv T) (h:Ev B te env fun d e=>Q' (.bool (isiD T d)) e):Ev B (tCB (rIsi K) (aa1 te (aa1 (tC (.ty T)) tNil))) env Q':=fun σ G H F Q I k =>
 h σ G H F _ I fun v l b m d f a g j c=>⟨v,T,_,_,rfl,a0i (j.same a.gh),a0j i d,k _ l b m _ f a g (.bl _) c⟩
theorem azb:adv "int":=.inl rfl
theorem aww:adv "bool":=.inr (.inl rfl)
theorem atz:adv "tuple":=.inr (.inr (.inl rfl))
theorem awx:adv "list":=.inr (.inr (.inr (.inl rfl)))
theorem at3 {A:Own} {D':VEnds} (e:env[i]?=some (some (.own A))) (q:D'.rt (.own A) (env.set i none)):EvS B (tRet (tVar i)) D' env:=an0 (ath e q)
theorem a0k {n m:Nat} {P:Prop} (h:n<=m) (q:P):n<=m/\P:=⟨h,q⟩
theorem azc {ds:List PyData} {a:En} {R:List PyData->Prop} (e:a[i]?=some (some (.own (OL ds)))) (b:ds.length<=999999) (q:R ds):∃ ds,a[i]?=some (some (.own (OL ds)))/\ds.length<=999999/\R ds:=⟨ds,e,b,q⟩
theorem a0l {ds:List PyData} {d:PyData} {k:Int} {a:En} {R:PyData->Prop} (c:Has a i (OL ds)) (h:atI ds k=some d) (q:R d):∃ ds b d,Has a i (OL ds)/\PyData.int k=.int b/\atI ds b=some d/\R d:=⟨ds,k,d,c,rfl,h,q⟩
theorem api {ds:List PyData} {k:Int} {j:Nat} {a:En} {R:Sl->List PyData->Nat->Prop} (e:a[i]?=some (some (.own (OL ds)))) (c:ixN ds.length k=some j) (q:R (.own (OL ds)) ds j):∃ s ds b j,PyData.int k=.int b/\a[i]?=some (some s)/\(s=.own (OL ds)\/s=.io (OL ds))/\ixN ds.length b=some j/\R s ds j:=⟨_,ds,k,j,rfl,e,.inl rfl,c,q⟩
theorem a0m {A:Own} {dx:PyData} {a:En} {P:PyData->Prop} (b:Has a i A) (c:Frz A dx) (q:P dx):∃ A dx,Has a i A/\Frz A dx/\P dx:=⟨A,dx,b,c,q⟩
theorem x_rt {A:Own} {a:En} {R:Own->Prop} (e:a[0]?=some (some (.io A))) (q:R A):∃ A',a[0]?=some (some (.io A'))/\R A':=⟨A,e,q⟩
theorem x_st {b:Bool} {R:Bool->Prop} (h:R b):∃ c,Sl.st (.bool b)=.st (.bool c)/\R c:=⟨b,rfl,h⟩
theorem at4 {ds:List PyData} {R:Bool->Prop} (h:R (!ds.isEmpty)):∃ k,TruD (.list ds) k/\R k:=⟨_,rfl,h⟩
theorem lenP {f:VP} {n:Nat} {vs:List V} {H:Hp} {Q:VK} {E:XK} (h:spP K f vs H Q E) (hf:∀ ss Q',f ss Q'->ss.length=n):vs.length=n:=by
 obtain ⟨G,ss,Q',_,_,a,q,_⟩:=h
 rw [a.length];exact hf ss Q' q
theorem lenI {f:VIo} {n:Nat} {vs:List V} {H:Hp} {Q:VK} {E:XK} (h:spI K f vs H Q E) (hf:∀ A ss Q',f A ss Q'->ss.length+1=n):vs.length=n:=by
 obtain ⟨v0,b,G,R,A,ss,F0,Q',rfl,_,_,_,_,_,_,a,q,_⟩:=h
 rw [aE1,a.length];exact hf A ss Q' q
theorem ahw {f:VIo} {t:TA} {E:XK} {A:Own} (b:env[i]?=some (some (.io A))) (h:EvA B t env fun ds a=>a[i]?=some (some (.io A))/\f A (ds.map Sl.st) fun A' s=>QO s (a.set i (some (.io A')))):EvO B (abx (spI K f) [] E (aa1 (tVar i) t)) env QO :=
 afx ⟨_,b⟩ fun σ G H F Q I k=>h σ G H F Q I fun vs G' H' F' ds a d g r ⟨c,q⟩=>k vs G' H' F' ds a d g r ⟨_,A,c,.inr rfl,q⟩
theorem ahx {f:VIo} {t:TA} {E:XK} {A:Own} (b:env[i]?=some (some (.own A))) (h:EvA B t env fun ds a=>a[i]?=some (some (.own A))/\f A (ds.map Sl.st) fun A' s=>QO s (a.set i (some (.own A')))):EvO B (abx (spI K f) [] E (aa1 (tVar i) t)) env QO :=
 afx ⟨_,b⟩ fun σ G H F Q I k=>h σ G H F Q I fun vs G' H' F' ds a d g r ⟨c,q⟩=>k vs G' H' F' ds a d g r ⟨_,A,c,.inl rfl,q⟩
theorem ajr {f:VIo} {t:TA} {E:XK} {A:Own} (b:env[i]?=some (some (.io A))) (h:EvA B t env fun ds a=>a[i]?=some (some (.io A))/\f A (ds.map Sl.st) fun A' s=>FQ s fun d=>Q' d (a.set i (some (.io A')))):Ev B (abx (spI K f) [] E (aa1 (tVar i) t)) env Q':=abk (ahw b h)
theorem ard {f:VIo} {t:TA} {E:XK} {A:Own} (b:env[i]?=some (some (.own A))) (h:EvA B t env fun ds a=>a[i]?=some (some (.own A))/\f A (ds.map Sl.st) fun A' s=>FQ s fun d=>Q' d (a.set i (some (.own A')))):Ev B (abx (spI K f) [] E (aa1 (tVar i) t)) env Q':=abk (ahx b h)
theorem a0n {P Q:Prop} (h:P) (q:Q):P/\Q:=⟨h,q⟩
theorem a0o {src:List (Option Nat)} {j:TI} {g:TG} {f:TT} (nd:(src.filterMap id).Nodup) (h:EvI B j env fun ds i=>LcV B.K src g f te ds i fun ys n=>Q' (.list ys) n):Ev B (tLC src j g f te) env Q':=abk (arb nd fun σ G H F R I k=>h σ G H F R I fun J G' H' F' ds i m g' it ⟨l,a,b,c,d⟩=>k J G' H' F' ds i m g' it ⟨l,a,b,c,fun ys e q=>acr (d ys e q)⟩)
end
end VL
namespace VL
open PySem L2
section
variable {B:Bs} {QE:En->Prop} {Q':PyData->En->Prop} {s:Sl} {r:En} {A:Own} {d:PyData} {x0 x1 x2 x3 x4 x5 x6 x7 x8 x9 x10 x11 x12 x13 x14 x15 x16 x17 x18 x19 x20 x21 x22 x23 x24 x25:Option Sl}
theorem azd (h:QE (x0 :: some s :: r)):EvG B (abr 1) s (x0 :: x1 :: r) QE:=abf h
theorem aze (h:QE (x0 :: x1 :: some s :: r)):EvG B (abr 2) s (x0 :: x1 :: x2 :: r) QE:=abf h
theorem azf (h:QE (x0 :: x1 :: x2 :: some s :: r)):EvG B (abr 3) s (x0 :: x1 :: x2 :: x3 :: r) QE:=abf h
theorem azg (h:QE (x0 :: x1 :: x2 :: x3 :: some s :: r)):EvG B (abr 4) s (x0 :: x1 :: x2 :: x3 :: x4 :: r) QE:=abf h
theorem azh (h:QE (x0 :: x1 :: x2 :: x3 :: x4 :: some s :: r)):EvG B (abr 5) s (x0 :: x1 :: x2 :: x3 :: x4 :: x5 :: r) QE:=abf h
theorem azi (h:QE (x0 :: x1 :: x2 :: x3 :: x4 :: x5 :: some s :: r)):EvG B (abr 6) s (x0 :: x1 :: x2 :: x3 :: x4 :: x5 :: x6 :: r) QE:=abf h
theorem azj (h:QE (x0 :: x1 :: x2 :: x3 :: x4 :: x5 :: x6 :: some s :: r)):EvG B (abr 7) s (x0 :: x1 :: x2 :: x3 :: x4 :: x5 :: x6 :: x7 :: r) QE:=abf h
theorem azk (h:QE (x0 :: x1 :: x2 :: x3 :: x4 :: x5 :: x6 :: x7 :: some s :: r)):EvG B (abr 8) s (x0 :: x1 :: x2 :: x3 :: x4 :: x5 :: x6 :: x7 :: x8 :: r) QE:=abf h
theorem azl (h:QE (x0 :: x1 :: x2 :: x3 :: x4 :: x5 :: x6 :: x7 :: x8 :: some s :: r)):EvG B (abr 9) s (x0 :: x1 :: x2 :: x3 :: x4 :: x5 :: x6 :: x7 :: x8 :: x9 :: r) QE:=abf h
end
end VL
namespace Gr
structure Ring (T:Int->Int->Prop) (a:Int) (k:Nat) (far:Int->Option Nat) (edge:List Int):Prop where
 lab:∀ v d,far v=some d ↔ (Dist T a v d/\d<=k)
 edg:∀ v,v∈edge ↔ Dist T a v k
structure Mid (T:Int->Int->Prop) (k:Nat) (far0:Int->Option Nat) (edge:List Int) (done:Int->Prop) (far:Int->Option Nat) (beyond:List Int):Prop where
 old:∀ v d,far0 v=some d->far v=some d
 new:∀ v,v∈beyond ↔ (far0 v=none/\far v ≠ none)
 val:∀ v d,far0 v=none->far v=some d->d=k+1/\∃ u,u∈edge/\T u v
 dn:∀ u w,done u->T u w->far w ≠ none
def label (far:Int->Option Nat) (w:Int) (d:Nat):Int->Option Nat:=fun v=>if v=w then some d else far v
theorem label_same {far:Int->Option Nat} {w:Int} {d:Nat}:label far w d w=some d:=aE8 rfl
theorem label_ne {far:Int->Option Nat} {w v:Int} {d:Nat} (h:v ≠ w):label far w d v=far v:=aE9 h
variable {T:Int->Int->Prop} {a:Int} {k:Nat} {far0 far:Int->Option Nat} {edge beyond:List Int} {done:Int->Prop}
theorem Ring.start:Ring T a 0 (label (fun _=>none) a 0) [a]:=by
 refine ⟨fun v d=>?_,fun v=>?_⟩
 ·by_cases h:v=a
  ·subst h
   rw [label_same]
   constructor
   ·intro e;cases e;exact ⟨Dist.self T v,aA6 _⟩
   ·rintro ⟨h,_⟩;rw [h.uniq (Dist.self T v)]
  ·rw [label_ne h]
   constructor
   ·intro e;cases e
   ·rintro ⟨b,c⟩
    have:d=0:=by omega
    subst this
    cases b.1
    exact absurd rfl h
 ·simp only [aC1]
  constructor
  ·rintro rfl;exact Dist.self T v
  ·intro h;cases h.1;rfl
theorem Mid.start:Mid T k far0 edge (fun _=>False) far0 [] :=
 ⟨fun v d h=>h,fun v=>⟨fun h=>by simp at h,fun h=>absurd h.1 h.2⟩,fun v d h g=>(by rw [h] at g;cases g),fun u w h=>h.elim⟩
theorem Mid.add (m:Mid T k far0 edge done far beyond) {u w:Int} (c:u∈edge) (t:T u w) (a:far w=none):Mid T k far0 edge done (label far w (k+1)) (beyond ++ [w]):=by
 have b:far0 w=none:=by
  cases e:far0 w with
  | none=>rfl
  | some d=>rw [m.old w d e] at a;cases a
 refine ⟨fun v d h=>?_,fun v=>?_,fun v d h g=>?_,fun x y f i=>?_⟩
 ·rw [label_ne (by rintro rfl;rw [b] at h;cases h)];exact m.old v d h
 ·by_cases hv:v=w
  ·subst hv
   simp [label_same,b]
  ·rw [label_ne hv]
   simp only [aA7,aC1,hv,or_false]
   exact m.new v
 ·by_cases hv:v=w
  ·subst hv
   rw [label_same] at g
   cases g
   exact ⟨rfl,u,c,t⟩
  ·rw [label_ne hv] at g
   exact m.val v d h g
 ·by_cases hv:y=w
  ·subst hv;rw [label_same];simp
  ·rw [label_ne hv];exact m.dn x y f i
theorem Mid.did (m:Mid T k far0 edge done far beyond) {u:Int} (h:∀ w,T u w->far w ≠ none):Mid T k far0 edge (fun x=>done x\/x=u) far beyond :=
 ⟨m.old,m.new,m.val,fun x w a t=>by rcases a with a | rfl;exact m.dn x w a t;exact h w t⟩
theorem Mid.imp {a:Int->Prop} (m:Mid T k far0 edge done far beyond) (h:∀ u,a u->done u):Mid T k far0 edge a far beyond :=
 ⟨m.old,m.new,m.val,fun x w b t=>m.dn x w (h x b) t⟩
theorem Ring.next (r:Ring T a k far0 edge) (m:Mid T k far0 edge done far beyond) (hd:∀ u∈edge,done u):Ring T a (k+1) far beyond:=by
 have g:∀ v,far0 v=none->far v ≠ none->Dist T a v (k+1):=fun v f b=>by
  cases e:far v with
  | none=>exact absurd e b
  | some d =>
   obtain ⟨rfl,u,j,t⟩:=m.val v d f e
   obtain ⟨l,p,h⟩:=((r.edg u).mp j).next t
   by_cases i:l<=k
   ·rw [(r.lab v l).mpr ⟨h,i⟩] at f;cases f
   ·have:l=k+1:=by omega
    rw [← this];exact h
 have c:∀ v,Dist T a v (k+1)->far0 v=none/\far v ≠ none:=fun v h=>by
  refine ⟨?_,?_⟩
  ·cases e:far0 v with
   | none=>rfl
   | some d =>
    obtain ⟨b,n⟩:=(r.lab v d).mp e
    have:=b.uniq h
    omega
  ·obtain ⟨u,t,j⟩:=h.pred
   exact m.dn u v (hd u ((r.edg u).mpr j)) t
 refine ⟨fun v d=>?_,fun v=>⟨fun h=>?_,fun h=>(m.new v).mpr (c v h)⟩⟩
 ·constructor
  ·intro e
   cases e0:far0 v with
   | some d0 =>
    rw [m.old v d0 e0] at e
    cases e
    obtain ⟨b,n⟩:=(r.lab v d).mp e0
    exact ⟨b,by omega⟩
   | none =>
    have i:=(m.val v d e0 e).1
    subst i
    exact ⟨g v e0 (by rw [e];simp),aA6 _⟩
  ·rintro ⟨h,i⟩
   by_cases hd':d<=k
   ·exact m.old v d ((r.lab v d).mpr ⟨h,hd'⟩)
   ·have o:d=k+1:=by omega
    subst o
    obtain ⟨f,b⟩:=c v h
    cases e:far v with
    | none=>exact absurd e b
    | some d=>rw [(m.val v d f e).1]
 ·obtain ⟨f,b⟩:=(m.new v).mp h
  exact g v f b
theorem Dist.down {v:Int}:∀ {d:Nat},Dist T a v d->∀ j,j<=d->∃ u,Dist T a u j
 | 0,h,j,hj=>⟨v,by rw [show j=0 by omega];exact h⟩
 | d+1,h,j,hj=>by
  by_cases e:j=d+1
  ·rw [e];exact ⟨v,h⟩
  ·obtain ⟨u,_,b⟩:=h.pred
   exact Dist.down b j (by omega)
def farO (T:Int->Int->Prop) (a v:Int):Option Nat:=open Classical in if h:∃ d,Dist T a v d then some (Classical.choose h) else none
theorem farO_some {v:Int} {d:Nat}:farO T a v=some d ↔ Dist T a v d:=by
 unfold farO
 constructor
 ·intro h
  split at h
  ·rename_i b
   cases h
   exact Classical.choose_spec b
  ·cases h
 ·intro h
  have b:∃ d,Dist T a v d:=⟨d,h⟩
  rw [dif_pos b,(Classical.choose_spec b).uniq h]
theorem farO_none {v:Int}:farO T a v=none ↔ ∀ d,¬ Dist T a v d:=by
 constructor
 ·intro h d hd
  rw [farO_some.mpr hd] at h;cases h
 ·intro h
  cases e:farO T a v with
  | none=>rfl
  | some d=>exact absurd (farO_some.mp e) (h d)
theorem awy {v:Int} {o:Option Nat} (h:∀ d,o=some d ↔ Dist T a v d):o=farO T a v:=by
 cases o with
 | some d=>exact (farO_some.mpr ((h d).mp rfl)).symm
 | none=>exact (farO_none.mpr fun d hd=>by cases (h d).mpr hd).symm
theorem Ring.fin (r:Ring T a k far0 []) (v:Int):far0 v=farO T a v:=by
 refine awy fun d=>?_
 rw [r.lab]
 refine ⟨fun h=>h.1,fun h=>⟨h,?_⟩⟩
 apply aD3
 intro c
 obtain ⟨u,b⟩:=h.down k (by omega)
 have:=(r.edg u).mpr b
 simp at this
theorem Walk.app {u v w:Int} {i j:Nat} (h:Walk T u i v) (g:Walk T v j w):Walk T u (i+j) w:=by
 induction g with
 | refl=>exact h
 | step _ t ih=>exact .step ih t
theorem Walk.rev (a:∀ u v,T u v->T v u) {u v:Int} {i:Nat} (h:Walk T u i v):Walk T v i u:=by
 induction h with
 | refl=>exact .refl
 | @step j x y _ t ih =>
  have:=(Walk.step (T:=T) (u:=y) .refl (a _ _ t)).app ih
  rw [Nat.add_comm] at this
  exact this
theorem farO_self:farO T a a=some 0:=farO_some.mpr (Dist.self T a)
theorem Dist.lt {n:Nat} (p:∀ u v,T u v->0<=v/\v < (n:Int)) (ha:0<=a/\a < (n:Int)) {v:Int} {d:Nat} (h:Dist T a v d):d < n:=by
 -- the places of a shortest way are unlike
 have i:∀ d v,Dist T a v d->∃ l:List Int,l.length=d+1/\l.Nodup/\∀ x∈l,(0<=x/\x < (n:Int))/\∃ j,j<=d/\Dist T a x j:=by
  intro d
  induction d with
  | zero =>
   intro v h
   have:v=a:=by cases h.1;rfl
   subst this
   exact ⟨[v],rfl,by simp,fun x b=>by simp at b;subst b;exact ⟨ha,0,aA6 _,h⟩⟩
  | succ d ih =>
   intro v h
   obtain ⟨u,t,s⟩:=h.pred
   obtain ⟨l,g,c,f⟩:=ih u s
   refine ⟨v :: l,by simp [g],aH7.mpr ⟨fun hm=>?_,c⟩,fun x b=>?_⟩
   ·obtain ⟨_,j,w,hd⟩:=f v hm
    have:=hd.uniq h
    omega
   ·rcases aA8.mp b with rfl | b
    ·exact ⟨p _ _ t,d+1,aA6 _,h⟩
    ·obtain ⟨q,j,w,hd⟩:=f x b
     exact ⟨q,j,by omega,hd⟩
 obtain ⟨l,g,c,f⟩:=i d v h
 have few:∀ (n:Nat) (l:List Int),l.Nodup->(∀ v∈l,0<=v/\v < (n:Int))->l.length<=n:=by
  intro n
  induction n with
  | zero =>
   intro l _ h
   cases l with
   | nil=>simp
   | cons v r=>have:=h v (by simp);omega
  | succ n ih =>
   intro l hn h
   have g:=ih (l.erase (n:Int)) (hn.erase _) fun v m=>by
    have hm:=List.mem_of_mem_erase m
    have hb:=h v hm
    have o:v ≠ (n:Int):=by
     rintro rfl
     exact absurd m (List.Nodup.not_mem_erase hn)
    omega
   have c:l.length<=(l.erase (n:Int)).length+1:=by
    rw [List.length_erase]
    split <;> omega
   omega
 have:=few n l c fun x b=>(f x b).1
 omega
end Gr
namespace VL
open PySem PySem.Spec L2
theorem nodup_ix {α:Type} {xs:List α} (h:xs.Nodup) {i j:Nat} (hi:i < xs.length) (a:j < xs.length) (e:xs[i]=xs[j]):i=j:=by
 have p:=aG0.mp h
 rcases Nat.lt_trichotomy i j with q | q | q
 ·exact absurd e (p i j hi a q)
 ·exact q
 ·exact absurd e.symm (p j i a hi q)
def OLL (dss:List (List PyData)):Own where
 P:=fun G H v F=>∃ (a:Addr) (as:List Addr),v=.ref a/\H a=some (.lst (as.map V.ref))/\as.Nodup/\a ∉ as/\as.length=dss.length/\(∀ (i:Nat) b ds,as[i]?=some b->dss[i]?=some ds->∃ vs,H b=some (.lst vs)/\Rps G vs ds)/\∀ b,F b ↔ b=a\/b∈as
 mono:=fun ⟨a,as,e,h,n1,n2,l,r,f⟩ g hh=>⟨a,as,e,hh a _ ((f a).mpr (.inl rfl)) h,n1,n2,l,fun i b ds hb hd=>by
  obtain ⟨vs,h1,h2⟩:=r i b ds hb hd
  exact ⟨vs,hh b _ ((f b).mpr (.inr (aA2 hb))) h1,h2.same g⟩,f⟩
 dom:=fun ⟨a,as,e,h,n1,n2,l,r,f⟩ b z=>by
  rcases (f b).mp z with rfl | z
  ·exact ⟨_,h⟩
  ·obtain ⟨i,hi,e⟩:=aG9.mp z
   have hb:as[i]?=some b:=by rw [aA0 hi,e]
   obtain ⟨vs,h1,_⟩:=r i b _ hb (aA0 (by rw [← l];exact hi))
   exact ⟨_,h1⟩
theorem al0 {G:Hp}:∀ {vs:List V} {ds:List PyData},vs.length=ds.length->(∀ (i:Nat) v d,vs[i]?=some v->ds[i]?=some d->Rp G v d)->Rps G vs ds
 | [],[],_,_ => .nil
 | [],_ :: _,h,_=>by simp at h
 | _ :: _,[],h,_=>by simp at h
 | v :: vs,d :: ds,h,k => .cons (k 0 v d rfl rfl) (al0 (by simpa using h) fun i v d b a=>k (i+1) v d (by simpa using b) (by simpa using a))
theorem ai2 {c:List (List PyData)}:Frz (OLL c) (.list (c.map .list)):=fun G H v F ⟨a,as,e,h,q,p,l,r,f⟩ n g=>by
 subst e
 refine .lst (by rw [ac5 ((f a).mpr (.inl rfl))];exact h) (al0 (by simp [l]) fun i u d j hd=>?_)
 rw [aA5] at j hd
 cases hb:as[i]? with
 | none=>rw [hb] at j;cases j
 | some b =>
  cases hds:c[i]? with
  | none=>rw [hds] at hd;cases hd
  | some ds =>
   rw [hb] at j;rw [hds] at hd
   cases j;cases hd
   obtain ⟨vs,o,m⟩:=r i b ds hb hds
   exact .lst (by rw [ac5 ((f b).mpr (.inr (aA2 hb)))];exact o) (m.same (abb n))
section
variable {B:Bs} {env:En} {QO:Sl->En->Prop} {Q':PyData->En->Prop} {D':VEnds} {K:Frag} {i:Nat}
theorem azm {a:List (List PyData)} {R:PyData->Prop} (h:R (.list (a.map .list))):FQ (.own (OLL a)) R:=⟨_,ai2,h⟩
theorem awz {src:List (Option Nat)} {wi:TI} {j:Nat} (h:EvI B wi env fun ds S=>ds.length<=1000000/\QO (.own (OLL (List.replicate ds.length []))) S):EvO B (tLC src wi (abr j) tYes (tLst tNil)) env QO:=fun σ G H F Q I k=>by
 refine h σ G H F _ I fun J N M F1 ds S s g1 it ⟨a1,q⟩ c d=>?_
 let W:Nat->List V->Hp->Prop:=fun n ys H=>∃ (as:List Addr) (g:Hp),ys=as.map V.ref/\as.length=n/\as.Nodup/\c ∉ as/\(∀ b∈as,M b=none/\g b=none/\H b=some (.lst []))/\H c=some (.lst ys)/\g c=none/\Same N g/\Same g H/\Same M H/\(∀ a o,g a=some o->N a=some o\/M a=none)/\FT g H
 refine ⟨fun n m ys σI H=>m=ds.length - n/\n<=ds.length/\W n ys H,⟨ds.length,by simp,aF3 _,[],N,rfl,rfl,List.nodup_nil,by simp,fun b hb=>by simp at hb,aaf,s.no_g d,Same.refl _,s.gh.trans (abe d),abe d,fun a o e => .inl e,fun a T e=>?_⟩,?_⟩
 ·by_cases z:a=c
  ·subst z;rw [aaf] at e;cases e
  ·rw [aad z] at e;exact s.ft a T e
 rintro n m ys σI H2 ⟨rfl,hn,as,g,rfl,Y,nd,na,all,f,Z,C,l,r,K,v⟩
 refine ⟨f,?_⟩
 by_cases hlt:n < ds.length
 ·refine .inr ⟨it.go n g H2 C l hlt,fun E R H'=>W (n+1) E H',fun E R H' hw=>⟨ds.length - (n+1),by omega,rfl,hlt,hw⟩,fun x H3 y=>?_⟩
  obtain ⟨L,o⟩:=it.yld n g H2 x H3 _ C l v (aA0 hlt) y
  refine aij (ak8 (ace (aqw (afq ⟨by decide,fun p A=>?_⟩))))
  have n2:H2 p=none:=aa4 o.hh A
  have n1:M p=none:=aa4 r n2
  have O:p ≠ c:=(aal (o.hh _ _ f) A).symm
  have D:p ∉ as:=fun z=>by
   have:=o.hh _ _ (all p z).2.2
   rw [this] at A;cases A
  refine ⟨by rw [aad O.symm];exact o.hh _ _ f,by rw [aA3,Y];exact big (by omega),as ++ [p],L,by simp,by simp [Y],?_,?_,fun b hb=>?_,aaf,?_,C.trans o.gg,fun a u e=>?_,fun a u e=>?_,fun a u e=>?_,fun a T e=>?_⟩
  ·rw [aE3]
   exact ⟨nd,by simp,fun x hx y hy=>by simp at hy;subst hy;intro e;subst e;exact D hx⟩
  ·intro z
   rcases aA7.mp z with z | z
   ·exact na z
   ·exact O (aC1.mp z).symm
  ·have gb:∀ b,g b=none->(∃ u,H2 b=some u)->L b=none:=fun b P z_=>by
    obtain ⟨u,X⟩:=z_
    cases e:L b with
    | none=>rfl
    | some w =>
     rcases o.gn b w e with e | e
     ·rw [P] at e;cases e
     ·rw [X] at e;cases e
   rcases aA7.mp hb with hb | hb
   ·obtain ⟨P,X,h3⟩:=all b hb
    refine ⟨P,gb b X ⟨_,h3⟩,?_⟩
    rw [aad (fun z:b=c=>na (by rw [← z];exact hb)),aad (fun z:b=p=>D (by rw [← z];exact hb))]
    exact o.hh _ _ h3
   ·have e:b=p:=by simpa using hb
    subst e
    exact ⟨n1,aa4 o.gh A,by rw [aad O,aaf]⟩
  ·cases e:L c with
   | none=>rfl
   | some w =>
    rcases o.gn c w e with e | e
    ·rw [Z] at e;cases e
    ·rw [f] at e;cases e
  ·have ap:a ≠ p:=aal (o.gh a u e) A
   have U:a ≠ c:=by
    rintro rfl
    rcases o.gn _ u e with e | e
    ·rw [Z] at e;cases e
    ·rw [f] at e;cases e
   rw [aad U,aad ap];exact o.gh a u e
  ·have ap:a ≠ p:=aal e n1
   have U:a ≠ c:=aal e d
   rw [aad U,aad ap];exact o.hh _ _ (r a u e)
  ·rcases o.gn a u e with e | e
   ·exact K a u e
   ·exact .inr (aa4 r e)
  ·by_cases z:a=c
   ·subst z;rw [aaf] at e;cases e
   ·rw [aad z] at e
    by_cases y:a=p
    ·subst y;rw [aaf] at e;cases e
    ·rw [aad y] at e;exact o.ft v a T e
 ·have e:n=ds.length:=by omega
  subst e
  refine .inl ⟨it.stop _ g H2 C l rfl,?_⟩
  have I2:=s.grow C l r K v
  refine k (.ref c) g H2 F1 (fun b=>b=c\/b∈as) (.own (OLL (List.replicate ds.length []))) S I2 (g1.trans C) ⟨⟨c,as,rfl,f,nd,na,by simp [Y],fun i b a0 hb hd=>?_,fun b=>Iff.rfl⟩,fun b z=>?_,fun b z=>?_,fun b z=>?_,fun j b z y=>?_⟩ q
  ·rw [aH0] at hd
   split at hd
   ·cases hd;exact ⟨[],(all b (aA2 hb)).2.2,.nil⟩
   ·cases hd
  ·rcases z with rfl | z
   ·exact s.no_b d
   ·exact s.no_b (all b z).1
  ·rcases z with rfl | z
   ·exact Z
   ·exact (all b z).2.1
  ·rcases z with rfl | z
   ·exact ⟨_,f⟩
   ·exact ⟨_,(all b z).2.2⟩
  ·rcases z with rfl | z
   ·exact s.no_f d j y
   ·exact s.no_f (all b z).1 j y
theorem ahy {d:List (List PyData)} {l j n:Nat} {k:Int} {y:PyData} {ds:List PyData} (e:env[i]?=some (some (.own (OLL d)))) (R:env[l]?=some (some (.st (.int k)))) (ey:env[j]?=some (some (.st y)))
  (hk:ixN d.length k=some n) (hd:d[n]?=some ds) (hl:ds.length<=999999) (q:Q' .none (env.set i (some (.own (OLL (d.set n (ds ++ [y]))))))):Ev B (tBM K "list" ac7 (tOp (acm K) (tVar i) (tVar l)) (aa1 (tVar j) tNil)) env Q':=fun σ G H F Q I T=>by
 obtain ⟨v,E,⟨a,as,rfl,h,L,N,ln,r,f⟩,_⟩:=I.sl i _ e
 obtain ⟨vk,C,P,_⟩:=I.sl l _ R
 obtain ⟨X,u,ry,_⟩:=I.sl j _ ey
 cases P
 have hn:n < d.length:=(aA1.mp hd).1
 have hb:as[n]?=some (as[n]'(by omega)):=aA0 _
 generalize as[n]'(by omega)=b at hb
 have s:b∈as:=aA2 hb
 obtain ⟨vs,O,M⟩:=r n b ds hb hd
 have w:atI (as.map V.ref) k=some (.ref b):=by
  unfold atI
  rw [aA3,ln,hk]
  simp [hb]
 refine ⟨_,E,_,C,ae2 h w ⟨.inl ⟨rfl,_,SqL.of O⟩,_,u,adh O (by rw [M.length];exact big (by omega)) ?_⟩⟩
 have x:a ≠ b:=fun z=>N (z ▸ s)
 have J:=I.change (A:=OLL (d.set n (ds ++ [y]))) (H2:=upd H b (.lst (vs ++ [X]))) (F2:=F i) (os':=.own (OLL (d.set n (ds ++ [y])))) i e E (fun c o p D=>by rw [aad (fun z:c=b=>p ((f c).mpr (.inr (by rw [z];exact s))))];exact D)
  (fun c o D=>by
   by_cases z:c=b
   ·rw [z];exact ⟨_,aaf⟩
   ·rw [aad z];exact ⟨o,D⟩)
  (fun c z=>⟨.inl z,by
   by_cases y:c=b
   ·rw [y];exact ⟨_,aaf⟩
   ·rw [aad y];exact I.fo i c z⟩) ?_ (fun c U e=>by
   by_cases z:c=b
   ·subst z;rw [aaf] at e;cases e
   ·rw [aad z] at e;exact I.ft c U e) (.inl ⟨rfl,_,rfl⟩)
 ·exact T _ G _ _ _ _ J (Same.refl _) .non q
 ·refine ⟨a,as,rfl,by rw [aad x];exact h,L,N,by simp [ln],fun m c es p g=>?_,f⟩
  by_cases hm:m=n
  ·subst hm
   rw [hb] at p;cases p
   rw [aD1,aE8 rfl,aE8 hn] at g
   cases g
   exact ⟨_,aaf,M.append (.cons ry .nil)⟩
  ·rw [aD1,aE9 (fun z=>hm z.symm)] at g
   obtain ⟨us,h3,h4⟩:=r m c es p g
   refine ⟨us,?_,h4⟩
   rw [aad]
   ·exact h3
   ·rintro rfl
    have i1:=(aA1.mp hb)
    have W:=(aA1.mp p)
    obtain ⟨Z,S⟩:=i1
    obtain ⟨Y,e2⟩:=W
    exact hm (nodup_ix L Y Z (e2.trans S.symm))
end
@[reducible] def prD (p:Int × Int):PyData:=.tuple [.int p.1,.int p.2]
@[reducible] def webD (n:Int) (es:List (Int × Int)):PyData:=.tuple [.int n,.list (es.map prD)]
def Tied (es:List (Int × Int)) (u v:Int):Prop:=(u,v)∈es\/(v,u)∈es
theorem Tied.symm {es:List (Int × Int)} {u v:Int} (h:Tied es u v):Tied es v u:=h.elim .inr .inl
def InN (n:Int) (es:List (Int × Int)):Prop:=∀ p∈es,0<=p.1/\p.1 < n/\0<=p.2/\p.2 < n
theorem Tied.in {n:Int} {es:List (Int × Int)} {u v:Int} (hi:InN n es) (h:Tied es u v):(0<=u/\u < n)/\0<=v/\v < n:=by
 rcases h with h | h
 ·have:=hi _ h;exact ⟨⟨this.1,this.2.1⟩,this.2.2⟩
 ·have:=hi _ h;exact ⟨⟨this.2.2.1,this.2.2.2⟩,this.1,this.2.1⟩
theorem Tied.snoc {es:List (Int × Int)} {i:Nat} {a b:Int} (h:es[i]?=some (a,b)) (u v:Int):Tied (es.take (i+1)) u v ↔ (Tied (es.take i) u v\/(u=a/\v=b))\/(u=b/\v=a):=by
 have e:es.take (i+1)=es.take i ++ [(a,b)]:=by rw [aG7,h];rfl
 unfold Tied
 rw [e]
 simp only [aA7,aC1,Prod.mk.injEq]
 constructor
 ·rintro ((h | ⟨rfl,rfl⟩) | (h | ⟨rfl,rfl⟩))
  ·exact .inl (.inl (.inl h))
  ·exact .inl (.inr ⟨rfl,rfl⟩)
  ·exact .inl (.inl (.inr h))
  ·exact .inr ⟨rfl,rfl⟩
 ·rintro (((h | h) | ⟨rfl,rfl⟩) | ⟨rfl,rfl⟩)
  ·exact .inl (.inl h)
  ·exact .inr (.inl h)
  ·exact .inl (.inr ⟨rfl,rfl⟩)
  ·exact .inr (.inr ⟨rfl,rfl⟩)
def TiedL (n:Int) (T:Int->Int->Prop) (tl:List (List Int)):Prop:=(tl.length:Int)=n/\∀ (i:Nat) ws,tl[i]?=some ws->∀ w,w∈ws ↔ T i w
def oD:Option Nat->PyData
 | none => .none
 | some d => .int d
def lab (n:Nat) (far:Int->Option Nat):List PyData:=(List.range n).map fun (i:Nat)=>oD (far (i:Int))
theorem acn {n:Nat} {far:Int->Option Nat}:(lab n far).length=n:=by simp [lab]
theorem adw {n:Nat} {far:Int->Option Nat} {i:Nat} (h:i < n):(lab n far)[i]?=some (oD (far i)):=by
 unfold lab
 rw [aA5,aA0 (by simpa using h)]
 simp
theorem arf {n:Nat} {far:Int->Option Nat} {v:Int} (a:0<=v) (h:v < n):atI (lab n far) v=some (oD (far v)):=by
 have:=adu (xs:=lab n far) (j:=v.toNat) (adw (by omega))
 rwa [show ((v.toNat:Nat):Int)=v by omega] at this
theorem ahz {n:Nat} {v:Int} (a:0<=v) (h:v < n):ixN n v=some v.toNat:=by
 unfold ixN;rw [aE8 a,aE8 h]
theorem an9 {n:Nat} {far:Int->Option Nat} {v:Int} {d:Nat} (a:0<=v) (h:v < n):(lab n far).set v.toNat (.int d)=lab n (Gr.label far v d):=by
 apply aF5
 intro i
 rw [aD1]
 by_cases e:v.toNat=i
 ·rw [aE8 e,aE8 (by rw [acn];omega),adw (by omega)]
  have:(i:Int)=v:=by omega
  rw [this,Gr.label_same];rfl
 ·rw [aE9 e]
  by_cases hi:i < n
  ·rw [adw hi,adw hi,Gr.label_ne (by omega)]
  ·rw [aF0.mpr (by rw [acn];omega),aF0.mpr (by rw [acn];omega)]
theorem arh {n:Nat} {f g:Int->Option Nat} (h:∀ v,0<=v->v < (n:Int)->f v=g v):lab n f=lab n g:=by
 unfold lab
 apply aE4
 intro i hi
 rw [h i (by omega) (by have:=aB8.mp hi;omega)]
theorem aw0 {o:Option Nat}:isNone (oD o)=o.isNone:=by cases o <;> rfl
theorem ah0 {α:Type} {f : α->PyData} {xs:List α} {i:Int} {x : α} (h:atI xs i=some x):atI (xs.map f) i=some (f x):=by
 unfold atI at h ⊢
 rw [aA3]
 cases e:ixN xs.length i with
 | none=>rw [e] at h;cases h
 | some j=>rw [e] at h;simp at h ⊢;exact ⟨_,h,rfl⟩
theorem acs {α:Type} {xs:List α} {i:Int} {x : α} (a:0<=i) (h:xs[i.toNat]?=some x):atI xs i=some x:=by
 have:=adu (xs:=xs) (j:=i.toNat) h
 rwa [show ((i.toNat:Nat):Int)=i by omega] at this
@[reducible] def tlD (tl:List (List Int)):List (List PyData):=tl.map fun ws=>ws.map .int
theorem TiedL.get {n:Int} {T:Int->Int->Prop} {tl:List (List Int)} (h:TiedL n T tl) {v:Int} (d:0<=v) (c:v < n):∃ b,tl[v.toNat]?=some b/\∀ w,w∈b ↔ T v w:=by
 have a:v.toNat < tl.length:=by have:=h.1;omega
 refine ⟨tl[v.toNat],aA0 a,fun w=>?_⟩
 rw [h.2 _ _ (aA0 a) w,show ((v.toNat:Nat):Int)=v by omega]
theorem adx {tl:List (List Int)} {i:Nat} {a:List Int} (h:tl[i]?=some a):(tlD tl)[i]?=some (a.map .int):=by
 rw [aA5,h];rfl
theorem TiedL.put {n:Int} {T:Int->Int->Prop} {tl:List (List Int)} (h:TiedL n T tl) {v q:Int} {c:List Int} (g:0<=v) (j:v < n) (d:tl[v.toNat]?=some c):TiedL n (fun a b=>T a b\/(a=v/\b=q)) (tl.set v.toNat (c ++ [q])):=by
 refine ⟨by rw [List.length_set];exact h.1,fun i us hi w=>?_⟩
 rw [aD1] at hi
 by_cases e:v.toNat=i
 ·rw [aE8 e] at hi
  have l:v.toNat < tl.length:=(aA1.mp d).1
  rw [aE8 (by omega)] at hi
  cases hi
  have f:(i:Int)=v:=by omega
  rw [aA7,aC1,h.2 i c (by rw [← e];exact d) w,f]
  simp
 ·rw [aE9 e] at hi
  rw [h.2 i us hi w]
  exact ⟨.inl,fun z=>z.elim id fun z=>by omega⟩
theorem agj {tl:List (List Int)} {i:Nat} {a:List Int}:(tlD tl).set i (a.map .int)=tlD (tl.set i a):=by
 unfold tlD;rw [List.map_set]
theorem TiedL.iff {n:Int} {T a:Int->Int->Prop} {tl:List (List Int)} (h:TiedL n T tl) (e:∀ u v,T u v ↔ a u v):TiedL n a tl:=⟨h.1,fun i b hi w=>(h.2 i b hi w).trans (e _ _)⟩
end VL
namespace VL
open PySem L2
def cnt (far:Int->Option Nat):Nat->Nat
 | 0=>0
 | n+1=>cnt far n+(if far (n:Int)=none then 1 else 0)
theorem afb {far:Int->Option Nat} {w:Int} {d:Nat}:∀ {n:Nat},(w:Int) ≥ n->cnt (Gr.label far w d) n=cnt far n
 | 0,_=>rfl
 | n+1,h=>by
  unfold cnt
  rw [afb (by omega),Gr.label_ne (by omega)]
theorem adl {far:Int->Option Nat} {w:Int} {d:Nat} (b:0<=w) (a:far w=none):∀ {n:Nat},w < (n:Int)->cnt (Gr.label far w d) n+1=cnt far n
 | 0,h=>by omega
 | n+1,h=>by
  unfold cnt
  by_cases e:w=n
  ·subst e
   rw [afb (by omega),Gr.label_same,a];simp
  ·rw [Gr.label_ne (by omega)]
   have:=adl b a (n:=n) (d:=d) (by omega)
   omega
theorem aw1 (n:Nat):(List.replicate n [PyData.none]).flatten=lab n (fun _=>none):=by
 apply aF5
 intro i
 by_cases hi:i < n
 ·rw [adw hi]
  have:(List.replicate n [PyData.none]).flatten=List.replicate n PyData.none:=by
   clear hi
   induction n with
   | zero=>rfl
   | succ n ih=>rw [aG6,List.flatten_cons,ih,aG6];rfl
  rw [this,aH0,aE8 hi];rfl
 ·rw [aF0.mpr (by rw [ani];simp;omega),aF0.mpr (by rw [acn];omega)]
theorem am6 {α:Type} {f : α->PyData} {xs:List α}:(xs.map f).isEmpty=xs.isEmpty:=by cases xs <;> rfl
theorem ab0 {xs:List Int} {j:Nat} {u w:Int} (a:xs[j]?=some u) (hm:w∈xs.take (j+1)):w∈xs.take j\/w=u:=by
 rw [aG7,a] at hm
 rcases aA7.mp hm with q | q
 ·exact .inl q
 ·exact .inr (by simpa using q)
theorem ari {n:Nat} {far:Int->Option Nat}:plainDs (lab n far)=true:=by
 rw [ael]
 intro d hd
 obtain ⟨i,_,rfl⟩:=aB6.mp hd
 cases far (i:Int) <;> rfl
theorem aw2 {n:Nat} {far:Int->Option Nat}:((lab n far).any fun z=>PyData.eqv z .none)=true ↔ ∃ v:Int,0<=v/\v < n/\far v=none:=by
 rw [List.any_eq_true]
 constructor
 ·rintro ⟨d,hd,e⟩
  obtain ⟨i,hi,rfl⟩:=aB6.mp hd
  refine ⟨i,by omega,by have:=aB8.mp hi;omega,?_⟩
  cases h:far (i:Int) with
  | none=>rfl
  | some d=>rw [h] at e;simp [oD,PyData.eqv] at e
 ·rintro ⟨v,b,a,h⟩
  refine ⟨oD (far v),?_,by rw [h];rfl⟩
  have:=adw (far:=far) (show v.toNat < n by omega)
  rw [show ((v.toNat:Nat):Int)=v by omega] at this
  exact aA2 this
def Joined (n:Int) (es:List (Int × Int)):Prop:=∀ v,0<=v->v < n->∃ d,Gr.Dist (Tied es) 0 v d
end VL
namespace DI
open PySem PySem.W
def Raw (h:Heap) (d:Addr) (es:Array DictEntry) (ep:Nat):Prop:=∃ o,h.get? d=some o/\o.ExactDict/\o.data=.dict es ep
theorem Raw.keep {h h':Heap} {d:Addr} {es:Array DictEntry} {ep:Nat} (r:Raw h d es ep) (k:∀ o,h.get? d=some o->h'.get? d=some o):Raw h' d es ep:=let ⟨o,e,x⟩:=r;⟨o,k o e,x⟩
theorem Raw.ty {s:Shared} {d:Addr} {es:Array DictEntry} {ep:Nat} (r:Raw s.heap d es ep):s.TypeIs (.ref d) "dict":=let ⟨o,e,x,_⟩:=r;⟨o,e,x.1⟩
section
variable {prog:Program} {w:World} {A:Around} {E:Value->Shared->Prop} {s:Shared} {d it:Addr} {es:Array DictEntry} {ep i:Nat}
theorem at5 {Q:Value->Shared->Prop} (hd:(d == sysModules)=false) (r:Raw s.heap d es ep)
  (c:Q (.ref s.heap.objs.size) { s with heap:=s.heap.push { cls:=.type "dict_keyiterator",data:=.fields #[.ref d,.int 0 0,.int es.size 0,.int ep 0] } }):wpAny (model prog w) A (pyIter (.ref d)) Q E s:=by
 obtain ⟨o,b,f,a⟩:=id r
 refine wpAny_pyIter_slot r.ty PySem.F.slot_dict_iter (aJ1 PySem.F.slot_dict_iter r.ty PySem.F.entry_dict_iter ?body (PySem.F.args_dict_iter_1 _))
 case body =>
  unfold Builtin.«dict.__iter__»
  refine aI0 ?slot
  case slot =>
   unfold Builtin.Dict.dictSlotNone
   refine aI0 (wpAny_notOrdered_dict r.ty ?pl)
   case pl =>
    show wpAny _ _ (pure (Value.ref d)) _ _ s
    refine aI1 ?rest
    case rest =>
     show wpAny _ _ (Builtin.Dict.showsAll d >>= _) _ _ s
     unfold Builtin.Dict.showsAll
     rw [aE9 (by rw [hd];exact aA9)]
     refine aI0 (aI1 (aI0 (wpAny_dictEntries b a (aI0 (wpAny_dictEpoch b a (aI0 (aI8 (aI1 ⟨_,rfl,"dict_keyiterator",_,⟨_,aI4 _ rfl,rfl⟩,PySem.F.slot_dict_keyiterator_next.lookup,?fin⟩))))))))
     case fin=>simpa [rawInt] using c
theorem at6 {Q:Option Value->Shared->Prop} (a:s.heap.IsKeyIter it d i es.size ep) (r:Raw s.heap d es ep) (hi:i < es.size)
  (v:∀ h',h'.IsKeyIter it d (i+1) es.size ep->Heap.SameBut it s.heap h'->Q (some es[i].key) { s with heap:=h' }):wpAny (model prog w) A (pyNext (.ref it)) Q E s:=by
 obtain ⟨o,q,u,hd⟩:=id a
 obtain ⟨od,n,x,p⟩:=r
 unfold pyNext
 refine aI0 (wpAny_attempt (wpAny_callSpecial?_slot (name:=Str.ofString "__next__") a.typeIs PySem.F.slot_dict_keyiterator_next (aJ1 PySem.F.slot_dict_keyiterator_next a.typeIs PySem.F.entry_dict_keyiterator_next ?b (PySem.F.args_dict_keyiterator_next_1 _))))
 case b =>
  refine aI0 (aI1 (aI0 (aI0 ?c)))
  case c =>
   first | refine aI0 (wpAny_typeNameOfWhole_keyiter a.typeIs (aI1 (aI0 (wpAny_fieldsOf q hd ?e)))) | refine aI0 (wpAny_typeNameOf_keyiter a.typeIs (aI1 (aI0 (wpAny_fieldsOf q hd ?e))))
   case e =>
    simp only [show Builtin.Dict_items.ownsTuple "dict_keyiterator" = false by decide,Bool.false_eq_true,if_false]
    show wpAny _ _ (if (Value.ref d == Value.none)=true then _ else _) _ _ s;rw [aE9 (show ¬ ((Value.ref d == Value.none)=true) from aA9)]
    refine aI0 (aI1 (aI0 (wpAny_dictEntries n p ?f)))
    case f =>
     rw [aE9 (by simp)];refine aI0 (aI1 (aI0 (wpAny_dictEpoch n p ?g)))
     case g =>
      rw [aE9 (by simp)];refine aI1 ?h
      case h =>
       simp only [show ¬ ((i:Int) < 0) by omega,if_false,Int.toNat_natCast,aA4 hi];refine aI0 ?j
       case j =>
        first | refine aI0 (wpAny_typeNameOfWhole_keyiter a.typeIs (aI1 (aI0 (wpAny_isOneOf_keyiter a.typeIs ?k)))) | refine aI0 (wpAny_typeNameOf_keyiter a.typeIs (aI1 (aI0 (wpAny_isOneOf_keyiter a.typeIs ?k))))
        case k =>
         show wpAny _ _ (setField (.ref it) 1 (rawInt ((i:Int)+1)) >>= _) _ _ s;refine aI0 (wpAny_setField q hd (by simp) ?l)
         case l =>
          have nx:(s.heap.update it (Obj.mapFields (·.setIfInBounds 1 (rawInt ((i:Int)+1))))).IsKeyIter it d (i+1) es.size ep:=⟨_,Heap.get?_update_self _ q (Obj.isFreed_of_fields (Obj.data_mapFields hd _)),(Obj.cls_mapFields ..).trans u,by rw [Obj.data_mapFields hd];simp [rawInt]⟩
          refine aI0 (aI5 (aI0 (wpAny_isOneOf_keyiter (s:={ s with heap:=s.heap.update it (Obj.mapFields (·.setIfInBounds 1 (rawInt ((i:Int)+1)))) }) nx.typeIs ?m)))
          case m=>show wpAny _ _ (pure es[i].key) _ _ _;exact aI1 (aI1 ⟨_,rfl,aI1 (v _ nx (Heap.SameBut.update ..))⟩)
theorem aw3 {Q:Option Value->Shared->Prop} (hh:A.handled=none) (i:s.heap.IsKeyIter it d es.size es.size ep) (r:Raw s.heap d es ep) (v:∀ h',Heap.ExtBut it s.heap h'->Q none { s with heap:=h' }):wpAny (model prog w) A (pyNext (.ref it)) Q E s:=by
 obtain ⟨o,u,y,hd⟩:=id i
 obtain ⟨od,n,x,p⟩:=r
 unfold pyNext
 refine aI0 (wpAny_attempt (wpAny_callSpecial?_slot (name:=Str.ofString "__next__") i.typeIs PySem.F.slot_dict_keyiterator_next (aJ1 PySem.F.slot_dict_keyiterator_next i.typeIs PySem.F.entry_dict_keyiterator_next ?b (PySem.F.args_dict_keyiterator_next_1 _))))
 case b =>
  refine aI0 (aI1 (aI0 (aI0 ?c)))
  case c =>
   first | refine aI0 (wpAny_typeNameOfWhole_keyiter i.typeIs (aI1 (aI0 (wpAny_fieldsOf u hd ?e)))) | refine aI0 (wpAny_typeNameOf_keyiter i.typeIs (aI1 (aI0 (wpAny_fieldsOf u hd ?e))))
   case e =>
    simp only [show Builtin.Dict_items.ownsTuple "dict_keyiterator" = false by decide,Bool.false_eq_true,if_false]
    show wpAny _ _ (if (Value.ref d == Value.none)=true then _ else _) _ _ s;rw [aE9 (show ¬ ((Value.ref d == Value.none)=true) from aA9)]
    refine aI0 (aI1 (aI0 (wpAny_dictEntries n p ?f)))
    case f =>
     rw [aE9 (by simp)];refine aI0 (aI1 (aI0 (wpAny_dictEpoch n p ?g)))
     case g =>
      rw [aE9 (by simp)];refine aI1 ?h
      case h =>
       simp only [show ¬ ((es.size:Int) < 0) by omega,if_false,Int.toNat_natCast,Array.getElem?_eq_none (aA6 es.size)];refine aI0 ?j
       case j =>
        first | refine aI0 (wpAny_typeNameOfWhole_keyiter i.typeIs (aI1 ?k)) | refine aI0 (wpAny_typeNameOf_keyiter i.typeIs (aI1 ?k))
        case k =>
         show wpAny _ _ (setField (.ref it) 0 .none >>= _) _ _ s;refine aI0 (wpAny_setField u hd (by simp) ?l)
         case l =>
          show wpAny _ _ (newExc (.type "StopIteration") [] >>= _) _ _ _;refine aI0 ?m
          case m =>
           simp only [newExc,newTuple];refine aI0 (aI8 ?zz2 (by size_fits))
           case zz2 =>
            refine aI0 (m:=firstArgMember _ _) (wpAny_of_eq (a:=Value.none) (by first | rfl | (simp only [firstArgMember];rfl)) (aI8 ?zz1 (by size_fits)))
            case zz1 =>
             simp only [raiseNew];refine aI0 (wpAny_handled ?q)
             case q =>
              rw [show A.in1.handled=none from hh];refine aI0 (aI1 (wpAny_throw ?u1))
              case u1=>refine aI0 (wpAny_isInstance (T:="StopIteration") (b:=true) ⟨_,aI4 _ rfl,rfl⟩ isSubtype_stop ?u2);exact aI1 (v _ (((Heap.SameBut.update ..).extBut.push _).push _))
end
theorem walks {prog:Program} {w:World} {A:Around} (hh:A.handled=none) (I d:Addr) (c:d ≠ I) (es:Array DictEntry) (ep:Nat) :
  Walks prog w A I [I,d] [I] es.size (fun i v=>(es[i]?).map (·.key)=some v) (fun i h=>h.IsKeyIter I d i es.size ep/\Raw h d es ep) where
 sub:=fun b hb=>by simp at hb;simp [hb]
 frame:=fun _ _ _ st f=>⟨st.1.at fun o e=>f I (by simp) o e,st.2.keep fun o e=>f d (by simp) o e⟩
 item:=fun i s Q E hi st a=>at6 st.1 st.2 hi fun h' nx sb=>a _ h' s.toks (by rw [aA4 hi];rfl) ⟨nx,st.2.keep fun o e=>sb.extBut d o c e⟩ fun b o hb e=>sb.extBut b o (fun z=>hb (by simp [z])) e
 done:=fun s Q E st a=>aw3 hh st.1 st.2 fun h' g=>a h' s.toks fun b o hb e=>g b o (fun z=>hb (by simp [z])) e
 self:=fun _ _ _ _ st a=>wpAny_pyIter_keyiter st.1 a
end DI
namespace DI
open PySem PySem.W PyProof.Rows
section
variable {prog:Program} {w:World} {A:Around} {E:Value->Shared->Prop} {s:Shared}
theorem src (d:Addr) (es:Array DictEntry) (ep:Nat) (hd:(d == sysModules)=false):KdlSrc prog w "dict" d d es.size (fun i v=>(es[i]?).map (·.key)=some v) (fun h=>Raw h d es ep) where
 type:=fun s r=>r.ty
 there:=fun h r=>let ⟨o,e,_⟩:=r;⟨aI3 e,aI3 e⟩
 keep:=fun h h' r k=>r.keep fun o e=>k d (.inl rfl) o e
 notList:=by decide
 notTuple:=by decide
 hint:=fun A E s Q r q=>kdl_hint_dict r.ty q
 iter:=fun A s hh r=>⟨{ cls:=.type "dict_keyiterator",data:=.fields #[.ref d,.int 0 0,.int es.size 0,.int ep 0] },fun i h=>h.IsKeyIter s.heap.objs.size d i es.size ep/\Raw h d es ep,fun E Q q=>at5 hd r q,
  walks hh s.heap.objs.size d (by obtain ⟨o,e,_⟩:=r;exact aB5 (aI3 e)) es ep,⟨_,aI4 _ rfl,rfl,rfl⟩,r.keep fun o e=>aI2 _ e⟩
theorem collect_src {T:String} {r d:Addr} {n:Nat} {P:Nat->Value->Prop} {j:Heap->Prop} {Q:List Value->Shared->Prop} (K:KdlSrc prog w T r d n P j) (hh:A.handled=none) (hok:j s.heap) (hn:n<=sizeLine)
  (m:∀ h' i (f:Array Value),(∀ b o,s.heap.get? b=some o->h'.get? b=some o)->s.heap.objs.size<=h'.objs.size->ItemsOf P f n->Q f.toList { s with heap:=h',toks:=i }):wpAny (model prog w) A (collect (.ref r)) Q E s:=by
 unfold collect
 refine aI0 (wpAny_runValue (codeAny_builtin PySem.F.entry_proto_collect ?a1))
 case a1 =>
  rw [aI9 PySem.F.plain_proto_collect _];show wpAny _ A.in1 (newList [] >>= fun l=>again (.builtin "list.__iadd__" ⟨[l,.ref r],[]⟩)) _ _ s
  refine aI0 (aI8 (aI1 ⟨plainId_quiet PySem.F.plain_list_iadd _,codeAny_builtin PySem.F.entry_list_iadd ?a2⟩))
  case a2 =>
   rw [aI9 PySem.F.plain_list_iadd _];show wpAny _ A.in1 (Builtin.List.listExtendWith (.ref s.heap.objs.size) (.ref r) (.ref s.heap.objs.size)) _ _ _
   have u:(s.heap.push { cls:=.type "list",data:=.seq ([]:List Value).toArray }).get? s.heap.objs.size=some { cls:=.type "list",data:=.seq #[] 0 }:=aI4 _ rfl
   obtain ⟨q,x⟩:=K.there _ hok
   refine kdl_extend (R:=wants (fun v p=>wpAny (model prog w) A (match v with | .ref a=>(do match (← load a).data with | .seq xs _=>pure xs.toList | _=>unsupported "internal:collect") | _=>unsupported "internal:collect") Q E p) E) (s:={ s with heap:=s.heap.push { cls:=.type "list",data:=.seq ([]:List Value).toArray } }) K hh (K.keep _ _ hok fun b _ o e=>aI2 _ e) s.heap.objs.size (Nat.ne_of_gt q) (Nat.ne_of_gt x) _ 0 u (fun h' i f c k h g=>?a3) hn
   case a3 =>
    show wpAny (model prog w) A _ Q E _
    refine aI0 (wpAny_load h ?a4)
    case a4=>exact aI1 (m h' i f (fun b o e=>k b o (aB5 (aI3 e)) (aI2 _ e)) (aF8 (aI3 h)) g)
end
end DI
namespace TS
open PySem PySem.W PyProof.Rows
section
variable {prog:Program} {w:World} {A:Around} {E:Value->Shared->Prop} {s:Shared}
theorem sorted_gen {l:Addr} {Ok:List Value->Prop} {Q:Value->Shared->Prop}
  (j:∀ (D:List Value->Shared->Prop),(∀ vs h d,(∀ b o,s.heap.get? b=some o->h.get? b=some o)->s.heap.objs.size<=h.objs.size->Ok vs->D vs { s with heap:=h,toks:=d })->wpAny (model prog w) A.in1 (collect (.ref l)) D E s)
  (c:∀ vs,Ok vs->vs.length<=sizeLine)
  (B:∀ vs,Ok vs->2<=vs.length->∀ h' d,(∀ b o,s.heap.get? b=some o->h'.get? b=some o)->∃ κ S R,(∀ (Q:SortKind->Shared->Prop),Q κ { s with heap:=h',toks:=d }->wpAny (model prog w) A.in1.in1 (keyKind' vs.toArray) Q E { s with heap:=h',toks:=d }) /\
   Cmp (model prog w) A.in1.in1 E { s with heap:=h',toks:=d } κ S R/\(∀ v∈vs,S (v,v))/\∀ out:List Value,out.Perm vs->out.Pairwise (fun x y=>R (y,y) (x,x)=false) ->
    ∀ a h' d e,(∀ b o,s.heap.get? b=some o->h'.get? b=some o)->s.heap.objs.size<=a->h'.get? a=some (seqObj "list" out.toArray e)->Q (.ref a) { s with heap:=h',toks:=d })
  (h:∀ vs,Ok vs->vs.length < 2->∀ a h' d e,(∀ b o,s.heap.get? b=some o->h'.get? b=some o)->s.heap.objs.size<=a->h'.get? a=some (seqObj "list" vs.toArray e)->Q (.ref a) { s with heap:=h',toks:=d }) :
  wpAny (model prog w) A (call (.builtin "sorted") [.ref l]) Q E s:=by
 refine Calls.call_function_entry kind_sorted plain_sorted entry_sorted (args_sorted1 _) ?_
 unfold Builtin.«sorted»
 refine aI0 (m:=checkCount "sorted" 1 1 _) (aI1 (aI0 (j _ fun vs g d kp hsz r=>?_)))
 have c:=c vs r
 refine aI0 (wpAny_newList ?_ c)
 have f:(g.push (seqObj "list" vs.toArray 0)).get? g.objs.size=some (seqObj "list" vs.toArray 0):=aI4 _ rfl
 have keep:∀ b o,s.heap.get? b=some o->(g.push (seqObj "list" vs.toArray 0)).get? b=some o:=fun b o q=>aI2 _ (kp b o q)
 refine aI0 (aI5 (aJ1 slot_list_sort ⟨_,f,rfl⟩ entry_list_sort ?body (args_list_sort _)))
 case body =>
  have fin:∀ out:List Value,∃ e,(sortedHeap (g.push (seqObj "list" vs.toArray 0)) g.objs.size vs out.toArray).get? g.objs.size=some (seqObj "list" out.toArray e):=fun out=>sortedHeap_at (n:=0) f
  have old:∀ (out:List Value) b o,s.heap.get? b=some o->(sortedHeap (g.push (seqObj "list" vs.toArray 0)) g.objs.size vs out.toArray).get? b=some o:=fun out b o e=>by
   have lt:=aI3 (kp b o e)
   rw [sortedHeap_old (aB5 lt) (by rw [size_push'];exact aF1 lt)];exact keep b o e
  refine afa (s:={ s with heap:=g.push (seqObj "list" vs.toArray 0),toks:=d }) f c (fun p h' G=>?_) fun u=>?_
  ·obtain ⟨κ,S,R,H,C,I,i⟩:=B vs r p h' d fun b o e=>G b o (aB5 (aI3 (kp b o e))) (keep b o e)
   refine ⟨κ,S,R,H,C,I,fun out F J=>⟨_,rfl,aI1 ⟨_,rfl,?_⟩⟩⟩
   obtain ⟨e,z⟩:=fin out
   exact i out F J _ _ _ e (old out) hsz z
  ·obtain ⟨e,z⟩:=fin vs
   exact ⟨_,rfl,aI1 ⟨_,rfl,h vs r u _ _ _ e (old vs) hsz z⟩⟩
end
end TS
namespace L2
open PySem PySem.Spec PyProof.Rows
section
variable {X:Cx} {pins:List (Addr × Obj)} {σ:St} {H:Hp} {s:Shared} {h':Heap}
end
section
variable {X:Cx} {elts:List Expr} {k:Nat} {tpos:Pos}
end
section
variable {X:Cx} {elts:List Expr} {k:Nat} {tpos:Pos}
end
theorem ai3:∀ {xs:List V} {us:List Value},xs.length=us.length->(∀ (i:Nat) v u,xs[i]?=some v->us[i]?=some u->RelV v u)->Vals xs us
 | [],[],_,_ => .nil
 | [],_ :: _,h,_=>by simp at h
 | _ :: _,[],h,_=>by simp at h
 | x :: xs,u :: us,h,k => .cons (k 0 x u rfl rfl) (ai3 (by simpa using h) fun i v w b a=>k (i+1) v w (by simpa using b) (by simpa using a))
theorem am7 (prog:Program) (w:World) (A:Around) {bs:List Bool} {us:List Value} (r:Vals (bs.map V.bl) us):TruthOf prog w A (fun i v=>us.toArray[i]?=some v) (fun i=>bs.getD i false):=by
 intro i v s Q E d h
 have a:us[i]?=some v:=by simpa using d
 have hi:i < us.length:=(aA1.mp a).1
 have hb:i < bs.length:=by have:=r.length;simp at this;omega
 obtain ⟨u,b,c⟩:=r.get (i:=i) (x:=.bl bs[i]) (by simp [hb])
 rw [a] at b;cases b
 cases (show v=Value.bool bs[i] from c)
 have e:bs.getD i false=bs[i]:=by simp [List.getD,hb]
 have h':Q (bs.getD i false) s:=h
 rw [e] at h'
 exact aJ2 h'
section
variable {X:Cx}
theorem arj (bs:List Bool):((List.range bs.length).all fun i=>bs.getD i false)=bs.all id:=by
 rw [aH1,aE7,aE7]
 constructor
 ·intro h b hb
  obtain ⟨i,hi,e⟩:=aG9.mp hb
  have:=h i (aB8.mpr hi)
  simp [List.getD,hi,e] at this
  exact this
 ·intro h i hi
  have a:=aB8.mp hi
  have:=h bs[i] (List.getElem_mem a)
  simp [List.getD,a];exact this
def rAll (K:Frag):List V->Hp->VK->Prop:=fun xs H Q=>∃ (a:Addr) (bs:List Bool),xs=[.ref a]/\SqL K H a (bs.map V.bl)/\Q (.bl (bs.all id)) H
theorem ajs (i:X.calm=true):aa2 X (.builtin "all") (rAll X.K):=by
 intro pins s σ H xs us Q I r h
 obtain ⟨a,bs,rfl,ha,q⟩:=h
 obtain ⟨u,rfl,f⟩:=ab9 r
 cases f
 obtain ⟨its,d,c,_⟩:=I.list ha
 have g:a < s.heap.objs.size:=by obtain ⟨o,n,e,_⟩:=c;exact aI3 e
 have hz:its.toArray.size=bs.length:=by have:=d.length;simp at this;simp [this]
 refine call_all_walk (aJ3 c.isList ⟨_,[s.heap.objs.size,a],_,_,_,_,_,rfl,Walks.list (A:=X.A.in1) (I.ok.hd i) _ a (aB5 g) its.toArray,⟨⟨_,aI4 _ rfl,rfl,rfl⟩,c.isList.push _⟩,am7 _ _ _ d,fun j l kp=>?_⟩)
 rw [hz,arj]
 refine ⟨.bl _,H,I.kept fun b o e=>kp b o (fun z=>?_) (aI2 _ e),rfl,q⟩
 exact absurd (aI3 e) (by rw [aC1.mp z];exact aF7 _)
def al1 (K:Frag):List V->Hp->VK->Prop:=fun xs H Q=>∃ p ys,xs=[.ref p]/\(SqL K H p ys\/SqT K H p ys)/\∀ l,H l=none->Q (.ref l) (upd H l (.lst ys))
theorem ah1:aa2 X (.type "list") (al1 X.K):=akz
def ah2 (ta:TA):TE:=fun σ H Q=>ta σ H fun vs H1=>∃ j:Int,vs=[.int j]/\0<=j/\j<=1000000/\∀ l,H1 l=none->Q (.ref l) (upd H1 l (.lst ((List.range j.toNat).map fun (i:Nat)=>V.int (i:Int))))
theorem al2 {a:Expr} {z:TA} {O p2 r d:Pos} (E:Gl X "list") (hm:X.mg "list" = none) (x:Gl X "range") (w:X.mg "range" = none) (F:X.calm=true) (ha:PA X [a] z) (A:starEach [a] X.env=[(false,eval a X.env)]:=by rfl)
  (l:starEach [.Call (.Name "range" p2) [a] [] d] X.env=[(false,eval (.Call (.Name "range" p2) [a] [] d) X.env)]:=by rfl):PE X (.Call (.Name "list" O) [.Call (.Name "range" p2) [a] [] d] [] r) (ah2 z):=by
 intro pins s σ H Q I h
 refine Call_ (adz I E hm aeq (PyProof.Rows.callWith_type1 ?_ l rfl))
 rw [l]
 refine Calls.spliced_cons (Call_ (adz I x w boot_range (PyProof.Rows.callWith_type1 (thn (ha d pins s σ H _ I h) fun us s1 ⟨vs,R,y,N,j,B,S,T,q⟩=>?_) A rfl)))
 subst B
 obtain ⟨u,rfl,t,rfl⟩:=ab9 N
 refine call_range_1 (Calls.spliced_nil ?_)
 have G:IsRange (s1.heap.push { cls:=.type "range",data:=.fields #[.int 0 s1.toks,.int j t,.int 1 (s1.toks+1)] }) s1.heap.objs.size 0 j 1 s1.toks t (s1.toks+1):=aI4 _ rfl
 have hn:Builtin.Range.rangeSize 0 j 1=((j.toNat:Nat):Int):=by rw [rangeSize_one];split <;> omega
 refine call_list_range (s:={ s1 with heap:=s1.heap.push { cls:=.type "range",data:=.fields #[.int 0 s1.toks,.int j t,.int 1 (s1.toks+1)] },toks:=s1.toks+1+1 }) (y.ok.hd F) G (small_one (by omega) (by omega) (by omega) (by omega)) hn (by omega) fun C J g c kp K items=>?_
 have P:∀ b o,s1.heap.get? b=some o->C.get? b=some o:=fun b o e=>kp b o (aI2 _ e)
 have f:s1.heap.objs.size<=(s1.heap.push { cls:=.type "range",data:=.fields #[.int 0 s1.toks,.int j t,.int 1 (s1.toks+1)] }).objs.size:=by rw [aJ0];exact Nat.le_succ _
 refine ⟨.ref _,_,y.laid (t':=J) (o:=.lst ((List.range j.toNat).map fun (i:Nat)=>V.int (i:Int))) P f ?_,rfl,q _ (y.hok.fresh f)⟩
 refine ⟨by rw [aA3,List.length_range];exact aF8 (VL.big (by omega)),g.toList,c,?_,by simpa using K⟩
 obtain ⟨D,p⟩:=items
 refine ai3 (by simp [D]) fun i v u n L=>?_
 have m:g[i]?=some u:=by simpa using L
 obtain ⟨t',M⟩:=p i u m
 rw [aA5] at n
 have hi:i < j.toNat:=by
  have:=(Array.getElem?_eq_some_iff.mp m).1
  omega
 rw [aA0 (by simpa using hi)] at n
 simp at n
 subst n
 exact ⟨t',by rw [M];simp⟩
end
section
variable {X:Cx} {pins:List (Addr × Obj)} {σ:St} {H:Hp} {s:Shared}
end
theorem KT.get {H:Hp}:∀ {kvs:List (List Key × V)} {xs:List (List Key × Addr × Value)} {i:Nat} {p:List Key × V},KT H kvs xs->kvs[i]?=some p->∃ q,xs[i]?=some q/\p.1=q.1/\H q.2.1=some (.tup (p.1.map kV))
 | _,_,_,_,.nil,e=>by simp at e
 | _,_,0,_,.cons r _,e=>by simp at e;subst e;exact ⟨_,rfl,r.1,r.2.1⟩
 | _,_,i+1,p,.cons _ t,e=>by
  obtain ⟨q,b,a⟩:=KT.get (i:=i) (p:=p) t (by simpa using e)
  exact ⟨q,by simpa using b,a⟩
section
variable {X:Cx} {tg:Expr}
def agk:List V->Hp->VK->Prop:=fun xs H Q=>∃ (a:Addr) (kvs:List (List Key × V)) (kss:List (List Int)),xs=[.ref a]/\H a=some (.dT kvs)/\kvs.map (·.1)=kss.map (fun ns=>ns.map Sum.inl)/\(∀ ns∈kss,ns ≠ []) /\
 ∀ (vs:List V) (p:Addr),(∀ v∈vs,TupI H v)->(vs.map (kH H)).Perm kss->vs.Pairwise (fun x y=>HT.lexLt (kH H y) (kH H x)=false)->H p=none->Q (.ref p) (upd H p (.lst vs))
theorem aoa {H:Hp}:∀ {kvs:List (List Key × V)} {xs:List (List Key × Addr × Value)} {a:List (List Int)},KT H kvs xs->kvs.map (·.1)=a.map (fun ns=>ns.map Sum.inl)->(∀ ns∈a,ns ≠ []) ->
  (∀ v∈xs.map (fun q=>V.ref q.2.1),TupI H v)/\(xs.map (fun q=>V.ref q.2.1)).map (kH H)=a
 | _,_,[],.nil,_,_=>⟨fun v b=>by simp at b,rfl⟩
 | _,_,_ :: _,.nil,h,_=>by simp at h
 | _,_,[],.cons _ _,h,_=>by simp at h
 | p :: kvs,q :: xs,ns :: a,.cons r t,h,hn=>by
  simp only [aD0,List.cons.injEq] at h
  obtain ⟨c,d⟩:=aoa t h.2 fun f hm=>hn f (aB4 _ hm)
  have e:H q.2.1=some (.tup (ns.map V.int)):=by
   rw [r.2.1,h.1,aD8];rfl
  refine ⟨fun v b=>?_,?_⟩
  ·rcases aA8.mp b with rfl | b
   ·exact ⟨_,ns,rfl,e,hn ns aB7⟩
   ·exact c v b
  ·rw [aD0,aD0,akl e,d]
theorem agt (hc:X.calm=true):aa2 X (.builtin "sorted") agk:=by
 intro pins s σ H xs us Q I r h
 obtain ⟨a,kvs,a1,rfl,hH,hk,G,q⟩:=h
 obtain ⟨u,rfl,U⟩:=ab9 r
 cases U
 obtain ⟨z,y,ys,n,o,es,ep,Y,m,Z,O,h5⟩:=(show ObjOk X.prog X.w H s.heap a (.dT kvs) from I.hok a _ hH)
 obtain ⟨D,S⟩:=aoa n hk G
 have hz:es.size=ys.length:=by
  have e1:es.toList.length=ys.length:=by rw [O];simp
  simpa using e1
 have f:ys.length<=sizeLine:=by have:=Paired.length n;omega
 let c:List Value:=ys.map fun q => .ref q.2.1
 have M:Vals (ys.map fun q=>V.ref q.2.1) c:=ai3 (by simp [c]) fun i v u d B=>by
  rw [aA5] at d B
  cases e:ys[i]? with
  | none=>rw [e] at d;cases d
  | some q=>rw [e] at d B;cases d;cases B;rfl
 obtain ⟨b1,L⟩:=afw M D
 have fin:∀ out:List Value,out.Perm c->(out.map ac1).Pairwise (fun x y=>HT.lexLt (kH H y) (kH H x)=false)->∀ p m g e,(∀ b o,s.heap.get? b=some o->m.get? b=some o)->s.heap.objs.size<=p->m.get? p=some (seqObj "list" out.toArray e)->EP X pins σ Q (.ref p) { s with heap:=m,toks:=g }:=by
  intro out j E p m g e kp hsz he
  have d:Vals (out.map ac1) out:=afv fun u B=>b1 u (j.mem_iff.mp B)
  refine ⟨.ref p,_,I.laid (t':=g) (o:=.lst (out.map ac1)) kp hsz ?_,rfl,q _ _ (fun v F=>?_) ?_ E (I.hok.fresh hsz)⟩
  ·refine ⟨by rw [aA3,j.length_eq];simp [c];exact f,out,e,d,by rw [he]⟩
  ·have:=(j.map ac1).mem_iff.mp F
   rw [L] at this;exact D v this
  ·have:=(j.map ac1).map (kH H)
   rw [L,S] at this;exact this
 refine TS.sorted_gen (Ok:=fun vs=>vs=c) (fun Qc J=>DI.collect_src (DI.src a es ep y) (I.ok.hd hc) ⟨o,Y,m,Z⟩ (by omega) fun h' g l kp hsz items=>J _ h' g kp hsz ?_) (fun vs e=>by subst e;simp [c];exact f) (fun vs e a0 h' g kp=>?_) fun vs e K=>?_
 ·obtain ⟨i1,i2⟩:=items
  apply aF5
  intro i
  simp only [c,aA5]
  by_cases hi:i < ys.length
  ·have ha:l[i]?=some l[i]:=aA4 (by omega)
   have:(es[i]?).map (·.key)=some l[i]:=i2 i _ ha
   have N:es[i]?=some es[i]:=aA4 (by omega)
   rw [N] at this
   have C:es.toList[i]?=some es[i]:=by rw [aD4];exact N
   rw [O,aA5,aA0 hi] at C
   rw [aA0 hi]
   simp at this C
   rw [aD4,ha,← this,← C];rfl
  ·rw [aF0.mpr (by simp;omega),aF0.mpr (by omega)];rfl
 ·subst e
  obtain ⟨⟨fs,k1,k2,k3⟩,P⟩:=agz I kp M D
  have A:(Value.type "int" != Value.type "tuple")=true:=by rfl
  refine ⟨tuples' true,TS.tS h' (fun a=>kH H (.ref a)),TS.tR (fun a=>kH H (.ref a)),fun Q' J=>?_,TS.cmp_tups (s:={ s with heap:=h',toks:=g }) (fun a=>kH H (.ref a)),fun v d=>?_,fun out j E=>fin out j ?_⟩
  ·refine PySem.W.kat_kind (T:=.type "int") (s:={ s with heap:=h',toks:=g }) k1 (by omega) (fun v d=>?_) (by rfl) ?_
   ·obtain ⟨i,t,rfl⟩:=k3 v d
    exact .now
   ·rw [A];exact J
  ·obtain ⟨a,e,R⟩:=P v d
   exact ⟨rfl,a,e,R⟩
  ·rw [aF4]
   refine aH3 ?_ E
   intro x y hx hy hr
   obtain ⟨ax,rfl⟩:=b1 x (j.mem_iff.mp hx)
   obtain ⟨ay,rfl⟩:=b1 y (j.mem_iff.mp hy)
   exact hr
 ·subst e
  exact fin c (List.Perm.refl _) (alt (by rw [aA3];exact K))
end
end L2
namespace VL
open PySem PySem.Spec L2
section
variable {B:Bs} {env:En} {QI:List PyData->En->Prop} {QO:Sl->En->Prop} {Q':PyData->En->Prop} {K:Frag} {i:Nat} {ta:TA}
theorem RpT.len {G:Hp}:∀ {kvs:List (List Key × V)} {es:List (List Key × PyData)},RpT G kvs es->kvs.length=es.length/\kvs.map (·.1)=es.map (·.1)
 | _,_,.nil=>⟨rfl,rfl⟩
 | _,_,.cons _ t=>by
  obtain ⟨b,a⟩:=RpT.len t
  exact ⟨by simp [b],by simp [a]⟩
@[reducible] def tkD (ks:List Key):PyData:=.tuple (ks.map kD)
@[reducible] def tiD (ns:List Int):PyData:=.tuple (ns.map .int)
def lexS (pss:List (List Int)):Prop:=pss.Pairwise fun x y=>HT.lexLt y x=false
theorem ag4 {G H:Hp} (ft:FT G H):∀ {vs:List V},(∀ v∈vs,TupI H v)->Rps G vs ((vs.map (kH H)).map tiD)
 | [],_ => .nil
 | v :: vs,h=>by
  obtain ⟨t,ns,rfl,e,_⟩:=h v aB7
  rw [aD0,aD0,akl e]
  have:(ns.map V.int)=(ns.map (fun i=>(Sum.inl i:Key))).map kV:=by rw [aD8];rfl
  refine .cons (.tup ?_ (Rps.ints ns)) (ag4 ft fun u a=>h u (aB4 _ a))
  rw [this];exact ft t _ (by rw [← this];exact e)
theorem agu {G H:Hp} (gh:Same G H):∀ {vs:List V} {pss:List (List Int)},Rps G vs (pss.map tiD)->(∀ ns∈pss,ns ≠ [])->(∀ v∈vs,TupI H v)/\vs.map (kH H)=pss
 | _,[],.nil,_=>⟨fun v d=>by simp at d,rfl⟩
 | v :: vs,ns :: pss,.cons r t,hn=>by
  obtain ⟨b,c⟩:=agu gh t fun f hm=>hn f (aB4 _ hm)
  cases r with
  | tup h rs =>
   have:=Rps.ints_inv rs
   subst this
   have e:=gh _ _ h
   refine ⟨fun u a=>?_,by rw [aD0,akl e,c]⟩
   rcases aA8.mp a with rfl | a
   ·exact ⟨_,ns,rfl,e,hn ns aB7⟩
   ·exact b u a
theorem ark {pss:List (List Int)} (hn:∀ ns∈pss,ns ≠ []) (h:EvA B ta env fun ds e=>ds=[.list (pss.map tiD)]/\∀ b:List (List Int),b.Perm pss->lexS b->QO (.own (OL (b.map tiD))) e):EvO B (tCB (ahr K) ta) env QO:=fun σ G H F Q I k =>
 h σ G H F _ I fun vs A d z ds q c s x l=>by
  obtain ⟨n,m⟩:=l
  subst n
  cases x with
  | cons r t =>
   cases t
   cases r with
   | @lst a us _ ha rs =>
    obtain ⟨g,y⟩:=agu c.gh rs hn
    refine ⟨a,us,rfl,SqL.of (c.gh _ _ ha),g,fun u p f i hf=>?_⟩
    have w:∀ v∈u,TupI d v:=fun v j=>g v (f.mem_iff.mp j)
    have o:=Out.newL c.gh hf (ag4 c.ft w)
    refine k _ _ _ z _ _ q (c.out o).1 (s.trans o.gg) (c.out o).2 (m _ ?_ ?_)
    ·have:=f.map (kH d);rw [y] at this;exact this
    ·unfold lexS;rw [aF4];exact i
theorem apj {es:List (List Key × PyData)} {b:List (List Int)} (j:Has env i (OT es)) (m:es.map (·.1)=b.map (fun ns=>ns.map Sum.inl)) (hn:∀ ns∈b,ns ≠ []) (q:∀ c:List (List Int),c.Perm b->lexS c->QO (.own (OL (c.map tiD))) env):EvO B (tCB agk (aa1 (tVar i) tNil)) env QO:=fun σ G H F Q I k=>by
 obtain ⟨v,l,a,kvs,rfl,ha,rt,hf⟩:=I.has j
 obtain ⟨r,g⟩:=RpT.len rt
 refine ⟨_,l,a,kvs,b,rfl,ha,by rw [g,m],hn,fun s p n h f d=>?_⟩
 have o:=Out.newL I.gh d (ag4 I.ft n)
 refine k _ _ _ F _ _ env (I.out o).1 o.gg (I.out o).2 (q _ h ?_)
 unfold lexS;rw [aF4];exact f
end
section
variable {B:Bs} {env:En} {QO:Sl->En->Prop} {Q':PyData->En->Prop} {K:Frag} {i:Nat} {ta:TA} {R:Sl->Prop}
theorem Rps.bools_inv {G:Hp}:∀ {bs:List Bool} {vs:List V},Rps G vs (bs.map PyData.bool)->vs=bs.map V.bl
 | [],_,.nil=>rfl
 | b :: bs,_,.cons r t=>by
  cases r
  rw [Rps.bools_inv t];rfl
theorem aob {bs:List Bool} (h:R (.st (.bool (bs.all id)))):OpA (rAll K) [.list (bs.map .bool)] R:=fun G H vs Q gh rs k=>by
 cases rs with
 | cons r t =>
  cases t
  cases r with
  | lst ha ra =>
   have:=Rps.bools_inv ra
   subst this
   exact ⟨_,bs,rfl,SqL.of (gh _ _ ha),k _ _ _ _ _ (Out.refl gh (.bl _)) h⟩
theorem at7 {ds:List PyData} (h:R (.own (OL ds))):OpA (al1 K) [.list ds] R:=fun G H vs Q gh rs k=>by
 cases rs with
 | cons r t =>
  cases t
  cases r with
  | lst ha ra=>exact ⟨_,_,rfl,.inl (SqL.of (gh _ _ ha)),fun p a=>k _ _ _ _ _ (Out.newL gh a ra) h⟩
theorem arl {G:Hp} (n:Nat):Rps G ((List.range n).map fun (i:Nat)=>V.int (i:Int)) (rngD 0 n):=by
 unfold rngD
 refine al0 (by simp) fun i v d a hd=>?_
 rw [aA5] at a hd
 cases e:(List.range n)[i]? with
 | none=>rw [e] at a;cases a
 | some m=>rw [e] at a hd;cases a;cases hd;show Rp G (.int (m:Int)) (.int (0+(m:Int)));rw [Int.zero_add];exact .int _
theorem ajt (h:EvA B ta env fun ds e=>∃ j:Int,ds=[.int j]/\0<=j/\j<=1000000/\QO (.own (OL (rngD 0 j.toNat))) e):EvO B (ah2 ta) env QO:=fun σ G H F Q I k =>
 h σ G H F _ I fun vs s r q ds i a m n d=>by
  obtain ⟨j,g,b,l,f⟩:=d
  subst g
  obtain rfl:vs=[V.int j]:=Rps.ints_inv (ns:=[j]) n
  refine ⟨j,rfl,b,l,fun p c=>?_⟩
  have o:=Out.newL a.gh c (arl j.toNat)
  exact k _ _ _ q _ _ i (a.out o).1 (m.trans o.gg) (a.out o).2 f
theorem at8 (h:EvA B ta env fun ds e=>∃ j:Int,ds=[.int j]/\0<=j/\j<=1000000/\Q' (.list (rngD 0 j.toNat)) e):Ev B (ah2 ta) env Q':=abk (ajt fun σ G H F Q I k=>h σ G H F Q I fun vs G' H' F' ds d f g r ⟨j,a,b,c,q⟩=>k vs G' H' F' ds d f g r ⟨j,a,b,c,acr q⟩)
end
section
variable {κ:Type} [DecidableEq κ] {α:Type}
def valD (es:List (κ × α)) (k : κ):Option α:=(es.find? fun e=>decide (e.1=k)).map (·.2)
def putD (es:List (κ × α)) (k : κ) (d : α):List (κ × α):=if (es.any fun e=>decide (e.1=k))=true then es.map (fun e=>if e.1=k then (e.1,d) else e) else es ++ [(k,d)]
end
theorem RpK.val {G:Hp} {k:Key}:∀ {kvs:List (Key × V)} {es:List (Key × PyData)},RpK G kvs es->(valD es k=none->valV kvs k=none)/\∀ d,valD es k=some d->∃ v,valV kvs k=some v/\Rp G v d
 | _,_,.nil=>⟨fun _=>rfl,fun d h=>by cases h⟩
 | _,_,.cons (k:=k') r t=>by
  obtain ⟨a,c⟩:=RpK.val (k:=k) t
  by_cases e:k'=k
  ·refine ⟨fun h=>by simp [valD,e] at h,fun d h=>?_⟩
   simp [valD,e] at h
   subst h
   exact ⟨_,by simp [valV,e],r⟩
  ·refine ⟨fun h=>?_,fun d h=>?_⟩
   ·simp [valV,e];simp [valD,e] at h
    have:=a (by simp [valD];exact h)
    simpa [valV] using this
   ·obtain ⟨v,f,b⟩:=c d (by simpa [valD,e] using h)
    exact ⟨v,by simpa [valV,e] using f,b⟩
theorem RpK.any {G:Hp} {k:Key}:∀ {kvs:List (Key × V)} {es:List (Key × PyData)},RpK G kvs es->(kvs.any fun e=>decide (e.1=k))=es.any fun e=>decide (e.1=k)
 | _,_,.nil=>rfl
 | _,_,.cons r t=>by simp [RpK.any t]
theorem RpK.map {G:Hp} {k:Key} {v:V} {d:PyData} (h:Rp G v d):∀ {kvs:List (Key × V)} {es:List (Key × PyData)},RpK G kvs es->RpK G (kvs.map fun e=>if e.1=k then (e.1,v) else e) (es.map fun e=>if e.1=k then (e.1,d) else e)
 | _,_,.nil => .nil
 | _,_,.cons (k:=k') r t=>by
  by_cases e:k'=k
  ·simp only [aD0,e,if_true];exact .cons h (RpK.map h t)
  ·simp only [aD0,e,if_false];exact .cons r (RpK.map h t)
theorem RpK.append {G:Hp}:∀ {a b:List (Key × V)} {c d:List (Key × PyData)},RpK G a c->RpK G b d->RpK G (a ++ b) (c ++ d)
 | _,_,_,_,.nil,s=>s
 | _,_,_,_,.cons r t,s => .cons r (RpK.append t s)
theorem RpK.put {G:Hp} {k:Key} {v:V} {d:PyData} (h:Rp G v d) {kvs:List (Key × V)} {es:List (Key × PyData)} (r:RpK G kvs es):RpK G (putK kvs k v) (putD es k d):=by
 unfold putK putD
 rw [r.any]
 split
 ·exact r.map h
 ·exact r.append (.cons h .nil)
theorem RpT.any {G:Hp} {k:List Key}:∀ {kvs:List (List Key × V)} {es:List (List Key × PyData)},RpT G kvs es->(kvs.any fun e=>decide (e.1=k))=es.any fun e=>decide (e.1=k)
 | _,_,.nil=>rfl
 | _,_,.cons r t=>by simp [RpT.any t]
theorem RpT.map {G:Hp} {k:List Key} {v:V} {d:PyData} (h:Rp G v d):∀ {kvs:List (List Key × V)} {es:List (List Key × PyData)},RpT G kvs es->RpT G (kvs.map fun e=>if e.1=k then (e.1,v) else e) (es.map fun e=>if e.1=k then (e.1,d) else e)
 | _,_,.nil => .nil
 | _,_,.cons (k:=k') r t=>by
  by_cases e:k'=k
  ·simp only [aD0,e,if_true];exact .cons h (RpT.map h t)
  ·simp only [aD0,e,if_false];exact .cons r (RpT.map h t)
theorem RpT.append {G:Hp}:∀ {a b:List (List Key × V)} {c d:List (List Key × PyData)},RpT G a c->RpT G b d->RpT G (a ++ b) (c ++ d)
 | _,_,_,_,.nil,s=>s
 | _,_,_,_,.cons r t,s => .cons r (RpT.append t s)
theorem RpT.put {G:Hp} {k:List Key} {v:V} {d:PyData} (h:Rp G v d) {kvs:List (List Key × V)} {es:List (List Key × PyData)} (r:RpT G kvs es):RpT G (putK kvs k v) (putD es k d):=by
 unfold putK putD
 rw [r.any]
 split
 ·exact r.map h
 ·exact r.append (.cons h .nil)
theorem RpK.length {G:Hp}:∀ {kvs:List (Key × V)} {es:List (Key × PyData)},RpK G kvs es->kvs.length=es.length
 | _,_,.nil=>rfl
 | _,_,.cons _ t=>by simp [RpK.length t]
theorem akp {G:Hp} {v:V} {k:Key} (r:Rp G v (kD k)):v=kV k:=by
 cases k with
 | inl i=>cases r;rfl
 | inr x=>cases r;rfl
theorem al3 {G:Hp}:∀ {a:List Key} {vs:List V},Rps G vs (a.map kD)->vs=a.map kV
 | [],_,.nil=>rfl
 | k :: a,_,.cons r t=>by rw [akp r,al3 t];rfl
section
variable {B:Bs} {env:En} {QO:Sl->En->Prop} {Q':PyData->En->Prop} {D':VEnds} {i:Nat} {te ty tv td:TE}
theorem arm (q:QO (.own (OT [])) env):EvO B ak3 env QO:=fun σ G H F Q I k p a=>by
 have o:=Out.newDT (ds:=[]) I.gh a .nil
 exact k _ _ _ F _ _ env (I.out o).1 o.gg (I.out o).2 q
theorem arn {es0:List (List Key × PyData)} (h:Ev B tv env fun d n=>Has n i (OT es0)/\Ev B ty n fun y q=>∃ es j,q[i]?=some (some (.own (OT es)))/\y=tkD j/\es.length<=999999/\D'.nx (q.set i (some (.own (OT (putD es j d)))))):EvS B (ahh (tVar i) ty tv) D' env:=fun σ G H F D I r =>
 h σ G H F _ I fun v O x P d n u E M A=>by
  obtain ⟨z,C⟩:=A
  obtain ⟨v0,l,a,kvs,rfl,ha,rt,_⟩:=u.has z
  refine ⟨_,l,C σ O x P _ u fun Q L H2 F2 y q m w K ⟨es,j,c,J,S,N⟩=>?_⟩
  subst J
  obtain ⟨T,f,⟨R,s,o,p,g,hf⟩,hb⟩:=m.sl i _ c
  rw [l] at f;cases f;cases o
  cases K with
  | tup hk rs =>
   have:=al3 rs
   subst this
   refine ⟨a,_,rfl,DPut.t p (m.gh _ _ hk) (by rw [(RpT.len g).1];exact big (by omega)),?_⟩
   exact r.nx σ L _ _ _ (m.upd1 (A':=OT (putD es j d)) c (.inl rfl) l hf ⟨a,_,rfl,aaf,g.put (M.same w),fun b=>Iff.rfl⟩) (E.trans w) N
theorem aro {es0:List (Key × PyData)} (h:Ev B tv env fun d l=>Has l i (OD es0)/\Ev B ty l fun y o=>∃ es k,o[i]?=some (some (.own (OD es)))/\y=kD k/\es.length<=999999/\D'.nx (o.set i (some (.own (OD (putD es k d)))))):EvS B (ahh (tVar i) ty tv) D' env:=fun σ G H F D I r =>
 h σ G H F _ I fun v O w P d l s C M z=>by
  obtain ⟨x,A⟩:=z
  obtain ⟨v0,j,a,kvs,rfl,ha,rt,_⟩:=s.has x
  refine ⟨_,j,A σ O w P _ s fun Q K H2 F2 y o q u J ⟨es,L,c,E,S,N⟩=>?_⟩
  subst E
  obtain ⟨T,f,⟨R,p,m,n,g,hf⟩,hb⟩:=q.sl i _ c
  rw [j] at f;cases f;cases m
  have:=akp J
  subst this
  refine ⟨a,_,rfl,DPut.k n (by rw [g.length];exact big (by omega)),?_⟩
  exact r.nx σ K _ _ _ (q.upd1 (A':=OD (putD es L d)) c (.inl rfl) j hf ⟨a,_,rfl,aaf,g.put (M.same u),fun b=>Iff.rfl⟩) (C.trans u) N
theorem apk {es0:List (Key × PyData)} (h:Ev B ty env fun y c=>∃ es k,Has c i (OD es)/\y=kD k/\Q' (.bool (!(valD es k).isSome)) c):Ev B (af9 ty (tVar i)) env Q':=fun σ G H F Q I k =>
 h σ G H F _ I fun w r H2 F2 y c f s o l=>by
  obtain ⟨es,b,g,n,q⟩:=l
  subst n
  obtain ⟨v,j,a,kvs,rfl,ha,rt,_⟩:=f.has g
  have:=akp o
  subst this
  refine ⟨_,j,a,_,rfl,DGet.k ha,?_⟩
  have e:(valV kvs b).isSome=(valD es b).isSome:=by
   obtain ⟨p,u⟩:=rt.val (k:=b)
   cases hd:valD es b with
   | none=>rw [p hd];rfl
   | some d=>obtain ⟨v,m,_⟩:=u d hd;rw [m];rfl
  rw [e]
  exact k _ r H2 F2 _ c f s (.bl _) q
end
section
variable {B:Bs} {env:En} {QO:Sl->En->Prop} {Q':PyData->En->Prop} {QE:En->Prop} {D':VEnds} {K:Frag} {i:Nat} {ta:TA}
theorem aw4 {j:Int} {R:Int->Prop} (b:0<=j) (a:j<=1000000) (h:R j):∃ i:Int,[PyData.int j]=[.int i]/\0<=i/\i<=1000000/\R i:=⟨j,rfl,b,a,h⟩
theorem x_dT {es:List (List Key × PyData)} {a b:Int} {d:En} {R:List (List Key × PyData)->List Key->Prop} (e:d[i]?=some (some (.own (OT es)))) (f:es.length<=999999) (q:R es [.inl a,.inl b]):∃ es c,d[i]?=some (some (.own (OT es)))/\PyData.tuple [.int a,.int b]=tkD c/\es.length<=999999/\R es c:=⟨es,_,e,rfl,f,q⟩
theorem x_dK {es:List (Key × PyData)} {a:Int} {b:En} {R:List (Key × PyData)->Key->Prop} (e:b[i]?=some (some (.own (OD es)))) (c:es.length<=999999) (q:R es (.inl a)):∃ es k,b[i]?=some (some (.own (OD es)))/\PyData.int a=kD k/\es.length<=999999/\R es k:=⟨es,_,e,rfl,c,q⟩
theorem x_dN {es:List (Key × PyData)} {a:Int} {b:En} {R:List (Key × PyData)->Key->Prop} (e:Has b i (OD es)) (q:R es (.inl a)):∃ es k,Has b i (OD es)/\PyData.int a=kD k/\R es k:=⟨es,_,e,rfl,q⟩
end
def ltP (p q:Int × Int):Prop:=p.1 < q.1\/(p.1=q.1/\p.2 < q.2)
@[reducible] def p2 (p:Int × Int):List Int:=[p.1,p.2]
theorem lex2 (p q:Int × Int):HT.lexLt (p2 p) (p2 q)=true ↔ ltP p q:=by
 obtain ⟨a,b⟩:=p
 obtain ⟨c,d⟩:=q
 simp [p2,HT.lexLt,ltP]
 split <;> omega
theorem ah3 {a:List (List Int)} {ps:List (Int × Int)} (h:a.Perm (ps.map p2)):∃ qs:List (Int × Int),a=qs.map p2/\qs.Perm ps:=by
 refine ⟨a.map fun l=>(l.getD 0 0,l.getD 1 0),?_,?_⟩
 ·rw [aD8]
  symm
  conv=>rhs;rw [← List.map_id a]
  apply aE4
  intro l b
  obtain ⟨p,_,rfl⟩:=aB6.mp (h.mem_iff.mp b)
  rfl
 ·have:=h.map fun l=>(l.getD 0 0,l.getD 1 0)
  rw [aD8] at this
  have e:((fun l:List Int=>(l.getD 0 0,l.getD 1 0)) ∘ p2)=id:=by funext p;rfl
  rw [e,List.map_id] at this
  exact this
def Rise (es:List (Int × Int)):Prop:=es.Pairwise ltP
theorem agl (p:Int × Int):¬ ltP p p:=by unfold ltP;omega
theorem aw5 (p q:Int × Int):ltP p q\/p=q\/ltP q p:=by
 obtain ⟨a,b⟩:=p
 obtain ⟨c,d⟩:=q
 unfold ltP
 simp only [Prod.mk.injEq]
 omega
theorem arp {p q r:Int × Int} (h:ltP p q) (g:ltP q r):ltP p r:=by unfold ltP at *;omega
theorem ai4 {qs ps:List (Int × Int)} (c:qs.Perm ps) (hn:ps.Nodup) (a:lexS (qs.map p2)):Rise qs:=by
 have b:qs.Nodup:=c.nodup_iff.mpr hn
 unfold lexS at a
 rw [aF4] at a
 unfold Rise
 refine (List.Pairwise.and a b).imp fun {p q} h=>?_
 have d:¬ ltP q p:=fun z=>by rw [(lex2 q p).mpr z] at h;exact absurd h.1 (by simp)
 rcases aw5 p q with z | z | z
 ·exact z
 ·exact absurd z h.2
 ·exact absurd z d
theorem Rise.nodup {es:List (Int × Int)} (h:Rise es):es.Nodup:=h.imp fun {p q} z (e:p=q)=>agl q (by rw [e] at z;exact z)
theorem Rise.eq:∀ {as bs:List (Int × Int)},Rise as->Rise bs->(∀ p,p∈as ↔ p∈bs)->as=bs
 | [],[],_,_,_=>rfl
 | [],b :: _,_,_,h=>by have:=(h b).mpr aB7;simp at this
 | a :: _,[],_,_,h=>by have:=(h a).mp aB7;simp at this
 | a :: as,b :: bs,ha,hb,h=>by
  obtain ⟨c,i⟩:=List.pairwise_cons.mp ha
  obtain ⟨d,j⟩:=List.pairwise_cons.mp hb
  have e:a=b:=by
   rcases aA8.mp ((h a).mp aB7) with e | e
   ·exact e
   ·rcases aA8.mp ((h b).mpr aB7) with f | f
    ·exact f.symm
    ·exact absurd (arp (c b f) (d a e)) (agl a)
  subst e
  have:=Rise.eq i j fun p=>by
   have g:=h p
   simp only [aA8] at g
   constructor
   ·intro m
    rcases g.mp (.inr m) with e | e
    ·subst e;exact absurd (c p m) (agl p)
    ·exact e
   ·intro m
    rcases g.mpr (.inr m) with e | e
    ·subst e;exact absurd (d p m) (agl p)
    ·exact e
  rw [this]
structure WebOk (n:Int) (es:List (Int × Int)):Prop where
 lo:1<=n
 hi:n<=60
 inn:∀ p∈es,0<=p.1/\p.1 < p.2/\p.2 < n
 rise:Rise es
theorem aju {n:Nat} {es:List (Int × Int)} (hn:es.Nodup) (hi:∀ p∈es,0<=p.1/\p.1 < (n:Int)/\0<=p.2/\p.2 < (n:Int)):es.length<=n * n:=by
 have h:(es.map fun (p:Int × Int)=>p.1 * (n:Int)+p.2).Nodup:=by
  unfold List.Nodup
  rw [aF4]
  refine aH3 ?_ hn
  intro p q c j d e
  have a:=hi p c
  have b:=hi q j
  apply d
  have f:p.1=q.1:=by
   rcases Int.lt_trichotomy p.1 q.1 with z | z | z
   ·have:(p.1+1) * n<=q.1 * n:=Int.mul_le_mul_of_nonneg_right (by omega) (by omega)
    rw [Int.add_mul] at this;omega
   ·exact z
   ·have:(q.1+1) * n<=p.1 * n:=Int.mul_le_mul_of_nonneg_right (by omega) (by omega)
    rw [Int.add_mul] at this;omega
  rw [f] at e
  exact Prod.ext f (by omega)
 have:=L2.few_places (n * n) _ h fun v g=>by
  obtain ⟨p,c,rfl⟩:=aB6.mp g
  have a:=hi p c
  have l:0<=p.1 * (n:Int):=Int.mul_nonneg a.1 (by omega)
  have i:(p.1+1) * (n:Int)<=n * n:=Int.mul_le_mul_of_nonneg_right (by omega) (by omega)
  rw [Int.add_mul] at i
  push_cast
  omega
 simpa using this
theorem WebOk.len {n:Int} {es:List (Int × Int)} (h:WebOk n es):es.length<=3600:=by
 have:=aju (n:=n.toNat) h.rise.nodup fun p b=>by have:=h.inn p b;have:=h.lo;omega
 have a:n.toNat<=60:=by have:=h.hi;omega
 exact aC9 this (Nat.mul_le_mul a a)
def kE (ps:List (Int × Int)):List (List Key × PyData):=ps.map fun p=>([Sum.inl p.1,Sum.inl p.2],.bool true)
def addP (ps:List (Int × Int)) (p:Int × Int):List (Int × Int):=if p∈ps then ps else ps ++ [p]
theorem aeg {ps:List (Int × Int)}:(kE ps).length=ps.length:=by simp [kE]
theorem al4 (ps:List (Int × Int)) (a b:Int):putD (kE ps) [Sum.inl a,Sum.inl b] (.bool true)=kE (addP ps (a,b)):=by
 have c:((kE ps).any fun e=>decide (e.1=[Sum.inl a,Sum.inl b]))=decide ((a,b)∈ps):=by
  rw [aH1,List.any_eq_true,decide_eq_true_iff]
  constructor
  ·rintro ⟨e,f,h⟩
   obtain ⟨p,d,rfl⟩:=aB6.mp f
   simp at h
   obtain ⟨g,p2⟩:=p
   simp at h
   rw [← h.1,← h.2];exact d
  ·intro h
   exact ⟨_,aB6.mpr ⟨(a,b),h,rfl⟩,by simp⟩
 unfold putD
 rw [c]
 unfold addP
 by_cases h:(a,b)∈ps
 ·rw [aE8 (by simpa using h),aE8 h]
  unfold kE
  rw [aD8]
  apply aE4
  intro p _
  simp only [Function.comp]
  split <;> rfl
 ·rw [aE9 (by simpa using h),aE9 h]
  simp [kE]
theorem addP_mem {ps:List (Int × Int)} {p q:Int × Int}:q∈addP ps p ↔ q∈ps\/q=p:=by
 unfold addP
 split
 ·rename_i h
  exact ⟨.inl,fun z=>z.elim id fun e=>e ▸ h⟩
 ·simp
theorem apl {ps:List (Int × Int)} {p:Int × Int} (h:ps.Nodup):(addP ps p).Nodup:=by
 unfold addP
 split
 ·exact h
 ·rename_i hn
  rw [aE3]
  exact ⟨h,by simp,fun x b y a=>by simp at a;subst a;rintro rfl;exact hn b⟩
theorem ag5 {ps:List (Int × Int)} {p:Int × Int}:(addP ps p).length<=ps.length+1:=by
 unfold addP;split <;> simp
theorem aw6 (ps:List (Int × Int)):(kE ps).map (·.1)=(ps.map p2).map (fun ns=>ns.map Sum.inl):=by
 unfold kE;rw [aD8,aD8];rfl
theorem azn:([]:List (List Key × PyData))=kE []:=rfl
theorem al5 (ps:List (Int × Int)):(ps.map p2).map tiD=ps.map prD:=by rw [aD8];rfl
theorem au7 {ps:List (Int × Int)}:∀ ns∈ps.map p2,ns ≠ []:=fun ns h=>by
 obtain ⟨p,_,rfl⟩:=aB6.mp h
 simp
section
variable {B:Bs} {env:En} {QO:Sl->En->Prop} {K:Frag} {i:Nat} {ta:TA}
theorem aeh {ps:List (Int × Int)} (h:EvA B ta env fun ds e=>ds=[.list (ps.map prD)]/\∀ qs:List (Int × Int),qs.Perm ps->lexS (qs.map p2)->QO (.own (OL (qs.map prD))) e):EvO B (tCB (ahr K) ta) env QO :=
 ark (pss:=ps.map p2) au7 fun σ G H F Q I k=>h σ G H F Q I fun vs G' H' F' ds e f g r ⟨d,q⟩=>k vs G' H' F' ds e f g r ⟨by rw [al5];exact d,fun c b a=>by
  obtain ⟨qs,rfl,i⟩:=ah3 b
  rw [al5];exact q qs i a⟩
theorem ah4 {ps:List (Int × Int)} (d:Has env i (OT (kE ps))) (q:∀ qs:List (Int × Int),qs.Perm ps->lexS (qs.map p2)->QO (.own (OL (qs.map prD))) env):EvO B (tCB agk (aa1 (tVar i) tNil)) env QO :=
 apj d (aw6 ps) au7 fun b c a=>by
  obtain ⟨qs,rfl,f⟩:=ah3 c
  rw [al5];exact q qs f a
end
def OW (d:PyData) (ds:List PyData):Own where
 P:=fun G H v F=>∃ t l u vs,v=.ref t/\H t=some (.tup [u,.ref l])/\Rp G u d/\H l=some (.lst vs)/\Rps G vs ds/\∀ b,F b ↔ b=t\/b=l
 mono:=fun ⟨t,l,u,vs,e,h1,r1,h2,r2,f⟩ g hh=>⟨t,l,u,vs,e,hh t _ ((f t).mpr (.inl rfl)) h1,r1.same g,hh l _ ((f l).mpr (.inr rfl)) h2,r2.same g,f⟩
 dom:=fun ⟨t,l,u,vs,e,h1,r1,h2,r2,f⟩ b z=>by
  rcases (f b).mp z with rfl | rfl
  ·exact ⟨_,h1⟩
  ·exact ⟨_,h2⟩
theorem al6 {d:PyData} {ds:List PyData}:Frz (OW d ds) (.tuple [d,.list ds]):=fun G H v F ⟨t,l,u,vs,e,c,b,a,h,f⟩ n g=>by
 subst e
 exact .tup (by rw [ac5 ((f t).mpr (.inl rfl))];exact c) (.cons (b.same (abb n)) (.cons (.lst (by rw [ac5 ((f l).mpr (.inr rfl))];exact a) (h.same (abb n))) .nil))
theorem apm {d:PyData} {ds:List PyData} {R:PyData->Prop} (h:R (.tuple [d,.list ds])):FQ (.own (OW d ds)) R:=⟨_,al6,h⟩
section
variable {B:Bs} {env:En} {QO:Sl->En->Prop} {Q':PyData->En->Prop} {K:Frag} {i j:Nat} {ta te:TE}
theorem al7 {u:V} {l:Addr} {a:List Key}:HO.tup [u,.ref l] ≠ .tup (a.map kV):=by
 intro z
 injection z with z
 match a,z with
 | [],z=>cases z
 | [_],z=>cases z
 | [_,k],z =>
  simp at z
  cases k <;> simp [kV] at z
 | _ :: _ :: _ :: _,z=>simp at z
theorem at9 {i:List PyData} (N:env[j]?=some (some (.own (OL i)))) (h:Ev B ta env fun d g=>∃ ds,g[j]?=some (some (.own (OL ds)))/\QO (.own (OW d ds)) (g.set j none)):EvO B (tTup (aa1 ta (aa1 (tVar j) tNil))) env QO:=fun σ G H F Q I k =>
 h σ G H F _ I fun v u x s d g c E L A=>by
  obtain ⟨ds,y,q⟩:=A
  obtain ⟨w,M,⟨l,vs,rfl,r,rs,hf⟩,hb⟩:=c.sl j _ y
  refine ⟨_,M,⟨by show (2:Nat)<=sizeLine;decide,fun p f=>?_⟩⟩
  have n:s j l:=(hf l).mpr rfl
  have pl:p ≠ l:=(aal r f).symm
  have D:=c.drop j
  have C:∀ m a,(a=p\/a=l)->¬ putF s j (fun _=>False) m a:=fun m a ha z=>by
   by_cases hm:m=j
   ·subst hm;exact putF_same.mp z
   ·rw [aa7 hm] at z
    rcases ha with rfl | rfl
    ·exact c.no_f f m z
    ·exact hm (c.fd m j a z n)
  have J:VI B u (upd x p (.tup [v,.ref l])) σ (g.set j none) (putF s j fun _=>False):=D.grow (Same.refl _) (c.gh.trans (abe f)) (abe f) (fun a o e => .inl e) fun a K e=>by
   by_cases z:a=p
   ·subst z;rw [aaf] at e;exact absurd (aC5 e) al7
   ·rw [aad z] at e;exact c.ft a K e
  refine k _ u _ _ (fun a=>a=p\/a=l) (.own (OW d ds)) _ J E ⟨⟨p,l,v,vs,rfl,aaf,L,by rw [aad pl.symm];exact r,rs,fun b=>Iff.rfl⟩,fun a z=>?_,fun a z=>?_,fun a z=>?_,fun m a z=>C m a z⟩ q
  ·rcases z with rfl | rfl
   ·exact c.no_b f
   ·exact hb a n
  ·rcases z with rfl | rfl
   ·exact c.no_g f
   ·exact c.fg j a n
  ·rcases z with rfl | rfl
   ·exact ⟨_,aaf⟩
   ·exact ⟨_,by rw [aad pl.symm];exact r⟩
theorem x_ow {ds:List PyData} {a:En} {R:List PyData->Prop} (e:a[j]?=some (some (.own (OL ds)))) (q:R ds):∃ ds,a[j]?=some (some (.own (OL ds)))/\R ds:=⟨ds,e,q⟩
theorem am8 {d:PyData} {ds:List PyData} {a b:Int} (D:env[i]?=some (some (.own (OW d ds)))) (R:ds.length<=999999) (q:Q' .none (env.set i (some (.own (OW d (ds ++ [.tuple [.int a,.int b]])))))):Ev B (tBM K "list" ac7 (tOp (acm K) (tVar i) (tC (.int 1))) (aa1 (tTup (aa1 (tC (.int a)) (aa1 (tC (.int b)) tNil))) tNil)) env Q':=fun σ G H F Q I k=>by
 obtain ⟨v,C,⟨t,l,u,vs,rfl,h,P,g,E,f⟩,hb⟩:=I.sl i _ D
 refine ⟨_,C,ale h at1 ⟨.inl ⟨rfl,_,SqL.of g⟩,?_⟩⟩
 refine ⟨by show (2:Nat)<=sizeLine;decide,fun p j=>?_⟩
 have o:=Out.newT (ds:=[.int a,.int b]) I.gh j (.cons (.int a) (.cons (.int b) .nil))
 have m:=(I.out o).1
 have tl:t ≠ l:=aey h g (by intro z;cases z)
 have M:l ≠ p:=aal g j
 have L:t ≠ p:=aal h j
 have r:upd H p (.tup [.int a,.int b]) l=some (.lst vs):=by rw [aad M];exact g
 have s:upd H p (.tup [.int a,.int b]) t=some (.tup [u,.ref l]):=by rw [aad L];exact h
 refine adh r (by rw [E.length];exact big (by omega)) ?_
 have J:=m.change (A:=OW d (ds ++ [.tuple [.int a,.int b]])) (H2:=upd (upd H p (.tup [.int a,.int b])) l (.lst (vs ++ [.ref p]))) (F2:=F i) (os':=.own (OW d (ds ++ [.tuple [.int a,.int b]]))) i D C (fun c w N x=>by rw [aad (fun z:c=l=>N ((f c).mpr (.inr z)))];exact x)
  (fun c w x=>by
   by_cases z:c=l
   ·rw [z];exact ⟨_,aaf⟩
   ·rw [aad z];exact ⟨w,x⟩)
  (fun c z=>⟨.inl z,by
   by_cases y:c=l
   ·rw [y];exact ⟨_,aaf⟩
   ·rw [aad y];exact m.fo i c z⟩) ?_ (fun c O e=>by
   by_cases z:c=l
   ·subst z;rw [aaf] at e;cases e
   ·rw [aad z] at e;exact m.ft c O e) (.inl ⟨rfl,_,rfl⟩)
 ·exact k _ _ _ _ _ _ J o.gg .non q
 ·have n:Rp (upd G p (.tup [.int a,.int b])) (.ref p) (.tuple [.int a,.int b]):=o.ok.1
  exact ⟨t,l,u,_,rfl,by rw [aad tl];exact s,P.same o.gg,aaf,(E.same o.gg).append (.cons n .nil),f⟩
end
section
variable {B:Bs} {env:En} {Q':PyData->En->Prop} {D':VEnds} {i:Nat} {ty tv:TE}
theorem apn {a:List (List Key × PyData)} (g:env[i]?=some (some (.own (OT a)))) (h:Ev B tv env fun d c=>Has c i (OT a)/\Ev B ty c fun y f=>∃ es b,f[i]?=some (some (.own (OT es)))/\y=tkD b/\es.length<=999999/\D'.nx (f.set i (some (.own (OT (putD es b d)))))):EvS B (ahh (tVar i) ty tv) D' env:=arn h
theorem apo {a:List (Key × PyData)} (f:env[i]?=some (some (.own (OD a)))) (h:Ev B tv env fun d b=>Has b i (OD a)/\Ev B ty b fun y c=>∃ es k,c[i]?=some (some (.own (OD es)))/\y=kD k/\es.length<=999999/\D'.nx (c.set i (some (.own (OD (putD es k d)))))):EvS B (ahh (tVar i) ty tv) D' env:=aro h
theorem am9 {a:List (Key × PyData)} (c:Has env i (OD a)) (h:Ev B ty env fun y b=>∃ es k,Has b i (OD es)/\y=kD k/\Q' (.bool (!(valD es k).isSome)) b):Ev B (af9 ty (tVar i)) env Q':=apk (es0:=[]) h
end
section
variable {R:Sl->Prop} {K:Frag}
theorem aw7 {p q:Int × Int} (h:R (.st (.bool (HT.lexLt (p2 p) (p2 q))))):Op2 (rLtT K) (prD p) (prD q) R:=fun G H g f Q gh d c k=>by
 cases d with
 | tup ha ra =>
  cases c with
  | tup hb rb =>
   have a:=Rps.ints_inv (ns:=p2 p) ra
   have b:=Rps.ints_inv (ns:=p2 q) rb
   subst a b
   exact ⟨_,_,p2 p,p2 q,rfl,rfl,SqT.of (gh _ _ ha),SqT.of (gh _ _ hb),k _ _ _ _ _ (Out.refl gh (.bl _)) h⟩
end
theorem arq (p:Int × Int):aap (prD p)=true:=rfl
theorem ah5 (ps:List (Int × Int)):plainDs (ps.map prD)=true:=by
 rw [ael]
 intro d hd
 obtain ⟨p,_,rfl⟩:=aB6.mp hd
 rfl
theorem aoc (p q:Int × Int):PyData.eqv (prD p) (prD q)=decide (p=q):=by
 rw [aH1,aft _ _ rfl rfl,decide_eq_true_iff]
 constructor
 ·intro h
  simp [prD] at h
  exact Prod.ext h.1 h.2
 ·rintro rfl;rfl
theorem aw8 (ps:List (Int × Int)) (q:Int × Int):((ps.map prD).any fun z=>PyData.eqv z (prD q))=decide (q∈ps):=by
 rw [aH1,List.any_eq_true,decide_eq_true_iff]
 constructor
 ·rintro ⟨d,hd,e⟩
  obtain ⟨p,a,rfl⟩:=aB6.mp hd
  rw [aoc] at e
  rw [← of_decide_eq_true e];exact a
 ·intro h
  exact ⟨prD q,aB6.mpr ⟨q,h,rfl⟩,by rw [aoc];exact aD6 rfl⟩
theorem aen {ds:List PyData} {m:Nat} (h:∀ d∈ds,d.depth<=m):PyData.depthAll ds<=m:=by
 induction ds with
 | nil=>simp [PyData.depthAll]
 | cons d ds ih =>
  simp only [PyData.depthAll]
  exact Nat.max_le.mpr ⟨h d aB7,ih fun e a=>h e (aB4 _ a)⟩
theorem ajv (p:Int × Int):(prD p).depth<=1:=by simp [prD,PyData.depth,PyData.depthAll]
theorem al8 {d:PyData} (h:aap d=true):PyData.eqv d d=true:=(aft d d h h).mpr rfl
end VL
namespace VL
theorem al9 {α:Type} (R : α->α->Prop) (tr:∀ {a b c},R a b->R b c->R a c) {xs:List α}:xs.Pairwise R ↔ ∀ i (h:i+1 < xs.length),R (xs[i]'(by omega)) xs[i+1]:=by
 constructor
 ·intro h i hi
  exact aG0.mp h i (i+1) (by omega) hi (by omega)
 ·intro h
  rw [aG0]
  intro i j hi d f
  induction j with
  | zero=>omega
  | succ j ih =>
   by_cases e:i=j
   ·subst e;exact h i d
   ·exact tr (ih (by omega) (by omega)) (h j d)
end VL
namespace VL
open PySem PySem.Spec L2
section
variable {B:Bs} {env:En} {Q':PyData->En->Prop} {K:Frag} {E:XK} {i:Nat}
theorem aua {f:VP} {t:TA} {O:Own} (x:Has env i O) (h:EvA B t env fun ds g=>∃ A d,Has g i A/\Frz A d/\f (.st d :: ds.map Sl.st) fun s=>∃ d',s=.st d'/\agi d'=true/\Q' d' g):Ev B (abx (spP K f) [] E (aa1 (tVar i) t)) env Q':=fun σ G H F Q I k=>by
 unfold abx
 simp only [aE5]
 obtain ⟨v,m,_⟩:=I.has x
 refine ⟨v,m,h σ G H F _ I fun vs N l n ds g b z M ⟨A,d,r,J,y⟩=>?_⟩
 obtain ⟨P,c,ap⟩:=b.has r
 rw [m] at c;cases c
 have j:=abb (H:=l) (b.fg i)
 refine ⟨jn N l (n i),_,_,akm b.gh,fun a L e=>j _ _ (b.ft a L e),.cons (s:=.st d) (J _ _ _ _ ap (b.fg i) b.gh) (ArgsOk.of (M.same j)),y,fun s q u G' H' Fv o=>?_⟩
 obtain ⟨d',rfl,p,q⟩:=q
 obtain ⟨D,C,w⟩:=b.moment j o
 exact k u D H' n d' g w (z.trans C) (an7 o.ok.1 p) q
end
end VL
namespace VL
open PySem L2
theorem a0p {B:Bs} {t:TS} {D':VEnds} {e:En} (h:EvS B t D' e):EvS B t D' e:=h
theorem a0q {B:Bs} {g:TG} {s:Sl} {e:En} {Q:En->Prop} (h:EvG B g s e Q):EvG B g s e Q:=h
theorem azo {B:Bs} {g:TGs} {s:List PyData} {e:En} {Q:En->Prop} (h:EvGs B g s e Q):EvGs B g s e Q:=h
theorem g_Ev {B:Bs} {t:TE} {e:En} {Q:PyData->En->Prop} (h:Ev B t e Q):Ev B t e Q:=h
theorem a0r {B:Bs} {t:TE} {e:En} {Q:Sl->En->Prop} (h:EvO B t e Q):EvO B t e Q:=h
theorem a0s {B:Bs} {t:TT} {e:En} {Q:Bool->En->Prop} (h:EvT B t e Q):EvT B t e Q:=h
theorem a0t {B:Bs} {t:TA} {e:En} {Q:List PyData->En->Prop} (h:EvA B t e Q):EvA B t e Q:=h
theorem a0u {B:Bs} {t:TI} {e:En} {Q:List PyData->En->Prop} (h:EvI B t e Q):EvI B t e Q:=h
theorem a0v {r:R2} {x y:PyData} {R:Sl->Prop} (h:Op2 r x y R):Op2 r x y R:=h
theorem a0w {r:V->Hp->VK->Prop} {x:PyData} {R:Sl->Prop} (h:Op1 r x R):Op1 r x R:=h
theorem a0x {r:List V->Hp->VK->Prop} {x:List PyData} {R:Sl->Prop} (h:OpA r x R):OpA r x R:=h
theorem g_FQ {s:Sl} {R:PyData->Prop} (h:FQ s R):FQ s R:=h
theorem aw9 {ds:List PyData} {R:List PyData->Prop} (h:akn ds R):akn ds R:=h
theorem axa {ds:List PyData} {R:List PyData->Prop} (h:ako ds R):ako ds R:=h
structure PsOk (n:Int) (ps:List (Int × Int)):Prop where
 nd:ps.Nodup
 inn:∀ p∈ps,0<=p.1/\p.1 < p.2/\p.2 < n
theorem PsOk.nil (n:Int):PsOk n []:=⟨List.nodup_nil,fun p a=>by simp at a⟩
theorem PsOk.add {n a b:Int} {ps:List (Int × Int)} (h:PsOk n ps) (g:0<=a) (f:a < b) (c:b < n):PsOk n (addP ps (a,b)) :=
 ⟨apl h.nd,fun p d=>by
  rcases addP_mem.mp d with q | q
  ·exact h.inn p q
  ·subst q;exact ⟨g,f,c⟩⟩
theorem PsOk.len {n:Int} {ps:List (Int × Int)} (h:PsOk n ps) (hn:n<=100):ps.length<=10000:=by
 by_cases h0:0<=n
 ·have:=aju (n:=n.toNat) h.nd fun p b=>by have:=h.inn p b;omega
  have a:n.toNat<=100:=by omega
  exact aC9 this (Nat.mul_le_mul a a)
 ·cases ps with
  | nil=>simp
  | cons p r=>have:=h.inn p aB7;omega
def Tr (n:Int) (ps:List (Int × Int)):Prop:=∀ k,1<=k->k < n->∃ h,0<=h/\h < k/\(h,k)∈ps
theorem Tr.add {n:Int} {ps:List (Int × Int)} {p:Int × Int} (h:Tr n ps):Tr n (addP ps p):=fun k f d=>by
 obtain ⟨x,a,b,c⟩:=h k f d
 exact ⟨x,a,b,addP_mem.mpr (.inl c)⟩
def Conn (n:Int) (T:Int->Int->Prop):Prop:=∀ u v,0<=u->u < n->0<=v->v < n->∃ k,Gr.Walk T u k v
theorem Joined.conn {n:Int} {es:List (Int × Int)} (h:Joined n es):Conn n (Tied es):=fun u v b a v0 c=>by
 obtain ⟨d,hd⟩:=h u b a
 obtain ⟨e,f⟩:=h v v0 c
 exact ⟨d+e,(hd.1.rev fun _ _ t=>t.symm).app f.1⟩
theorem Conn.mono {n:Int} {T a:Int->Int->Prop} (h:Conn n T) (g:∀ u v,T u v->a u v):Conn n a:=fun u v c b v0 d=>by
 obtain ⟨k,w⟩:=h u v c b v0 d
 exact ⟨k,w.rec .refl fun _ t f => .step f (g _ _ t)⟩
def Order (n:Int) (row:List Int):Prop:=row.Perm ((List.range n.toNat).map fun (i:Nat)=>(i:Int))
theorem Order.len {n:Int} {row:List Int} (h:Order n row):row.length=n.toNat:=by have:=h.length_eq;simpa using this
theorem Order.nodup {n:Int} {row:List Int} (h:Order n row):row.Nodup:=by
 refine h.nodup_iff.mpr ?_
 unfold List.Nodup
 rw [aF4]
 exact List.nodup_range.imp fun {a b} c e=>c (by omega)
theorem Order.mem {n:Int} {row:List Int} (h:Order n row) {v:Int}:v∈row ↔ 0<=v/\v < n:=by
 rw [h.mem_iff,aB6]
 constructor
 ·rintro ⟨i,hi,rfl⟩
  have:=aB8.mp hi
  omega
 ·rintro ⟨b,a⟩
  exact ⟨v.toNat,aB8.mpr (by omega),by omega⟩
theorem Order.get {n:Int} {row:List Int} (h:Order n row) {a:Int} (c:0<=a) (d:a < n):∃ x,row[a.toNat]?=some x/\atI row a=some x/\0<=x/\x < n:=by
 have b:a.toNat < row.length:=by rw [h.len];omega
 have e:row[a.toNat]?=some row[a.toNat]:=aA0 b
 have:=h.mem.mp (aA2 e)
 exact ⟨_,e,acs c e,this.1,this.2⟩
theorem Order.inj {n:Int} {row:List Int} (h:Order n row) {a b x:Int} (a0:0<=a) (b0:0<=b) (ha:row[a.toNat]?=some x) (hb:row[b.toNat]?=some x):a=b:=by
 obtain ⟨g,c⟩:=aA1.mp ha
 obtain ⟨f,d⟩:=aA1.mp hb
 have:=nodup_ix h.nodup g f (c.trans d.symm)
 omega
theorem Order.id (n:Int):Order n ((List.range n.toNat).map fun (i:Nat)=>(i:Int)):=List.Perm.refl _
def aa9 (row:List Int) (a:Int):Int:=row.getD a.toNat 0
def reP (row:List Int) (p:Int × Int):Int × Int:=if aa9 row p.1 < aa9 row p.2 then (aa9 row p.1,aa9 row p.2) else (aa9 row p.2,aa9 row p.1)
theorem Order.at {n:Int} {row:List Int} (h:Order n row) {a:Int} (f:0<=a) (d:a < n):row[a.toNat]?=some (aa9 row a)/\0<=aa9 row a/\aa9 row a < n:=by
 obtain ⟨x,e,_,c,b⟩:=h.get f d
 have:aa9 row a=x:=by unfold aa9;rw [aD2,e];rfl
 rw [this];exact ⟨e,c,b⟩
theorem Order.ne {n:Int} {row:List Int} (h:Order n row) {a b:Int} (a0:0<=a) (a1:a < n) (b0:0<=b) (b1:b < n) (c:a ≠ b):aa9 row a ≠ aa9 row b:=fun e=>by
 have d:=(h.at a0 a1).1
 have f:=(h.at b0 b1).1
 rw [e] at d
 exact c (h.inj a0 b0 d f)
theorem PsOk.re {n:Int} {ps:List (Int × Int)} {row:List Int} (h:PsOk n ps) (o:Order n row):PsOk n (ps.map (reP row)):=by
 have inn:∀ p∈ps,0<=(reP row p).1/\(reP row p).1 < (reP row p).2/\(reP row p).2 < n:=fun p c=>by
  obtain ⟨p0,u,p2⟩:=h.inn p c
  have a:=o.at p0 (by omega)
  have b:=o.at (a:=p.2) (by omega) p2
  have ne:=o.ne p0 (by omega) (by omega) p2 (by omega)
  unfold reP
  split <;> dsimp only <;> omega
 refine ⟨?_,fun q g=>by obtain ⟨p,c,rfl⟩:=aB6.mp g;exact inn p c⟩
 unfold List.Nodup
 rw [aF4]
 refine aH3 ?_ h.nd
 intro p q c g f e
 apply f
 obtain ⟨p0,u,p2⟩:=h.inn p c
 obtain ⟨j,v,r⟩:=h.inn q g
 have inj:∀ a b,0<=a->a < n->0<=b->b < n->aa9 row a=aa9 row b->a=b:=fun a b a0 a1 b0 b1 e=>by
  apply aD3
  intro d
  exact o.ne a0 a1 b0 b1 d e
 have l:=inj p.1 q.1 p0 (by omega) j (by omega)
 have m:=inj p.2 q.2 (by omega) p2 (by omega) r
 have s:=inj p.1 q.2 p0 (by omega) (by omega) r
 have i:=inj p.2 q.1 (by omega) p2 j (by omega)
 unfold reP at e
 split at e <;> split at e <;> simp only [Prod.mk.injEq] at e
 ·exact Prod.ext (l e.1) (m e.2)
 ·have:=s e.1;have:=i e.2;omega
 ·have:=i e.1;have:=s e.2;omega
 ·exact Prod.ext (l e.2) (m e.1)
theorem Tied.perm {qs ps:List (Int × Int)} (h:qs.Perm ps) {u v:Int}:Tied qs u v ↔ Tied ps u v:=by unfold Tied;rw [h.mem_iff,h.mem_iff]
theorem WebOk.ps {n:Int} {es:List (Int × Int)} (h:WebOk n es):PsOk n es:=⟨h.rise.nodup,h.inn⟩
theorem ah6 {α:Type}:∀ {l:List α} {k:Nat} {x : α},l[k]?=some x->(x :: l.eraseIdx k).Perm l
 | [],_,_,h=>by simp at h
 | a :: l,0,x,h=>by simp at h;subst h;exact List.Perm.refl _
 | a :: l,k+1,x,h=>by
  have b:=ah6 (l:=l) (k:=k) (x:=x) (by simpa using h)
  exact (List.Perm.swap a x _).trans (b.cons a)
theorem apq {n:Int} {row left:List Int} {k:Nat} {x:Int} (h:Order n (row ++ left)) (a:left[k]?=some x):Order n ((row ++ [x]) ++ left.eraseIdx k):=by
 refine List.Perm.trans ?_ h
 rw [aB3]
 refine List.Perm.append_left row ?_
 exact ah6 a
section
variable {B:Bs} {env:En} {g:TG} {tif:TT} {te:TE} {K:Frag} {src:List (Option Nat)} {ds:List PyData} {e1:En} {R:List PyData->En->Prop}
end
theorem axb (n:Nat):rngD 0 n=((List.range n).map fun (i:Nat)=>(i:Int)).map PyData.int:=by simp [rngD]
theorem aub {B:Bs} {t:TS} {D':VEnds} {env:En} (J:En->Prop) (h:EvS B t { D' with nx:=J } env) (k:∀ e,J e->D'.nx e):EvS B t D' env:=fun σ G H F D I r=>h σ G H F D I ⟨fun σ G' H F env a g q=>r.nx _ _ _ _ _ a g (k _ q),r.rt,r.bk,r.ct⟩
theorem ada {B:Bs} {g:TG} {A:Own} {d:PyData} {env:En} {b:En->Prop} (f:Frz A d) (h:EvG B g (.st d) env b):EvG B g (.own A) env b:=fun σ G H F v Fv Q I x k =>
 h σ _ H F v _ Q (I.freeze x.fb x.fd x.fg) (aes (f G H v Fv x.ok x.fg I.gh)) fun a G' H' F' i c g' q=>k a G' H' F' i c ((abb x.fg).trans g') q
theorem cutR {R X:Prop} (h:R->X) (r:R):X:=h r
end VL
namespace VL
open PySem PySem.Spec L2
def Sls (K:Frag) (G:Hp) (σ:St) (e:En):Prop:=∀ (j:Nat) (s:Sl),e[j]?=some (some s)->∃ v,σ[j]?=some (some v)/\((∃ d,s=.st d/\Rp G v d)\/∃ (ns:List Int) (a:Addr),s=.scr ns/\v=.ref a/\SqL K G a (ns.map V.int))
theorem Sls.same {K:Frag} {G G':Hp} {σ:St} {e:En} (h:Sls K G σ e) (g:Same G G'):Sls K G' σ e:=fun j s es=>by
 obtain ⟨v,c,q⟩:=h j s es
 refine ⟨v,c,?_⟩
 rcases q with ⟨d,b,r⟩ | ⟨ns,a,b,f,r⟩
 ·exact .inl ⟨d,b,r.same g⟩
 ·exact .inr ⟨ns,a,b,f,g.seq r⟩
section
variable {B:Bs} {env:En}
end
section
variable {B:Bs} {env:En} {Q':PyData->En->Prop} {QO:Sl->En->Prop} {c:TT} {ta tb:TE}
theorem axc (h:EvT B c env fun b e=>if b=true then EvO B ta e QO else EvO B tb e QO):EvO B (tIf c ta tb) env QO:=fun σ G H F Q I k =>
 h σ G H F _ I fun b l f m n j i q=>by
  cases b with
  | true=>rw [aE8 rfl] at q ⊢;exact q σ l f m Q j fun v G' H' F' Fv d e a g r z=>k v G' H' F' Fv d e a (i.trans g) r z
  | false=>rw [aE9 aA9] at q ⊢;exact q σ l f m Q j fun v G' H' F' Fv d e a g r z=>k v G' H' F' Fv d e a (i.trans g) r z
end
end VL
namespace VL
open PySem PySem.Spec L2 PyProof.Rows
end VL
namespace VL
open PySem PySem.Spec L2
section
variable {B:Bs} {env:En} {QO:Sl->En->Prop} {i:Nat}
theorem ars {k c:Int} (e:env[i]?=some (some (.st (.int k)))) (q:QO (.own (OD [(.inl k,.int c)])) env):EvO B (au1 [(tVar i,tC (.int c))]) env QO:=fun σ G H F Q I g p a=>by
 obtain ⟨v,d,r⟩:=I.sl i _ e
 obtain ⟨r,_⟩:=r
 cases r
 refine ⟨_,d,aaf,[(.inl k,.int c)],rfl,by simp,?_⟩
 have o:=Out.newD (ds:=[(.inl k,.int c)]) (xs:=[(.inl k,.int c)]) I.gh a (.cons (.int c) .nil)
 have f:upd (upd H p (.dK [])) p (.dK (aep [] [(Sum.inl k,V.int c)]))=upd H p (.dK [(.inl k,.int c)]):=by
  funext b
  unfold upd
  split <;> rfl
 rw [f]
 exact g _ _ _ F _ _ env (I.out o).1 o.gg (I.out o).2 q
end
section
variable {X:Cx}
end
section
variable {R:Sl->Prop}
end
end VL
namespace L2
open PySem PySem.Spec PyProof.Rows
def isV (k:Int):Value->Bool
 | .int a _=>decide (a=k)
 | _=>false
theorem ama {ns:List Int} {us:List Value} (r:Vals (ns.map V.int) us) (k:Int):∀ i (h:i < us.length) (h':i < ns.length),isV k us[i]=decide (ns[i]=k):=by
 induction ns generalizing us with
 | nil=>intro i h h';simp at h'
 | cons n ns ih =>
  rw [aD0] at r
  cases r with
  | cons r1 r2 =>
   obtain ⟨t,e⟩:=r1
   subst e
   intro i h h'
   cases i with
   | zero=>rfl
   | succ i=>exact ih r2 i (by simpa using h) (by simpa using h')
theorem apr {ns:List Int} {us:List Value} (r:Vals (ns.map V.int) us) (k:Int) (t:Tok):∀ y∈us,MeetsSeq.EqGives y (.int k t) (isV k y):=by
 induction ns generalizing us with
 | nil=>rw [List.map_nil] at r;cases r;intro y a;simp at a
 | cons n ns ih =>
  rw [aD0] at r
  cases r with
  | cons r1 r2 =>
   obtain ⟨u,e⟩:=r1
   subst e
   intro y a
   rcases aA8.mp a with rfl | a
   ·exact MeetsSeq.EqGives.int n k u t
   ·exact ih r2 y a
section
variable {X:Cx}
def art:V->List V->Hp->VK->Prop:=fun x vs H Q=>∃ (l:Addr) (ns:List Int) (k:Int) (j:Nat),x=.ref l/\vs=[.int k]/\H l=some (.lst (ns.map V.int))/\ns[j]?=some k/\(∀ m,m < j->ns[m]? ≠ some k)/\Q (.int j) H
theorem amb:MtM X "list.index" art:=by
 intro pins s σ H x vs v us Q I w g h
 obtain ⟨l,ns,k,j,rfl,rfl,A,B,b,q⟩:=h
 cases w
 obtain ⟨u,rfl,i⟩:=g.one
 obtain ⟨t,rfl⟩:=i
 obtain ⟨z,its,n,r,o,e⟩:=I.lstM A
 rw [aA3] at o z
 obtain ⟨c,d⟩:=aA1.mp B
 have hz:sizeLine < 2 ^ 62:=by decide
 refine call_meets F.slot_list_index ⟨_,e,rfl⟩ F.entry_list_index (F.args_list_index_2 _ _)
  (MeetsSeq.list_index l its.toArray n (.int k t) (isV k) (fun y p=>apr r k t y (by simpa using p)) j (by rw [aB1];omega) (by omega) ?_ (fun m hm f=>?_)) ⟨e,?_⟩
 ·rw [List.getElem_toArray,ama r k j (by omega) c,aD6 d]
 ·have a:m < ns.length:=by omega
  rw [List.getElem_toArray,ama r k m (by omega) a]
  exact aD5 fun e=>b m f (by rw [aA0 a,e])
 ·exact ⟨.int j,H,I.tok _,⟨_,rfl⟩,q⟩
variable {e est:Expr} {te:TE} {ts:TO} {pos p2:Pos}
end
end L2
namespace VL
open PySem PySem.Spec L2
section
variable {B:Bs} {env:En} {QO:Sl->En->Prop} {Q':PyData->En->Prop} {te tl:TE} {ts:TO} {K:Frag} {i:Nat}
theorem auc (h:Ev B tl env fun x g=>∃ ns:List Int,x=.list (ns.map .int)/\Ev B te g fun y b=>∃ (k:Int) (j:Nat),y=.int k/\ns[j]?=some k/\(∀ m,m < j->ns[m]? ≠ some k)/\Q' (.int j) b):Ev B (tBM K "list" art tl (aa1 te tNil)) env Q':=fun σ G H F Q I k =>
 h σ G H F _ I fun v L n M d g i z J p=>by
  obtain ⟨ns,s,r⟩:=p
  subst s
  cases J with
  | @lst a vs _ ha rs =>
   have o:vs=ns.map V.int:=rs.ints_inv
   subst o
   refine ⟨.inl ⟨rfl,_,SqL.of (i.gh _ _ ha)⟩,r σ L n M _ i fun u E H2 F2 y b f l D ⟨c,j,C,A,w,q⟩=>?_⟩
   subst C
   cases D
   exact ⟨a,ns,c,j,rfl,rfl,f.gh _ _ (l _ _ ha),A,w,k _ E H2 F2 _ b f (z.trans l) (.int _) q⟩
end
theorem au8 {α:Type} [DecidableEq α]:∀ {as bs:List α},as.Nodup->(∀ a∈as,a∈bs)->as.length<=bs.length
 | [],_,_,_=>aF3 _
 | a :: as,bs,hn,hs=>by
  have ha:a∈bs:=hs a (aB7 ..)
  have b:=aH7.mp hn
  have h:=au8 (bs:=bs.erase a) b.2 fun x c=>(List.mem_erase_of_ne (show x ≠ a from fun e=>b.1 (by rw [← e];exact c))).mpr (hs x (aB4 _ c))
  rw [List.length_erase_of_mem ha] at h
  have:0 < bs.length:=List.length_pos_of_mem ha
  simp only [aE1]
  omega
structure But (n:Int) (es rem:List (Int × Int)):Prop where
 rise:Rise es
 inn:∀ p∈es,0<=p.1/\p.1 < p.2/\p.2 < n
 all:∀ p:Int × Int,0<=p.1->p.1 < p.2->p.2 < n->p∈es\/p∈rem
theorem But.len {n:Int} {es rem:List (Int × Int)} (h:But n es rem) (hn:8<=n) (b:rem.length<=5):2<=es.length:=by
 have:=au8 (as:=[((0:Int),(1:Int)),(0,2),(0,3),(0,4),(0,5),(0,6),(0,7)]) (bs:=es ++ rem) (by decide) (fun p a=>by
  have:0<=p.1/\p.1 < p.2/\p.2 < 8:=by
   simp only [aA8,List.not_mem_nil,or_false] at a
   rcases a with rfl | rfl | rfl | rfl | rfl | rfl | rfl <;> decide
  exact aA7.mpr (h.all p this.1 this.2.1 (by omega)))
 simp at this
 omega
end VL
namespace PopT
open PySem PyProof.Rows
section
variable {prog:Program} {w:World} {K:Type} [DecidableEq K] {knd:HeapKind prog w K} {A:Around} {E:Value->Shared->Prop} {s:Shared}
theorem amc {d a:Addr} {xs:List (K × Addr × Value)} {k:K} {j:Nat} {p:Addr × Value} {Q:Option DictEntry->Shared->Prop} (y:knd.room A) (b:knd.is s.heap k a) (hm:s.heap.DictOfH knd d xs) (m:xs[j]?=some (k,p))
  (B:∀ e h',e.val=p.2->h'.DictOfH knd d (xs.eraseIdx j)->Heap.SameBut d s.heap h'->Q (some e) { s with heap:=h',toks:=s.toks+knd.draws k })
  (hsz:xs.length<=sizeLine):wpAny (model prog w) A (Builtin.Dict.takeOut d (.ref a)) Q E s:=by
 obtain ⟨o,es,ep,g,F,hd,h,c,hn⟩:=hm
 unfold Builtin.Dict.takeOut
 try with_reducible refine aI5 ?_
 refine aI0 (knd.pyHash y b ?_)
 refine aI0 (wpAny_dictFind_heap (s:={ s with toks:=s.toks+knd.draws k }) y b g hd h c hn (fun n=>absurd m (n j p)) ?_)
 intro i q hi
 have r:i=j:=by
  have v:(xs.map (·.1))[i]?=some k:=by rw [aA5,hi];rfl
  have z:(xs.map (·.1))[j]?=some k:=by rw [aA5,m];rfl
  have C:=(aA1.mp v).1
  have I:=(aA1.mp z).1
  exact (List.getElem?_inj C hn).mp (v.trans z.symm)
 subst r
 have u:es.size<=sizeLine:=by have e:=size_of_entries h;omega
 refine aI0 (wpAny_dictEntries (s:={ s with toks:=s.toks+knd.draws k }) g hd ?_)
 rw [entry_at h i,m]
 refine aI0 (wpAny_updateDictKeys (hz:=u) (s:={ s with toks:=s.toks+knd.draws k }) g hd (aI1 (B _ _ rfl ⟨_,_,ep+1,Heap.get?_update_self _ g (Obj.isFreed_of_dict (Obj.data_mapDictKeys hd _)),
  F.mapDictKeys _,Obj.data_mapDictKeys hd _,?_,?_,?_⟩ (Heap.SameBut.update ..))))
 ·have H:∀ {α β:Type} (f : α->β) (l:List α) (k:Nat),(l.map f).eraseIdx k=(l.eraseIdx k).map f:=by
   intro α β f l
   induction l with
   | nil=>intro k;rfl
   | cons a l ih =>
    intro k
    cases k with
    | zero=>rfl
    | succ k=>simp [ih k]
  rw [← H,← h]
  obtain ⟨l⟩:=es
  have D:i < l.length:=by
   have:=(aA1.mp m).1
   have e:=size_of_entries h
   simp at e;omega
  simp [Array.eraseIdxIfInBounds,D]
 ·intro x G
  exact knd.keeps (c x ((List.eraseIdx_sublist xs i).mem G)) g hd (Heap.SameBut.update ..)
 ·exact hn.sublist ((List.eraseIdx_sublist xs i).map _)
theorem meetsH_dict_pop {d a:Addr} (kp:keyPart (.ref a)=none) :
  MeetsIn prog w (Builtin.«dict.pop» ⟨[.ref d,.ref a],[]⟩) (fun A R s=>knd.room A.in1/\∃ k xs j p,knd.is s.heap k a/\s.heap.DictOfH knd d xs/\xs.length<=sizeLine/\xs[j]?=some (k,p) /\
   ∀ h',h'.DictOfH knd d (xs.eraseIdx j)->Heap.SameBut d s.heap h'->R (.ok (.ret p.2)) { s with heap:=h',toks:=s.toks+knd.draws k }) :=
 .of_wp fun A R s r=>by
  obtain ⟨x,k,xs,j,p,b,hm,hsz,m,h⟩:=r
  have i:=hm
  obtain ⟨o,es,ep,u,y,hd,v,n,hn⟩:=i
  have l:es.isEmpty=false:=by
   have e:=size_of_entries v
   have:=(aA1.mp m).1
   cases q:es.isEmpty with
   | false=>rfl
   | true=>have:=Array.isEmpty_iff.mp q;rw [this] at e;simp at e;omega
  unfold Builtin.«dict.pop»
  refine aI0 ?_
  unfold Builtin.Dict.keyAndDefault
  refine aI0 (wpAny_notOrdered_dict hm.typeIs ?_)
  show wpAny _ _ (pure (d,Value.ref a,none)) _ _ s
  refine aI1 ?_
  simp only [kp,Option.isSome_none,Bool.false_eq_true,if_false]
  refine aI0 (wpAny_dictEntries u hd ?_)
  refine aI0 (aI1 ?_)
  simp only [l,Bool.false_eq_true,if_false]
  refine aI0 (amc x b hm m (fun e h' c f g=>?_) hsz)
  simp only [Option.isNone_some,Bool.false_eq_true,if_false]
  exact aI0 (wpAny_letGo (aI1 ⟨e.val,rfl,by rw [c];exact h h' f g⟩))
end
end PopT
namespace L2
open PySem PySem.Spec PySem.W PyProof.Rows
theorem KT.at {H:Hp} {kvs:List (List Key × V)} {xs:List (List Key × Addr × Value)} (r:KT H kvs xs):∀ {j:Nat} {k:List Key} {v:V},kvs[j]?=some (k,v)->∃ p:Addr × Value,xs[j]?=some (k,p)/\RelV v p.2:=by
 induction r with
 | nil=>intro j k v e;simp at e
 | @cons p q ps qs hq t ih =>
  intro j k v e
  cases j with
  | zero =>
   have e:p=(k,v):=by simpa using e
   subst e
   exact ⟨q.2,by rw [List.getElem?_cons_zero,show k=q.1 from hq.1],hq.2.2⟩
  | succ j=>exact ih (by simpa using e)
theorem KT.erase {H:Hp} {kvs:List (List Key × V)} {xs:List (List Key × Addr × Value)} (r:KT H kvs xs):∀ (j:Nat),KT H (kvs.eraseIdx j) (xs.eraseIdx j):=by
 induction r with
 | nil=>intro j;exact .nil
 | @cons p q ps qs hq t ih =>
  intro j
  cases j with
  | zero=>exact t
  | succ j=>exact .cons hq (ih j)
section
variable {X:Cx} {pins:List (Addr × Obj)} {σ:St} {H:Hp} {s:Shared} {a b:Addr} {A:Around} {E:Value->Shared->Prop}
theorem azp {kvs:List (List Key × V)} {k:List Key} {j:Nat} {v:V} {Q:Value->Shared->Prop} (D:A.units+1 < cLine) (I:Inv X pins σ H s) (e:H a=some (.dT kvs)) (y:H b=some (.tup (k.map kV))) (l:kvs[j]?=some (k,v))
  (h:∀ g i,Inv X pins σ (upd H a (.dT (kvs.eraseIdx j))) i->RelV v g->Q g i):wpAny (model X.prog X.w) A (call (.builtin "dict.pop") [.ref a,.ref b]) Q E s:=by
 obtain ⟨z,hd,xs,d,dd⟩:=ahg I.hok e
 have hz:xs.length<=sizeLine:=by rw [← Paired.length d];exact z
 obtain ⟨p,r,u⟩:=KT.at d l
 refine call_meetsIn PySem.F.slot_dict_pop dd.typeIs PySem.F.entry_dict_pop (PySem.F.args_dict_pop_2 _ _) (PopT.meetsH_dict_pop (knd:=tupleKind (aa6 X.prog X.w)) rfl)
  ⟨tupleKind_room_in1 D,k,xs,j,p,afn I.hok y,dd,hz,r,fun h' f o=>h p.2 _ ?_ u⟩
 obtain ⟨q,es,ep,n,G,C,B,_,x⟩:=f
 refine af8 I (by rw [e];exact True.intro) o ⟨q,n⟩ ⟨aC9 (List.length_eraseIdx_le kvs j) z,hd,_,(KT.erase d j).keeps fun c ys m=>?_,q,es,ep,n,G,C,B,x⟩
 rw [aad (aey m e (fun z=>nomatch z))]
 exact m
end
def aru (td ty:TE):TE:=fun σ H Q=>td σ H fun x H1=>∃ a,x=.ref a/\IsD H1 a/\ty σ H1 fun y H2=>∃ kvs k j v b,H2 a=some (.dT kvs)/\y=.ref b/\H2 b=some (.tup (k.map kV))/\kvs[j]?=some (k,v)/\Q v (upd H2 a (.dT (kvs.eraseIdx j)))
section
variable {X:Cx} {o e f:Expr} {apos cpos:Pos} {td ty tx:TE}
theorem aud (D:X.A.units+1 < cLine) (q:PE X o td) (B:PE X e ty) (m:M1 X o "pop" apos e cpos):PE X (.Call (.Attribute o "pop" apos) [e] [] cpos) (aru td ty):=by
 intro pins s σ H Q I h
 refine wpAny_Call_method m.base m.few m.line PySem.F.plainAttrs_dict PySem.F.slot_dict_pop PySem.F.type_dict_pop (thn (q pins s σ H _ I h) fun u s1 ⟨x,g,f,C,a,ex,d,p⟩=>?_)
 subst ex
 obtain rfl:u=Value.ref a:=C
 obtain ⟨z,J,_⟩:=ayd f d
 refine ⟨z,J,?_⟩
 rw [m.trees]
 refine Calls.callWith_builtin rfl (Calls.evalArgs_plain (Calls.spliced_cons (thn (B pins s1 σ g _ f p) fun i s2 ⟨y,H2,n,E,kvs,k,j,v,b,K,w,r,l,G⟩=>Calls.spliced_nil ?_)))
 subst w
 obtain rfl:i=Value.ref b:=E
 exact azp D n K r l fun N M L c=>⟨v,_,L,c,G⟩
end
end L2
namespace DNe
open PySem PyProof.Rows
theorem dict_ne_some (l b:Addr) (es:Array DictEntry) (n f:Nat) (dd a:Option Addr) (sl c:Array (Option Value)) (j:(l == sysModules)=false) (m:(b == sysModules)=false) (i:(es.size != 0)=true) :
  Meets (Builtin.«dict.__ne__» ⟨[.ref l,.ref b],[]⟩)
   (fun _ R s=>s.heap.get? l=some { cls:=.type "dict",dict:=dd,data:=.dict es n,slots:=sl }/\s.heap.get? b=some { cls:=.type "dict",dict:=a,data:=.dict #[] f,slots:=c } /\
    R (.ok (.ret (.bool true))) s) :=
 .of_wp fun prog w A R s h=>by
  obtain ⟨o,g,d,q,os⟩:=s;obtain ⟨p,hb,h⟩:=h
  have r:=PySem.F.sub_dict_dict
  wp_walk
  exact ⟨_,rfl,h⟩
theorem arv {prog:Program} {w:World} {A:Around} {E:Value->Shared->Prop} {s:Shared} {Q:Bool->Shared->Prop} {id:String} {l b:Addr} {o g:Obj} {n i:Nat} (c:(l == sysModules)=false) (d:(b == sysModules)=false)
  (f:s.heap.get? l=some o) (hd:o.data=.dict #[] n) (hb:s.heap.get? b=some g) (a:g.data=.dict #[] i) (h:Q true s):wpAny (model prog w) A (Builtin.Dict.samePairs id l b) Q E s:=by
 unfold Builtin.Dict.samePairs Builtin.Dict.showsAll
 rw [c,d]
 simp only [Bool.false_eq_true,if_false]
 refine aI0 (aI1 (aI0 (aI1 ?_)))
 refine aI0 (wpAny_dictEntries f hd (aI0 (wpAny_dictEntries hb a ?_)))
 simp only [bne_self_eq_false,Bool.false_eq_true,if_false]
 refine aI0 (wpAny_dictEpoch f hd ?_)
 rw [Std.Legacy.Range.forIn_eq_forIn_range']
 simp only [Std.Legacy.Range.size]
 exact aI0 (aI1 (aI1 h))
theorem dict_ne_none (l b:Addr) (n j:Nat) (dd a:Option Addr) (sl c:Array (Option Value)) (f:(l == sysModules)=false) (i:(b == sysModules)=false) :
  Meets (Builtin.«dict.__ne__» ⟨[.ref l,.ref b],[]⟩)
   (fun _ R s=>s.heap.get? l=some { cls:=.type "dict",dict:=dd,data:=.dict #[] n,slots:=sl }/\s.heap.get? b=some { cls:=.type "dict",dict:=a,data:=.dict #[] j,slots:=c } /\
    R (.ok (.ret (.bool false))) s) :=
 .of_wp fun prog w A R s h=>by
  obtain ⟨o,g,d,p,os⟩:=s;obtain ⟨m,hb,h⟩:=h
  have q:=PySem.F.sub_dict_dict
  wp_walk using arv f i m rfl hb rfl
  exact ⟨_,rfl,h⟩
end DNe
namespace L2
open PySem PySem.Spec PySem.W PyProof.Rows
def rNeE:R2:=fun x y H Q=>∃ a b kvs,x=.ref a/\y=.ref b/\H a=some (.dT kvs)/\H b=some (.dT [])/\Q (.bl (!kvs.isEmpty)) H
theorem azq {X:Cx} (R:X.A.units+64 < cLine):OpR X (compareOp .NotEq) rNeE:=by
 intro pins s σ H x y v u Q I L O h
 obtain ⟨a,b,kvs,rfl,rfl,P,K,q⟩:=h
 obtain rfl:v=Value.ref a:=L
 obtain rfl:u=Value.ref b:=O
 obtain ⟨_,f,xs,p,⟨cls,dd,data,sl⟩,es,ep,n,J,D,r,_,_⟩:=ahg I.hok P
 obtain ⟨_,m,ys,i,⟨d,c,w,g⟩,fs,j,o,N,E,C,_,_⟩:=ahg I.hok K
 cases i
 have hf:fs = #[]:=by
  obtain ⟨l⟩:=fs
  simp at C
  rw [C]
 subst hf
 have M:cls=.type "dict":=J.1
 have G:d=.type "dict":=N.1
 simp only at D E
 subst M G D E
 have hn:Value.bool true ≠ Value.notImplemented:=fun x=>nomatch x
 have B:Value.bool false ≠ Value.notImplemented:=fun x=>nomatch x
 cases p with
 | nil =>
  have z:es = #[]:=by
   obtain ⟨l⟩:=es
   simp at r
   rw [r]
  subst z
  exact richCompare_meets_room (op:=.NotEq) ⟨_,n,rfl⟩ ⟨_,o,rfl⟩ PySem.F.slot_dict_ne PySem.F.entry_dict_ne (PySem.F.args_dict_ne_2 _ _) (DNe.dict_ne_none a b ep j dd c sl g f m)
   ⟨n,o,show Value.bool false ≠ Value.notImplemented/\_ from ⟨B,⟨.bl false,H,I,rfl,q⟩⟩⟩ (by omega)
 | cons hq t =>
  have z:(es.size != 0)=true:=by
   have:=congrArg List.length r
   simp at this
   simp [this]
  exact richCompare_meets_room (op:=.NotEq) ⟨_,n,rfl⟩ ⟨_,o,rfl⟩ PySem.F.slot_dict_ne PySem.F.entry_dict_ne (PySem.F.args_dict_ne_2 _ _) (DNe.dict_ne_some a b es ep j dd c sl g f m z)
   ⟨n,o,show Value.bool true ≠ Value.notImplemented/\_ from ⟨hn,⟨.bl true,H,I,rfl,q⟩⟩⟩ (by omega)
end L2
namespace DNe
open PySem PyProof.Rows
theorem amd (l:Addr) (es:Array DictEntry) (n:Nat) (dd:Option Addr) (sl:Array (Option Value)) (a:(l == sysModules)=false) :
  Meets (Builtin.«dict.__len__» ⟨[.ref l],[]⟩)
   (fun _ R s=>s.heap.get? l=some { cls:=.type "dict",dict:=dd,data:=.dict es n,slots:=sl }/\R (.ok (.ret (.int (es.size:Int) s.toks))) { s with toks:=s.toks+1 }) :=
 .of_wp fun prog w A R s h=>by
  obtain ⟨b,g,d,f,os⟩:=s;obtain ⟨c,h⟩:=h
  wp_walk
  exact ⟨_,rfl,h⟩
section
variable {prog:Program} {w:World} {A:Around} {E:Value->Shared->Prop} {s:Shared}
theorem call_len_raw {d:Addr} {es:Array DictEntry} {n:Nat} {dd:Option Addr} {sl:Array (Option Value)} {Q:Value->Shared->Prop} (hd:(d == sysModules)=false) (c:s.heap.get? d=some { cls:=.type "dict",dict:=dd,data:=.dict es n,slots:=sl }) (a:(es.size:Int) < 2 ^ 63)
  (h:Q (.int (es.size:Int) (s.toks+1)) { s with toks:=s.toks+1+1 }):wpAny (model prog w) A (call (.builtin "len") [.ref d]) Q E s:=by
 have b:s.TypeIs (.ref d) "dict":=⟨_,c,rfl⟩
 refine Calls.call_function_entry kind_len plain_len entry_len (args_len1 _) ?_
 unfold Builtin.«len»
 refine aI0 (m:=oneArg "len" _) (aI1 ?_)
 refine aI0 (m:=callSpecial? (.ref d) (Str.ofString "__len__")) (wpAny_callSpecial?_slot (name:=Str.ofString "__len__") b PySem.F.slot_dict_len
  (call_meets PySem.F.slot_dict_len b PySem.F.entry_dict_len (PySem.F.args_dict_len_1 _) (amd d es n dd sl hd) ⟨c,?_⟩))
 show wpAny _ _ _ _ _ { s with toks:=s.toks+1 }
 refine aI0 (aI5 (aI1 ?_))
 refine aI0 (wpAny_letGo ?_)
 show wpAny _ _ (if (es.size:Int) < 0 then _ else _) _ _ _
 rw [aE9 (by omega)]
 show wpAny _ _ (if (es.size:Int) ≥ 2 ^ 63 then _ else _) _ _ _
 rw [aE9 (by omega)]
 exact aI0 (wpAny_mkInt (aI1 ⟨_,rfl,h⟩))
end
end DNe
namespace L2
open PySem PySem.Spec PySem.W PyProof.Rows
def au9:List V->Hp->VK->Prop:=fun xs H Q=>∃ a kvs,xs=[V.ref a]/\H a=some (.dT kvs)/\Q (.int kvs.length) H
theorem arw {X:Cx}:aa2 X (.builtin "len") au9:=by
 intro pins s σ H xs us Q I r h
 obtain ⟨a,kvs,rfl,ha,q⟩:=h
 obtain ⟨u,rfl,g⟩:=ab9 r
 cases g
 obtain ⟨z,hd,ys,b,⟨cls,dd,data,sl⟩,es,ep,i,f,c,j,_,_⟩:=ahg I.hok ha
 have l:cls=.type "dict":=f.1
 simp only at c
 subst l c
 have d:es.size=kvs.length:=by
  have:=congrArg List.length j
  simp at this
  rw [this];exact (Paired.length b).symm
 refine DNe.call_len_raw hd i (by rw [sizeLine_eq] at z;omega) ?_
 rw [d]
 exact ⟨.int kvs.length,H,(I.tok _).tok _,⟨_,rfl⟩,q⟩
end L2
namespace VL
open PySem PySem.Spec L2
section
variable {B:Bs} {env:En} {Q':PyData->En->Prop} {QO:Sl->En->Prop} {i:Nat} {ty:TE}
theorem RpT.at {G:Hp}:∀ {kvs:List (List Key × V)} {es:List (List Key × PyData)},RpT G kvs es->∀ {j:Nat} {a:List Key} {d:PyData},es[j]?=some (a,d)->∃ v,kvs[j]?=some (a,v)/\Rp G v d
 | _,_,.nil,j,a,d,e=>by simp at e
 | _,_,.cons (k:=k) (v:=v) (d:=d0) h t,0,a,d,e=>by
  have e:(k,d0)=(a,d):=by simpa using e
  cases e
  exact ⟨v,rfl,h⟩
 | _,_,.cons h t,j+1,a,d,e=>by
  obtain ⟨v,b,r⟩:=RpT.at t (j:=j) (by simpa using e)
  exact ⟨v,by simpa using b,r⟩
theorem RpT.erase {G:Hp}:∀ {kvs:List (List Key × V)} {es:List (List Key × PyData)},RpT G kvs es->∀ (j:Nat),RpT G (kvs.eraseIdx j) (es.eraseIdx j)
 | _,_,.nil,_ => .nil
 | _,_,.cons _ t,0=>t
 | _,_,.cons h t,j+1 => .cons h (RpT.erase t j)
theorem aue {es0:List (List Key × PyData)} (A:Has env i (OT es0)) (h:Ev B ty env fun y s=>∃ es m j d,s[i]?=some (some (.own (OT es)))/\y=tkD m/\es[j]?=some (m,d)/\Q' d (s.set i (some (.own (OT (es.eraseIdx j)))))):Ev B (aru (tVar i) ty) env Q':=fun σ G H F Q I k=>by
 obtain ⟨v,n,a,kvs,L,ha,rt,_⟩:=I.has A
 subst L
 refine ⟨_,n,a,rfl,.inr ⟨kvs,.inl ha⟩,h σ G H F _ I fun u E H2 F2 y s o K D ⟨es,m,j,d,f,C,J,q⟩=>?_⟩
 subst C
 obtain ⟨N,g,⟨M,c,p,r,l,hf⟩,hb⟩:=o.sl i _ f
 rw [n] at g;cases g;cases p
 cases D with
 | @tup b vs ds hk rs =>
  have:=al3 rs
  subst this
  obtain ⟨z,x,w⟩:=RpT.at l J
  refine ⟨c,m,j,z,b,r,rfl,o.gh _ _ hk,x,?_⟩
  exact k _ E _ _ _ _ (o.upd1 (A':=OT (es.eraseIdx j)) f (.inl rfl) n hf ⟨a,_,rfl,aaf,RpT.erase l j,fun b=>Iff.rfl⟩) K w q
theorem azr {es:List (List Key × PyData)} (c:Has env i (OT es)) (q:Q' (.bool (!es.isEmpty)) env):Ev B (tOp rNeE (tVar i) ak3) env Q':=fun σ G H F Q I k=>by
 obtain ⟨v,d,a,kvs,f,ha,rt,_⟩:=I.has c
 subst f
 refine ⟨_,d,fun p b=>⟨a,p,kvs,rfl,rfl,by rw [aad (aal ha b)];exact ha,aaf,?_⟩⟩
 have o:=Out.newDT (xs:=[]) (ds:=[]) I.gh b .nil
 have e:kvs.isEmpty=es.isEmpty:=by cases rt <;> rfl
 rw [e]
 exact k _ G _ F _ env (I.out o).1 (Same.refl _) (.bl _) q
theorem axd {es:List (List Key × PyData)} (b:Has env i (OT es)) (q:Q' (.int es.length) env):Ev B (tCB au9 (aa1 (tVar i) tNil)) env Q':=fun σ G H F Q I k=>by
 obtain ⟨v,c,a,kvs,d,ha,rt,_⟩:=I.has b
 subst d
 refine ⟨_,c,a,kvs,rfl,ha,?_⟩
 rw [(RpT.len rt).1]
 exact k _ G H F _ env I (Same.refl _) (.int _) q
@[reducible] def abu (es:List (Key × PyData)):PyData:=.dict (es.map fun p=>(kD p.1,p.2))
theorem axe {a b:Key} (h:kD a=kD b):a=b:=by
 cases a <;> cases b <;> simp [kD] at h <;> rw [h]
theorem arx:∀ {es fs:List (Key × PyData)},es.map (fun p=>(kD p.1,p.2))=fs.map (fun p=>(kD p.1,p.2))->es=fs
 | [],[],_=>rfl
 | [],_ :: _,h=>by simp at h
 | _ :: _,[],h=>by simp at h
 | (a,x) :: es,(b,y) :: fs,h=>by
  simp only [aD0,List.cons.injEq,Prod.mk.injEq] at h
  rw [axe h.1.1,h.1.2,arx h.2]
theorem ai5 {G:Hp} {v:V} {es:List (Key × PyData)} (r:Rp G v (abu es)) (b:es ≠ []):∃ a kvs,v=.ref a/\G a=some (.dK kvs)/\RpK G kvs es:=by
 cases r with
 | dk h rk e=>exact ⟨_,_,rfl,h,by rw [arx e];exact rk⟩
 | @dt a kvs es' ds h rt e =>
  cases es with
  | nil=>exact absurd rfl b
  | cons p es =>
   cases es' with
   | nil=>simp at e
   | cons q es' =>
    simp only [aD0,List.cons.injEq,Prod.mk.injEq] at e
    have:=e.1.1
    obtain ⟨k,x⟩:=p
    cases k <;> simp [kD] at this
theorem auf {j:TE} (h:Ev B j env fun x i=>Ev B ty i fun y f=>∃ es k d,x=abu es/\es ≠ []/\y=kD k/\valD es k=some d/\Q' d f):Ev B (akg j ty) env Q':=fun σ G H F Q I C =>
 h σ G H F _ I fun v K m M x i A r J s=>s σ K m M _ A fun u E H2 F2 y f g l D p=>by
  obtain ⟨es,k,d,ex,c,z,o,q⟩:=p
  subst ex z
  obtain ⟨a,kvs,rfl,ha,n⟩:=ai5 (J.same l) c
  obtain ⟨w,L,b⟩:=(RpK.val n).2 d o
  have:=akp D
  subst this
  exact ⟨a,w,rfl,.inl ⟨kvs,k,.inl (g.gh _ _ ha),rfl,L.symm⟩,C _ E H2 F2 _ f g (r.trans l) b q⟩
end
section
variable {B:Bs} {env:En} {QO:Sl->En->Prop} {Q':PyData->En->Prop} {K:Frag} {i:Nat}
end
theorem ary {α:Type} {K:Frag} {src:List (Option Nat)} {a:En} {te:TE} {c:TT} {R:List PyData->En->Prop} {xs:List α} {f : α->PyData} (g : α->PyData) (p : α->Bool) (m:noIo (aau src a)=true) (L:xs.length<=999999)
  (h:∀ x∈xs,∀ j:Bs,j.K=K->EvT j c (some (.st (f x)) :: aau src a) fun b n=>b=p x/\n=some (.st (f x)) :: aau src a/\(b=true->Ev j te (some (.st (f x)) :: aau src a) fun y u=>y=g x/\u=some (.st (f x)) :: aau src a))
  (A:R ((xs.filter p).map g) a):LcV K (none :: src) (abr 0) c te (xs.map f) a R:=by
 have l:noIo (aau (none :: src) a)=true:=by
  show ((none :: aau src a).all fun s => !isIo s)=true
  rw [List.all_cons]
  exact (aG4 _ _).mpr ⟨rfl,m⟩
 refine ⟨fun i ys e=>ys=((xs.take i).filter p).map g/\∃ o,e=stO o :: aau src a,⟨by simp,none,rfl⟩,?_,?_,?_⟩
 ·rintro i ys e ⟨_,o,rfl⟩
  exact ⟨⟨isIo_stO.symm,afy⟩,aef aem⟩
 ·rintro i d ys e hd ⟨rfl,o,rfl⟩ j B
  rw [aA5] at hd
  cases hx:xs[i]? with
  | none=>rw [hx] at hd;cases hd
  | some x =>
  rw [hx] at hd
  cases hd
  have hi:i < xs.length:=(aA1.mp hx).1
  have w:xs.take (i+1)=xs.take i ++ [x]:=by rw [aG7,hx];rfl
  refine abf ?_
  show EvT j c (some (.st (f x)) :: aau src a) _
  intro σ G H F Q I k
  refine h x (aA2 hx) j B σ G H F Q I fun b G' H' F' n r g' ⟨hb,D,E⟩=>k b G' H' F' n r g' ?_
  subst D
  by_cases hp:b=true
  ·rw [aE8 hp]
   intro σ G H F Q I k
   refine E hp σ G H F Q I fun v G' H' F' d' u r g' z ⟨C,q⟩=>k v G' H' F' d' u r g' z ?_
   subst C q
   refine ⟨?_,?_,some _,rfl⟩
   ·have:=List.length_filter_le p (xs.take i)
    simp only [aA3]
    have J:(xs.take i).length<=i:=by simp;omega
    omega
   ·rw [w,List.filter_append,aE0]
    have:p x=true:=by rw [← hb];exact hp
    simp [this]
  ·rw [aE9 hp]
   refine ⟨?_,some _,rfl⟩
   rw [w,List.filter_append,aE0]
   have:p x=false:=by rw [← hb];simpa using hp
   simp [this]
 ·rintro ys e ⟨rfl,o,rfl⟩
  rw [ai1 l,aA3,aG1]
  exact A
section
variable {B:Bs} {env:En} {QO:Sl->En->Prop} {Q':PyData->En->Prop} {K:Frag} {i:Nat}
theorem ame {j r:TE} (h:Ev B j env fun d n=>EvO B r n fun s i=>∃ ds,s=.own (OL ds)/\QO (.own (OW d ds)) i):EvO B (tTup (aa1 j (aa1 r tNil))) env QO:=fun σ G H F Q I k =>
 h σ G H F _ I fun v N A O d n K E M D=>D σ N A O _ K fun w u H2 F2 Fv s i f y x C=>by
  obtain ⟨ds,es,q⟩:=C
  subst es
  obtain ⟨l,vs,rfl,g,rs,hf⟩:=x.ok
  refine ⟨show (2:Nat)<=sizeLine by rw [sizeLine_eq];decide,fun p c=>?_⟩
  have pl:p ≠ l:=(aal g c).symm
  have J:VI B u (upd H2 p (.tup [v,.ref l])) σ i F2:=f.grow (Same.refl _) (f.gh.trans (abe c)) (abe c) (fun a o e => .inl e) fun a L e=>by
   by_cases z:a=p
   ·subst z;rw [aaf] at e;exact absurd (aC5 e) al7
   ·rw [aad z] at e;exact f.ft a L e
  refine k _ u _ _ (fun a=>a=p\/a=l) (.own (OW d ds)) _ J (E.trans y) ⟨⟨p,l,v,vs,rfl,aaf,M.same y,by rw [aad pl.symm];exact g,rs,fun b=>Iff.rfl⟩,fun a z=>?_,fun a z=>?_,fun a z=>?_,fun m a z=>?_⟩ q
  ·rcases z with rfl | rfl
   ·exact f.no_b c
   ·exact x.fb a ((hf a).mpr rfl)
  ·rcases z with rfl | rfl
   ·exact f.no_g c
   ·exact x.fg a ((hf a).mpr rfl)
  ·rcases z with rfl | rfl
   ·exact ⟨_,aaf⟩
   ·exact ⟨_,by rw [aad pl.symm];exact g⟩
  ·rcases z with rfl | rfl
   ·exact f.no_f c m
   ·exact x.fd m a ((hf a).mpr rfl)
end
section
variable {B:Bs} {env:En} {QO:Sl->En->Prop} {Q':PyData->En->Prop} {K:Frag} {E:XK} {i:Nat}
end
inductive RpF (G:Hp):List (Str × V)->List (Str × PyData)->Prop
 | nil:RpF G [] []
 | cons {x:Str} {u:V} {d:PyData} {us:List (Str × V)} {fs:List (Str × PyData)}:Rp G u d->RpF G us fs->RpF G ((x,u) :: us) ((x,d) :: fs)
def putP (x:Str) (d:PyData):List (Str × PyData)->List (Str × PyData)
 | []=>[(x,d)]
 | (y,e) :: fs=>if y=x then (y,d) :: fs else (y,e) :: putP x d fs
theorem RpF.same {G G':Hp} {us:List (Str × V)} {fs:List (Str × PyData)} (h:RpF G us fs) (g:Same G G'):RpF G' us fs:=by
 induction h with
 | nil=>exact .nil
 | cons r _ ih=>exact .cons (r.same g) ih
theorem RpF.get {G:Hp} {x:Str} {d:PyData} {us:List (Str × V)} {fs:List (Str × PyData)} (h:RpF G us fs) (e:fs.lookup x=some d):∃ u,us.lookup x=some u/\Rp G u d:=by
 induction h with
 | nil=>cases e
 | @cons y u d' us fs r _ ih =>
  rw [aG2] at e ⊢
  cases hx:x == y with
  | true=>rw [hx] at e;cases e;exact ⟨u,rfl,r⟩
  | false=>rw [hx] at e;exact ih e
theorem RpF.no {G:Hp} {x:Str} {us:List (Str × V)} {fs:List (Str × PyData)} (h:RpF G us fs) (e:fs.lookup x=none):us.lookup x=none:=by
 induction h with
 | nil=>rfl
 | @cons y u d' us fs r _ ih =>
  rw [aG2] at e ⊢
  cases hx:x == y with
  | true=>rw [hx] at e;cases e
  | false=>rw [hx] at e;exact ih e
theorem RpF.length {G:Hp} {us:List (Str × V)} {fs:List (Str × PyData)} (h:RpF G us fs):us.length=fs.length:=by
 induction h with
 | nil=>rfl
 | cons _ _ ih=>simp [ih]
theorem RpF.put {G:Hp} {x:Str} {u:V} {d:PyData} {us:List (Str × V)} {fs:List (Str × PyData)} (h:RpF G us fs) (r:Rp G u d):RpF G (L2.putF x u us) (putP x d fs):=by
 induction h with
 | nil=>exact .cons r .nil
 | @cons y u' d' us fs r' hh ih =>
  unfold L2.putF putP
  by_cases e:y=x
  ·rw [aE8 e,aE8 e];first | exact .cons r hh | (rw [e];exact .cons r hh)
  ·rw [aE9 e,aE9 e];exact .cons r' ih
def OI (C:Addr) (fs:List (Str × PyData)):Own where
 P:=fun G H v F=>∃ a dx us,v=.ref a/\H a=some (.ins C dx us)/\H dx=some (.own a)/\RpF G us fs/\∀ b,F b ↔ b=a\/b=dx
 mono:=fun ⟨a,dx,us,e,h1,h2,r,f⟩ g hh=>⟨a,dx,us,e,hh a _ ((f a).mpr (.inl rfl)) h1,hh dx _ ((f dx).mpr (.inr rfl)) h2,r.same g,f⟩
 dom:=fun ⟨a,dx,us,e,h1,h2,r,f⟩ b z=>by
  rcases (f b).mp z with rfl | rfl
  ·exact ⟨_,h1⟩
  ·exact ⟨_,h2⟩
section
variable {B:Bs} {env:En} {QO:Sl->En->Prop} {Q':PyData->En->Prop} {D':VEnds} {K:Frag} {C:Addr} {i:Nat} {fs:List (Str × PyData)} {x:Str} {tv:TE}
theorem ah7 {d:PyData} (b:Has env i (OI C fs)) (c:Cls K C) (n:NoAttr K C x) (hd:fs.lookup x=some d) (q:Q' d env):Ev B (tFld K (tVar i) x) env Q':=fun σ G H F Q I k=>by
 obtain ⟨v,g,a,dx,us,rfl,j,m,r,f⟩:=I.has b
 obtain ⟨u,l,h⟩:=r.get hd
 exact ⟨_,g,a,C,dx,us,u,rfl,j,c,n,l,k u G H F d env I (Same.refl _) h q⟩
theorem axf (c:Cls K C) (n:NoAttr K C x) (h:EvO B tv env fun s j=>FQ s fun d=>∃ g,j[i]?=some (some g)/\(g=.own (OI C fs)\/g=.io (OI C fs))/\fs.length < 1000/\D'.nx (j.set i (some (reS g (OI C (putP x d fs)))))):EvS B (sFld K (tVar i) tv x) D' env:=fun σ G H F D I r =>
 abk (te:=tv) (Q':=fun d j=>∃ g,j[i]?=some (some g)/\(g=.own (OI C fs)\/g=.io (OI C fs))/\fs.length < 1000/\D'.nx (j.set i (some (reS g (OI C (putP x d fs)))))) h σ G H F _ I fun y Y u Q d j m T X R=>by
  obtain ⟨g,N,p,U,q⟩:=R
  obtain ⟨v,E,l⟩:=m.sl i _ N
  have ap:(OI C fs).P Y u v (Q i):=by
   rcases p with rfl | rfl
   ·exact l.1
   ·exact l.1
  obtain ⟨a,dx,us,rfl,M,L,O,f⟩:=ap
  refine ⟨_,E,a,C,dx,us,rfl,M,c,n,by rw [O.length];exact U,?_⟩
  have S:a ≠ dx:=aey M L (by intro z;cases z)
  have J:=m.change (A:=OI C (putP x d fs)) (H2:=upd u a (.ins C dx (L2.putF x y us))) (F2:=Q i) (os':=reS g (OI C (putP x d fs))) i N E (fun b w hb o=>by rw [aad (fun z:b=a=>hb ((f b).mpr (.inl z)))];exact o)
   (fun b w o=>by
    by_cases z:b=a
    ·rw [z];exact ⟨_,aaf⟩
    ·rw [aad z];exact ⟨w,o⟩)
   (fun b z=>⟨.inl z,by
    by_cases y:b=a
    ·rw [y];exact ⟨_,aaf⟩
    ·rw [aad y];exact m.fo i b z⟩) ⟨a,dx,_,rfl,aaf,by rw [aad S.symm];exact L,O.put X,f⟩ (fun b W e=>by
    by_cases z:b=a
    ·subst z;rw [aaf] at e;cases e
    ·rw [aad z] at e;exact m.ft b W e) (by
    rcases p with rfl | rfl
    ·exact .inl ⟨rfl,_,rfl⟩
    ·exact .inr ⟨rfl,_,rfl⟩)
  exact r.nx _ _ _ _ _ J T q
theorem ae5 {f:VIo} {t:TA} {E:XK} {m:Str} (g:Has env i (OI C fs)) (hm:fs.lookup m=none) (h:EvA B t env fun ds j=>∃ c A,j[i]?=some (some c)/\(c=.own A\/c=.io A)/\f A (ds.map Sl.st) fun A' s=>QO s (j.set i (some (reS c A')))):EvO B (ake C m (spI K f) [] E (tVar i) t) env QO:=fun σ G H F Q I k=>by
 obtain ⟨v,d,a,dx,us,rfl,l,o,r,p⟩:=I.has g
 have n:∃ s,env[i]?=some (some s):=by rcases g with e | e <;> exact ⟨_,e⟩
 have:=afx (K:=K) (E:=E) n h σ G H F Q I k
 unfold abx at this
 simp only [aE5] at this
 obtain ⟨u,b,q⟩:=this
 rw [d] at b
 cases b
 unfold ake
 simp only [aE5]
 exact ⟨_,d,a,dx,us,rfl,l,r.no hm,q⟩
end
theorem akq {x:Str} {d:PyData}:List.lookup x [(x,d)]=some d:=by rw [aG2,beq_self_eq_true]
theorem akr {x m:Str} {d:PyData} (h:(m == x)=false):List.lookup m [(x,d)]=none:=by rw [aG2,h];rfl
theorem put1 {x:Str} {d e:PyData}:putP x e [(x,d)]=[(x,e)]:=by unfold putP;rw [aE8 rfl]
end VL
namespace L2
open PySem PySem.Spec
structure ObAt (K:Frag) (mg:Str->Option Value) (x:Str) (C:Addr):Prop where
 mgx:mg x=some (.ref C)
 cl:Cls K C
 mks:PySem.W.makesIn K C=true
 kp:keepIn K (.ref C)=true
structure MeAt (K:Frag) (C:Addr) (m qn:Str) (st:Stmt) (ps:List Str) (f:Addr) (fd:FuncData):Prop where
 fn:Fun K m qn st f fd
 me:Meth K C m f
 bd:Binds K fd ps []
structure MeOk (P:Program) (w:World) (K:Frag) (mg:Str->Option Value) (base:Heap) (C:Addr) (m:Str) (k:Nat) (ps:List Str) (sp:Sp) (f:Addr) (fd:FuncData):Prop where
 me:Meth K C m f
 ok:FnOk P w K mg base CX0 k f fd ps sp
 bd:Binds K fd ps []
def CanM (P:Program) (w:World) (K:Frag) (mg:Str->Option Value) (base:Heap) (C:Addr) (m:Str) (k:Nat) (ps:List Str) (sp:Sp):Prop:=∃ f fd,MeOk P w K mg base C m k ps sp f fd
theorem MeAt.can {P:Program} {w:World} {K:Frag} {mg:Str->Option Value} {base:Heap} {C:Addr} {m qn:Str} {st:Stmt} {k:Nat} {ps:List Str} {sp:Sp} {f:Addr} {fd:FuncData} (D:MeAt K C m qn st ps f fd) (ok:FnOk P w K mg base CX0 k f fd ps sp):CanM P w K mg base C m k ps sp:=⟨f,fd,D.me,ok,D.bd⟩
section
variable {X:Cx} {k j:Nat} {ps:List Str} {sp:Sp} {x m:Str} {p pos apos:Pos} {o e:Expr} {es:List Expr} {t:TA} {ta:TE} {C:Addr}
theorem ae6 {pl:Sem Bool} (F:CanM X.prog X.w X.K X.mg X.base C m k ps sp) (c:Cls X.K C) (d:Room j X.A) (i:PE X o ta) (ha:PA X (e :: es) t) (h:k<=j:=by decide)
  (b:starEach (e :: es) X.env=(false,eval e X.env) :: starEach es X.env:=by rfl) (a:(backTo pos (starEach es X.env)).any (·.1)=false:=by rfl)
  (g:eval (.Call (.Attribute o m apos) (e :: es) [] pos) X.env=(do
   let ov ← eval o X.env
   standAt apos.atName
   let (f,first) ← holding [ov] (getMethod ov m pl)
   callWith pos f first (backTo pos (starEach (e :: es) X.env)) (backToKw pos (keywordEach [] X.env))):=by rfl) :
  PE X (.Call (.Attribute o m apos) (e :: es) [] pos) (ake C m sp [] E0 ta t):=by
 obtain ⟨f,fd,M⟩:=F
 exact avl i c M.me M.ok (d.mono h) M.bd .nil ao5 ha b a g
theorem aug (F:CanM X.prog X.w X.K X.mg X.base C "__init__" k ps sp) (O:ObAt X.K X.mg x C) (c:Room j X.A) (ha:PA X (e :: es) t) (d:k+1<=j:=by decide) (g:Gl X x:=by rfl) (b:(x == ("__debug__" : Str))=false:=by decide)
  (h:starEach (e :: es) X.env=(false,eval e X.env) :: starEach es X.env:=by rfl) (a:(backTo pos (starEach es X.env)).any (·.1)=false:=by rfl) :
  PE X (.Call (.Name x p) (e :: es) [] pos) (ao2 C sp [] E0 t):=by
 obtain ⟨f,fd,M⟩:=F
 exact avm ⟨O.mks,M.me.at_,M.me.fn,O.kp⟩ M.ok (c.mono d) g O.mgx M.bd .nil ao5 ha b h a
end
end L2
namespace L2
open PySem PySem.W PyProof.Rows
def ava:List V->Hp->VK->Prop:=fun xs H Q=>∃ a kvs,xs=[V.ref a]/\H a=some (.dK kvs)/\Q (.int (kvs.length:Int)) H
section
variable {X:Cx}
theorem aps:aa2 X (.builtin "len") ava:=aqt
end
end L2
namespace VL
open PySem PySem.Spec L2
section
variable {B:Bs} {env:En} {Q':PyData->En->Prop} {R:Sl->Prop} {td:TE}
theorem auh {es:List (Key × PyData)} (b:es ≠ []) (h:R (.st (.int (es.length:Int)))):OpA ava [abu es] R:=fun G H vs Q gh rs k=>by
 cases rs with
 | cons r t =>
  cases t
  obtain ⟨a,kvs,rfl,ha,c⟩:=ai5 r b
  refine ⟨a,kvs,rfl,gh _ _ ha,?_⟩
  rw [RpK.length c]
  exact k _ _ _ _ _ (Out.refl gh (.int _)) h
end
def OGW (C:Addr) (x:Str) (d:PyData) (ds:List PyData):Own where
 P:=fun G H v F=>∃ a dx t l u vs,v=.ref a/\H a=some (.ins C dx [(x,.ref t)])/\H dx=some (.own a)/\H t=some (.tup [u,.ref l])/\Rp G u d/\H l=some (.lst vs)/\Rps G vs ds/\∀ b,F b ↔ (b=a\/b=dx)\/(b=t\/b=l)
 mono:=fun ⟨a,dx,t,l,u,vs,e,h1,h2,h3,r3,h4,r4,f⟩ g hh=>⟨a,dx,t,l,u,vs,e,hh a _ ((f a).mpr (.inl (.inl rfl))) h1,hh dx _ ((f dx).mpr (.inl (.inr rfl))) h2,hh t _ ((f t).mpr (.inr (.inl rfl))) h3,r3.same g,hh l _ ((f l).mpr (.inr (.inr rfl))) h4,r4.same g,f⟩
 dom:=fun ⟨a,dx,t,l,u,vs,e,h1,h2,h3,r3,h4,r4,f⟩ b z=>by
  rcases (f b).mp z with (rfl | rfl) | (rfl | rfl)
  ·exact ⟨_,h1⟩
  ·exact ⟨_,h2⟩
  ·exact ⟨_,h3⟩
  ·exact ⟨_,h4⟩
def OAny:Own where
 P:=fun G H v F=>∀ b,F b->∃ o,H b=some o
 mono:=fun h g hh b z=>by
  obtain ⟨o,e⟩:=h b z
  exact ⟨o,hh b o z e⟩
 dom:=fun h b z=>h b z
theorem amf {σ:St} {i:Nat} {v:V} (a : σ[i]?=some (some v)) : σ.set i (some v) = σ:=by
 apply aF5
 intro j
 rw [aD1]
 by_cases h:i=j
 ·subst h
  rw [aE8 rfl,a,aE8 (aA1.mp a).1]
 ·rw [aE9 h]
theorem Rps.prs {G G' H:Hp} (gh:Same G H) (ft:FT G' H):∀ {es:List (Int × Int)} {vs:List V},Rps G vs (es.map prD)->Rps G' vs (es.map prD)
 | [],_,.nil => .nil
 | p :: es,_,.cons r t=>by
  refine .cons ?_ (Rps.prs gh ft t)
  cases r with
  | @tup a xs _ h q =>
   obtain rfl:xs=[V.int p.1,V.int p.2]:=Rps.ints_inv (ns:=[p.1,p.2]) q
   exact .tup (ft a [.inl p.1,.inl p.2] (gh _ _ h)) (.cons (.int _) (.cons (.int _) .nil))
theorem axg {C:Addr} {x:Str} {n:Int} {es:List (Int × Int)}:∀ G G' H v F,Same G H->FT G' H->(OGW C x (.int n) (es.map prD)).P G H v F->(OGW C x (.int n) (es.map prD)).P G' H v F:=fun G G' H v F gh ft b=>by
 obtain ⟨a,dx,t,l,u,vs,e,d,c,g,h,i,j,f⟩:=b
 cases h
 exact ⟨a,dx,t,l,_,vs,e,d,c,g,.int _,i,j.prs gh ft,f⟩
section
variable {B:Bs} {env:En} {QO:Sl->En->Prop} {Q':PyData->En->Prop} {D':VEnds} {K:Frag} {C:Addr} {i:Nat} {x:Str} {tv:TE}
theorem aui (c:Cls K C) (n:NoAttr K C x) (h:EvO B tv env fun s Q=>∃ d ds o,s=.own (OW d ds)/\Q[i]?=some (some o)/\(o=.own (OI C [])\/o=.io (OI C []))/\D'.nx (Q.set i (some (reS o (OGW C x d ds))))):EvS B (sFld K (tVar i) tv x) D' env:=fun σ G H F D I r =>
 h σ G H F _ I fun y Z E N Fv s Q m g1 p z_=>by
  obtain ⟨d,ds,o,es,ei,S,q⟩:=z_
  subst es
  obtain ⟨v,O,g⟩:=m.sl i _ ei
  have ap:(OI C []).P Z E v (N i):=by
   rcases S with rfl | rfl
   ·exact g.1
   ·exact g.1
  obtain ⟨a,dx,us,rfl,M,h2,rf,f⟩:=ap
  cases rf
  obtain ⟨t,l,u,vs,rfl,h3,r3,h4,r4,f'⟩:=p.ok
  refine ⟨_,O,a,C,dx,[],rfl,M,c,n,by decide,?_⟩
  have ad:a ≠ dx:=aey M h2 (by intro z;cases z)
  have W:a ≠ t:=aey M h3 (by intro z;cases z)
  have al:a ≠ l:=aey M h4 (by intro z;cases z)
  have L:∀ b w,E b=some w->∃ w',upd E a (.ins C dx [(x,.ref t)]) b=some w':=fun b w T=>by
   by_cases z:b=a
   ·rw [z];exact ⟨_,aaf⟩
   ·rw [aad z];exact ⟨w,T⟩
  have J:=m.change (A:=OAny) (H2:=upd E a (.ins C dx [(x,.ref t)])) (F2:=N i) (os':=reS o OAny) i ei O (fun b w hb T=>by rw [aad (fun z:b=a=>hb ((f b).mpr (.inl z)))];exact T) L
   (fun b z=>⟨.inl z,by obtain ⟨w,e⟩:=m.fo i b z;exact L b w e⟩) (fun b z=>by obtain ⟨w,e⟩:=m.fo i b z;exact L b w e) (fun b ks e=>by
    by_cases z:b=a
    ·subst z;rw [aaf] at e;cases e
    ·rw [aad z] at e;exact m.ft b ks e) (by
    rcases S with rfl | rfl
    ·exact .inl ⟨rfl,_,rfl⟩
    ·exact .inr ⟨rfl,_,rfl⟩)
  have X:=J.slot (Fv:=fun b=>N i b\/Fv b) i (some (.ref a)) (some (reS o (OGW C x d ds))) (fun b z=>z.elim (m.fg i b) (p.fg b)) (fun b z=>z.elim (m.fr i b) fun z=>by
    cases e:B.R b with
    | none=>rfl
    | some w=>have:=m.rb b w e;rw [p.fb b z] at this;cases this) (fun b z=>z.elim (fun z=>by obtain ⟨w,e⟩:=m.fo i b z;exact L b w e) fun z=>by obtain ⟨w,e⟩:=p.fo b z;exact L b w e) (fun j b Y z U=>by
    rw [aa7 Y] at U
    rcases z with z | z
    ·exact Y (m.fd j i b U z)
    ·exact p.fd j b z U) (fun t' et=>by
    cases et
    have hp:(OGW C x d ds).P Z (upd E a (.ins C dx [(x,.ref t)])) (.ref a) (fun b=>N i b\/Fv b):=⟨a,dx,t,l,u,vs,rfl,aaf,by rw [aad ad.symm];exact h2,by rw [aad W.symm];exact h3,r3,by rw [aad al.symm];exact h4,r4,fun b=>or_congr (f b) (f' b)⟩
    refine ⟨_,rfl,?_⟩
    rcases S with rfl | rfl
    ·exact ⟨hp,fun b z=>z.elim (g.2 b) (p.fb b)⟩
    ·exact ⟨hp,fun b z=>z.elim (g.2.1 b) fun z => .inr (p.fb b z),g.2.2⟩)
  rw [amf O,List.set_set] at X
  exact r.nx _ _ _ _ _ X g1 q
theorem arz {f:VIo} {E:XK} {L:Own} {d:PyData} (O:Has env i L) (R:Frz L d) (h:f (OI C []) [.st d] fun A' s=>s=.st .none/\(∀ G G' H v F,Same G H->FT G' H->A'.P G H v F->A'.P G' H v F)/\QO (.own A') env):EvO B (ao2 C (spI K f) [] E (aa1 (tVar i) tNil)) env QO:=fun σ G H F Q I k=>by
 obtain ⟨v0,A,ap⟩:=I.has O
 refine ⟨v0,A,?_⟩
 intro x dx nx c p
 simp only [aE5]
 have S:=abb (H:=H) (I.fg i)
 have n:Same H (upd (upd H dx (.own x)) x (.ins C dx [])):=fun a o e=>by rw [aad (aal e nx),aad (aal e c)];exact e
 have u:FT (jn G H (F i)) (upd (upd H dx (.own x)) x (.ins C dx [])):=fun a m e=>S _ _ (by
  by_cases z:a=x
  ·subst z;rw [aaf] at e;cases e
  ·rw [aad z] at e
   by_cases z2:a=dx
   ·subst z2;rw [aaf] at e;cases e
   ·rw [aad z2] at e;exact I.ft a m e)
 have g:Same (jn G H (F i)) H:=akm I.gh
 refine ⟨.ref x,[v0],jn G H (F i),H,OI C [],_,fun b=>b=x\/b=dx,_,rfl,g.trans n,u,n,⟨x,dx,[],rfl,aaf,by rw [aad p,aaf],.nil,fun b=>Iff.rfl⟩,fun a z=>?_,fun a z=>?_,.cons (s:=.st d) (R _ _ _ _ ap (I.fg i) I.gh) .nil,h,fun A' s ⟨es,tr,q⟩ v G' H' F' Fv o=>?_⟩
 ·rcases z with rfl | rfl
  ·exact aa4 g nx
  ·exact aa4 g c
 ·rcases z with rfl | rfl
  ·exact nx
  ·exact c
 ·subst es
  have N:v=.non:=by
   obtain ⟨r,_⟩:=o.ok
   cases r
   rfl
  have hh:Same H H':=o.rs
  have l:FT (fun a=>if H a=none then G' a else G a) H':=fun a m e=>by
   by_cases z:H a=none
   ·exact (aE8 z).trans (o.ft a m e)
   ·refine (aE9 z).trans ?_
    obtain ⟨w,M⟩:=ahs z
    have:=hh a w M
    rw [e] at this
    exact I.ft a m (by rw [M,← this])
  have D:Same G (fun a=>if H a=none then G' a else G a):=fun a w e=>by
   show (if H a=none then G' a else G a)=some w
   rw [aE9 (by rw [I.gh a w e];simp)];exact e
  have J:=I.grow D (fun a w e=>by
   by_cases z:H a=none
   ·exact o.gh a w ((aE8 z).symm.trans e)
   ·exact hh _ _ (I.gh a w ((aE9 z).symm.trans e))) hh (fun a w e=>by
   by_cases z:H a=none
   ·exact .inr z
   ·exact .inl ((aE9 z).symm.trans e)) l
  have hn:∀ a,F' a->H a=none:=fun a z=>by
   rcases o.fi a z with y | y
   ·rcases y with rfl | rfl
    ·exact nx
    ·exact c
   ·cases e1:H a with
    | none=>rfl
    | some w1=>rw [n a w1 e1] at y;cases y
  exact ⟨N,k (.ref x) _ H' F F' (.own A') env J D ⟨tr _ _ _ _ _ o.gh l o.ap,fun a z=>I.no_b (hn a z),fun a z=>(aE8 (hn a z)).trans (o.fg a z),fun a z=>A'.dom o.ap a z,fun j a z=>I.no_f (hn a z) j⟩ q⟩
theorem auj {t:TS} {d:PyData} {ds:List PyData} (i:Nat) (e:env[i]?=some (some (.own (OGW C x d ds)))) (h:EvS B t D' (env.set i (some (.own (OI C [(x,.tuple [d,.list ds])]))))):EvS B t D' env:=fun σ G H F D I r=>by
 obtain ⟨v,s,⟨a,dx,c,l,u,vs,rfl,p,o,m,K,n,L,f⟩,hb⟩:=I.sl i _ e
 have ft:F i c:=(f c).mpr (.inr (.inl rfl))
 have M:F i l:=(f l).mpr (.inr (.inr rfl))
 have fi:∀ b,b=c\/b=l->F i b:=fun b z=>(f b).mpr (.inr z)
 have fo:∀ b,b=a\/b=dx->F i b:=fun b z=>(f b).mpr (.inl z)
 have q:Same G (jn G H fun b=>b=c\/b=l):=abb fun b z=>I.fg i b (fi b z)
 have w:=(I.drop i).freeze (Fv:=fun b=>b=c\/b=l) (fun b z=>hb b (fi b z)) (fun j b z y=>by
  by_cases g:j=i
  ·subst g;exact putF_same.mp y
  ·rw [aa7 g] at y;exact g (I.fd j i b y (fi b z))) (fun b z=>I.fg i b (fi b z))
 have E:∀ b,b=a\/b=dx->¬ (b=c\/b=l):=fun b z y=>by
  rcases z with rfl | rfl <;> rcases y with rfl | rfl
  ·rw [p] at m;cases m
  ·rw [p] at n;cases n
  ·rw [o] at m;cases m
  ·rw [o] at n;cases n
 have J:=w.slot (Fv:=fun b=>b=a\/b=dx) i (some (.ref a)) (some (.own (OI C [(x,.tuple [d,.list ds])]))) (fun b z=>by rw [aht (E b z)];exact I.fg i b (fo b z)) (fun b z=>I.fr i b (fo b z)) (fun b z=>I.fo i b (fo b z)) (fun j b g z y=>by
  rw [aa7 g] at y;exact g (I.fd j i b y (fo b z))) (fun t A=>by
  cases A
  refine ⟨_,rfl,⟨a,dx,_,rfl,p,o,.cons (.tup (by rw [ac5 (.inl rfl)];exact m) (.cons (K.same q) (.cons (.lst (by rw [ac5 (.inr rfl)];exact n) (L.same q)) .nil))) .nil,fun b=>Iff.rfl⟩,fun b z=>hb b (fo b z)⟩)
 rw [amf s,List.set_set] at J
 exact h σ _ H _ D J (r.later q)
end
end VL
namespace DictL
open PySem PyProof.Rows
theorem ah8:entryFor table "dict.update.loop" = some Builtin.«dict.update.loop»:=entryFor_of_tree (by kernel_rfl)
theorem ads:plainId "dict.update.loop" = true:=by decide +kernel
section
variable {prog:Program} {w:World} {A:Around} {R:Result->Shared->Prop} {I:Addr} {fp wr:List Addr} {n:Nat} {P:Nat->Value->Prop} {St:Nat->Heap->Prop} {K:Type} [DecidableEq K] {knd:KeyKind prog w K}
theorem axh {M:Model} {E:Value->Shared->Prop} {s:Shared} {t:Addr} {k v:Value} {Q:List Value->Shared->Prop} {c:Value->Sem (List Value)} (b:s.heap.IsTuple t #[k,v]) (h:Q [k,v] s):wpAny M A ((Builtin.Dict.pairItems (.ref t)).tryCatch c) Q E s:=by
 obtain ⟨⟨cls,dd,data,sl⟩,i,a,m,hd⟩:=b
 simp only at a hd
 subst a hd
 refine wpAny_tryCatch ?_
 unfold Builtin.Dict.pairItems
 obtain ⟨f,g,d,j,os⟩:=s
 wp_walk
 exact h
theorem ar0 (W:Walks prog w A.in1 I fp wr n P St) (S:Addr) (p:S ∉ fp) (q:Nat->K) (J val:Nat->Value) (tup:Nat->Addr) (g:Nat->List (K × Value)) (hk:∀ i,g (i+1)=stored (g i) (q i) (val i)) (hz:∀ i,i<=n->(g i).length<=sizeLine)
  (hP:∀ i v,P i v->v=.ref (tup i)) (f:∀ i,i < n->tup i ≠ S/\tup i ∉ wr) (l:∀ i,i < n->knd.is (q i) (J i)=true) :
  ∀ (k i:Nat) (s:Shared),n - i=k->i<=n->St i s.heap->(∀ j,i<=j->j < n->s.heap.IsTuple (tup j) #[J j,val j])->s.heap.DictOf knd S (g i) ->
   (∀ h' B,h'.DictOf knd S (g n)->(∀ b o,b ≠ S->b ∉ wr->s.heap.get? b=some o->h'.get? b=some o)->R (.ok (.ret .none)) { s with heap:=h',toks:=B }) ->
   codeAny (model prog w) A (.builtin "dict.update.loop" ⟨[.ref S,.ref I,rawInt i,.none],[]⟩) R s:=by
 have m:S ∉ wr:=fun h=>p (W.sub _ h)
 intro k
 induction k with
 | zero =>
  intro i s M hi c L N H
  have Q:i=n:=by omega
  subst Q
  refine codeAny_builtin ah8 ?_
  rw [aI9 ads _]
  show wpAny _ A.in1 (pyNext (.ref I) >>= _) _ _ s
  refine aI0 (W.done s _ _ c fun h' B hm=>?_)
  dsimp only
  unfold Builtin.Dict.addKeywords
  refine aI0 (aI0 (aI1 (aI1 ?_)))
  refine aI1 ?_
  exact H h' B (by obtain ⟨o,es,ep,d,r⟩:=N;exact ⟨o,es,ep,hm S o m d,r⟩) fun b o _ hb e=>hm b o hb e
 | succ k ih =>
  intro i s M hi c L N H
  have a:i < n:=by omega
  refine codeAny_builtin ah8 ?_
  rw [aI9 ads _]
  show wpAny _ A.in1 (pyNext (.ref I) >>= _) _ _ s
  refine aI0 (W.item i s _ _ a c fun v h' B C x hm=>?_)
  have X:=hP i v C
  subst X
  dsimp only
  have T:h'.IsTuple (tup i) #[J i,val i]:=by
   obtain ⟨o,d,r⟩:=L i (aA6 _) a
   exact ⟨o,hm _ o (f i a).2 d,r⟩
  have U:h'.DictOf knd S (g i):=by obtain ⟨o,es,ep,d,r⟩:=N;exact ⟨o,es,ep,hm S o m d,r⟩
  refine aI0 (aI5 ?_)
  refine aI0 (axh T ?_)
  dsimp only
  refine aI5 (wpAny_dictSet_pairs (l i a) U (fun Y O u=>?_) (hz i hi))
  have keep:∀ b o,b ≠ S->b ∉ wr->s.heap.get? b=some o->Y.get? b=some o:=fun b o b1 y e=>by rw [u.2 b b1];exact hm b o y e
  refine aI1 ⟨plainId_quiet ads _,ih (i+1) _ (by omega) a ?_ ?_ (by rw [hk];exact O) ?_⟩
  ·exact W.frame _ _ _ x fun b hb o e=>by rw [u.2 b (fun z:b=S=>p (by rw [← z];exact hb))];exact e
  ·intro j j1 D
   obtain ⟨o,d,r⟩:=L j (by omega) D
   exact ⟨o,keep _ o (f j D).1 (f j D).2 d,r⟩
  ·intro Z E F G
   exact H Z E F fun b o b1 y e=>G b o b1 y (keep b o b1 y e)
end
section
variable {prog:Program} {w:World} {A:Around} {E:Value->Shared->Prop} {s:Shared}
theorem azs:typeLookup (.type "list") (Str.ofString "keys")=pure none:=by rw [typeLookup_type,builtinLookup_eq_fast];kernel_rfl
theorem axi {a:Addr} {xs:Array Value} {k:Nat} {Q:Option Value->Shared->Prop} (i:s.heap.get? a=some { cls:=.type "list",data:=.seq xs k }) (n:A.handled=none)
  (h:∀ h' l,(∀ b o,s.heap.get? b=some o->h'.get? b=some o)->Q none { s with heap:=h',toks:=l }):wpAny (model prog w) A (getAttr? (.ref a) (Str.ofString "keys")) Q E s:=by
 obtain ⟨m,g,d,l,os⟩:=s
 have j:∀ c,(⟨m,g,d,c,os⟩:Shared).TypeIs (.ref a) "list":=fun _=>⟨_,i,rfl⟩
 have q:=sub_AttributeError
 have v:=PySem.F.slot_list_getattribute.lookup
 have p:=PySem.F.slot_list_getattribute.bind (.ref a)
 have r:=am_list_getattr_none
 unfold getAttr? getAttrBy? getAttrBy
 repeat (any_goals (first | assumption | exact j _ | ((with_reducible show wpAny _ _ (call (Value.builtin "list.__getattribute__") _ _) _ _ _);refine call_meets PySem.F.slot_list_getattribute (j _) am_entry_list_getattribute (PySem.F.args_list_getattribute_2 _ _) (meets_getattribute_miss_list a xs k #[] (Str.ofString "keys") _ azs (by decide +kernel) (by size_fits)) ⟨i,n,fun h' c e f=>?_⟩) | wp_step))
 obtain ⟨t',x,u⟩:=f.there
 show wpAny _ _ (getattributeRaised _ _ _ _ _ _ _) _ _ _
 unfold getattributeRaised
 repeat (any_goals (first | assumption | wp_step))
 exact h _ _ f.keeps
end
section
variable {prog:Program} {w:World} {A:Around} {E:Value->Shared->Prop} {s:Shared} {K:Type} [DecidableEq K] {knd:KeyKind prog w K}
theorem call_dict_list {l:Addr} {items:Array Value} {nl:Nat} {Q:Value->Shared->Prop} (f:Nat->K) (I val:Nat->Value) (tup:Nat->Addr) (p:Nat->List (K × Value)) (P:p 0=[]) (R:∀ i,p (i+1)=stored (p i) (f i) (val i)) (hz:∀ i,i<=items.size->(p i).length<=sizeLine)
  (hh:A.handled=none) (x:s.heap.get? l=some { cls:=.type "list",data:=.seq items nl }) (T:∀ i v,items[i]?=some v->v=Value.ref (tup i)) (N:∀ j,j < items.size->s.heap.IsTuple (tup j) #[I j,val j]) (q:∀ i,i < items.size->knd.is (f i) (I i)=true)
  (h:∀ (h':Heap) (J:Nat),h'.DictOf knd s.heap.objs.size (p items.size)->(∀ b o,s.heap.get? b=some o->h'.get? b=some o)->Q (.ref s.heap.objs.size) { s with heap:=h',toks:=J }) :
  wpAny (model prog w) A (call (.type "dict") [.ref l]) Q E s:=by
 refine callType_codes (Q₁:=fun obj c=>obj=.ref s.heap.objs.size/\c={ s with heap:=s.heap.push { cls:=.type "dict",data:=.dict #[] } }) F.kt_called_dict (F.kt_typeCall_dict_1 _) F.entry_dict_init (kt_code_dict_new (.ref l) ⟨rfl,rfl⟩) fun obj c z=>?_
 obtain ⟨rfl,rfl⟩:=z
 have O:(s.heap.push { cls:=.type "dict",data:=.dict #[] }).get? s.heap.objs.size=some { cls:=.type "dict",data:=.dict #[] }:=aI4 _ rfl
 refine ⟨⟨_,O,rfl⟩,F.args_dict_init_2 _ _,?_⟩
 have a:(s.heap.push { cls:=.type "dict",data:=.dict #[] }).get? l=some { cls:=.type "list",data:=.seq items nl }:=aI2 _ x
 have S:(Value.type "list" == Value.type "dict")=false:=by decide
 unfold Builtin.«dict.__init__» Builtin.Dict.updateCommon Builtin.Dict.updateFrom
 obtain ⟨m,g,d,J,os⟩:=s
 dsimp only at *
 generalize hPI:pyIter=PI
 generalize hGA:getAttr?=GA
 wp_walk
 subst hGA hPI
 refine axi (s:={ heap:=m.push { cls:=.type "dict",data:=.dict #[] },gens:=g,drawn:=d,toks:=J,os:=os }) a hh fun n H D=>?_
 rw [aE8 (show (none:Option Value).isNone=true from rfl)]
 refine aI0 (wpAny_rule ?_)
 have C:n.IsList l items:=⟨_,D _ _ a,rfl,nl,rfl⟩
 have u:l < m.objs.size:=aI3 x
 have B:=D _ _ O
 have hsz:m.objs.size < n.objs.size:=aI3 B
 refine aI0 (aJ3 (s:={ heap:=n,gens:=g,drawn:=d,toks:=H,os:=os }) C ?_)
 refine aI1 ⟨plainId_quiet ads _,?_⟩
 have y:l ≠ n.objs.size:=aB5 (Nat.lt_trans u hsz)
 have L:m.objs.size ∉ [n.objs.size,l]:=by
  simp only [aA8,List.not_mem_nil,or_false,not_or]
  exact ⟨aB5 hsz,Nat.ne_of_gt u⟩
 have tl:∀ j,j < items.size->tup j < m.objs.size:=fun j M=>let ⟨_,e,_⟩:=N j M;aI3 e
 refine ar0 (A:=A.in1) (knd:=knd) (Walks.list (A:=A.in1.in1) hh n.objs.size l y items) m.objs.size L f I val tup p R hz T (fun i hi=>⟨aB5 (tl i hi),by simp only [aC1];exact aB5 (Nat.lt_trans (tl i hi) hsz)⟩) q (items.size - 0) 0 _ (by omega) (aF3 _)
  ⟨⟨_,aI4 _ rfl,rfl,rfl⟩,C.push _⟩ (fun j _ M=>?_) ?_ fun h' G W kp=>?_
 ·obtain ⟨o,e,r⟩:=N j M
  exact ⟨o,aI2 _ (D _ _ (aI2 _ e)),r⟩
 ·rw [P]
  exact ⟨_,#[],0,aI2 _ B,⟨rfl,rfl,rfl⟩,rfl,fun e U=>by simp at U,.nil,List.nodup_nil⟩
 ·refine ⟨rfl,h h' G W fun b o e=>kp b o (aB5 (aI3 e)) (by simp only [aC1];exact aB5 (Nat.lt_trans (aI3 e) hsz)) (aI2 _ (D _ _ (aI2 _ e)))⟩
end
end DictL
namespace L2
open PySem PySem.W PyProof.Rows
def dkOf:List (Int × V)->List (Key × V):=fun kvs=>kvs.map fun p=>(.inl p.1,p.2)
def ar1:List V->Hp->VK->Prop:=fun xs H Q=>∃ (a:Addr) (ts:List Addr) (kvs:List (Int × V)),xs=[.ref a]/\H a=some (.lst (ts.map V.ref))/\ts.length=kvs.length/\kvs.length < 4000/\(kvs.map (·.1)).Nodup /\
 (∀ (i:Nat) t kv,ts[i]?=some t->kvs[i]?=some kv->H t=some (.tup [.int kv.1,kv.2]))/\∀ p,H p=none->Q (.ref p) (upd H p (.dK (dkOf kvs)))
section
variable {K:Type} [DecidableEq K]
def kfOf (key:Nat->K) (val:Nat->Value):Nat->List (K × Value)
 | 0=>[]
 | i+1=>stored (kfOf key val i) (key i) (val i)
theorem amg (a:Nat->K) (val:Nat->Value):∀ i,(kfOf a val i).length<=i
 | 0=>aA6 _
 | i+1=>aC9 (stored_length_le _ _ _) (Nat.succ_le_succ (amg a val i))
theorem amh {kvs:List (K × Value)} {k:K} (h:∀ p∈kvs,p.1 ≠ k):valueAt kvs k=none:=by
 unfold valueAt
 rw [Option.map_eq_none_iff,List.find?_eq_none]
 intro p a e
 exact h p a (by simpa using e)
theorem aod (a:Nat->K) (val:Nat->Value):∀ n,(∀ i j,i < n->j < n->i ≠ j->a i ≠ a j)->kfOf a val n=(List.range n).map fun i=>(a i,val i)
 | 0,_=>rfl
 | n+1,h=>by
  have b:=aod a val n fun i j hi d=>h i j (by omega) (by omega)
  show stored (kfOf a val n) (a n) (val n)=_
  rw [b,stored_absent,List.range_succ,aE0]
  ·rfl
  ·refine amh fun p c=>?_
   obtain ⟨i,hi,rfl⟩:=aB6.mp c
   have:=aB8.mp hi
   exact h i n (by omega) (by omega) (by omega)
end
theorem ar2 {k:Nat->Key} {g:Nat->V} {g':Nat->Value}:∀ {l:List Nat},(∀ i∈l,RelV (g i) (g' i))->KV (l.map fun i=>(k i,g i)) (l.map fun i=>(k i,g' i))
 | [],_ => .nil
 | i :: l,h => .cons ⟨rfl,h i aB7⟩ (ar2 fun j a=>h j (aB4 _ a))
section
variable {X:Cx}
theorem apt (L:X.calm=true):aa2 X (.type "dict") ar1:=by
 intro pins s σ H xs us Q I r h
 obtain ⟨a,b,kvs,rfl,ha,R,S,hn,O,q⟩:=h
 obtain ⟨u,rfl,A⟩:=ab9 r
 cases A
 obtain ⟨hz,its,nl,D,e⟩:=(show ObjOk X.prog X.w H s.heap a (.lst (b.map V.ref)) from I.hok a _ ha)
 have c:its.length=b.length:=by have:=D.length;rw [aA3] at this;omega
 have B:∀ i:Nat,∃ p:Value × Value,i < b.length->s.heap.IsTuple (b.getD i 0) #[p.1,p.2]/\(∃ t,p.1=.int ((kvs.getD i (0,.non)).1) t)/\RelV (kvs.getD i (0,.non)).2 p.2:=fun i=>by
  by_cases hi:i < b.length
  ·have z:b[i]?=some (b.getD i 0):=by rw [aD2,aA0 hi];rfl
   have P:kvs[i]?=some (kvs.getD i (0,.non)):=by rw [aD2,aA0 (by omega)];rfl
   obtain ⟨_,N,g,p2⟩:=(show ObjOk X.prog X.w H s.heap _ (.tup _) from I.hok _ _ (O i _ _ z P))
   cases g with
   | cons r1 g =>
    cases g with
    | cons g r3 =>
     cases r3
     exact ⟨(_,_),fun _=>⟨p2,r1,g⟩⟩
  ·exact ⟨(.none,.none),fun h=>absurd h hi⟩
 obtain ⟨f,hf⟩:=Classical.skolem.mp B
 have y:∀ i j,i < b.length->j < b.length->i ≠ j->(Sum.inl (kvs.getD i (0,.non)).1:Key) ≠ Sum.inl (kvs.getD j (0,.non)).1:=fun i j hi F n e=>by
  have e:=Sum.inl.inj e
  have l:=aG0.mp hn
  rw [aD2,aD2,aA0 (show i < kvs.length by omega),aA0 (show j < kvs.length by omega)] at e
  rcases Nat.lt_or_gt_of_ne n with d | d
  ·exact l i j (by rw [aA3];omega) (by rw [aA3];omega) d (by simpa using e)
  ·exact l j i (by rw [aA3];omega) (by rw [aA3];omega) d (by simpa using e.symm)
 refine DictL.call_dict_list (knd:=aa6 X.prog X.w) (items:=its.toArray) (nl:=nl) (fun i => .inl (kvs.getD i (0,.non)).1) (fun i=>(f i).1) (fun i=>(f i).2) (fun i=>b.getD i 0) (kfOf (fun i => .inl (kvs.getD i (0,.non)).1) fun i=>(f i).2) rfl (fun i=>rfl) (fun i hi=>aC9 (amg _ _ i) (aC9 hi (by rw [sizeLine_eq];simp;omega)))
  (I.ok.hd L) e (fun i v m=>?_) (fun j F=>(hf j (by simpa [c] using F)).1) (fun i hi=>?_) fun h' M G kp=>?_
 ·have m:its[i]?=some v:=by simpa using m
  have hi:=(aA1.mp m).1
  have z:(b.map V.ref)[i]?=some (.ref (b.getD i 0)):=by rw [aA5,aD2,aA0 (by omega)];rfl
  obtain ⟨u,E,A⟩:=D.get z
  rw [m] at E
  cases E
  exact A
 ·obtain ⟨_,⟨t,J⟩,_⟩:=hf i (by simpa [c] using hi)
  rw [J]
  exact agp _ _ _ _
 ·have C:h'.DictOf (aa6 X.prog X.w) s.heap.objs.size ((List.range b.length).map fun i=>(Sum.inl (kvs.getD i (0,.non)).1,(f i).2)):=by
   rw [show its.toArray.size=b.length by simp [c],aod _ _ _ y] at G
   exact G
  have x:KV (dkOf kvs) ((List.range b.length).map fun i=>((Sum.inl (kvs.getD i (0,.non)).1:Key),(f i).2)):=by
   have K:dkOf kvs=(List.range b.length).map fun i=>((Sum.inl (kvs.getD i (0,.non)).1:Key),(kvs.getD i (0,.non)).2):=by
    refine aF5 fun i=>?_
    unfold dkOf
    rw [aA5,aA5]
    by_cases hi:i < b.length
    ·rw [aD7 hi,aA0 (show i < kvs.length by omega),aH5,aH5,aD2,aA0 (show i < kvs.length by omega)]
     rfl
    ·rw [aD9 (show kvs.length<=i by omega),aD9 (show (List.range b.length).length<=i by rw [List.length_range];omega)]
     rfl
   rw [K]
   exact ar2 fun i hi=>(hf i (aB8.mp hi)).2.2
  refine ⟨.ref s.heap.objs.size,_,I.laid (t':=M) (o:=.dK (dkOf kvs)) kp (aA6 _) ?_,rfl,q _ (I.hok.fresh (aA6 _))⟩
  refine ⟨by unfold dkOf;rw [aA3,sizeLine_eq];omega,beq_eq_false_iff_ne.mpr (Ne.symm (aB5 I.big)),_,x,C⟩
end
end L2
namespace VL
open PySem PySem.Spec L2
def kvI {α:Type}:Nat->List α->List (Int × α)
 | _,[]=>[]
 | k,x :: xs=>((k:Int),x) :: kvI (k+1) xs
theorem aoe {α:Type}:∀ (k:Nat) (xs:List α),(kvI k xs).length=xs.length
 | _,[]=>rfl
 | k,_ :: xs=>by rw [kvI,aE1,aE1,aoe]
theorem aof {α:Type}:∀ (k:Nat) (xs:List α) (i:Nat),(kvI k xs)[i]?=xs[i]?.map fun x=>(((k+i:Nat):Int),x)
 | _,[],i=>by simp [kvI]
 | k,x :: xs,0=>by simp [kvI]
 | k,x :: xs,i+1=>by
  rw [kvI,aH4,aH4,aof (k+1) xs i,show k+1+i=k+(i+1) by omega]
theorem ajw {α:Type}:∀ (k:Nat) (xs:List α),((kvI k xs).map (·.1)).Nodup/\∀ p∈kvI k xs,(k:Int)<=p.1
 | _,[]=>⟨List.nodup_nil,fun p a=>by simp [kvI] at a⟩
 | k,x :: xs=>by
  obtain ⟨c,b⟩:=ajw (k+1) xs
  refine ⟨?_,fun p a=>?_⟩
  ·rw [kvI,aD0,aH7]
   refine ⟨fun hm=>?_,c⟩
   obtain ⟨p,a,e⟩:=aB6.mp hm
   have:=b p a
   simp only at e
   omega
  ·rw [kvI] at a
   rcases aA8.mp a with rfl | a
   ·exact Int.le_refl _
   ·have:=b p a;omega
theorem aog:∀ (k:Nat) (xs:List V) (i:Nat),valV (dkOf (kvI k xs)) (.inl ((k+i:Nat):Int))=xs[i]?
 | _,[],i=>rfl
 | k,x :: xs,0=>by
  rw [kvI]
  exact aez (p:=(Sum.inl (k:Int),x)) rfl
 | k,x :: xs,i+1=>by
  have e:¬ ((Sum.inl (k:Int):Key)=Sum.inl ((k+(i+1):Nat):Int)):=fun e=>by have:=Sum.inl.inj e;omega
  rw [kvI]
  show valV ((Sum.inl (k:Int),x) :: dkOf (kvI (k+1) xs)) _=_
  rw [ae0 (p:=(Sum.inl (k:Int),x)) e,aH4,← aog (k+1) xs i,show k+1+i=k+(i+1) by omega]
@[reducible] def kvD (ds:List PyData):List (Key × PyData):=(kvI 0 ds).map fun p=>(.inl p.1,p.2)
theorem ami:∀ (k:Nat) (xs:List PyData) (i:Nat),valD ((kvI k xs).map fun p=>((.inl p.1:Key),p.2)) (.inl ((k+i:Nat):Int))=xs[i]?
 | _,[],i=>rfl
 | k,x :: xs,0=>by simp [kvI,valD]
 | k,x :: xs,i+1=>by
  have e:¬ ((k:Int)=((k+(i+1):Nat):Int)):=fun e=>by omega
  rw [kvI,aH4,← ami (k+1) xs i,show k+1+i=k+(i+1) by omega]
  simp only [valD,aD0,List.find?_cons]
  rw [aD5 (fun z:(Sum.inl (k:Int):Key)=Sum.inl ((k+(i+1):Nat):Int)=>e (Sum.inl.inj z))]
theorem axj {xs:List PyData} {i:Int} {d:PyData} (a:0<=i) (h:xs[i.toNat]?=some d):valD (kvD xs) (.inl i)=some d:=by
 have:=ami 0 xs i.toNat
 rw [show ((0+i.toNat:Nat):Int)=i by omega] at this
 exact this.trans h
theorem azt {xs:List PyData} (h:xs ≠ []):kvD xs ≠ []:=by
 cases xs with
 | nil=>exact absurd rfl h
 | cons x xs=>exact List.cons_ne_nil _ _
def ODL (dss:List (List PyData)):Own where
 P:=fun G H v F=>∃ (a:Addr) (as:List Addr),v=.ref a/\H a=some (.dK (dkOf (kvI 0 (as.map V.ref))))/\as.Nodup/\a ∉ as/\as.length=dss.length/\(∀ (i:Nat) b ds,as[i]?=some b->dss[i]?=some ds->∃ vs,H b=some (.lst vs)/\Rps G vs ds)/\∀ b,F b ↔ b=a\/b∈as
 mono:=fun ⟨a,as,e,h,n1,n2,l,r,f⟩ g hh=>⟨a,as,e,hh a _ ((f a).mpr (.inl rfl)) h,n1,n2,l,fun i b ds hb hd=>by
  obtain ⟨vs,h1,h2⟩:=r i b ds hb hd
  exact ⟨vs,hh b _ ((f b).mpr (.inr (aA2 hb))) h1,h2.same g⟩,f⟩
 dom:=fun ⟨a,as,e,h,n1,n2,l,r,f⟩ b z=>by
  rcases (f b).mp z with rfl | z
  ·exact ⟨_,h⟩
  ·obtain ⟨i,hi,e⟩:=aG9.mp z
   have hb:as[i]?=some b:=by rw [aA0 hi,e]
   obtain ⟨vs,h1,_⟩:=r i b _ hb (aA0 (by rw [← l];exact hi))
   exact ⟨_,h1⟩
theorem ar3 {G:Hp}:∀ (k:Nat) {vs:List V} {ds:List PyData},vs.length=ds.length->(∀ (i:Nat) v d,vs[i]?=some v->ds[i]?=some d->Rp G v d)->RpK G (dkOf (kvI k vs)) ((kvI k ds).map fun p=>(.inl p.1,p.2))
 | _,[],[],_,_ => .nil
 | _,[],_ :: _,h,_=>by simp at h
 | _,_ :: _,[],h,_=>by simp at h
 | k,v :: vs,d :: ds,h,q => .cons (q 0 v d rfl rfl) (ar3 (k+1) (by simpa using h) fun i v d a b=>q (i+1) v d (by simpa using a) (by simpa using b))
theorem axk {c:List (List PyData)}:Frz (ODL c) (abu (kvD (c.map .list))):=fun G H v F ⟨a,as,e,h,q,p,l,r,f⟩ n g=>by
 subst e
 refine .dk (by rw [ac5 ((f a).mpr (.inl rfl))];exact h) (ar3 0 (by simp [l]) fun i u d j hd=>?_) rfl
 rw [aA5] at j hd
 cases hb:as[i]? with
 | none=>rw [hb] at j;cases j
 | some b =>
  cases hds:c[i]? with
  | none=>rw [hds] at hd;cases hd
  | some ds =>
   rw [hb] at j;rw [hds] at hd
   cases j;cases hd
   obtain ⟨vs,o,m⟩:=r i b ds hb hds
   exact .lst (by rw [ac5 ((f b).mpr (.inr (aA2 hb)))];exact o) (m.same (abb n))
section
variable {B:Bs} {env:En} {QO:Sl->En->Prop} {Q':PyData->En->Prop} {D':VEnds} {K:Frag} {i:Nat}
theorem ar4 {src:List (Option Nat)} {wi:TI} (h:EvI B wi env fun ds e1=>∃ n:Nat,ds=rngD 0 n/\n<=3000/\QO (.own (ODL (List.replicate n []))) e1) :
  EvO B (tCB ar1 (aa1 (tLC (none :: src) wi (abr 0) tYes (tTup (aa1 (tVar 0) (aa1 (tLst tNil) tNil)))) tNil)) env QO:=fun σ G H F Q I k=>by
 refine h σ G H F _ I fun J G1 T F1 ds e1 U g1 it ⟨N,ed,a9,q⟩ d r=>?_
 subst ed
 have hL:(rngD 0 N).length=N:=acf
 let W:Nat->List V->St->Hp->Prop:=fun n ys σI H=>∃ (K as:List Addr) (s:Hp),ys=K.map V.ref/\K.length=n/\as.length=n/\as.Nodup/\d ∉ as/\0 < σI.length /\
  (∀ (i:Nat) t b,K[i]?=some t->as[i]?=some b->H t=some (.tup [.int (i:Int),.ref b]))/\(∀ t∈K,T t=none/\t ≠ d/\t ∉ as) /\
  (∀ b∈as,T b=none/\s b=none/\H b=some (.lst []))/\H d=some (.lst ys)/\s d=none/\Same G1 s/\Same s H/\Same T H/\(∀ a o,s a=some o->G1 a=some o\/T a=none)/\FT s H
 refine ⟨fun n m ys σI H=>m=N - n/\n<=N/\W n ys σI H,⟨N,by simp,aF3 _,[],[],G1,rfl,rfl,rfl,List.nodup_nil,by simp,by simp [pick],fun i t b h=>by simp at h,fun t A=>by simp at A,fun b hb=>by simp at hb,aaf,U.no_g r,Same.refl _,U.gh.trans (abe r),abe r,fun a o e => .inl e,fun a ks e=>?_⟩,?_⟩
 ·by_cases z:a=d
  ·subst z;rw [aaf] at e;cases e
  ·rw [aad z] at e;exact U.ft a ks e
 rintro n m ys σI H2 ⟨rfl,hn,K,as,s,rfl,hl,L,nd,na,Y,D,Z,all,l,ga,X,M,E,a2,O⟩
 refine ⟨l,?_⟩
 by_cases hlt:n < N
 ·refine .inr ⟨it.go n s H2 X M (by omega),fun a1 a0 H'=>W (n+1) a1 a0 H',fun a1 a0 H' hw=>⟨N - (n+1),by omega,rfl,hlt,hw⟩,fun x H3 y=>?_⟩
  obtain ⟨G3,o⟩:=it.yld n s H2 x H3 (.int (0+(n:Int))) X M O (by unfold rngD;rw [aA5,aD7 hlt];rfl) y
  have rx:=o.ok.1
  cases rx
  refine aij (ak8 (ace (ayj (aik (aqv (v:=.int (0+(n:Int))) (by rw [aD1,aE8 rfl,aE8 Y]) (aik (aqw (afq ⟨by decide,fun p g=>afq ⟨show (2:Nat)<=sizeLine by rw [sizeLine_eq];decide,fun t A=>?_⟩⟩))))))))
  have n2:H2 p=none:=aa4 o.hh g
  have n1:T p=none:=aa4 E n2
  have tp:t ≠ p:=fun e=>by rw [e,aaf] at A;cases A
  rw [aad tp] at A
  have t2:H2 t=none:=aa4 o.hh A
  have t1:T t=none:=aa4 E t2
  have pa:p ≠ d:=(aal (o.hh _ _ l) g).symm
  have ta:t ≠ d:=(aal (o.hh _ _ l) A).symm
  have a3:p ∉ as:=fun z=>by
   have:=o.hh _ _ (all p z).2.2
   rw [this] at g;cases g
  have a7:t ∉ as:=fun z=>by
   have:=o.hh _ _ (all t z).2.2
   rw [this] at A;cases A
  have old:∀ a u,H2 a=some u->a ≠ d->upd (upd (upd H3 p (.lst [])) t (.tup [.int (0+(n:Int)),.ref p])) d (.lst (K.map V.ref ++ [.ref t])) a=some u:=fun a u e aa=>by
   have e3:=o.hh _ _ e
   rw [aad aa,aad (aal e3 A),aad (aal e3 g)]
   exact e3
  have a5:∀ c∈K,∃ u,H2 c=some u:=fun c f=>by
   obtain ⟨i,hi,e⟩:=aG9.mp f
   have R:K[i]?=some c:=by rw [aA0 hi,e]
   exact ⟨_,D i c _ R (aA0 (by omega))⟩
  refine ⟨by rw [aad ta.symm,aad pa.symm];exact o.hh _ _ l,by rw [aA3,hl];exact big (by omega),K ++ [t],as ++ [p],G3,by simp,by simp [hl],by simp [L],?_,?_,by rw [List.length_set];exact Y,fun i c b f hb=>?_,fun c f=>?_,fun b hb=>?_,aaf,?_,X.trans o.gg,fun a u e=>?_,fun a u e=>?_,fun a u e=>?_,fun a ks e=>?_⟩
  ·rw [aE3]
   exact ⟨nd,by simp,fun x hx y hy=>by simp at hy;subst hy;intro e;subst e;exact a3 hx⟩
  ·intro z
   rcases aA7.mp z with z | z
   ·exact na z
   ·exact pa (aC1.mp z).symm
  ·by_cases hi:i < n
   ·rw [aC2 (by omega)] at f hb
    have S:=D i c b f hb
    exact old c _ S (Z c (aA2 f)).2.1
   ·have a4:i=n:=by
     have:=(aA1.mp f).1
     simp at this
     omega
    subst a4
    rw [aC7 (by omega),hl,Nat.sub_self] at f
    rw [aC7 (by omega),L,Nat.sub_self] at hb
    cases f
    cases hb
    rw [aad ta,aaf,Int.zero_add]
  ·rcases aA7.mp f with f | f
   ·obtain ⟨R,S,h3⟩:=Z c f
    refine ⟨R,S,fun z=>?_⟩
    rcases aA7.mp z with z | z
    ·exact h3 z
    ·have e:=aC1.mp z
     subst e
     obtain ⟨u,e⟩:=a5 c f
     rw [e] at n2;cases n2
   ·have e:=aC1.mp f
    subst e
    refine ⟨t1,ta,fun z=>?_⟩
    rcases aA7.mp z with z | z
    ·exact a7 z
    ·exact tp (aC1.mp z)
  ·have gb:∀ b,s b=none->(∃ u,H2 b=some u)->G3 b=none:=fun b R z_=>by
    obtain ⟨u,S⟩:=z_
    cases e:G3 b with
    | none=>rfl
    | some w =>
     rcases o.gn b w e with e | e
     ·rw [R] at e;cases e
     ·rw [S] at e;cases e
   rcases aA7.mp hb with hb | hb
   ·obtain ⟨R,S,h3⟩:=all b hb
    exact ⟨R,gb b S ⟨_,h3⟩,old b _ h3 (fun z:b=d=>na (by rw [← z];exact hb))⟩
   ·have e:b=p:=by simpa using hb
    subst e
    exact ⟨n1,aa4 o.gh g,by rw [aad pa,aad tp.symm,aaf]⟩
  ·cases e:G3 d with
   | none=>rfl
   | some w =>
    rcases o.gn d w e with e | e
    ·rw [ga] at e;cases e
    ·rw [l] at e;cases e
  ·have ap:a ≠ p:=aal (o.gh a u e) g
   have a6:a ≠ t:=aal (o.gh a u e) A
   have aa:a ≠ d:=by
    rintro rfl
    rcases o.gn _ u e with e | e
    ·rw [ga] at e;cases e
    ·rw [l] at e;cases e
   rw [aad aa,aad a6,aad ap];exact o.gh a u e
  ·exact old a u (E a u e) (aal e r)
  ·rcases o.gn a u e with e | e
   ·exact a2 a u e
   ·exact .inr (aa4 E e)
  ·by_cases z:a=d
   ·subst z;rw [aaf] at e;cases e
   ·rw [aad z] at e
    by_cases y:a=t
    ·subst y
     rw [aaf] at e
     exfalso
     have e:=HO.tup.inj (aC5 e)
     match ks,e with
     | [],e=>simp at e
     | [_],e=>simp at e
     | [_,.inl _],e=>simp [kV] at e
     | [_,.inr _],e=>simp [kV] at e
     | _ :: _ :: _ :: _,e=>simp at e
    ·rw [aad y] at e
     by_cases y:a=p
     ·subst y;rw [aaf] at e;cases e
     ·rw [aad y] at e;exact o.ft O a ks e
 ·have e:n=N:=by omega
  subst e
  refine .inl ⟨it.stop _ s H2 X M hL.symm,?_⟩
  have P:=U.grow X M E a2 O
  have ke:(kvI 0 (as.map V.ref)).length=n:=by rw [aoe,aA3];exact L
  refine afq ⟨d,K,kvI 0 (as.map V.ref),rfl,l,by omega,by omega,(ajw 0 _).1,fun i c kv f C=>?_,fun p g=>?_⟩
  ·rw [aof,aA5] at C
   cases hb:as[i]? with
   | none=>rw [hb] at C;cases C
   | some b =>
    rw [hb] at C
    cases C
    rw [Nat.zero_add]
    exact D i c b f hb
  ·have J:=P.aside (p:=p) (o:=.dK (dkOf (kvI 0 (as.map V.ref)))) (fun _ z=>nomatch z) (P.no_g g) (fun j z=>P.no_f g j z) (P.no_b g)
   have pn:p ∉ as:=fun z=>by have:=(all p z).2.2;rw [this] at g;cases g
   refine k (.ref p) s _ F1 (fun b=>b=p\/b∈as) (.own (ODL (List.replicate n []))) e1 J (g1.trans X) ⟨⟨p,as,rfl,aaf,nd,pn,by simp [L],fun i b a8 hb hd=>?_,fun b=>Iff.rfl⟩,fun b z=>?_,fun b z=>?_,fun b z=>?_,fun j b z y=>?_⟩ q
   ·rw [aH0] at hd
    split at hd
    ·cases hd
     have hm:=aA2 hb
     exact ⟨[],by rw [aad (fun z:b=p=>pn (z ▸ hm))];exact (all b hm).2.2,.nil⟩
    ·cases hd
   ·rcases z with rfl | z
    ·exact P.no_b g
    ·exact U.no_b (all b z).1
   ·rcases z with rfl | z
    ·exact P.no_g g
    ·exact (all b z).2.1
   ·rcases z with rfl | z
    ·exact ⟨_,aaf⟩
    ·exact ⟨_,by rw [aad (fun e:b=p=>pn (e ▸ z))];exact (all b z).2.2⟩
   ·rcases z with rfl | z
    ·exact P.no_f g j y
    ·exact U.no_f (all b z).1 j y
theorem ah9 {d:List (List PyData)} {l j n:Nat} {k:Int} {y:PyData} {ds:List PyData} (e:env[i]?=some (some (.own (ODL d)))) (R:env[l]?=some (some (.st (.int k)))) (ey:env[j]?=some (some (.st y)))
  (hk:(n:Int)=k) (hd:d[n]?=some ds) (hl:ds.length<=999999) (q:Q' .none (env.set i (some (.own (ODL (d.set n (ds ++ [y]))))))):Ev B (tBM K "list" ac7 (akg (tVar i) (tVar l)) (aa1 (tVar j) tNil)) env Q':=fun σ G H F Q I T=>by
 obtain ⟨v,E,⟨a,as,rfl,h,L,N,ln,r,f⟩,_⟩:=I.sl i _ e
 obtain ⟨vk,C,P,_⟩:=I.sl l _ R
 obtain ⟨X,u,ry,_⟩:=I.sl j _ ey
 cases P
 have hn:n < d.length:=(aA1.mp hd).1
 have hb:as[n]?=some (as[n]'(by omega)):=aA0 _
 generalize as[n]'(by omega)=b at hb
 have s:b∈as:=aA2 hb
 obtain ⟨vs,O,M⟩:=r n b ds hb hd
 have w:valV (dkOf (kvI 0 (as.map V.ref))) (.inl k)=some (.ref b):=by
  have:=aog 0 (as.map V.ref) n
  rw [Nat.zero_add,hk,aA5,hb] at this
  exact this
 refine ⟨_,E,_,C,a,.ref b,rfl,.inl ⟨_,.inl k,.inl h,rfl,w.symm⟩,.inl ⟨rfl,_,SqL.of O⟩,_,u,adh O (by rw [M.length];exact big (by omega)) ?_⟩
 have x:a ≠ b:=fun z=>N (z ▸ s)
 have J:=I.change (A:=ODL (d.set n (ds ++ [y]))) (H2:=upd H b (.lst (vs ++ [X]))) (F2:=F i) (os':=.own (ODL (d.set n (ds ++ [y])))) i e E (fun c o p D=>by rw [aad (fun z:c=b=>p ((f c).mpr (.inr (by rw [z];exact s))))];exact D)
  (fun c o D=>by
   by_cases z:c=b
   ·rw [z];exact ⟨_,aaf⟩
   ·rw [aad z];exact ⟨o,D⟩)
  (fun c z=>⟨.inl z,by
   by_cases y:c=b
   ·rw [y];exact ⟨_,aaf⟩
   ·rw [aad y];exact I.fo i c z⟩) ?_ (fun c U e=>by
   by_cases z:c=b
   ·subst z;rw [aaf] at e;cases e
   ·rw [aad z] at e;exact I.ft c U e) (.inl ⟨rfl,_,rfl⟩)
 ·exact T _ G _ _ _ _ J (Same.refl _) .non q
 ·refine ⟨a,as,rfl,by rw [aad x];exact h,L,N,by simp [ln],fun m c es p g=>?_,f⟩
  by_cases hm:m=n
  ·subst hm
   rw [hb] at p;cases p
   rw [aD1,aE8 rfl,aE8 hn] at g
   cases g
   exact ⟨_,aaf,M.append (.cons ry .nil)⟩
  ·rw [aD1,aE9 (fun z=>hm z.symm)] at g
   obtain ⟨us,h3,h4⟩:=r m c es p g
   refine ⟨us,?_,h4⟩
   rw [aad]
   ·exact h3
   ·rintro rfl
    have i1:=(aA1.mp hb)
    have W:=(aA1.mp p)
    obtain ⟨Z,S⟩:=i1
    obtain ⟨Y,e2⟩:=W
    exact hm (nodup_ix L Y Z (e2.trans S.symm))
end
end VL
namespace L2
open PySem PySem.W PyProof.Rows
def apu:V->List V->Hp->VK->Prop:=fun x vs H Q=>∃ (a:Addr) (kvs:List (Key × V)),x=.ref a/\vs=[]/\H a=some (.dK kvs)/\∀ p,H p=none->Q (.ref p) (upd H p (.ext fun h=>h.IsValuesView p a))
def amj:List V->Hp->VK->Prop:=fun xs H Q=>∃ (p a:Addr) (kvs:List (Key × V)),xs=[.ref p]/\H p=some (.ext fun h=>h.IsValuesView p a)/\H a=some (.dK kvs)/\∀ q,H q=none->Q (.ref q) (upd H q (.lst (kvs.map (·.2))))
section
variable {X:Cx}
theorem axl:MtR X "dict.values" apu:=by
 intro pins s σ H x xs v us Q I g rs h
 obtain ⟨a,kvs,rfl,rfl,ha,q⟩:=h
 cases g
 cases rs
 obtain ⟨z,hd,vs,c,dd⟩:=akf I.hok ha
 refine call_meetsIn PySem.F.slot_dict_values dd.typeIs PySem.F.entry_dict_values (PySem.F.args_dict_values_1 _) (meets_dict_values (aa6 X.prog X.w) a hd) ⟨⟨vs,dd⟩,?_⟩
 have d:(s.heap.push { cls:=.type "dict_values",data:=.fields #[.ref a] }).IsValuesView s.heap.objs.size a:=⟨_,aI4 _ rfl,rfl,rfl⟩
 refine ⟨.ref s.heap.objs.size,_,I.laid (t':=s.toks) (o:=.ext fun h=>h.IsValuesView s.heap.objs.size a) (fun b o e=>aI2 _ e) (aA6 _) ⟨d,⟨_,aI4 _ rfl⟩,fun j i ⟨o,f,r⟩ k=>⟨o,k o f,r⟩⟩,rfl,q _ (I.hok.fresh (aA6 _))⟩
theorem aoh:∀ {kvs:List (Key × V)} {vs:List (Key × Value)},KV kvs vs->Vals (kvs.map (·.2)) (vs.map (·.2))
 | _,_,.nil => .nil
 | _,_,.cons h t => .cons h.2 (aoh t)
theorem apv (x:X.calm=true):aa2 X (.type "list") amj:=by
 intro pins s σ H xs us Q I r h
 obtain ⟨p,a,kvs,rfl,i,ha,q⟩:=h
 obtain ⟨u,rfl,m⟩:=ab9 r
 cases m
 obtain ⟨z,hd,vs,f,dd⟩:=akf I.hok ha
 obtain ⟨ep,g⟩:=dd.dictAt
 obtain ⟨l,_,_⟩:=(show ObjOk X.prog X.w H s.heap p (.ext fun h=>h.IsValuesView p a) from I.hok p _ i)
 have n:=f.length
 refine kdl_call (kdl_values (knd:=aa6 X.prog X.w) (kvs:=vs) (ep:=ep)) (I.ok.hd x) ⟨l,g⟩ (by rw [← n];exact z) fun h' y d c kp A b=>?_
 have e:d.toList=vs.map (·.2):=kdl_vals_eq d.toList (by rw [Array.length_toList];exact b.1) fun j v e=>b.2 j v (by rw [← aD4];exact e)
 refine ⟨.ref s.heap.objs.size,_,I.laid (t':=y) (o:=.lst (kvs.map (·.2))) kp (aA6 _) ⟨by rw [aA3];exact z,d.toList,c,by rw [e];exact aoh f,by rw [Array.toArray_toList];exact A⟩,rfl,q _ (I.hok.fresh (aA6 _))⟩
end
end L2
namespace VL
open PySem PySem.Spec L2
theorem RpK.vals {G:Hp}:∀ {kvs:List (Key × V)} {es:List (Key × PyData)},RpK G kvs es->Rps G (kvs.map (·.2)) (es.map (·.2))
 | _,_,.nil => .nil
 | _,_,.cons h t => .cons h (RpK.vals t)
section
variable {B:Bs} {env:En} {QO:Sl->En->Prop} {K:Frag} {i:Nat}
theorem ar5 {es:List (Key × PyData)} (e:env[i]?=some (some (.st (abu es)))) (d:es ≠ []) (q:QO (.own (OL (es.map (·.2)))) env):EvO B (tCB amj (aa1 (tBM0 K "dict" apu (tVar i)) tNil)) env QO:=fun σ G H F Q I k=>by
 obtain ⟨v,g,r,_⟩:=I.sl i _ e
 obtain ⟨a,kvs,rfl,ha,f⟩:=ai5 r d
 have b:=I.gh _ _ ha
 refine ⟨_,g,.inr (.inr (.inl ⟨rfl,.inl ⟨_,b⟩⟩)),a,kvs,rfl,rfl,b,fun p c=>⟨p,a,kvs,rfl,aaf,by rw [aad (aal b c)];exact b,fun l n=>?_⟩⟩
 have m:G p=none:=I.no_g c
 have J:=I.aside (p:=p) (o:=.ext fun h=>h.IsValuesView p a) (fun _ z=>nomatch z) m (fun j z=>I.no_f c j z) (I.no_b c)
 have o:=Out.newL J.gh n (RpK.vals f)
 exact k _ _ _ F _ _ env (J.out o).1 o.gg (J.out o).2 q
end
section
variable {B:Bs} {env:En} {QO:Sl->En->Prop} {Q':PyData->En->Prop} {K:Frag} {i j:Nat} {ta te:TE}
end
end VL
namespace G
open PySem L2 VL
def top (i:Nat):Stmt:=PySem.Challenge.pw_fewties_k41_places_and_ties_put_in.main.body.getD i (.Pass ⟨0,0,0,0⟩)
abbrev s_is_whole:Stmt:=top 8
abbrev s_is_between:Stmt:=top 9
abbrev s_need_number:Stmt:=top 10
abbrev s_is_place:Stmt:=top 11
abbrev s_is_tie:Stmt:=top 12
abbrev s_are_ties:Stmt:=top 13
abbrev s_is_rising:Stmt:=top 14
abbrev s_tied_places:Stmt:=top 15
abbrev s_far_from:Stmt:=top 16
abbrev s_need_place:Stmt:=top 17
abbrev s_all_far:Stmt:=top 18
abbrev s_is_joined:Stmt:=top 20
abbrev s_need_joined:Stmt:=top 22
abbrev s_far_rows:Stmt:=top 23
abbrev s_most_far:Stmt:=top 24
abbrev s_farthest_two:Stmt:=top 25
abbrev s_with_ties:Stmt:=top 27
abbrev s_far_or_none:Stmt:=top 29
abbrev s_law_deck:Stmt:=top 32
abbrev s_law_draw:Stmt:=top 33
abbrev s_law_tied:Stmt:=top 34
abbrev s_law_fars:Stmt:=top 35
abbrev s_law_order:Stmt:=top 36
abbrev s_law_crowds:Stmt:=top 37
abbrev s_law_web:Stmt:=top 38
abbrev s_law_deed:Stmt:=top 39
abbrev s_law_behind:Stmt:=top 40
abbrev s_law_done:Stmt:=top 41
abbrev s_law_far_of:Stmt:=top 42
abbrev s_law_kept:Stmt:=top 43
abbrev s_law:Stmt:=top 44
abbrev s_Grower____init__:Stmt:=agb (top 30) 0
abbrev s_Grower__put_place:Stmt:=agb (top 30) 1
abbrev s_Grower__put_tie:Stmt:=agb (top 30) 2
abbrev s_Grower__become:Stmt:=agb (top 30) 3
structure Txt (K:Frag) (mg:Str->Option Value):Prop where
 b_ValueError:mg "ValueError" = none
 b_all:mg "all" = none
 b_max:mg "max" = none
 b_sorted:mg "sorted" = none
 b_range:mg "range" = none
 b_dict:mg "dict" = none
 b_list:mg "list" = none
 b_isinstance:mg "isinstance" = none
 b_int:mg "int" = none
 b_len:mg "len" = none
 b_sum:mg "sum" = none
 b_min:mg "min" = none
 b_bool:mg "bool" = none
 b_tuple:mg "tuple" = none
 v_MOST_PLACES:∃ t,mg "MOST_PLACES" = some (.int 60 t)
 d_is_whole:∃ f fd,DefAt K mg "is_whole" s_is_whole ["thing"] f fd
 d_is_between:∃ f fd,DefAt K mg "is_between" s_is_between ["least","most","thing"] f fd
 d_need_number:∃ f fd,DefAt K mg "need_number" s_need_number ["least","most","thing"] f fd
 d_is_place:∃ f fd,DefAt K mg "is_place" s_is_place ["n","thing"] f fd
 d_is_tie:∃ f fd,DefAt K mg "is_tie" s_is_tie ["n","thing"] f fd
 d_are_ties:∃ f fd,DefAt K mg "are_ties" s_are_ties ["n","thing"] f fd
 d_is_rising:∃ f fd,DefAt K mg "is_rising" s_is_rising ["things"] f fd
 d_tied_places:∃ f fd,DefAt K mg "tied_places" s_tied_places ["web"] f fd
 d_far_from:∃ f fd,DefAt K mg "far_from" s_far_from ["tied","start"] f fd
 d_need_place:∃ f fd,DefAt K mg "need_place" s_need_place ["web","thing"] f fd
 d_all_far:∃ f fd,DefAt K mg "all_far" s_all_far ["web","a"] f fd
 d_is_joined:∃ f fd,DefAt K mg "is_joined" s_is_joined ["web"] f fd
 d_need_joined:∃ f fd,DefAt K mg "need_joined" s_need_joined ["web"] f fd
 d_far_rows:∃ f fd,DefAt K mg "far_rows" s_far_rows ["web"] f fd
 d_most_far:∃ f fd,DefAt K mg "most_far" s_most_far ["rows"] f fd
 d_farthest_two:∃ f fd,DefAt K mg "farthest_two" s_farthest_two ["web"] f fd
 d_with_ties:∃ f fd,DefAt K mg "with_ties" s_with_ties ["web","ties"] f fd
 d_far_or_none:∃ f fd,DefAt K mg "far_or_none" s_far_or_none ["web"] f fd
 d_law_deck:∃ f fd,DefAt K mg "_law_deck" s_law_deck ["script"] f fd
 d_law_draw:∃ f fd,DefAt K mg "_law_draw" s_law_draw ["deck","many"] f fd
 d_law_tied:∃ f fd,DefAt K mg "_law_tied" s_law_tied ["web"] f fd
 d_law_fars:∃ f fd,DefAt K mg "_law_fars" s_law_fars ["web"] f fd
 d_law_order:∃ f fd,DefAt K mg "_law_order" s_law_order ["deck","n"] f fd
 d_law_crowds:∃ f fd,DefAt K mg "_law_crowds" s_law_crowds ["deck"] f fd
 d_law_web:∃ f fd,DefAt K mg "_law_web" s_law_web ["deck"] f fd
 d_law_deed:∃ f fd,DefAt K mg "_law_deed" s_law_deed ["deck","web"] f fd
 d_law_behind:∃ f fd,DefAt K mg "_law_behind" s_law_behind ["web","deed"] f fd
 d_law_done:∃ f fd,DefAt K mg "_law_done" s_law_done ["grower","deed"] f fd
 d_law_far_of:∃ f fd,DefAt K mg "_law_far_of" s_law_far_of ["web"] f fd
 d_law_kept:∃ f fd,DefAt K mg "_law_kept" s_law_kept ["deck"] f fd
 d_law:∃ f fd,DefAt K mg "law" s_law ["script"] f fd
 o_Grower:∃ C,ObAt K mg "Grower" C
 n_Grower_held:∀ C,mg "Grower" = some (.ref C)->NoAttr K C "held"
 m_Grower____init__:∀ C,mg "Grower" = some (.ref C)->∃ f fd,MeAt K C "__init__" "Grower.__init__" s_Grower____init__ ["self","web"] f fd
 m_Grower__put_place:∀ C,mg "Grower" = some (.ref C)->∃ f fd,MeAt K C "put_place" "Grower.put_place" s_Grower__put_place ["self","a"] f fd
 m_Grower__put_tie:∀ C,mg "Grower" = some (.ref C)->∃ f fd,MeAt K C "put_tie" "Grower.put_tie" s_Grower__put_tie ["self","a","b"] f fd
 m_Grower__become:∀ C,mg "Grower" = some (.ref C)->∃ f fd,MeAt K C "become" "Grower.become" s_Grower__become ["self","grown"] f fd
local macro_rules | `(tactic| row_cond sc) => `(tactic| exact ⟨rfl,rfl,rfl,by decide +kernel,rfl,by decide +kernel,by decide +kernel⟩)
local macro_rules | `(tactic| row_cond gn) => `(tactic| first | (with_reducible first | refine evg_n0 ?_ | refine azd ?_ | refine aze ?_ | refine azf ?_ | refine azg ?_ | refine azh ?_ | refine azi ?_ | refine azj ?_ | refine azk ?_ | refine azl ?_ | refine evg_n10 ?_ | refine evg_n11 ?_ | refine evg_n12 ?_ | refine evg_n13 ?_ | refine evg_n14 ?_ | refine evg_n15 ?_ | refine evg_n16 ?_ | refine evg_n17 ?_ | refine evg_n18 ?_ | refine evg_n19 ?_ | refine evg_n20 ?_ | refine evg_n21 ?_ | refine evg_n22 ?_ | refine evg_n23 ?_ | refine evg_n24 ?_ | refine evg_n25 ?_) | ((with_reducible refine abf ?_); dsimp only [List.set_cons_zero, List.set_cons_succ]))
local macro_rules | `(tactic| row_cond dc) => `(tactic| first | assumption | omega | (with_reducible rfl))
local macro_rules | `(tactic| row_cond ar) => `(tactic| first | assumption | (refine ⟨?_, ?_, ?_⟩ <;> decide) | (constructor <;> first | assumption | omega) | (show (0 : Int) < _; first | assumption | omega) | (left; constructor <;> first | assumption | omega) | (right; constructor <;> first | assumption | omega))
local macro_rules | `(tactic| row_cond hs) => `(tactic| first | exact Or.inl rfl | exact Or.inr rfl)
local macro_rules | `(tactic| row_cond fz) => `(tactic| first | exact acq | exact ayv | exact frz_OT | exact al6 | exact ai2 | assumption)
local macro_rules | `(tactic| row_cond le) => `(tactic| first | exact Nat.le_of_ble_eq_true rfl | assumption | omega | (simp only [List.length_append, List.length_map, List.length_cons, List.length_nil, List.length_set, List.length_replicate]; omega))
local macro_rules | `(tactic| row_cond ia) => `(tactic| first | assumption | exact at0 | exact at1 | exact at2 | exact rfl)
local macro_rules | `(tactic| row_cond ty) => `(tactic| first | exact azb | exact aww | exact atz | exact awx | exact ty_str | exact ty_dict)
local macro_rules | `(tactic| row_cond sEvS) => `(tactic| first | (with_reducible refine alw (fun c_ hc_ => ?_)) | (with_reducible first | refine awh ?_ | refine aq8 ?_ | refine alv ?_) | ((with_reducible refine' at3 ?h0 ?_); (case h0 => exact rfl)) | (with_reducible first | refine an0 ?_ | refine awj ?_ | refine atj ?_) | ((with_reducible refine' apn ?h0 ?_); (case h0 => exact rfl)) | ((with_reducible refine' apo ?h0 ?_); (case h0 => exact rfl)) | ((with_reducible refine' ai0 ?h0 ?_); (case h0 => assumption)))
local macro_rules | `(tactic| row_cond sEvG) => `(tactic| first | row_cond gn | ((with_reducible refine' awi ?h0 ?_); (case h0 => exact rfl)) | ((with_reducible refine' aty ?h0 ?_); (case h0 => row_cond hs)) | (with_reducible refine evg_st ?_))
local macro_rules | `(tactic| row_cond sEvGs) => `(tactic| first | (with_reducible first | refine aq7 ?_ | refine atk ?_))
local macro_rules | `(tactic| row_cond sEv) => `(tactic| first | ((with_reducible refine' ayw ?h0 ?_); (case h0 => exact rfl)) | (with_reducible refine ayx ?_) | ((with_reducible refine' ay9 ?h0 ?_); (case h0 => row_cond hs)) | ((with_reducible refine' ay8 ?h0 ?_); (case h0 => row_cond hs)) | (with_reducible refine au4 ?_) | ((with_reducible refine' aza ?h0 ?_); (case h0 => row_cond ty)) | ((with_reducible refine' ajr ?h0 ?_); (case h0 => exact rfl)) | ((with_reducible refine' ard ?h0 ?_); (case h0 => exact rfl)) | (with_reducible refine ato ?_) | ((with_reducible refine' awc ?h0 ?h1 ?_); (case h0 => exact rfl); (case h1 => row_cond fz); dsimp only [List.set_cons_zero, List.set_cons_succ]) | (with_reducible first | refine ay0 ?_ | refine ay1 ?_ | refine a0f ?_ | refine ayy ?_ | refine a0g ?_ | refine awf ?_ | refine awg ?_ | refine ati ?_ | refine abk (te:=tCB (ahr _) _) ?_ | refine abk (te:=tCB agk _) ?_ | refine au5 ?_) | ((with_reducible refine' apg ?h0 ?_); (case h0 => row_cond hs)) | ((with_reducible refine' am8 ?h0 ?h1 ?_); (case h0 => exact rfl); (case h1 => row_cond le); dsimp only [List.set_cons_zero, List.set_cons_succ]) | ((with_reducible refine' aph ?h0 ?_); (case h0 => row_cond hs)) | ((with_reducible refine' am9 ?h0 ?_); (case h0 => row_cond hs)) | (with_reducible refine at8 ?_) | ((with_reducible refine' a0o ?h0 ?_); (case h0 => decide)) | (with_reducible first | refine auc ?_))
local macro_rules | `(tactic| row_cond sEvO) => `(tactic| first | (with_reducible first | refine alu (r:=rCat) ?_ | refine alu (r:=rRep) ?_ | refine aba (te:=tOp _ _ _) ?_ | refine aba (te:=tVar _) ?_ | refine aba (te:=tC _) ?_ | refine anw ?_) | ((with_reducible refine' at9 ?h0 ?_); (case h0 => exact rfl)) | (with_reducible refine anv ?_) | ((with_reducible refine' ahw ?h0 ?_); (case h0 => exact rfl)) | ((with_reducible refine' ahx ?h0 ?_); (case h0 => exact rfl)) | ((with_reducible refine' ara ?h0 ?h1 ?_); (case h0 => exact rfl); (case h1 => assumption)) | (with_reducible first | refine ajo ?_ | refine awz ?_) | ((with_reducible refine' arb ?h0 ?_); (case h0 => decide)) | (with_reducible first | refine axc ?_) | (with_reducible first | refine arm ?_ | refine ajt ?_ | refine aq6 (r:=al1 _) ?_ | refine aba (te:=tUn _ _) ?_ | refine aba (te:=tIf _ _ _) ?_ | refine aba (te:=aok _ _) ?_ | refine aba (te:=aol _) ?_ | refine aba (te:=akw _ _ _ _ _) ?_ | refine aba (te:=akg _ _) ?_ | refine aba (te:=af9 _ _) ?_ | refine aba (te:=tCB (rLen _) _) ?_ | refine aba (te:=tCB (rIsi _) _) ?_ | refine aba (te:=tCB akh _) ?_ | refine aba (te:=tCB aki _) ?_ | refine aba (te:=tCB ao6 _) ?_ | refine aba (te:=tCB (aed _) _) ?_ | refine aba (te:=tCB (akk _) _) ?_ | refine aba (te:=tCB (apd _) _) ?_ | refine aba (te:=tCB (rAll _) _) ?_ | refine aba (te:=tBM _ _ _ _ _) ?_))
local macro_rules | `(tactic| row_cond sEvT) => `(tactic| first | (with_reducible first | refine ag1 ?_ | refine a0h ?_ | refine awd ?_ | refine ay2 ?_ | refine anx ?_ | refine aiz ?_) | (with_reducible refine awe ?_))
local macro_rules | `(tactic| row_cond sEvA) => `(tactic| first | (with_reducible first | refine ag0 ?_ | refine anu ?_))
local macro_rules | `(tactic| row_cond sEvI) => `(tactic| first | (with_reducible first | refine atm ?_ | refine atn ?_ | refine evi_down ?_ | refine atl ?_) | (with_reducible refine awk ?_))
local macro_rules | `(tactic| row_cond sOp2) => `(tactic| first | (with_reducible first | refine awm ?_ | refine awn ?_) | ((with_reducible refine' ay6 ?h0 ?_); (case h0 => row_cond ar)) | (with_reducible first | refine awo ?_ | refine awp ?_) | ((with_reducible refine' awr ?h0 ?_); (case h0 => row_cond ia)) | ((with_reducible refine' aws ?h0 ?_); (case h0 => row_cond ia)) | (with_reducible first | refine awt ?_ | refine atr ?_) | ((with_reducible refine' awu ?h0 ?_); (case h0 => row_cond le)))
local macro_rules | `(tactic| row_cond sOp1) => `(tactic| first | (with_reducible refine ay7 ?_))
local macro_rules | `(tactic| row_cond sOpA) => `(tactic| first | (with_reducible first | refine ats ?_ | refine att ?_ | refine atu ?_ | refine atv ?_ | refine at7 ?_))
local macro_rules | `(tactic| row_cond sFQ) => `(tactic| first | (with_reducible first | refine a0e ?_ | refine acr ?_ | refine apm ?_))
local macro_rules | `(tactic| row_cond sRngA1) => `(tactic| first | ((with_reducible refine' ay4 ?h0 ?h1 ?_); (case h0 => omega); (case h1 => omega)))
local macro_rules | `(tactic| row_cond sRngA2) => `(tactic| first | ((with_reducible refine' ay5 ?h0 ?_); (case h0 => omega)))
local macro_rules | `(tactic| row_cond sRest) => `(tactic| first | (with_reducible first | refine x_bl ?_ | refine x_st ?_ | refine ay3 ?_) | ((with_reducible refine' a0l ?h0 ?h1 ?_); (case h0 => row_cond hs); (case h1 => row_cond ia)) | ((with_reducible refine' a0m ?h0 ?h1 ?_); (case h0 => row_cond hs); (case h1 => row_cond fz)) | ((with_reducible refine' x_sc ?h0 ?_); (case h0 => exact rfl)) | ((with_reducible refine' a0k ?h0 ?_); (case h0 => row_cond le)) | (with_reducible first | refine ace ?_ | refine acp ?_ | refine age ?_ | refine ais ?_) | ((with_reducible refine' ail ?h0 ?_); (case h0 => row_cond dc)) | ((with_reducible refine' aim ?h0 ?_); (case h0 => row_cond dc)) | ((with_reducible refine' atf ?h0 ?_); (case h0 => row_cond dc)) | ((with_reducible refine' atg ?h0 ?_); (case h0 => row_cond dc)) | ((with_reducible refine' a0n ?h0 ?_); (case h0 => first | exact rfl | row_cond hs)) | ((with_reducible refine' x_rt ?h0 ?_); (case h0 => exact rfl)) | ((with_reducible refine' azc ?h0 ?h1 ?_); (case h0 => exact rfl); (case h1 => row_cond le); dsimp only [List.set_cons_zero, List.set_cons_succ]) | ((with_reducible refine' api ?h0 ?h1 ?_); (case h0 => exact rfl); (case h1 => first | exact ixN0 | exact ixN1 | exact ixN2 | assumption); dsimp only [List.set_cons_zero, List.set_cons_succ, reS]) | (with_reducible first | refine awl ?_ | refine at4 ?_) | ((with_reducible refine' x_dT ?h0 ?h1 ?_); (case h0 => exact rfl); (case h1 => row_cond le); dsimp only [List.set_cons_zero, List.set_cons_succ]) | ((with_reducible refine' x_dK ?h0 ?h1 ?_); (case h0 => exact rfl); (case h1 => row_cond le); dsimp only [List.set_cons_zero, List.set_cons_succ]) | ((with_reducible refine' x_dN ?h0 ?_); (case h0 => row_cond hs)) | ((with_reducible refine' aw4 ?h0 ?h1 ?_); (case h0 => omega); (case h1 => omega)) | ((with_reducible refine' x_ow ?h0 ?_); (case h0 => exact rfl); dsimp only [List.set_cons_zero, List.set_cons_succ]))
local macro_rules | `(tactic| row_cond st) => `(tactic| first | ((with_reducible refine a0p ?_); row_cond sEvS) | ((with_reducible refine a0q ?_); row_cond sEvG) | ((with_reducible refine azo ?_); row_cond sEvGs) | ((with_reducible refine g_Ev ?_); row_cond sEv) | ((with_reducible refine a0r ?_); row_cond sEvO) | ((with_reducible refine a0s ?_); row_cond sEvT) | ((with_reducible refine a0t ?_); row_cond sEvA) | ((with_reducible refine a0u ?_); row_cond sEvI) | ((with_reducible refine g_EvOp ?_); row_cond sEvOp) | ((with_reducible refine a0v ?_); row_cond sOp2) | ((with_reducible refine a0w ?_); row_cond sOp1) | ((with_reducible refine a0x ?_); row_cond sOpA) | ((with_reducible refine g_FQ ?_); row_cond sFQ) | ((with_reducible refine aw9 ?_); row_cond sRngA1) | ((with_reducible refine axa ?_); row_cond sRngA2) | row_cond sRest)
local macro_rules | `(tactic| row_cond go) => `(tactic| repeat row_cond st)
local macro_rules | `(tactic| row_cond hnx) => `(tactic| first | assumption | (apply Ne.symm; assumption) | exact aal (by assumption) (by assumption) | exact (aal (by assumption) (by assumption)).symm)
local macro_rules | `(tactic| row_cond hhp) => `(tactic| first | assumption | exact aaf | (rw [aad (by row_cond hnx)]; row_cond hhp) | ((refine' Same.at ?ss ?hh); (case ss => assumption); (case hh => row_cond hhp)))
local macro_rules | `(tactic| row_cond hix) => `(tactic| first | assumption | exact at0 | exact at1 | exact at2)
local macro_rules | `(tactic| row_cond hst) => `(tactic| first | (with_reducible first | refine aye ?_ | refine ayf ?_ | refine aij ?_ | refine az8 ?_ | refine go_c ?_ | refine a0b ?_ | refine go_U ?_ | refine aqx ?_ | refine avw ?_ | refine az9 ?_ | refine ayh ?_ | refine ayi ?_ | refine ayg ?_ | refine avt ?_ | refine avu ?_ | refine a0a ?_ | refine aik ?_ | refine afq ?_ | refine avx ?_ | refine anm ?_ | refine ann ?_ | refine avz ?_ | refine avv ?_ | refine av9 ?_ | refine ayn ?_ | refine ayp ?_ | refine a0c ?_ | refine as0 ?_ | refine ak8 ?_ | refine ace ?_ | refine acp ?_) | ((with_reducible refine' aqv ?hv ?_); (case hv => exact rfl)) | ((with_reducible refine' ae2 ?ha ?hv ?_); (case ha => row_cond hhp); (case hv => row_cond hix)) | ((with_reducible refine go_I ?hc ?_); (case hc => row_cond ar)) | ((with_reducible refine' anl ?ha ?_); (case ha => row_cond hhp)) | ((with_reducible refine' ank ?ha ?hj ?_); (case ha => row_cond hhp); (case hj => first | exact ixN0 | exact ixN1 | exact ixN2)) | ((with_reducible refine' ayr ?ha ?_); (case ha => row_cond hhp)) | ((with_reducible refine' adh ?ha ?hl ?_); (case ha => row_cond hhp); (case hl => exact ad9 (by simp; omega))) | ((with_reducible refine' ail ?hc ?_); (case hc => row_cond dc)) | ((with_reducible refine' aim ?hc ?_); (case hc => row_cond dc)) | dsimp only [List.set_cons_zero, List.set_cons_succ])
local macro_rules | `(tactic| row_cond hgo) => `(tactic| repeat row_cond hst)
def isInt:PyData->Bool
 | .int _=>true
 | _=>false
def btwD (a b:Int):PyData->Bool
 | .int i=>decide (a<=i/\i<=b)
 | _=>false
def axm:VP:=fun ss Q=>∃ d,ss=[.st d]/\Q (.st (.bool (isInt d)))
def ar6:VP:=fun ss Q=>∃ (a b:Int) (d:PyData),ss=[.st (.int a),.st (.int b),.st d]/\Q (.st (.bool (btwD a b d)))
def axn:VP:=fun ss Q=>∃ (n:Int) (d:PyData),ss=[.st (.int n),.st d]/\Q (.st (.bool (btwD 0 (n - 1) d)))
section
variable {P:Program} {w:World} {K:Frag} {mg:Str->Option Value} {base:Heap}
theorem sc_is_whole:FnScope ["thing"] ["thing"] (aai s_is_whole):=by row_cond sc
theorem amk (T:Txt K mg):Can P w K mg base "is_whole" 1 ["thing"] (spP K (axm)):=by
 obtain ⟨f,fd,D⟩:=T.d_is_whole
 obtain ⟨j,a⟩:=T.o_Grower
 have c:=a.mgx
 have l:=T.n_Grower_held _ c
 refine D.can (D.fn.ok sc_is_whole (fun vs H Q E h=>lenP h fun ss Q' q=>by obtain ⟨d,rfl,k⟩:=q;rfl) (fun cdv A outer s H vs Q E n h=>?_))
 have nd:=sc_is_whole.nd
 refine ⟨_,(aah (aas (afh (aaj ac9 (by rfl) T.b_isinstance abz (aaa (pv 0) (aaa (adt (v:=.ty "int") rfl T.b_int aq1 rfl) aab))) (aha (ax3 (aaj ac9 (by rfl) T.b_isinstance abz (aaa (pv 0) (aaa (adt (v:=.ty "bool") rfl T.b_bool anq rfl) aab)))))))),?_⟩
 refine abg h fun ss Q' q B m=>?_
 refine exS1 ss q fun d g=>?_
 have k:=g
 clear g q
 show EvS B _ _ [some (.st d)]
 row_cond go
 cases d with
 | int i => refine ace ?_; row_cond go; exact k
 | bool b => refine ace ?_; row_cond go; exact k
 | _=>refine acp ?_;exact k
theorem sc_is_between:FnScope ["least","most","thing"] ["least","most","thing"] (aai s_is_between):=by row_cond sc
theorem aeu (T:Txt K mg):Can P w K mg base "is_between" 2 ["least","most","thing"] (spP K (ar6)):=by
 obtain ⟨f,fd,D⟩:=T.d_is_between
 obtain ⟨l,c⟩:=T.o_Grower
 have g:=c.mgx
 have n:=T.n_Grower_held _ g
 refine D.can (D.fn.ok sc_is_between (fun vs H Q E h=>lenP h fun ss Q' q=>by obtain ⟨a,b,d,rfl,k⟩:=q;rfl) (fun cdv A outer s H vs Q E o h=>?_))
 have nd:=sc_is_between.nd
 refine ⟨_,(aah (aas (afh (aag (amk T) o (aaa (pv 2) aab)) (aha (asl auy auy (pv 0) (pv 2) (pv 1)))))),?_⟩
 refine abg h fun ss Q' q B p=>?_
 refine exS3 ss q fun a b d j=>?_
 have k:=j
 clear j q
 show EvS B _ _ [some (.st (.int a)),some (.st (.int b)),some (.st d)]
 row_cond go
 refine ⟨d,rfl,?_⟩
 row_cond go
 cases d with
 | int i =>
  refine ace ?_
  row_cond go
  refine adi (fun m=>?_) (fun m=>?_)
  ·row_cond go
   have e:decide (i<=b)=btwD a b (.int i):=by
    show _=decide (a<=i/\i<=b)
    rw [aH1];simp [m]
   rw [e];exact k
  ·have e:false=btwD a b (.int i):=by
    show _=decide (a<=i/\i<=b)
    exact (aD5 (fun z=>m z.1)).symm
   rw [e];exact k
 | _=>exact acp k
theorem sc_is_place:FnScope ["n","thing"] ["n","thing"] (aai s_is_place):=by row_cond sc
theorem ad7 (T:Txt K mg):Can P w K mg base "is_place" 3 ["n","thing"] (spP K (axn)):=by
 obtain ⟨f,fd,D⟩:=T.d_is_place
 obtain ⟨g,a⟩:=T.o_Grower
 have b:=a.mgx
 have i:=T.n_Grower_held _ b
 refine D.can (D.fn.ok sc_is_place (fun vs H Q E h=>lenP h fun ss Q' q=>by obtain ⟨n,d,rfl,k⟩:=q;rfl) (fun cdv A outer s H vs Q E j h=>?_))
 have nd:=sc_is_place.nd
 refine ⟨_,(aah (aas (aag (aeu T) j (aaa aae (aaa (aat ad1 (pv 0) aae) (aaa (pv 1) aab)))))),?_⟩
 refine abg h fun ss Q' q B l=>?_
 refine exS2 ss q fun n d c=>?_
 have k:=c
 clear c q
 show EvS B _ _ [some (.st (.int n)),some (.st d)]
 row_cond go
 exact ⟨_,_,_,rfl,k⟩
def azu:VP:=fun ss Q=>∃ (n:Int) (es:List (Int × Int)),ss=[.st (webD n es)]/\0<=n/\n<=100/\InN n es/\es.length<=10000/\∀ tl,TiedL n (Tied es) tl->(∀ us∈tl,us.length<=20000)->Q (.own (OLL (tlD tl)))
theorem sc_tied_places:FnScope ["web","n","ties","tied","a","b"] ["web"] (aai s_tied_places):=by row_cond sc
theorem aei (T:Txt K mg):Can P w K mg base "tied_places" 1 ["web"] (spP K (azu)):=by
 obtain ⟨f,fd,D⟩:=T.d_tied_places
 obtain ⟨y,m⟩:=T.o_Grower
 have o:=m.mgx
 have J:=T.n_Grower_held _ o
 refine D.can (D.fn.ok sc_tied_places (fun vs H Q E h=>lenP h fun ss Q' q=>by obtain ⟨n,es,rfl,O,S,z,M,k⟩:=q;rfl) (fun cdv A outer s H vs Q E X h=>?_))
 have nd:=sc_tied_places.nd
 refine ⟨_,(aac (acd (pv 0) (acx rfl (aa8 (aan (i:=1) nd rfl (Or.inl rfl)) (aa8 (aan (i:=2) nd rfl (Or.inl rfl)) acl))))
  (aac (ak7 (i:=3) nd rfl (Or.inl rfl) rfl (N:=["place"]) (src:=[none]) (by exact abw rfl rfl rfl rfl rfl rfl) (abj rfl T.b_range (aaa (pv 1) aab)) (fun _ _ _ _=>(aan (i:=0) (show List.Nodup (["place"]:List Str) by decide +kernel) rfl (Or.inl rfl) (hf:=Or.inr rfl))) (fun _ _ _ _=>ab4) (fun _ _ _ _=>(aa0 aab)))
  (aac (abt aI6 rfl (aby (pv 2)) (acx rfl (aa8 (aan (i:=4) nd rfl (Or.inl rfl)) (aa8 (aan (i:=5) nd rfl (Or.inl rfl)) acl)))
   (aac (abh (acg PySem.F.plainAttrs_list PySem.F.slot_list_append PySem.F.type_list_append abp (aaq aar (pv 3) (pv 4) (fun _ _=>rfl)) (aaa (pv 5) aab)))
    (aah (abh (acg PySem.F.plainAttrs_list PySem.F.slot_list_append PySem.F.type_list_append abp (aaq aar (pv 3) (pv 5) (fun _ _=>rfl)) (aaa (pv 4) aab))))))
  (aah (aas (pv 3)))))),?_⟩
 refine abg h fun ss Q' q B W=>?_
 refine exS2 ss q fun n es c=>?_
 have O:=c.1
 have S:=c.2.1
 have z:=c.2.2.1
 have M:=c.2.2.2.1
 have k:=c.2.2.2.2
 clear c q
 show EvS B _ _ [some (.st (webD n es)),none,none,none,none,none]
 row_cond go
 rw [acf]
 refine ⟨by omega,?_⟩
 row_cond go
 refine acu (fun i e=>∃ G I tl,e=[some (.st (webD n es)),some (.st (.int n)),some (.st (.list (es.map prD))),some (.own (OLL (tlD tl))),G,I]/\TiedL n (Tied (es.take i)) tl/\∀ g∈tl,g.length<=2 * i)
  ⟨none,none,List.replicate n.toNat [],by simp [tlD],⟨by simp;omega,fun i g hi w=>?_⟩,fun g U=>?_⟩ ?_ ?_
 ·rw [aH0] at hi
  split at hi
  ·cases hi;simp [Tied]
  ·cases hi
 ·have:=List.eq_of_mem_replicate U
  subst this;simp
 ·rintro i ⟨a,b⟩ e L p
  refine exS3 e p fun G I tl c=>?_
  have r:=c.1
  have l:=c.2
  clear c p
  have hi:i < es.length:=(aA1.mp L).1
  obtain ⟨a0,a1,b0,b1⟩:=z _ (aA2 L)
  dsimp only at a0 a1 b0 b1
  row_cond go
  obtain ⟨g,d,_⟩:=r.get a0 a1
  have R:=l g (aA2 d)
  refine ahy (n:=a.toNat) (ds:=g.map .int) rfl rfl rfl (by rw [aA3];exact ahz a0 (by rw [r.1];exact a1)) (adx d) (by rw [aA3];omega) ?_
  dsimp only [List.set_cons_zero,List.set_cons_succ]
  have C:=r.put (q:=b) a0 a1 d
  rw [show g.map PyData.int ++ [.int b]=(g ++ [b]).map .int by simp,agj]
  have j:∀ us∈tl.set a.toNat (g ++ [b]),us.length<=2 * i+1:=fun us x=>by
   rcases List.mem_or_eq_of_mem_set x with h | h
   ·have:=l us h;omega
   ·subst h;simp;omega
  generalize tl.set a.toNat (g ++ [b])=tl2 at C j
  row_cond go
  obtain ⟨g,d,_⟩:=C.get b0 b1
  have R:=j g (aA2 d)
  refine ahy (n:=b.toNat) (ds:=g.map .int) rfl rfl rfl (by rw [aA3];exact ahz b0 (by rw [C.1];exact b1)) (adx d) (by rw [aA3];omega) ?_
  dsimp only [List.set_cons_zero,List.set_cons_succ]
  rw [show g.map PyData.int ++ [.int a]=(g ++ [a]).map .int by simp,agj]
  refine ⟨_,_,_,rfl,(C.put (q:=a) b0 b1 d).iff fun u v=>(Tied.snoc L u v).symm,fun us x=>?_⟩
  rcases List.mem_or_eq_of_mem_set x with h | h
  ·have:=j us h;omega
  ·subst h;simp;omega
 ·rintro e p
  refine exS3 e p fun G I tl c=>?_
  have r:=c.1
  have l:=c.2
  clear c p
  rw [aG1] at r
  row_cond go
  exact k tl r fun us x=>by have:=l us x;omega
end
@[reducible] def tlV (tl:List (List Int)):PyData:=.list ((tlD tl).map .list)
def a0y:VP:=fun ss Q=>∃ (n a:Int) (T:Int->Int->Prop) (tl:List (List Int)),ss=[.st (tlV tl),.st (.int a)]/\n<=100/\TiedL n T tl/\(∀ u v,T u v->0<=v/\v < n)/\0<=a/\a < n/\Q (.own (OL (lab n.toNat (Gr.farO T a))))
section
variable {P:Program} {w:World} {K:Frag} {mg:Str->Option Value} {base:Heap}
theorem sc_far_from:FnScope ["tied","start","far","edge","beyond","place","other"] ["tied","start"] (aai s_far_from):=by row_cond sc
theorem afz (T:Txt K mg):Can P w K mg base "far_from" 1 ["tied","start"] (spP K (a0y)):=by
 obtain ⟨f,fd,D⟩:=T.d_far_from
 obtain ⟨U,C⟩:=T.o_Grower
 have G:=C.mgx
 have a6:=T.n_Grower_held _ G
 refine D.can (D.fn.ok sc_far_from (fun vs H Q E h=>lenP h fun ss Q' q=>by obtain ⟨n,a,T,tl,rfl,n1,X,hT,a0,a1,k⟩:=q;rfl) (fun cdv A outer s H vs Q E hr h=>?_))
 have nd:=sc_far_from.nd
 refine ⟨_,(aac (aam (i:=2) nd rfl (Or.inl rfl) (aat ayc (aa0 (aaa ady aab)) (aaj abq (by rfl) T.b_len ab5 (aaa (pv 0) aab))))
  (aac (acd aae (afi (pv 2) (pv 1) ad3))
  (aac (aam (i:=3) nd rfl (Or.inl rfl) (aa0 (aaa (pv 1) aab)))
  (aac (aku aI6 (ayu (pv 3))
   (aac (aam (i:=4) nd rfl (Or.inl rfl) (aa0 aab))
    (aac (abt aI6 rfl (aby (pv 3)) (aan (i:=5) nd rfl (Or.inl rfl))
     (aah (abt aI6 rfl (aby (aaq aar (pv 0) (pv 5) (fun _ _=>rfl))) (aan (i:=6) nd rfl (Or.inl rfl))
       (aah (abc (aaz av8 (aaq aar (pv 2) (pv 6) (fun _ _=>rfl)) ady (aa3 _))
         (aac (acd (aat abd (aaq aar (pv 2) (pv 5) (fun _ _=>rfl)) aae) (afi (pv 2) (pv 6) ad3))
          (aah (abh (acg PySem.F.plainAttrs_list PySem.F.slot_list_append PySem.F.type_list_append abp (pv 4) (aaa (pv 6) aab)))))
         aay)))))
    (aah (aam (i:=3) nd rfl (Or.inl rfl) (pv 4))))))
  (aah (aas (pv 2))))))),?_⟩
 refine abg h fun ss Q' q B hK=>?_
 refine exS4 ss q fun n a T tl b=>?_
 have n1:=b.1
 have X:=b.2.1
 have hT:=b.2.2.1
 have a0:=b.2.2.2.1
 have a1:=b.2.2.2.2.1
 have k:=b.2.2.2.2.2
 clear b q
 show EvS B _ _ [some (.st (tlV tl)),some (.st (.int a)),none,none,none,none,none]
 have hl:tl.length=n.toNat:=by have:=X.1;omega
 row_cond go
 refine awv (by first | omega | (simp;done) | (simp;omega)) (by first | omega | (simp;done) | (simp;omega)) (by first | omega | (simp;done) | (simp;omega)) ?_
 simp only [aA3,hl]
 rw [show ((n.toNat:Nat):Int).toNat=n.toNat by omega,aw1]
 row_cond go
 refine api (j:=a.toNat) rfl (by rw [acn];exact ahz a0 (by omega)) ?_
 dsimp only [List.set_cons_zero,List.set_cons_succ,reS]
 rw [show (PyData.int 0)=.int ((0:Nat):Int) from rfl,an9 a0 (by omega)]
 row_cond go
 refine an8 3 rfl acq ?_
 dsimp only [List.set_cons_zero,List.set_cons_succ]
 refine ajn (fun m e=>∃ v4 L y far edge r,e=[some (.st (tlV tl)),some (.st (.int a)),some (.own (OL (lab n.toNat far))),some (.st (.list (edge.map .int))),v4,L,y]/\Gr.Ring T a r far edge/\(∀ v∈edge,0<=v/\v < n)/\m=2 * cnt far n.toNat+(if edge=[] then 0 else 1))
  ⟨_,none,none,none,_,[a],0,rfl,Gr.Ring.start,fun v R=>by simp at R;subst R;exact ⟨a0,a1⟩,rfl⟩ ?_
 rintro m e l
 refine exS6 e l fun v4 L y far edge r b=>?_
 have W:=b.1
 have hb:=b.2.1
 have a4:=b.2.2
 clear b l
 subst a4
 row_cond go
 rw [am6]
 cases hedge:edge with
 | nil =>
  subst hedge
  refine acp ?_
  row_cond go
  rw [arh (g:=Gr.farO T a) fun v _ _=>W.fin v]
  exact k
 | cons e0 er =>
  refine ace ?_
  rw [← hedge]
  have Y:edge ≠ []:=by rw [hedge];simp
  row_cond go
  refine acu (fun i e=>∃ L y c beyond,e=[some (.st (tlV tl)),some (.st (.int a)),some (.own (OL (lab n.toNat c))),some (.st (.list (edge.map .int))),some (.own (OL (beyond.map .int))),L,y]/\Gr.Mid T r far edge (fun u=>u∈edge.take i) c beyond/\cnt c n.toNat+beyond.length=cnt far n.toNat/\∀ v∈beyond,0<=v/\v < n)
   ⟨L,y,far,[],rfl,Gr.Mid.start.imp fun u O=>by simp at O,rfl,fun v R=>by simp at R⟩ ?_ ?_
  ·rintro i p e hp l
   refine exS4 e l fun L y c beyond b=>?_
   have I:=b.1
   have J:=b.2.1
   have o:=b.2.2
   clear b l
   have N:=aA2 hp
   obtain ⟨p0,p1⟩:=hb p N
   obtain ⟨ws,a2,hw⟩:=X.get p0 p1
   have a8:atI ((tlD tl).map PyData.list) p=some (.list (ws.map .int)):=ah0 (f:=PyData.list) (acs p0 (adx a2))
   row_cond go
   have a5:far p=some r:=(W.lab p r).mpr ⟨(W.edg p).mp N,aA6 _⟩
   refine acu (fun j e=>∃ y c beyond,e=[some (.st (tlV tl)),some (.st (.int a)),some (.own (OL (lab n.toNat c))),some (.st (.list (edge.map .int))),some (.own (OL (beyond.map .int))),some (.st (.int p)),y]/\Gr.Mid T r far edge (fun u=>u∈edge.take i) c beyond/\cnt c n.toNat+beyond.length=cnt far n.toNat/\(∀ v∈beyond,0<=v/\v < n)/\∀ x∈ws.take j,c x ≠ none)
    ⟨y,c,beyond,rfl,I,J,o,fun x M=>by simp at M⟩ ?_ ?_
   ·rintro j u e O l
    refine exS3 e l fun y c beyond b=>?_
    have I:=b.1
    have J:=b.2.1
    have o:=b.2.2.1
    have z:=b.2.2.2
    clear b l
    have tu:T p u:=(hw u).mp (aA2 O)
    obtain ⟨S,u1⟩:=hT _ _ tu
    have a7:atI (lab n.toNat c) u=some (oD (c u)):=arf S (by omega)
    have b1:atI (lab n.toNat c) p=some (.int (r:Int)):=by
     rw [arf p0 (by omega),I.old p r a5];rfl
    row_cond go
    rw [aw0]
    cases hf:c u with
    | none =>
     refine ace ?_
     row_cond go
     refine api (j:=u.toNat) rfl (by rw [acn];exact ahz S (by omega)) ?_
     dsimp only [List.set_cons_zero,List.set_cons_succ,reS]
     rw [show (PyData.int ((r:Int)+1))=.int ((r+1:Nat):Int) by simp,an9 S (by omega)]
     have a9:=adl (d:=r+1) S hf (n:=n.toNat) (by omega)
     have Z:beyond.length<=cnt far n.toNat:=by omega
     have a3:∀ m,cnt far m<=m:=fun m=>by
      induction m with
      | zero=>exact aA6 _
      | succ m ih=>unfold cnt;split <;> omega
     have:=a3 n.toNat
     row_cond go
     refine ⟨some (.st (.int u)),Gr.label c u (r+1),beyond ++ [u],by simp,I.add N tu hf,by simp;omega,fun v R=>?_,fun x M=>?_⟩
     ·rcases aA7.mp R with h | h
      ·exact o v h
      ·have:v=u:=by simpa using h
       subst this;exact ⟨S,u1⟩
     ·by_cases hx2:x=u
      ·subst hx2;rw [Gr.label_same];simp
      ·rw [Gr.label_ne hx2]
       rcases ab0 O M with h | h
       ·exact z x h
       ·exact absurd h hx2
    | some d =>
     refine acp ?_
     row_cond go
     refine ⟨_,c,beyond,rfl,I,J,o,fun x M=>?_⟩
     rcases ab0 O M with h | h
     ·exact z x h
     ·subst h;rw [hf];simp
   ·rintro e l
    refine exS3 e l fun y c beyond b=>?_
    have I:=b.1
    have J:=b.2.1
    have o:=b.2.2.1
    have z:=b.2.2.2
    clear b l
    rw [aG1] at z
    refine ⟨_,_,c,beyond,rfl,?_,J,o⟩
    refine (I.did (u:=p) fun x tx=>z x ((hw x).mpr tx)).imp fun x M=>?_
    exact ab0 hp M
  ·rintro e l
   refine exS4 e l fun L y c beyond b=>?_
   have I:=b.1
   have J:=b.2.1
   have o:=b.2.2
   clear b l
   row_cond go
   refine ⟨_,?_,_,_,_,c,beyond,r+1,rfl,W.next I fun u O=>by rw [aG1];exact O,o,rfl⟩
   rw [aE9 Y]
   cases beyond with
   | nil=>rw [aE8 rfl];simp at J;omega
   | cons b0 br=>rw [aE9 (by simp)];simp at J;omega
end
def ana:VP:=fun ss Q=>∃ (n a:Int) (es:List (Int × Int)),ss=[.st (webD n es),.st (.int a)]/\0<=a/\a < n/\Q (.st .none)
def auk:VP:=fun ss Q=>∃ (n a:Int) (es:List (Int × Int)),ss=[.st (webD n es),.st (.int a)]/\n<=100/\InN n es/\es.length<=10000/\0<=a/\a < n/\Q (.own (OL (lab n.toNat (Gr.farO (Tied es) a))))
def aul:VP:=fun ss Q=>∃ (n:Int) (es:List (Int × Int)),ss=[.st (webD n es)]/\1<=n/\n<=100/\InN n es/\es.length<=10000/\∀ b:Bool,(b=true ↔ Joined n es)->Q (.st (.bool b))
section
variable {P:Program} {w:World} {K:Frag} {mg:Str->Option Value} {base:Heap}
theorem sc_need_place:FnScope ["web","thing"] ["web","thing"] (aai s_need_place):=by row_cond sc
theorem aev (T:Txt K mg):Can P w K mg base "need_place" 4 ["web","thing"] (spP K (ana)):=by
 obtain ⟨f,fd,D⟩:=T.d_need_place
 obtain ⟨g,b⟩:=T.o_Grower
 have c:=b.mgx
 have i:=T.n_Grower_held _ c
 refine D.can (D.fn.ok sc_need_place (fun vs H Q E h=>lenP h fun ss Q' q=>by obtain ⟨n,a,es,rfl,a0,a1,k⟩:=q;rfl) (fun cdv A outer s H vs Q E j h=>?_))
 have nd:=sc_need_place.nd
 refine ⟨_,(aah (abc (adf (aco (aag (ad7 T) j (aaa (aaq aar (pv 0) aae (fun _ _=>rfl)) (aaa (pv 1) aab)))))
   (aah ad0)
   aay)),?_⟩
 refine abg h fun ss Q' q B l=>?_
 refine exS3 ss q fun n a es d=>?_
 have a0:=d.1
 have a1:=d.2.1
 have k:=d.2.2
 clear d q
 show EvS B _ _ [some (.st (webD n es)),some (.st (.int a))]
 row_cond go
 refine ⟨_,_,rfl,?_⟩
 row_cond go
 have e:btwD 0 (n - 1) (.int a)=true:=aD6 ⟨a0,by omega⟩
 rw [e]
 row_cond go
 exact k
theorem sc_all_far:FnScope ["web","a"] ["web","a"] (aai s_all_far):=by row_cond sc
theorem anb (T:Txt K mg):Can P w K mg base "all_far" 5 ["web","a"] (spP K (auk)):=by
 obtain ⟨f,fd,D⟩:=T.d_all_far
 obtain ⟨j,c⟩:=T.o_Grower
 have d:=c.mgx
 have o:=T.n_Grower_held _ d
 refine D.can (D.fn.ok sc_all_far (fun vs H Q E h=>lenP h fun ss Q' q=>by obtain ⟨n,a,es,rfl,l,g,i,a0,a1,k⟩:=q;rfl) (fun cdv A outer s H vs Q E m h=>?_))
 have nd:=sc_all_far.nd
 refine ⟨_,(aac (abh (aag (aev T) m (aaa (pv 0) (aaa (pv 1) aab))))
  (aah (aas (aag (afz T) m (aaa (aag (aei T) m (aaa (pv 0) aab)) (aaa (pv 1) aab)))))),?_⟩
 refine abg h fun ss Q' q B r=>?_
 refine exS3 ss q fun n a es b=>?_
 have l:=b.1
 have g:=b.2.1
 have i:=b.2.2.1
 have a0:=b.2.2.2.1
 have a1:=b.2.2.2.2.1
 have k:=b.2.2.2.2.2
 clear b q
 show EvS B _ _ [some (.st (webD n es)),some (.st (.int a))]
 row_cond go
 refine ⟨n,a,es,rfl,a0,a1,?_⟩
 row_cond go
 refine ⟨n,es,rfl,by omega,l,g,i,fun tl p _=>?_⟩
 refine azm ?_
 row_cond go
 exact ⟨n,a,Tied es,tl,rfl,l,p,fun u v h=>(h.in g).2,a0,a1,k⟩
theorem sc_is_joined:FnScope ["web"] ["web"] (aai s_is_joined):=by row_cond sc
theorem afc (T:Txt K mg):Can P w K mg base "is_joined" 6 ["web"] (spP K (aul)):=by
 obtain ⟨f,fd,D⟩:=T.d_is_joined
 obtain ⟨i,b⟩:=T.o_Grower
 have c:=b.mgx
 have l:=T.n_Grower_held _ c
 refine D.can (D.fn.ok sc_is_joined (fun vs H Q E h=>lenP h fun ss Q' q=>by obtain ⟨n,es,rfl,p,m,j,g,k⟩:=q;rfl) (fun cdv A outer s H vs Q E o h=>?_))
 have nd:=sc_is_joined.nd
 refine ⟨_,(aah (aas (af5 (ajl o.units) ady (aag (anb T) o (aaa (pv 0) (aaa aae aab))) rfl))),?_⟩
 refine abg h fun ss Q' q B u=>?_
 refine exS2 ss q fun n es a=>?_
 have p:=a.1
 have m:=a.2.1
 have j:=a.2.2.1
 have g:=a.2.2.2.1
 have k:=a.2.2.2.2
 clear a q
 show EvS B _ _ [some (.st (webD n es))]
 row_cond go
 refine ⟨n,0,es,rfl,m,j,g,by omega,by omega,?_⟩
 row_cond go
 refine an4 rfl ari (by simp [PyData.depth]) ?_
 row_cond go
 refine k _ ?_
 rw [aE8 rfl,Bool.not_eq_true',← Bool.not_eq_true,aw2]
 constructor
 ·intro h v v0 r
  cases e:Gr.farO (Tied es) 0 v with
  | some d=>exact ⟨d,Gr.farO_some.mp e⟩
  | none=>exact absurd ⟨v,v0,by omega,e⟩ h
 ·rintro h ⟨v,v0,r,e⟩
  obtain ⟨d,hd⟩:=h v v0 (by omega)
  exact Gr.farO_none.mp e d hd
end
def dsF (es:List (Int × Int)) (u v:Int):Int:=(((Gr.farO (Tied es) u v).getD 0:Nat):Int)
def rowD (n:Nat) (r:Int->Int):List PyData:=(List.range n).map fun (i:Nat) => .int (r (i:Int))
def matD (n:Nat) (m:Int->Int->Int):List PyData:=(List.range n).map fun (u:Nat) => .list (rowD n (m (u:Int)))
theorem azv {n:Nat} {m:Int->Int->Int} {x:Int} (a:0<=x) (b:x < n):atI (matD n m) x=some (.list (rowD n (m x))):=by
 have:=adu (xs:=matD n m) (j:=x.toNat) (v:=.list (rowD n (m x))) (by
  unfold matD
  rw [aA5,aA0 (by simp;omega)]
  simp [Int.max_eq_left a])
 rwa [show ((x.toNat:Nat):Int)=x by omega] at this
theorem ag6 {n:Nat} {r:Int->Int}:rowD n r=((List.range n).map fun (i:Nat)=>r (i:Int)).map .int:=by simp [rowD]
theorem aia {n:Int} {es:List (Int × Int)} (f:Joined n es) {u v:Int} (b:0<=u) (a:u < n) (v0:0<=v) (c:v < n):∃ d,Gr.farO (Tied es) u v=some d:=by
 cases e:Gr.farO (Tied es) u v with
 | some d=>exact ⟨d,rfl⟩
 | none =>
  obtain ⟨k,g⟩:=f.conn u v b a v0 c
  obtain ⟨d,_,hd⟩:=Gr.Dist.of_walk g
  exact absurd hd (Gr.farO_none.mp e d)
theorem axo {n:Int} {es:List (Int × Int)} (c:Joined n es) {u:Int} (b:0<=u) (a:u < n):lab n.toNat (Gr.farO (Tied es) u)=rowD n.toNat (dsF es u):=by
 unfold lab rowD
 refine aE4 fun i hi=>?_
 obtain ⟨d,e⟩:=aia c b a (show 0<=(i:Int) by omega) (by have:=aB8.mp hi;omega)
 simp only [dsF,e,oD,Option.getD_some]
theorem adb {α:Type} {K:Frag} {src:List (Option Nat)} {a:En} {te:TE} {R:List PyData->En->Prop} {xs:List α} {f : α->PyData} (g : α->PyData) (j:noIo (aau src a)=true) (z:xs.length<=999999)
  (h:∀ x∈xs,∀ c:Bs,c.K=K->Ev c te (some (.st (f x)) :: aau src a) fun y m=>y=g x/\m=some (.st (f x)) :: aau src a)
  (w:R (xs.map g) a):LcV K (none :: src) (abr 0) tYes te (xs.map f) a R:=by
 have b:noIo (aau (none :: src) a)=true:=by
  show ((none :: aau src a).all fun s => !isIo s)=true
  rw [List.all_cons]
  exact (aG4 _ _).mpr ⟨rfl,j⟩
 refine ⟨fun i ys e=>ys=(xs.take i).map g/\∃ o,e=stO o :: aau src a,⟨by simp,none,rfl⟩,?_,?_,?_⟩
 ·rintro i ys e ⟨_,o,rfl⟩
  exact ⟨⟨isIo_stO.symm,afy⟩,aef aem⟩
 ·rintro i d ys e hd ⟨rfl,o,rfl⟩ c n
  rw [aA5] at hd
  cases hx:xs[i]? with
  | none=>rw [hx] at hd;cases hd
  | some x =>
   rw [hx] at hd
   cases hd
   have hi:i < xs.length:=(aA1.mp hx).1
   have u:xs.take (i+1)=xs.take i ++ [x]:=by rw [aG7,hx];rfl
   refine abf (aiz ?_)
   rw [aE8 rfl]
   intro σ G H F Q I k
   refine h x (aA2 hx) c n σ G H F Q I fun v G' H' F' d' m p g' r ⟨q,l⟩=>k v G' H' F' d' m p g' r ?_
   subst q l
   refine ⟨by simp;omega,by rw [u];simp,some _,rfl⟩
 ·rintro ys e ⟨rfl,o,rfl⟩
  rw [ai1 b]
  simpa using w
theorem ag7 {ns:List Int} {x y:Int} (h:ac0 ns x) (g:ac0 ns y):x=y:=Int.le_antisymm (g.2 x h.1) (h.2 y g.1)
theorem ai6:∀ {ns:List Int},ns ≠ []->∃ x,ac0 ns x
 | [a],_=>⟨a,by simp [ac0]⟩
 | a :: b :: r,_=>by
  obtain ⟨x,d,hm⟩:=ai6 (ns:=b :: r) (by simp)
  by_cases h:a<=x
  ·exact ⟨x,aB4 _ d,fun y c=>by
    rcases aA8.mp c with rfl | c
    ·exact h
    ·exact hm y c⟩
  ·exact ⟨a,aB7,fun y c=>by
    rcases aA8.mp c with rfl | c
    ·exact Int.le_refl _
    ·have:=hm y c;omega⟩
theorem ai7 {n:Nat} (b:1<=n) (m:Int->Int->Int):∃ a:Nat->Int,∀ u:Nat,ac0 ((List.range n).map fun (i:Nat)=>m (u:Int) (i:Int)) (a u) :=
 ⟨fun u=>Classical.choose (ai6 (ns:=(List.range n).map fun (i:Nat)=>m (u:Int) (i:Int)) (by simp;omega)),fun u=>Classical.choose_spec (ai6 (ns:=(List.range n).map fun (i:Nat)=>m (u:Int) (i:Int)) (by simp;omega))⟩
def aml:VP:=fun ss Q=>∃ (n:Int) (es:List (Int × Int)),ss=[.st (webD n es)]/\1<=n/\n<=100/\InN n es/\es.length<=10000/\Joined n es/\Q (.st .none)
def ar7:VP:=fun ss Q=>∃ (n:Int) (es:List (Int × Int)),ss=[.st (webD n es)]/\1<=n/\n<=100/\InN n es/\es.length<=10000/\Joined n es/\Q (.own (OL (matD n.toNat (dsF es))))
def apw (n:Nat) (m:Int->Int->Int) (x:Int):Prop:=(∃ u v:Int,0<=u/\u < n/\0<=v/\v < n/\m u v=x)/\∀ u v:Int,0<=u->u < n->0<=v->v < n->m u v<=x
def ar8:VP:=fun ss Q=>∃ (n:Nat) (m:Int->Int->Int),ss=[.st (.list (matD n m))]/\1<=n/\n<=1000/\∀ x,apw n m x->Q (.st (.int x))
structure FreeAll (n:Int) (es fs:List (Int × Int)):Prop where
 mem:∀ p:Int × Int,p∈fs ↔ (0<=p.1/\p.1 < p.2/\p.2 < n/\p ∉ es)
 rise:Rise fs
theorem FreeAll.eq {n:Int} {es fs a:List (Int × Int)} (h:FreeAll n es fs) (g:FreeAll n es a):fs=a:=h.rise.eq g.rise fun p=>by rw [h.mem,g.mem]
theorem FreeAll.len {n:Int} {es fs:List (Int × Int)} (h:FreeAll n es fs) (b:n<=100):fs.length<=10000:=PsOk.len ⟨h.rise.nodup,fun p a=>by have:=(h.mem p).mp a;omega⟩ b
section
variable {P:Program} {w:World} {K:Frag} {mg:Str->Option Value} {base:Heap}
theorem sc_need_joined:FnScope ["web"] ["web"] (aai s_need_joined):=by row_cond sc
theorem aib (T:Txt K mg):Can P w K mg base "need_joined" 7 ["web"] (spP K (aml)):=by
 obtain ⟨f,fd,D⟩:=T.d_need_joined
 obtain ⟨i,c⟩:=T.o_Grower
 have d:=c.mgx
 have l:=T.n_Grower_held _ d
 refine D.can (D.fn.ok sc_need_joined (fun vs H Q E h=>lenP h fun ss Q' q=>by obtain ⟨n,es,rfl,m,o,j,g,p,k⟩:=q;rfl) (fun cdv A outer s H vs Q E r h=>?_))
 have nd:=sc_need_joined.nd
 refine ⟨_,(aah (abc (adf (aco (aag (afc T) r (aaa (pv 0) aab))))
   (aah ad0)
   aay)),?_⟩
 refine abg h fun ss Q' q B u=>?_
 refine exS2 ss q fun n es a=>?_
 have m:=a.1
 have o:=a.2.1
 have j:=a.2.2.1
 have g:=a.2.2.2.1
 have p:=a.2.2.2.2.1
 have k:=a.2.2.2.2.2
 clear a q
 show EvS B _ _ [some (.st (webD n es))]
 row_cond go
 refine ⟨n,es,rfl,m,o,j,g,fun b hb=>?_⟩
 have:b=true:=hb.mpr p
 subst this
 row_cond go
 exact k
theorem sc_far_rows:FnScope ["web","tied"] ["web"] (aai s_far_rows):=by row_cond sc
theorem amm (T:Txt K mg):Can P w K mg base "far_rows" 8 ["web"] (spP K (ar7)):=by
 obtain ⟨f,fd,D⟩:=T.d_far_rows
 obtain ⟨j,b⟩:=T.o_Grower
 have c:=b.mgx
 have o:=T.n_Grower_held _ c
 refine D.can (D.fn.ok sc_far_rows (fun vs H Q E h=>lenP h fun ss Q' q=>by obtain ⟨n,es,rfl,y,l,d,g,p,k⟩:=q;rfl) (fun cdv A outer s H vs Q E m h=>?_))
 have nd:=sc_far_rows.nd
 refine ⟨_,(aac (abh (aag (aib T) m (aaa (pv 0) aab)))
  (aac (aam (i:=1) nd rfl (Or.inr rfl) (aag (aei T) m (aaa (pv 0) aab)))
  (aah (aas (acy rfl (N:=["place","tied"]) (src:=[none,some 1]) (by exact abw rfl rfl rfl rfl rfl rfl) (abj rfl T.b_range (aaa (aaj abq (by rfl) T.b_len ab5 (aaa (pv 1) aab)) aab)) (fun _ _ _ _=>(aan (i:=0) (show List.Nodup (["place","tied"]:List Str) by decide +kernel) rfl (Or.inl rfl) (hf:=Or.inr rfl))) (fun _ _ _ _=>ab4) (fun _ _ _ _=>(aag (afz T) m (aaa (pv 1) (aaa (pv 0) aab))))))))),?_⟩
 refine abg h fun ss Q' q B G=>?_
 refine exS2 ss q fun n es a=>?_
 have y:=a.1
 have l:=a.2.1
 have d:=a.2.2.1
 have g:=a.2.2.2.1
 have p:=a.2.2.2.2.1
 have k:=a.2.2.2.2.2
 clear a q
 show EvS B _ _ [some (.st (webD n es)),none]
 row_cond go
 refine ⟨n,es,rfl,y,l,d,g,p,?_⟩
 row_cond go
 refine ⟨n,es,rfl,by omega,l,d,g,fun tl z _=>?_⟩
 refine ada ai2 ?_
 have C:tl.length=n.toNat:=by have:=z.1;omega
 have x:((tlD tl).map PyData.list).length=n.toNat:=by simp [tlD,C]
 row_cond go
 rw [x,show (((n.toNat:Nat):Int)).toNat=n.toNat by omega]
 unfold rngD
 refine adb (fun u:Nat => .list (rowD n.toNat (dsF es (u:Int)))) rfl (by simp;omega) (fun u F I J=>?_) ?_
 ·have r:(u:Int) < n:=by have:=aB8.mp F;omega
  row_cond go
  refine ⟨n,0+(u:Int),Tied es,tl,rfl,l,z,fun u v h=>(h.in d).2,by omega,by omega,acr ⟨?_,rfl⟩⟩
  rw [Int.zero_add,axo p (by omega) r]
 ·row_cond go
  exact k
theorem sc_most_far:FnScope ["rows"] ["rows"] (aai s_most_far):=by row_cond sc
theorem amn (T:Txt K mg):Can P w K mg base "most_far" 1 ["rows"] (spP K (ar8)):=by
 obtain ⟨f,fd,D⟩:=T.d_most_far
 obtain ⟨g,a⟩:=T.o_Grower
 have b:=a.mgx
 have p:=T.n_Grower_held _ b
 refine D.can (D.fn.ok sc_most_far (fun vs H Q E h=>lenP h fun ss Q' q=>by obtain ⟨n,m,rfl,r,z,k⟩:=q;rfl) (fun cdv A outer s H vs Q E O h=>?_))
 have nd:=sc_most_far.nd
 refine ⟨_,(aah (aas (aaj (acw rfl) (by rfl) T.b_max ab6 (aaa (acy rfl (N:=["row"]) (src:=[none]) (by exact abw rfl rfl rfl rfl rfl rfl) (aby (pv 0)) (fun _ _ _ _=>(aan (i:=0) (show List.Nodup (["row"]:List Str) by decide +kernel) rfl (Or.inl rfl) (hf:=Or.inr rfl))) (fun _ _ _ _=>ab4) (fun _ _ _ _=>(aaj (show aa2 _ (.builtin "max") (aed K) from (acw rfl)) (by rfl) T.b_max ab6 (aaa (pv 0) aab)))) aab)))),?_⟩
 refine abg h fun ss Q' q B M=>?_
 refine exS2 ss q fun n m c=>?_
 have r:=c.1
 have z:=c.2.1
 have k:=c.2.2
 clear c q
 show EvS B _ _ [some (.st (.list (matD n m)))]
 obtain ⟨o,d⟩:=ai7 r m
 row_cond go
 unfold matD
 refine adb (fun u:Nat => .int (o u)) rfl (by simp;omega) (fun u U R S=>?_) ?_
 ·row_cond go
  rw [ag6]
  exact ad6 (by simp;omega) fun x l=>⟨by rw [ag7 l (d u)],rfl⟩
 ·row_cond go
  rw [show (List.range n).map (fun u:Nat=>PyData.int (o u))=((List.range n).map o).map .int by rw [aD8];rfl]
  refine ad6 (by simp;omega) fun x l=>?_
  row_cond go
  refine k x ⟨?_,fun u v I G v0 L=>?_⟩
  ·obtain ⟨i,hi,e⟩:=aB6.mp l.1
   obtain ⟨j,C,F⟩:=aB6.mp (d i).1
   exact ⟨i,j,by omega,by have:=aB8.mp hi;omega,by omega,by have:=aB8.mp C;omega,F.trans e⟩
  ·have y:=(d u.toNat).2 (m ((u.toNat:Nat):Int) ((v.toNat:Nat):Int)) (aB6.mpr ⟨v.toNat,aB8.mpr (by omega),rfl⟩)
   have J:=l.2 (o u.toNat) (aB6.mpr ⟨u.toNat,aB8.mpr (by omega),rfl⟩)
   rw [show ((u.toNat:Nat):Int)=u by omega,show ((v.toNat:Nat):Int)=v by omega] at y
   omega
end
structure FarOk (n:Int) (es:List (Int × Int)) (x a b:Int):Prop where
 top:apw n.toNat (dsF es) x
 a0:0<=a
 a1:a < n
 b0:0<=b
 b1:b < n
 eq:dsF es a b=x
 fst:∀ u v:Int,0<=u->u < n->0<=v->v < n->dsF es u v=x->a < u\/(a=u/\b<=v)
def apx:VP:=fun ss Q=>∃ (n:Int) (es:List (Int × Int)),ss=[.st (webD n es)]/\1<=n/\n<=100/\InN n es/\es.length<=10000/\Joined n es/\∀ x a b,FarOk n es x a b->Q (.st (.tuple [.int x,.int a,.int b]))
theorem amo {ns:List Int} {k:Int} (h:k∈ns):∃ j:Nat,ns[j]?=some k/\∀ m:Nat,m < j->ns[m]? ≠ some k:=by
 induction ns with
 | nil=>simp at h
 | cons n ns ih =>
  by_cases e:n=k
  ·exact ⟨0,by rw [e];rfl,fun m hm=>by omega⟩
  ·obtain ⟨j,b,a⟩:=ih ((aA8.mp h).resolve_left fun z=>e z.symm)
   refine ⟨j+1,b,fun m hm=>?_⟩
   cases m with
   | zero=>simpa using e
   | succ m=>exact a m (by omega)
section
variable {P:Program} {w:World} {K:Frag} {mg:Str->Option Value} {base:Heap}
theorem sc_farthest_two:FnScope ["web","rows","far","a"] ["web"] (aai s_farthest_two):=by row_cond sc
theorem ag8 (T:Txt K mg):Can P w K mg base "farthest_two" 9 ["web"] (spP K (apx)):=by
 obtain ⟨f,fd,D⟩:=T.d_farthest_two
 obtain ⟨y,l⟩:=T.o_Grower
 have m:=l.mgx
 have Y:=T.n_Grower_held _ m
 refine D.can (D.fn.ok sc_farthest_two (fun vs H Q E h=>lenP h fun ss Q' q=>by obtain ⟨n,es,rfl,n0,n1,z,p,hJ,k⟩:=q;rfl) (fun cdv A outer s H vs Q E hr h=>?_))
 have nd:=sc_farthest_two.nd
 refine ⟨_,(aac (aam (i:=1) nd rfl (Or.inl rfl) (aag (amm T) hr (aaa (pv 0) aab)))
  (aac (aam (i:=2) nd rfl (Or.inl rfl) (aag (amn T) hr (aaa (pv 1) aab)))
  (aac (aam (i:=3) nd rfl (Or.inl rfl) (acg PySem.F.plainAttrs_list PySem.F.slot_list_index PySem.F.type_list_index amb (acy rfl (N:=["row"]) (src:=[none]) (by exact abw rfl rfl rfl rfl rfl rfl) (aby (pv 1)) (fun _ _ _ _=>(aan (i:=0) (show List.Nodup (["row"]:List Str) by decide +kernel) rfl (Or.inl rfl) (hf:=Or.inr rfl))) (fun _ _ _ _=>ab4) (fun _ _ _ _=>(aaj (show aa2 _ (.builtin "max") (aed K) from (acw rfl)) (by rfl) T.b_max ab6 (aaa (pv 0) aab)))) (aaa (pv 2) aab)))
  (aah (aas (aa5 (aaa (pv 2) (aaa (pv 3) (aaa (acg PySem.F.plainAttrs_list PySem.F.slot_list_index PySem.F.type_list_index amb (aaq aar (pv 1) (pv 3) (fun _ _=>rfl)) (aaa (pv 2) aab)) aab))))))))),?_⟩
 refine abg h fun ss Q' q B hK=>?_
 refine exS2 ss q fun n es c=>?_
 have n0:=c.1
 have n1:=c.2.1
 have z:=c.2.2.1
 have p:=c.2.2.2.1
 have hJ:=c.2.2.2.2.1
 have k:=c.2.2.2.2.2
 clear c q
 show EvS B _ _ [some (.st (webD n es)),none,none,none]
 have hn:1<=n.toNat:=by omega
 obtain ⟨G,d⟩:=ai7 hn (dsF es)
 row_cond go
 refine ⟨n,es,rfl,n0,n1,z,p,hJ,ada acq ?_⟩
 row_cond go
 refine ⟨n.toNat,dsF es,rfl,hn,by omega,fun x o=>?_⟩
 have L:x∈(List.range n.toNat).map G:=by
  obtain ⟨⟨u,v,I,u1,v0,v1,e⟩,g⟩:=o
  refine aB6.mpr ⟨u.toNat,aB8.mpr (by omega),?_⟩
  have X:=(d u.toNat).2 (dsF es ((u.toNat:Nat):Int) ((v.toNat:Nat):Int)) (aB6.mpr ⟨v.toNat,aB8.mpr (by omega),rfl⟩)
  rw [show ((u.toNat:Nat):Int)=u by omega,show ((v.toNat:Nat):Int)=v by omega,e] at X
  obtain ⟨j,O,Z⟩:=aB6.mp (d u.toNat).1
  have:=g u j I u1 (by omega) (by have:=aB8.mp O;omega)
  rw [show ((u.toNat:Nat):Int)=u by omega] at Z
  omega
 obtain ⟨a,ha,C⟩:=amo L
 have U:a < n.toNat:=by have:=(aA1.mp ha).1;simpa using this
 have R:G a=x:=by
  rw [aA5,aD7 U] at ha
  simpa using ha
 have S:x∈(List.range n.toNat).map fun (i:Nat)=>dsF es (a:Int) (i:Int):=by rw [← R];exact (d a).1
 obtain ⟨b,hb,r⟩:=amo S
 have J:b < n.toNat:=by have:=(aA1.mp hb).1;simpa using this
 have W:dsF es (a:Int) (b:Int)=x:=by
  rw [aA5,aD7 J] at hb
  simpa using hb
 have a0:atI (matD n.toNat (dsF es)) (a:Int)=some (.list (rowD n.toNat (dsF es (a:Int)))):=azv (by omega) (by omega)
 row_cond go
 unfold matD
 refine adb (fun u:Nat => .int (G u)) rfl (by simp;omega) (fun u hu B' hB=>?_) ?_
 ·row_cond go
  rw [ag6]
  exact ad6 (by simp;omega) fun x o=>⟨by rw [ag7 o (d u)],rfl⟩
 ·refine ⟨(List.range n.toNat).map G,by rw [aD8];rfl,?_⟩
  row_cond go
  refine ⟨x,a,rfl,ha,C,?_⟩
  row_cond go
  refine ⟨(List.range n.toNat).map fun (i:Nat)=>dsF es (a:Int) (i:Int),by rw [ag6],?_⟩
  row_cond go
  refine ⟨x,b,rfl,hb,r,?_⟩
  row_cond go
  refine k x a b ⟨o,by omega,by omega,by omega,by omega,W,fun u v I u1 v0 v1 e=>?_⟩
  have hu:(a:Int)<=u:=by
   apply aD3
   intro M
   refine C u.toNat (by omega) ?_
   rw [aA5,aD7 (by omega)]
   have X:=(d u.toNat).2 (dsF es ((u.toNat:Nat):Int) ((v.toNat:Nat):Int)) (aB6.mpr ⟨v.toNat,aB8.mpr (by omega),rfl⟩)
   rw [show ((u.toNat:Nat):Int)=u by omega,show ((v.toNat:Nat):Int)=v by omega,e] at X
   obtain ⟨j,O,Z⟩:=aB6.mp (d u.toNat).1
   have:=o.2 u j I (by omega) (by omega) (by have:=aB8.mp O;omega)
   rw [show ((u.toNat:Nat):Int)=u by omega] at Z
   simp only [aH5,Option.some.injEq]
   omega
  by_cases hau:(a:Int) < u
  ·exact .inl hau
  ·refine .inr ⟨by omega,?_⟩
   apply aD3
   intro M
   refine r v.toNat (by omega) ?_
   rw [aA5,aD7 (by omega)]
   simp only [aH5,Option.some.injEq]
   rw [show ((v.toNat:Nat):Int)=v by omega,show (a:Int)=u by omega]
   exact e
end
def ab8 (n:Int):PyData->Bool
 | .tuple [.int a,.int b]=>decide (0<=a/\a<=n - 1) && decide (0<=b/\b<=n - 1) && decide (a < b)
 | _=>false
def ae7 (n:Int):PyData->Bool
 | .list ds=>ds.all (ab8 n)
 | _=>false
def a0z:VP:=fun ss Q=>∃ (n:Int) (d:PyData),ss=[.st (.int n),.st d]/\Q (.st (.bool (ab8 n d)))
def azw:VP:=fun ss Q=>∃ (n:Int) (d:PyData),ss=[.st (.int n),.st d]/\(∀ ds,d=.list ds->ds.length<=100000)/\Q (.st (.bool (ae7 n d)))
def aum:VP:=fun ss Q=>∃ (ps:List (Int × Int)),ss=[.st (.list (ps.map prD))]/\ps.length<=100000/\∀ b:Bool,(b=true ↔ Rise ps)->Q (.st (.bool b))
structure PutOk (n:Int) (es fs:List (Int × Int)):Prop where
 inn:∀ p∈fs,0<=p.1/\p.1 < p.2/\p.2 < n
 nd:(es ++ fs).Nodup
def azx:VP:=fun ss Q=>∃ (n:Int) (es fs:List (Int × Int)),ss=[.st (webD n es),.st (.list (fs.map prD))]/\es.length<=10000/\fs.length<=10000/\PutOk n es fs/\∀ qs,Rise qs->qs.Perm (es ++ fs)->Q (.own (OW (.int n) (qs.map prD)))
section
variable {P:Program} {w:World} {K:Frag} {mg:Str->Option Value} {base:Heap}
theorem sc_is_tie:FnScope ["n","thing","a","b"] ["n","thing"] (aai s_is_tie):=by row_cond sc
theorem apy (T:Txt K mg):Can P w K mg base "is_tie" 4 ["n","thing"] (spP K (a0z)):=by
 obtain ⟨f,fd,D⟩:=T.d_is_tie
 obtain ⟨m,g⟩:=T.o_Grower
 have j:=g.mgx
 have p:=T.n_Grower_held _ j
 refine D.can (D.fn.ok sc_is_tie (fun vs H Q E h=>lenP h fun ss Q' q=>by obtain ⟨n,d,rfl,k⟩:=q;rfl) (fun cdv A outer s H vs Q E r h=>?_))
 have nd:=sc_is_tie.nd
 refine ⟨_,(aac (abc (PW.pt (aut (adf (aco (aaj ac9 (by rfl) T.b_isinstance abz (aaa (pv 1) (aaa (adt (v:=.ty "tuple") rfl T.b_tuple ak9 rfl) aab))))) (ap4 (aaz aos (aaj abq (by rfl) T.b_len ab5 (aaa (pv 1) aab)) aae (aa3 _)))))
   (aah (aas adc))
   aay)
  (aac (acd (pv 1) (acx rfl (aa8 (aan (i:=2) nd rfl (Or.inl rfl)) (aa8 (aan (i:=3) nd rfl (Or.inl rfl)) acl))))
  (aah (aas (afh (aag (ad7 T) r (aaa (pv 0) (aaa (pv 2) aab))) (afh (aag (ad7 T) r (aaa (pv 0) (aaa (pv 3) aab))) (aha (af5 akd (pv 2) (pv 3) (aa3 _))))))))),?_⟩
 refine abg h fun ss Q' q B u=>?_
 refine exS2 ss q fun n d l=>?_
 have k:=l
 clear l q
 show EvS B _ _ [some (.st (.int n)),some (.st d),none,none]
 row_cond go
 cases d with
 | tuple xs =>
  refine age ?_
  row_cond go
  rcases (show xs.length=2\/xs.length ≠ 2 by omega) with o | o
  ·match xs,o with
   | [x,y],_ =>
    row_cond go
    refine ⟨n,x,rfl,?_⟩
    row_cond go
    have c:ab8 n (.tuple [x,y])=(btwD 0 (n - 1) x && (btwD 0 (n - 1) y && match x,y with | .int a,.int b=>decide (a < b) | _,_=>false)):=by
     cases x <;> cases y <;> simp [ab8,btwD,Bool.and_assoc]
    cases hx:btwD 0 (n - 1) x with
    | false =>
     rw [hx,Bool.false_and] at c
     refine acp ?_
     rw [← c];exact k
    | true =>
     refine ace ?_
     row_cond go
     refine ⟨n,y,rfl,?_⟩
     row_cond go
     cases hy:btwD 0 (n - 1) y with
     | false =>
      rw [hx,hy] at c
      refine acp ?_
      rw [show false=ab8 n (.tuple [x,y]) by rw [c];rfl];exact k
     | true =>
      refine ace ?_
      cases x with
      | int a =>
       cases y with
       | int b =>
        row_cond go
        rw [hx,hy] at c
        rw [show decide (a < b)=ab8 n (.tuple [.int a,.int b]) by rw [c];rfl];exact k
       | _=>simp [btwD] at hy
      | _=>simp [btwD] at hx
  ·row_cond go
   have:ab8 n (.tuple xs)=false:=by
    match xs,o with
    | [],_=>rfl
    | [x],_=>cases x <;> rfl
    | [_,_],h=>exact absurd rfl h
    | x :: y :: _ :: _,_=>cases x <;> cases y <;> rfl
   rw [← this];exact k
 | _ =>
  refine ais ?_
  row_cond go
  exact k
theorem sc_are_ties:FnScope ["n","thing"] ["n","thing"] (aai s_are_ties):=by row_cond sc
theorem amp (T:Txt K mg):Can P w K mg base "are_ties" 5 ["n","thing"] (spP K (azw)):=by
 obtain ⟨f,fd,D⟩:=T.d_are_ties
 obtain ⟨g,a⟩:=T.o_Grower
 have b:=a.mgx
 have l:=T.n_Grower_held _ b
 refine D.can (D.fn.ok sc_are_ties (fun vs H Q E h=>lenP h fun ss Q' q=>by obtain ⟨n,d,rfl,j,k⟩:=q;rfl) (fun cdv A outer s H vs Q E m h=>?_))
 have nd:=sc_are_ties.nd
 refine ⟨_,(aah (aas (afh (aaj ac9 (by rfl) T.b_isinstance abz (aaa (pv 1) (aaa (adt (v:=.ty "list") rfl T.b_list aeq rfl) aab))) (aha (aaj (ajs rfl) (by rfl) T.b_all aq0 (aaa (acy rfl (N:=["tie","n"]) (src:=[none,some 0]) (by exact abw rfl rfl rfl rfl rfl rfl) (aby (pv 1)) (fun _ _ _ _=>(aan (i:=0) (show List.Nodup (["tie","n"]:List Str) by decide +kernel) rfl (Or.inl rfl) (hf:=Or.inr rfl))) (fun _ _ _ _=>ab4) (fun _ _ _ _=>(aag (apy T) m (aaa (pv 1) (aaa (pv 0) aab))))) aab)))))),?_⟩
 refine abg h fun ss Q' q B o=>?_
 refine exS2 ss q fun n d c=>?_
 have j:=c.1
 have k:=c.2
 clear c q
 show EvS B _ _ [some (.st (.int n)),some (.st d)]
 row_cond go
 cases d with
 | list ds =>
  have j:=j ds rfl
  refine ace ?_
  row_cond go
  refine an3 (fun t => .bool (ab8 n t)) rfl (by omega) (fun t _ p r=>?_) ?_
  ·row_cond go
   exact ⟨n,t,rfl,rfl,rfl⟩
  ·row_cond go
   rw [show (ds.map fun t=>PyData.bool (ab8 n t))=(ds.map (ab8 n)).map .bool by rw [aD8];rfl]
   refine aob ?_
   row_cond go
   rw [show (ds.map (ab8 n)).all id=ae7 n (.list ds) by simp [ae7,List.all_map]]
   exact k
 | _ =>
  refine acp ?_
  exact k
theorem sc_is_rising:FnScope ["things"] ["things"] (aai s_is_rising):=by row_cond sc
theorem akc (T:Txt K mg):Can P w K mg base "is_rising" 1 ["things"] (spP K (aum)):=by
 obtain ⟨f,fd,D⟩:=T.d_is_rising
 obtain ⟨l,a⟩:=T.o_Grower
 have b:=a.mgx
 have m:=T.n_Grower_held _ b
 refine D.can (D.fn.ok sc_is_rising (fun vs H Q E h=>lenP h fun ss Q' q=>by obtain ⟨ps,rfl,r,k⟩:=q;rfl) (fun cdv A outer s H vs Q E u h=>?_))
 have nd:=sc_is_rising.nd
 refine ⟨_,(aah (aas (aaj (ajs rfl) (by rfl) T.b_all aq0 (aaa (acy rfl (N:=["at","things"]) (src:=[none,some 0]) (by exact abw rfl rfl rfl rfl rfl rfl) (abj rfl T.b_range (aaa (aat ad1 (aaj abq (by rfl) T.b_len ab5 (aaa (pv 0) aab)) aae) aab)) (fun _ _ _ _=>(aan (i:=0) (show List.Nodup (["at","things"]:List Str) by decide +kernel) rfl (Or.inl rfl) (hf:=Or.inr rfl))) (fun _ _ _ _=>ab4) (fun _ _ _ _=>(af5 (show OpR _ (compareOp .Lt) (rLtT K) from ax9 u.units0) (aaq (show IxR _ (acm K) from aar) (pv 1) (pv 0) (fun _ _=>rfl)) (aaq (show IxR _ (acm K) from aar) (pv 1) (aat abd (pv 0) aae) (fun _ _=>rfl)) (aa3 _)))) aab)))),?_⟩
 refine abg h fun ss Q' q B v=>?_
 refine exS1 ss q fun ps c=>?_
 have r:=c.1
 have k:=c.2
 clear c q
 show EvS B _ _ [some (.st (.list (ps.map prD)))]
 row_cond go
 rw [aA3]
 row_cond go
 refine an3 (fun d=>match d with | .int i => .bool (match ps[i.toNat]?,ps[i.toNat+1]? with | some p,some q=>HT.lexLt (p2 p) (p2 q) | _,_=>false) | _ => .none) rfl (by rw [acf];omega) (fun d hd x y=>?_) ?_
 ·obtain ⟨i,hi⟩:=List.mem_iff_getElem?.mp hd
  obtain ⟨hi,rfl⟩:=ag2 hi
  have o:i < ps.length:=by omega
  have n:i+1 < ps.length:=by omega
  have a1:atI (ps.map prD) (0+(i:Int))=some (prD ps[i]):=ah0 (f:=prD) (acs (by omega) (by rw [show (0+(i:Int)).toNat=i by omega];exact aA0 o))
  have z:atI (ps.map prD) (0+(i:Int)+1)=some (prD ps[i+1]):=ah0 (f:=prD) (acs (by omega) (by rw [show (0+(i:Int)+1).toNat=i+1 by omega];exact aA0 n))
  row_cond go
  refine aw7 ?_
  row_cond go
  refine ⟨?_,rfl⟩
  simp [o,n]
 ·row_cond go
  have e:(rngD 0 ((ps.length:Int) - 1).toNat).map (fun d=>match d with | .int i=>PyData.bool (match ps[i.toNat]?,ps[i.toNat+1]? with | some p,some q=>HT.lexLt (p2 p) (p2 q) | _,_=>false) | _ => .none)=((List.range (ps.length - 1)).map fun i=>match ps[i]?,ps[i+1]? with | some p,some q=>HT.lexLt (p2 p) (p2 q) | _,_=>false).map .bool:=by
   unfold rngD
   rw [aD8,aD8,show ((ps.length:Int) - 1).toNat=ps.length - 1 by omega]
   apply aE4
   intro i _
   simp
  rw [e]
  refine aob ?_
  row_cond go
  refine k _ ?_
  rw [List.all_map,aE7]
  unfold Rise
  rw [al9 ltP (fun h g=>arp h g)]
  constructor
  ·intro h i hi
   have:=h i (aB8.mpr (by omega))
   simp [show i < ps.length by omega,hi] at this
   exact (lex2 _ _).mp this
  ·intro h i hi
   have j:i+1 < ps.length:=by have:=aB8.mp hi;omega
   have:=(lex2 _ _).mpr (h i j)
   simp [show i < ps.length by omega,j,this]
theorem sc_with_ties:FnScope ["web","ties","n","there","every"] ["web","ties"] (aai s_with_ties):=by row_cond sc
theorem afd (T:Txt K mg):Can P w K mg base "with_ties" 6 ["web","ties"] (spP K (azx)):=by
 obtain ⟨f,fd,D⟩:=T.d_with_ties
 obtain ⟨l,a⟩:=T.o_Grower
 have d:=a.mgx
 have m:=T.n_Grower_held _ d
 refine D.can (D.fn.ok sc_with_ties (fun vs H Q E h=>lenP h fun ss Q' q=>by obtain ⟨n,es,fs,rfl,v,u,o,k⟩:=q;rfl) (fun cdv A outer s H vs Q E j h=>?_))
 have nd:=sc_with_ties.nd
 refine ⟨_,(aac (acd (pv 0) (acx rfl (aa8 (aan (i:=2) nd rfl (Or.inl rfl)) (aa8 (aan (i:=3) nd rfl (Or.inl rfl)) acl))))
  (aac (abc (adf (aco (aag (amp T) j (aaa (pv 2) (aaa (pv 1) aab)))))
   (aah ad0)
   aay)
  (aac (aam (i:=4) nd rfl (Or.inl rfl) (aaj adq (by rfl) T.b_sorted acv (aaa (aat ahd (pv 3) (pv 1)) aab)))
  (aac (abc (adf (aco (aag (akc T) j (aaa (pv 4) aab))))
   (aah ad0)
   aay)
  (aah (aas (aa5 (aaa (pv 2) (aaa (pv 4) aab))))))))),?_⟩
 refine abg h fun ss Q' q B y=>?_
 refine exS3 ss q fun n es fs c=>?_
 have v:=c.1
 have u:=c.2.1
 have o:=c.2.2.1
 have k:=c.2.2.2
 clear c q
 show EvS B _ _ [some (.st (webD n es)),some (.st (.list (fs.map prD))),none,none,none]
 row_cond go
 refine ⟨n,_,rfl,fun ds e=>by cases e;rw [aA3];omega,?_⟩
 row_cond go
 have x:ae7 n (.list (fs.map prD))=true:=by
  show ((fs.map prD).all (ab8 n))=true
  rw [List.all_map,aE7]
  intro p g
  have:=o.inn p g
  simp [ab8,prD];omega
 rw [x]
 row_cond go
 refine aeh (ps:=es ++ fs) ?_
 row_cond go
 rw [← aE0]
 refine ⟨rfl,fun qs g r=>?_⟩
 have j:Rise qs:=ai4 g o.nd r
 refine abf ?_
 dsimp only [List.set_cons_zero,List.set_cons_succ]
 try refine' ai0 (by assumption) ?_
 refine anz (aq8 (anx (ag1 (aua (.inl rfl) (anu ⟨_,_,.inl rfl,acq,qs,rfl,by rw [g.length_eq,aB0];omega,fun b hb=>?_⟩)))))
 row_cond go
 rw [hb.mpr j]
 row_cond go
 exact k qs j g
end
def ar9:VP:=fun ss Q=>∃ (a b c:Int),ss=[.st (.int a),.st (.int b),.st (.int c)]/\a<=c/\c<=b/\Q (.st .none)
section
variable {P:Program} {w:World} {K:Frag} {mg:Str->Option Value} {base:Heap}
theorem sc_need_number:FnScope ["least","most","thing"] ["least","most","thing"] (aai s_need_number):=by row_cond sc
theorem aic (T:Txt K mg):Can P w K mg base "need_number" 3 ["least","most","thing"] (spP K (ar9)):=by
 obtain ⟨f,fd,D⟩:=T.d_need_number
 obtain ⟨j,d⟩:=T.o_Grower
 have g:=d.mgx
 have l:=T.n_Grower_held _ g
 refine D.can (D.fn.ok sc_need_number (fun vs H Q E h=>lenP h fun ss Q' q=>by obtain ⟨a,b,c,rfl,n,m,k⟩:=q;rfl) (fun cdv A outer s H vs Q E o h=>?_))
 have nd:=sc_need_number.nd
 refine ⟨_,(aah (abc (adf (aco (aag (aeu T) o (aaa (pv 0) (aaa (pv 1) (aaa (pv 2) aab))))))
   (aah ad0)
   aay)),?_⟩
 refine abg h fun ss Q' q B p=>?_
 refine exS3 ss q fun a b c i=>?_
 have n:=i.1
 have m:=i.2.1
 have k:=i.2.2
 clear i q
 show EvS B _ _ [some (.st (.int a)),some (.st (.int b)),some (.st (.int c))]
 row_cond go
 refine ⟨a,b,.int c,rfl,?_⟩
 have:btwD a b (.int c)=true:=by simp [btwD];omega
 rw [this]
 row_cond go
 exact k
end
def FarN (n:Int) (es:List (Int × Int)) (d:PyData):Prop:=(Joined n es/\∃ x,apw n.toNat (dsF es) x/\d=.int x)\/(¬ Joined n es/\d=.none)
structure GW (n:Int) (es:List (Int × Int)):Prop where
 lo:1<=n
 hi:n<=61
 inn:InN n es
 len:es.length<=4000
def asa:VP:=fun ss Q=>∃ (n:Int) (es:List (Int × Int)),ss=[.st (webD n es)]/\GW n es/\∀ d,FarN n es d->Q (.st d)
abbrev gF (n:Int) (es:List (Int × Int)):List (Str × PyData):=[("held",webD n es)]
def axp (mg:Str->Option Value):VIo:=fun A ss Q=>∃ (C:Addr) (n:Int) (es:List (Int × Int)),mg "Grower" = some (.ref C)/\A=OI C []/\ss=[.st (webD n es)]/\Q (OGW C "held" (.int n) (es.map prD)) (.st .none)
def aun (mg:Str->Option Value):VIo:=fun A ss Q=>∃ (C:Addr) (n m:Int) (es qs:List (Int × Int)),mg "Grower" = some (.ref C)/\A=OI C (gF n es)/\ss=[.st (webD m qs)]/\GW n es/\GW m qs/\∀ d0 d1,FarN n es d0->FarN m qs d1->Q (OI C (gF m qs)) (.st (.tuple [d0,d1]))
def apz (mg:Str->Option Value):VIo:=fun A ss Q=>∃ (C:Addr) (n a:Int) (es:List (Int × Int)),mg "Grower" = some (.ref C)/\A=OI C (gF n es)/\ss=[.st (.int a)]/\GW n es/\n < 60/\PsOk n es/\es.length<=2500/\0<=a/\a < n/\∀ qs d0 d1,Rise qs->qs.Perm (es ++ [(a,n)])->FarN n es d0->FarN (n+1) qs d1->Q (OI C (gF (n+1) qs)) (.st (.tuple [d0,d1]))
def auo (mg:Str->Option Value):VIo:=fun A ss Q=>∃ (C:Addr) (n a b:Int) (es:List (Int × Int)),mg "Grower" = some (.ref C)/\A=OI C (gF n es)/\ss=[.st (.int a),.st (.int b)]/\GW n es/\PutOk n es [(a,b)]/\es.length<=2500/\∀ qs d0 d1,Rise qs->qs.Perm (es ++ [(a,b)])->FarN n es d0->FarN n qs d1->Q (OI C (gF n qs)) (.st (.tuple [d0,d1]))
theorem asb {n m a b:Int} {es qs:List (Int × Int)} (h:GW n es) (hm:n<=m) (c:m<=61) (o:es.length<=2500) (g:0<=a) (j:a < m) (i:0<=b) (l:b < m) (d:qs.Perm (es ++ [(a,b)])):GW m qs :=
 ⟨by have:=h.lo;omega,c,fun p f=>by
  rcases aA7.mp (d.mem_iff.mp f) with z | z
  ·have:=h.inn p z
   exact ⟨by omega,by omega,by omega,by omega⟩
  ·cases aC1.mp z
   exact ⟨g,j,i,l⟩,by rw [d.length_eq,aB0];simp;omega⟩
section
variable {P:Program} {w:World} {K:Frag} {mg:Str->Option Value} {base:Heap}
theorem sc_far_or_none:FnScope ["web"] ["web"] (aai s_far_or_none):=by row_cond sc
theorem aej (T:Txt K mg):Can P w K mg base "far_or_none" 10 ["web"] (spP K (asa)):=by
 obtain ⟨f,fd,D⟩:=T.d_far_or_none
 obtain ⟨j,c⟩:=T.o_Grower
 have d:=c.mgx
 have m:=T.n_Grower_held _ d
 refine D.can (D.fn.ok sc_far_or_none (fun vs H Q E h=>lenP h fun ss Q' q=>by obtain ⟨n,es,rfl,i,o⟩:=q;rfl) (fun cdv A outer s H vs Q E r h=>?_))
 have nd:=sc_far_or_none.nd
 refine ⟨_,(aah (aas (asj (aco (aag (afc T) r (aaa (pv 0) aab))) (aaq aar (aag (ag8 T) r (aaa (pv 0) aab)) aae (fun _ _=>rfl)) ady))),?_⟩
 refine abg h fun ss Q' q B y=>?_
 refine exS2 ss q fun n es g=>?_
 have i:=g.1
 have o:=g.2
 clear g q
 show EvS B _ _ [some (.st (webD n es))]
 have hn:=i.lo
 have u:=i.hi
 have l:=i.inn
 have p:=i.len
 row_cond go
 refine ⟨n,es,rfl,hn,by omega,l,by omega,fun b hb=>?_⟩
 cases b with
 | true =>
  row_cond go
  refine ⟨n,es,rfl,hn,by omega,l,by omega,hb.mp rfl,fun x a b v=>?_⟩
  row_cond go
  exact o _ (.inl ⟨hb.mp rfl,x,v.top,rfl⟩)
 | false =>
  row_cond go
  exact o _ (.inr ⟨fun z=>(by have:=hb.mpr z;cases this),rfl⟩)
theorem sc_Grower____init__:FnScope ["self","web","n","ties"] ["self","web"] (aai s_Grower____init__):=by row_cond sc
theorem ae8 (T:Txt K mg) {b:Addr} (a:mg "Grower" = some (.ref b)):CanM P w K mg base b "__init__" 1 ["self","web"] (spI K (axp mg)):=by
 obtain ⟨f,fd,D⟩:=T.m_Grower____init__ _ a
 have d:ObAt K mg "Grower" b:=by
  obtain ⟨c,o⟩:=T.o_Grower
  have:=o.mgx.symm.trans a
  cases this
  exact o
 have g:=T.n_Grower_held _ a
 refine D.can (D.fn.ok sc_Grower____init__ (fun vs H Q E h=>lenI h fun A ss Q' q=>by obtain ⟨C,n,es,l,rfl,rfl,j⟩:=q;rfl) (fun cdv A outer s H vs Q E p h=>?_))
 have nd:=sc_Grower____init__.nd
 refine ⟨_,(aac (acd (pv 1) (acx rfl (aa8 (aan (i:=2) nd rfl (Or.inl rfl)) (aa8 (aan (i:=3) nd rfl (Or.inl rfl)) acl))))
  (aah (aqg (pv 0) (aa5 (aaa (pv 2) (aaa (adg ah1 (by rfl) T.b_list aeq (aaa (pv 3) aab)) aab))) rfl))),?_⟩
 refine adr h fun r ss Q' q B m=>?_
 obtain ⟨C,n,es,l,rfl,rfl,j⟩:=q
 show EvS B _ _ [some (.io (OI C [])),some (.st (webD n es)),none,none]
 obtain rfl:b=C:=by have:=a.symm.trans l;cases this;rfl
 repeat (first | (refine aui d.cl g ?_) | (refine ame ?_) | row_cond st)
 exact ⟨_,rfl,_,_,_,rfl,rfl,.inr rfl,_,rfl,j⟩
theorem sc_Grower__become:FnScope ["self","grown","before"] ["self","grown"] (aai s_Grower__become):=by row_cond sc
theorem adm (T:Txt K mg) {b:Addr} (a:mg "Grower" = some (.ref b)):CanM P w K mg base b "become" 11 ["self","grown"] (spI K (aun mg)):=by
 obtain ⟨f,fd,D⟩:=T.m_Grower__become _ a
 have d:ObAt K mg "Grower" b:=by
  obtain ⟨c,o⟩:=T.o_Grower
  have:=o.mgx.symm.trans a
  cases this
  exact o
 have g:=T.n_Grower_held _ a
 refine D.can (D.fn.ok sc_Grower__become (fun vs H Q E h=>lenI h fun A ss Q' q=>by obtain ⟨C,n,m,es,qs,u,rfl,rfl,l,j,r⟩:=q;rfl) (fun cdv A outer s H vs Q E p h=>?_))
 have nd:=sc_Grower__become.nd
 refine ⟨_,(aac (aam (i:=2) nd rfl (Or.inl rfl) (aag (aej T) p (aaa (ahc (pv 0) rfl) aab)))
  (aac (aqg (pv 0) (pv 1) rfl)
  (aah (aas (aa5 (aaa (pv 2) (aaa (aag (aej T) p (aaa (pv 1) aab)) aab))))))),?_⟩
 refine adr h fun G ss Q' q B F=>?_
 obtain ⟨C,n,m,es,qs,u,rfl,rfl,l,j,r⟩:=q
 show EvS B _ _ [some (.io (OI C (gF n es))),some (.st (webD m qs)),none]
 obtain rfl:b=C:=by have:=a.symm.trans u;cases this;rfl
 repeat (first | (refine ah7 (.inr rfl) d.cl g akq ?_) | row_cond st)
 refine ⟨n,es,rfl,l,fun z v=>?_⟩
 repeat (first | (refine axf (fs:=gF n es) d.cl g ?_) | row_cond st)
 refine ⟨_,rfl,.inr rfl,Nat.le_of_ble_eq_true rfl,?_⟩
 rw [put1]
 dsimp only [List.set_cons_zero,List.set_cons_succ,reS]
 row_cond go
 refine ⟨m,qs,rfl,j,fun y x=>?_⟩
 row_cond go
 exact r z y v x
theorem sc_Grower__put_place:FnScope ["self","a","n","ties"] ["self","a"] (aai s_Grower__put_place):=by row_cond sc
theorem aew (T:Txt K mg) {d:Addr} (b:mg "Grower" = some (.ref d)):CanM P w K mg base d "put_place" 12 ["self","a"] (spI K (apz mg)):=by
 obtain ⟨f,fd,D⟩:=T.m_Grower__put_place _ b
 obtain ⟨l,j⟩:=T.v_MOST_PLACES
 have g:ObAt K mg "Grower" d:=by
  obtain ⟨c,o⟩:=T.o_Grower
  have:=o.mgx.symm.trans b
  cases this
  exact o
 have r:=T.n_Grower_held _ b
 refine D.can (D.fn.ok sc_Grower__put_place (fun vs H Q E h=>lenI h fun A ss Q' q=>by obtain ⟨C,n,a,es,N,rfl,rfl,G,F,J,L,a0,a1,M⟩:=q;rfl) (fun cdv A outer s H vs Q E u h=>?_))
 have nd:=sc_Grower__put_place.nd
 refine ⟨_,(aac (abh (aag (aev T) u (aaa (ahc (pv 0) rfl) (aaa (pv 1) aab))))
  (aac (acd (ahc (pv 0) rfl) (acx rfl (aa8 (aan (i:=2) nd rfl (Or.inl rfl)) (aa8 (aan (i:=3) nd rfl (Or.inl rfl)) acl))))
  (aac (abh (aag (aic T) u (aaa aae (aaa (aat ad1 (avf (v:=.int 60) rfl j ⟨_,rfl⟩) aae) (aaa (pv 2) aab)))))
  (aah (aas (ae6 (adm T b) g.cl u (pv 0) (aaa (aag (afd T) u (aaa (aa5 (aaa (aat abd (pv 2) aae) (aaa (pv 3) aab))) (aaa (aa0 (aaa (aa5 (aaa (pv 1) (aaa (pv 2) aab))) aab)) aab))) aab))))))),?_⟩
 refine adr h fun A0 ss Q' q B hK=>?_
 obtain ⟨C,n,a,es,N,rfl,rfl,G,F,J,L,a0,a1,M⟩:=q
 show EvS B _ _ [some (.io (OI C (gF n es))),some (.st (.int a)),none,none]
 obtain rfl:d=C:=by have:=b.symm.trans N;cases this;rfl
 have hn:=G.lo
 have z:PutOk (n+1) es [(a,n)]:=⟨fun p R=>by cases aC1.mp R;exact ⟨a0,a1,by simp only;omega⟩,aE3.mpr ⟨J.nd,by simp,fun x X y Y e=>by
  cases aC1.mp Y
  have:=J.inn x X
  rw [e] at this
  simp only at this
  omega⟩⟩
 repeat (first | (refine ah7 (.inr rfl) g.cl r akq ?_) | row_cond st)
 refine ⟨n,a,es,rfl,a0,a1,?_⟩
 repeat (first | (refine aba (ah7 (.inr rfl) g.cl r akq ?_)) | row_cond st)
 refine ⟨1,60 - 1,n,rfl,hn,by omega,?_⟩
 repeat (first | (refine ae5 (.inr rfl) (akr (by decide +kernel)) ?_) | row_cond st)
 refine ⟨n+1,es,[(a,n)],rfl,by omega,by simp,z,fun qs u O=>apm ?_⟩
 have I:=asb G (m:=n+1) (by omega) (by omega) L a0 (by omega) (by omega) (by omega) O
 row_cond go
 refine ⟨_,_,rfl,.inr rfl,d,n,n+1,es,qs,b,rfl,rfl,G,I,fun Z W S U=>?_⟩
 exact ⟨_,rfl,M qs Z W u O S U⟩
theorem sc_Grower__put_tie:FnScope ["self","a","b"] ["self","a","b"] (aai s_Grower__put_tie):=by row_cond sc
theorem afg (T:Txt K mg) {g:Addr} (d:mg "Grower" = some (.ref g)):CanM P w K mg base g "put_tie" 12 ["self","a","b"] (spI K (auo mg)):=by
 obtain ⟨f,fd,D⟩:=T.m_Grower__put_tie _ d
 have i:ObAt K mg "Grower" g:=by
  obtain ⟨c,o⟩:=T.o_Grower
  have:=o.mgx.symm.trans d
  cases this
  exact o
 have p:=T.n_Grower_held _ d
 refine D.can (D.fn.ok sc_Grower__put_tie (fun vs H Q E h=>lenI h fun A ss Q' q=>by obtain ⟨C,n,a,b,es,z,rfl,rfl,r,j,x,y⟩:=q;rfl) (fun cdv A outer s H vs Q E u h=>?_))
 have nd:=sc_Grower__put_tie.nd
 refine ⟨_,(aah (aas (ae6 (adm T d) i.cl u (pv 0) (aaa (aag (afd T) u (aaa (ahc (pv 0) rfl) (aaa (aa0 (aaa (aa5 (aaa (pv 1) (aaa (pv 2) aab))) aab)) aab))) aab)))),?_⟩
 refine adr h fun O ss Q' q B N=>?_
 obtain ⟨C,n,a,b,es,z,rfl,rfl,r,j,x,y⟩:=q
 show EvS B _ _ [some (.io (OI C (gF n es))),some (.st (.int a)),some (.st (.int b))]
 obtain rfl:g=C:=by have:=d.symm.trans z;cases this;rfl
 have hn:=r.lo
 have G:=r.hi
 have l:=j.inn (a,b) (by simp)
 simp only at l
 repeat (first | (refine ah7 (.inr rfl) i.cl p akq ?_) | (refine ae5 (.inr rfl) (akr (by decide +kernel)) ?_) | row_cond st)
 refine ⟨n,es,[(a,b)],rfl,by omega,by simp,j,fun qs u F=>apm ?_⟩
 have v:=asb r (m:=n) (by omega) (by omega) x l.1 (by omega) (by omega) l.2.2 F
 row_cond go
 refine ⟨_,_,rfl,.inr rfl,g,n,n,es,qs,d,rfl,rfl,r,v,fun M L I J=>?_⟩
 exact ⟨_,rfl,y qs M L u F I J⟩
end
structure Dk (H:Hp) (d p:Addr) (i:Int) (qs:List Addr):Prop where
 dd:H d=some (.lst [.ref p,.int i])
 pp:H p=some (.lst (qs.map V.ref))
 ne:qs ≠ []
 le:qs.length<=63
 dp:d ≠ p
 dq:d ∉ qs
 pq:p ∉ qs
 ql:∀ q∈qs,∃ c f k:Int,H q=some (.lst [.int c,.int f,.int k])
def aoi:Sp:=fun vs H Q _=>∃ (d p:Addr) (i many:Int) (qs:List Addr),vs=[.ref d,.int many]/\Dk H d p i qs/\0 < many/\many < 1073741824 /\
 ∀ (r:Int) (H':Hp) (i':Int),0<=r->r < many->Dk H' d p i' qs->(∀ a,a ≠ d->a ∉ qs->H' a=H a)->Q (.int r) H'
theorem Dk.pick {H:Hp} {d p:Addr} {i:Int} {qs:List Addr} (h:Dk H d p i qs) (j:Int):∃ q,q∈qs/\atI (qs.map V.ref) (j % ((qs.map V.ref).length:Int))=some (.ref q):=by
 have c:0 < qs.length:=aF2.mpr h.ne
 have b:=Int.emod_nonneg j (show ((qs.map V.ref).length:Int) ≠ 0 by rw [aA3];omega)
 have a:=aE2 j (show (0:Int) < ((qs.map V.ref).length:Int) by rw [aA3];omega)
 generalize j % ((qs.map V.ref).length:Int)=m at b a
 have hm:m.toNat < qs.length:=by rw [aA3] at a;omega
 exact ⟨qs[m.toNat],List.getElem_mem _,acs b (by rw [aA5,aA0 hm];rfl)⟩
theorem Dk.put {H:Hp} {d p q:Addr} {i b:Int} {qs:List Addr} (h:Dk H d p i qs) (a:q∈qs) (c f k:Int):Dk (upd (upd H d (.lst [.ref p,.int b])) q (.lst [.int c,.int f,.int k])) d p b qs:=by
 have g:d ≠ q:=fun e=>h.dq (e ▸ a)
 have j:p ≠ q:=fun e=>h.pq (e ▸ a)
 refine ⟨by rw [aad g,aaf],by rw [aad j,aad h.dp.symm];exact h.pp,h.ne,h.le,h.dp,h.dq,h.pq,fun z hz=>?_⟩
 by_cases e:z=q
 ·subst e;exact ⟨c,f,k,aaf⟩
 ·rw [aad e,aad (show z ≠ d from fun e=>h.dq (e ▸ hz))];exact h.ql z hz
def ODk:Own where
 P:=fun _ H v F=>∃ d p i qs,v=.ref d/\Dk H d p i qs/\∀ b,F b ↔ b=d\/b=p\/b∈qs
 mono:=fun ⟨d,p,i,qs,e,h,f⟩ _ hh=>⟨d,p,i,qs,e,⟨hh d _ ((f d).mpr (.inl rfl)) h.dd,hh p _ ((f p).mpr (.inr (.inl rfl))) h.pp,h.ne,h.le,h.dp,h.dq,h.pq,fun q hq=>by
  obtain ⟨c,g,k,e⟩:=h.ql q hq
  exact ⟨c,g,k,hh q _ ((f q).mpr (.inr (.inr hq))) e⟩⟩,f⟩
 dom:=fun ⟨d,p,i,qs,e,h,f⟩ b z=>by
  rcases (f b).mp z with rfl | rfl | z
  ·exact ⟨_,h.dd⟩
  ·exact ⟨_,h.pp⟩
  ·obtain ⟨c,g,k,e⟩:=h.ql b z
   exact ⟨_,e⟩
theorem axq {P:Program} {w:World} {K:Frag} {mg:Str->Option Value} {base:Heap} {x:Str} {k:Nat} {ps:List Str} {sp a:Sp} (c:Can P w K mg base x k ps sp) (h:∀ vs H Q E,a vs H Q E->sp vs H Q E):Can P w K mg base x k ps a:=by
 obtain ⟨f,fd,ok,m,kp,b⟩:=c
 exact ⟨f,fd,ok.imp h,m,kp,b⟩
def asc:VIo:=fun A ss Q=>∃ many:Int,A=ODk/\ss=[.st (.int many)]/\0 < many/\many < 1073741824/\∀ r:Int,0<=r->r < many->Q ODk (.st (.int r))
theorem axr {K:Frag} {vs:List V} {H:Hp} {Q:VK} {E:XK} (h:spI K asc vs H Q E):aoi vs H Q E:=by
 obtain ⟨v0,C,G,R,A,ss,F0,Q',rfl,gh,ft,x,ap,fg,fr,s,⟨many,rfl,rfl,q,m,k⟩,l⟩:=h
 obtain ⟨d,p,i,qs,rfl,B,j⟩:=ap
 cases s with
 | cons ha hr =>
  cases hr
  cases (show Rp G _ (.int many) from ha)
  refine ⟨d,p,i,many,qs,rfl,B,q,m,fun r H' u n y b v=>l ODk _ (k r n y) _ G H' F0 (fun _=>False) ?_⟩
  have out:∀ a,¬ F0 a->H' a=H a:=fun a z=>v a (fun e=>z ((j a).mpr (.inl e))) (fun e=>z ((j a).mpr (.inr (.inr e))))
  have g:∀ a,F0 a->(∃ o,H' a=some o)/\∀ xs,H' a ≠ some (.tup xs):=fun a z=>by
   rcases (j a).mp z with rfl | rfl | z
   ·rw [b.dd];exact ⟨⟨_,rfl⟩,fun xs e=>by cases e⟩
   ·rw [b.pp];exact ⟨⟨_,rfl⟩,fun xs e=>by cases e⟩
   ·obtain ⟨c,f,D,e⟩:=b.ql a z
    rw [e];exact ⟨⟨_,rfl⟩,fun xs e=>by cases e⟩
  refine ⟨Same.refl _,fun a o e=>?_,fun a w e=>?_,fun a o e => .inl e,fun a o e=>?_,fun a o e=>?_,⟨d,p,u,qs,rfl,b,j⟩,fun a z => .inl z,fg,⟨.int _,fun a z=>z⟩,fun a z=>z.elim⟩
  ·rw [out a fun z=>by rw [fg a z] at e;cases e];exact gh a o e
  ·by_cases z:F0 a
   ·exact absurd e ((g a z).2 _)
   ·rw [out a z] at e;exact ft a w e
  ·rw [out a fun z=>by rw [fr a z] at e;cases e];exact x a o e
  ·by_cases z:F0 a
   ·exact (g a z).1
   ·rw [out a z];exact ⟨o,e⟩
def asd:VP:=fun ss Q=>∃ ns:List Int,ss=[.scr ns]/\ns.length<=63/\Q (.own ODk)
theorem aoj {K:Frag} {vs:List V} {H:Hp} {Q:VK} {E:XK} (h:spP K asd vs H Q E):∃ (a:Addr) (ns:List Int),vs=[.ref a]/\SqL K H a (ns.map V.int)/\ns.length<=63 /\
  ∀ (d p:Addr) (i:Int) (qs:List Addr) (H':Hp),Dk H' d p i qs->(∀ b,b=d\/b=p\/b∈qs->H b=none)->(∀ b,b ≠ d->b ≠ p->b ∉ qs->H' b=H b)->Q (.ref d) H':=by
 obtain ⟨G,ss,Q',gh,ft,r,⟨ns,rfl,hn,k⟩,n⟩:=h
 cases r with
 | cons ha hr =>
  cases hr
  obtain ⟨a,rfl,q⟩:=(show ∃ a,_=V.ref a/\SqL K G a (ns.map V.int) from ha)
  refine ⟨a,ns,rfl,gh.seq q,hn,fun d p i qs H' l g m=>n _ k _ G H' (fun b=>b=d\/b=p\/b∈qs) ?_⟩
  have hh:Same H H':=fun a o e=>by
   rw [m a (fun z=>by rw [g a (.inl z)] at e;cases e) (fun z=>by rw [g a (.inr (.inl z))] at e;cases e) (fun z=>by rw [g a (.inr (.inr z))] at e;cases e)];exact e
  have j:∀ a,a=d\/a=p\/a∈qs->(∃ o,H' a=some o)/\∀ xs,H' a ≠ some (.tup xs):=fun a z=>by
   rcases z with rfl | rfl | z
   ·rw [l.dd];exact ⟨⟨_,rfl⟩,fun xs e=>by cases e⟩
   ·rw [l.pp];exact ⟨⟨_,rfl⟩,fun xs e=>by cases e⟩
   ·obtain ⟨c,f,u,e⟩:=l.ql a z
    rw [e];exact ⟨⟨_,rfl⟩,fun xs e=>by cases e⟩
  refine ⟨Same.refl _,gh.trans hh,hh,fun a o e => .inl e,g,fun a z=>?_,fun a z=>(j a z).1,⟨d,p,i,qs,rfl,l,fun b=>Iff.rfl⟩,fun _ a s e=>?_⟩
  ·cases e:G a with
   | none=>rfl
   | some o=>have:=gh a o e;rw [g a z] at this;cases this
  ·by_cases z:a=d\/a=p\/a∈qs
   ·exact absurd e ((j a z).2 _)
   ·rw [m a (fun y=>z (.inl y)) (fun y=>z (.inr (.inl y))) (fun y=>z (.inr (.inr y)))] at e;exact ft a s e
section
variable {P:Program} {w:World} {K:Frag} {mg:Str->Option Value} {base:Heap}
theorem sc_law_draw:FnScope ["deck","many","pool","found","number"] ["deck","many"] (aai s_law_draw):=by row_cond sc
theorem afe (T:Txt K mg):Can P w K mg base "_law_draw" 1 ["deck","many"] aoi:=by
 obtain ⟨f,fd,D⟩:=T.d_law_draw
 refine D.can (D.fn.ok sc_law_draw (fun vs H Q E h=>by obtain ⟨d,p,i,many,qs,rfl,b,j,n,k⟩:=h;rfl) (fun cdv A outer s H vs Q E B h=>?_))
 obtain ⟨d,p,i,many,qs,rfl,b,j,n,k⟩:=h
 have nd:=sc_law_draw.nd
 refine ⟨_,(aac (aam (i:=2) nd rfl (Or.inl rfl) (aaq aar (aaq aar (pv 0) aae (fun _ _=>rfl)) (aat ad2 (aaq aar (pv 0) aae (fun _ _=>rfl)) (aaj abq (by rfl) T.b_len ab5 (aaa (aaq aar (pv 0) aae (fun _ _=>rfl)) aab))) (fun _ _=>rfl)))
  (aac (acd (aat abd (aaq aar (pv 0) aae (fun _ _=>rfl)) aae) (afi (pv 0) aae ad3))
  (aac (abc (PW.pt (ag9 (aaz af4 (aaq aar (pv 2) aae (fun _ _=>rfl)) aae (aa3 _)) (af2 (aaz aot (aaq aar (pv 2) aae (fun _ _=>rfl)) aae (aa3 _)))))
   (aac (aam (i:=3) nd rfl (Or.inl rfl) (aat ad2 (aaq aar (pv 2) aae (fun _ _=>rfl)) (pv 1)))
    (aac (acd (aat aie (aaq aar (pv 2) aae (fun _ _=>rfl)) (pv 1)) (afi (pv 2) aae ad3))
    (aah (aas (pv 3)))))
   aay)
  (aac (acd (aat abd (aaq aar (pv 2) aae (fun _ _=>rfl)) aae) (afi (pv 2) aae ad3))
  (aac (aam (i:=4) nd rfl (Or.inl rfl) (aat ad2 (aat abd (aat ad2 (aaq aar (pv 2) aae (fun _ _=>rfl)) aae) (aat afk aae (aaq aar (pv 2) aae (fun _ _=>rfl)))) aae))
  (aac (aam (i:=4) nd rfl (Or.inl rfl) (aat ad2 (aat afk (pv 4) (pv 4)) aae))
  (aac (aam (i:=4) nd rfl (Or.inl rfl) (aat ad2 (aat afk (pv 4) (aat abd (pv 4) aae)) aae))
  (aah (aas (aat ad2 (aat aie (pv 4) aae) (pv 1))))))))))),?_⟩
 show (_:TS) _ [some (.ref d),some (.int many),none,none,none] H
 obtain ⟨q,g,u⟩:=b.pick i
 obtain ⟨c,f,C,x⟩:=b.ql q g
 have m:=b.dd
 have v:=b.pp
 have l:(0:Int) < ((qs.map V.ref).length:Int):=by have:=aF2.mpr b.ne;rw [aA3];omega
 have z:q ≠ d:=fun e=>b.dq (e ▸ g)
 have fin:∀ (c f k:Int) (a:Addr),a ≠ d->a ∉ qs->upd (upd H d (.lst [.ref p,.int (i+1)])) q (.lst [.int c,.int f,.int k]) a=H a:=fun c f k a o y=>by
  rw [aad (show a ≠ q from fun e=>y (e ▸ g)),aad o]
 row_cond hgo
 refine adi (fun hf=>?_) (fun hf=>?_)
 ·row_cond hgo
  refine adi (fun r=>?_) (fun r=>?_)
  ·row_cond hgo
   exact k _ _ (i+1) (Int.emod_nonneg _ (by omega)) (aE2 _ j) (b.put g _ _ _) (fin _ _ _)
  ·row_cond hgo
   exact k _ _ (i+1) (Int.emod_nonneg _ (by omega)) (aE2 _ j) (b.put g _ _ _) (fin _ _ _)
 ·row_cond hgo
  exact k _ _ (i+1) (Int.emod_nonneg _ (by omega)) (aE2 _ j) (b.put g _ _ _) (fin _ _ _)
theorem aak (T:Txt K mg):Can P w K mg base "_law_draw" 1 ["deck","many"] (spI K asc):=axq (afe T) fun _ _ _ _ h=>axr h
theorem sc_law_deck:FnScope ["script","pools","k","cell"] ["script"] (aai s_law_deck):=by row_cond sc
theorem amq (T:Txt K mg):Can P w K mg base "_law_deck" 1 ["script"] (spP K asd):=by
 obtain ⟨f,fd,D⟩:=T.d_law_deck
 refine D.can (D.fn.ok sc_law_deck (fun vs H Q E h=>by obtain ⟨a,ns,rfl,G,hn,k⟩:=aoj h;rfl) (fun cdv A outer s H vs Q E hr h=>?_))
 obtain ⟨a,ns,rfl,G,hn,k⟩:=aoj h
 have nd:=sc_law_deck.nd
 refine ⟨_,(aac (aam (i:=1) nd rfl (Or.inl rfl) (aa0 aab))
  (aac (abt aI6 rfl (abj rfl T.b_range (aaa (aaj (aca rfl) (by rfl) T.b_max ab6 (aaa aae (aaa (aaj (acb rfl) (by rfl) T.b_min adj (aaa aae (aaa (aaj abq (by rfl) T.b_len ab5 (aaa (pv 0) aab)) aab))) aab))) aab)) (aan (i:=2) nd rfl (Or.inl rfl))
   (aac (aam (i:=3) nd rfl (Or.inl rfl) aae)
    (aac (abc (aaz akd (pv 2) (aaj abq (by rfl) T.b_len ab5 (aaa (pv 0) aab)) (aa3 _))
     (aah (aam (i:=3) nd rfl (Or.inl rfl) (aaq aar (pv 0) (pv 2) (fun _ _=>rfl))))
     aay)
    (aah (abh (acg PySem.F.plainAttrs_list PySem.F.slot_list_append PySem.F.type_list_append abp (pv 1) (aaa (aa0 (aaa (pv 3) (aaa (adg ao7 (by rfl) T.b_int aq1 (aaa (af5 az5 (pv 3) (av7 (n:=1000000000000000000) (by decide) (by refine ⟨by decide,by decide,by decide⟩)) (aa3 _)) aab)) (aaa (aat afk aae (pv 2)) aab)))) aab)))))))
  (aah (aas (aa0 (aaa (pv 1) (aaa aae aab))))))),?_⟩
 show (_:TS) _ [some (.ref a),none,none,none] H
 row_cond hgo
 refine ⟨by show 0<=sizeLine;decide,fun p C=>?_⟩
 row_cond hgo
 refine anp ((abe C).seq G) ?_
 rw [aA3]
 row_cond hgo
 refine ano (by split <;> split <;> omega) (by split <;> split <;> omega) ?_
 refine ap8 (fun i σ H2=>∃ (u r:Option V) (qs:List Addr),σ=[some (.ref a),some (.ref p),u,r]/\H2 p=some (.lst (qs.map V.ref))/\qs.length=i/\p ∉ qs/\(∀ q∈qs,H q=none/\∃ c f k:Int,H2 q=some (.lst [.int c,.int f,.int k]))/\∀ b,b ≠ p->b ∉ qs->H2 b=H b)
  ⟨_,_,[],rfl,aaf,rfl,by simp,(fun q m=>nomatch m),fun b hb _=>aad hb⟩ ?_ ?_
 ·rintro i σ H2 hi ⟨u,r,qs,rfl,j,v,pq,m,x⟩
  have S:i < 63:=by
   revert hi
   split <;> split <;> omega
  have s2:Same H H2:=fun b o e=>by
   rw [x b (fun z=>by rw [z,C] at e;cases e) (fun z=>by rw [(m b z).1] at e;cases e)];exact e
  have fin:∀ (c f k:Int) (q:Addr) (u r:Option V),H2 q=none->∃ (M N:Option V) (l:List Addr),[some (V.ref a),some (.ref p),u,r]=[some (.ref a),some (.ref p),M,N]/\upd (upd H2 q (.lst [.int c,.int f,.int k])) p (.lst (qs.map V.ref ++ [.ref q])) p=some (.lst (l.map V.ref))/\l.length=i+1/\p ∉ l/\(∀ z∈l,H z=none/\∃ X f' U:Int,upd (upd H2 q (.lst [.int c,.int f,.int k])) p (.lst (qs.map V.ref ++ [.ref q])) z=some (.lst [.int X,.int f',.int U]))/\∀ b,b ≠ p->b ∉ l->upd (upd H2 q (.lst [.int c,.int f,.int k])) p (.lst (qs.map V.ref ++ [.ref q])) b=H b:=fun c f k q u r g=>by
   have I:q ≠ p:=fun e=>by rw [e,j] at g;cases g
   have J:H q=none:=by
    cases e:H q with
    | none=>rfl
    | some o=>rw [s2 q o e] at g;cases g
   refine ⟨u,r,qs ++ [q],rfl,by rw [aaf,aE0];rfl,by simp [v],fun z=>?_,fun z hz=>?_,fun b hb B=>?_⟩
   ·rcases aA7.mp z with z | z
    ·exact pq z
    ·exact I (aC1.mp z).symm
   ·have Y:z ≠ p:=fun e=>by
     subst e
     rcases aA7.mp hz with z | z
     ·exact pq z
     ·exact I (aC1.mp z).symm
    rw [aad Y]
    by_cases zq:z=q
    ·subst zq;exact ⟨J,c,f,k,aaf⟩
    ·rw [aad zq]
     exact m z ((aA7.mp hz).resolve_right fun y=>zq (aC1.mp y))
   ·rw [aad hb,aad (show b ≠ q from fun e=>B (aA7.mpr (.inr (aC1.mpr e))))]
    exact x b hb fun z=>B (aA7.mpr (.inl z))
  row_cond hgo
  refine anp (s2.seq G) ?_
  rw [aA3]
  row_cond hgo
  refine adi (fun Z=>?_) (fun Z=>?_)
  ·have R:i < ns.length:=by omega
   have O:atI (ns.map V.int) (0+(i:Int))=some (.int ns[i]):=acs (by omega) (by rw [aA5,show (0+(i:Int)).toNat=i by omega,aA0 R];rfl)
   row_cond hgo
   refine ate (s2.seq G) O ?_
   row_cond hgo
   refine ⟨by show 3<=sizeLine;decide,fun q g=>?_⟩
   have I:p ≠ q:=fun e=>by rw [← e,j] at g;cases g
   row_cond hgo
   exact fin _ _ _ q _ _ g
  ·row_cond hgo
   refine ⟨by show 3<=sizeLine;decide,fun q g=>?_⟩
   have I:p ≠ q:=fun e=>by rw [← e,j] at g;cases g
   row_cond hgo
   exact fin _ _ _ q _ _ g
 ·rintro σ H2 ⟨u,r,qs,rfl,j,v,pq,m,x⟩
  have s2:Same H H2:=fun b o e=>by
   rw [x b (fun z=>by rw [z,C] at e;cases e) (fun z=>by rw [(m b z).1] at e;cases e)];exact e
  row_cond hgo
  refine ⟨by show 2<=sizeLine;decide,fun d hd=>?_⟩
  have dp:d ≠ p:=fun e=>by rw [e,j] at hd;cases hd
  have dq:d ∉ qs:=fun z=>by obtain ⟨_,c,f,k,e⟩:=m d z;rw [e] at hd;cases hd
  have L:H d=none:=by
   cases e:H d with
   | none=>rfl
   | some o=>rw [s2 d o e] at hd;cases hd
  refine k d p 0 qs _ ⟨aaf,by rw [aad dp.symm];exact j,?_,?_,dp,dq,pq,fun q z=>?_⟩ ?_ ?_
  ·intro e
   rw [e] at v
   revert v
   simp only [aH9]
   split <;> split <;> omega
  ·rw [v]
   split <;> split <;> omega
  ·rw [aad (show q ≠ d from fun e=>dq (e ▸ z))];exact (m q z).2
  ·rintro b (rfl | rfl | z)
   ·exact L
   ·exact C
   ·exact (m b z).1
  ·intro b b1 W b3
   rw [aad b1];exact x b W b3
end
theorem af0 {α β:Type} (f : α->β):∀ (l:List α) (k:Nat),(l.map f).eraseIdx k=(l.eraseIdx k).map f
 | [],_=>rfl
 | _ :: _,0=>rfl
 | a :: l,k+1=>by simp [af0 f l k]
theorem azy {j:Int} {n:Nat} (b:0<=j) (a:j < n):seqIndex? j n=some j.toNat:=by unfold seqIndex?;simp;omega
theorem Dk.frame {H H':Hp} {d p:Addr} {i:Int} {qs:List Addr} (h:Dk H d p i qs) (e:∀ a,a=d\/a=p\/a∈qs->H' a=H a):Dk H' d p i qs :=
 ⟨(e d (.inl rfl)).trans h.dd,(e p (.inr (.inl rfl))).trans h.pp,h.ne,h.le,h.dp,h.dq,h.pq,fun q b=>by rw [e q (.inr (.inr b))];exact h.ql q b⟩
def amr:VIo:=fun A ss Q=>∃ n:Int,A=ODk/\ss=[.st (.int n)]/\0<=n/\n<=61/\∀ row:List Int,Order n row->Q ODk (.own (OL (row.map .int)))
theorem ams {K:Frag} {vs:List V} {H:Hp} {Q:VK} {E:XK} (h:spI K amr vs H Q E):∃ (d p:Addr) (i n:Int) (qs:List Addr),vs=[.ref d,.int n]/\Dk H d p i qs/\0<=n/\n<=61 /\
  ∀ (row:List Int) (l:Addr) (H':Hp) (s:Int),Order n row->Dk H' d p s qs->H l=none->H' l=some (.lst (row.map V.int))->(∀ a o,a ≠ d->a ∉ qs->H a=some o->H' a=some o)->(∀ a xs,H' a=some (.tup xs)->H a=some (.tup xs))->Q (.ref l) H':=by
 obtain ⟨v0,L,G,R,A,ss,F0,Q',rfl,gh,ft,I,ap,fg,fr,B,⟨n,rfl,rfl,x,v,k⟩,u⟩:=h
 obtain ⟨d,p,i,qs,rfl,r,m⟩:=ap
 cases B with
 | cons ha hr =>
  cases hr
  cases (show Rp G _ (.int n) from ha)
  refine ⟨d,p,i,n,qs,rfl,r,x,v,fun row l H' s w j g q D J=>u ODk _ (k row w) _ G H' F0 (fun b=>b=l) ?_⟩
  have out:∀ a o,¬ F0 a->H a=some o->H' a=some o:=fun a o z=>D a o (fun e=>z ((m a).mpr (.inl e))) (fun e=>z ((m a).mpr (.inr (.inr e))))
  have y:G l=none:=by
   cases e:G l with
   | none=>rfl
   | some o=>rw [gh l o e] at g;cases g
  refine ⟨Same.refl _,fun a o e=>?_,fun a F e=>?_,fun a o e => .inl e,fun a o e=>?_,fun a o e=>?_,⟨d,p,s,qs,rfl,j,m⟩,fun a z => .inl z,fg,⟨l,row.map V.int,rfl,q,Rps.ints row,fun b=>Iff.rfl⟩,fun a z=>?_⟩
  ·exact out a o (fun z=>by rw [fg a z] at e;cases e) (gh a o e)
  ·exact ft a F (J a _ e)
  ·exact out a o (fun z=>by rw [fr a z] at e;cases e) (I a o e)
  ·by_cases z:F0 a
   ·rcases (m a).mp z with rfl | rfl | z
    ·exact ⟨_,j.dd⟩
    ·exact ⟨_,j.pp⟩
    ·obtain ⟨c,f,C,e⟩:=j.ql a z
     exact ⟨_,e⟩
   ·exact ⟨o,out a o z e⟩
  ·subst z
   refine ⟨g,y,⟨_,q⟩,fun z=>?_⟩
   rcases (m a).mp z with rfl | rfl | z
   ·rw [r.dd] at g;cases g
   ·rw [r.pp] at g;cases g
   ·obtain ⟨c,f,C,e⟩:=r.ql a z
    rw [e] at g;cases g
section
variable {P:Program} {w:World} {K:Frag} {mg:Str->Option Value} {base:Heap}
theorem sc_law_order:FnScope ["deck","n","left"] ["deck","n"] (aai s_law_order):=by row_cond sc
theorem aff (T:Txt K mg):Can P w K mg base "_law_order" 2 ["deck","n"] (spI K amr):=by
 obtain ⟨f,fd,D⟩:=T.d_law_order
 refine D.can (D.fn.ok sc_law_order (fun vs H Q E h=>by obtain ⟨d,p,i,n,qs,rfl,J,Z,h2,k⟩:=ams h;rfl) (fun cdv A outer s H vs Q E hr h=>?_))
 obtain ⟨d,p,i,n,qs,rfl,J,Z,h2,k⟩:=ams h
 have nd:=sc_law_order.nd
 refine ⟨_,(aac (aam (i:=2) nd rfl (Or.inr rfl) (al2 rfl T.b_list rfl T.b_range rfl (aaa (pv 1) aab)))
  (aah (aas (acy rfl (N:=["k","left","deck"]) (src:=[none,some 2,some 0]) (by exact abw rfl rfl rfl rfl rfl rfl) (abj rfl T.b_range (aaa (pv 1) aab)) (fun _ _ _ _=>(aan (i:=0) (show List.Nodup (["k","left","deck"]:List Str) by decide +kernel) rfl (Or.inl rfl) (hf:=Or.inr rfl))) (fun _ _ _ _=>ab4) (fun _ _ _ _=>(show PE _ _ (tBM K "list" ak1 _ _) from (acg PySem.F.plainAttrs_list PySem.F.slot_list_pop PySem.F.type_list_pop ass (pv 1) (aaa (aag (afe T) hr (aaa (pv 2) (aaa (aaj (show aa2 _ (.builtin "len") (rLen K) from abq) (by rfl) T.b_len ab5 (aaa (pv 1) aab)) aab))) aab)))))))),?_⟩
 show (_:TS) _ [some (.ref d),some (.int n),none] H
 row_cond hgo
 unfold ah2
 row_cond hgo
 refine ⟨n,rfl,Z,by omega,fun m hm=>?_⟩
 row_cond hgo
 refine ano (by omega) (by omega) ?_
 intro g b
 have I:∀ a,a=d\/a=p\/a∈qs->∃ o,H a=some o:=fun a z=>by
  rcases z with rfl | rfl | z
  ·exact ⟨_,J.dd⟩
  ·exact ⟨_,J.pp⟩
  ·obtain ⟨c,f,kk,e⟩:=J.ql a z
   exact ⟨_,e⟩
 have U:∀ a,a=d\/a=p\/a∈qs->a ≠ m:=fun a z e=>by
  obtain ⟨o,O⟩:=I a z
  rw [e,hm] at O;cases O
 have S:g ≠ m:=fun e=>by rw [e,aaf] at b;cases b
 rw [aad S] at b
 have R:∀ a,a=d\/a=p\/a∈qs->a ≠ g:=fun a z e=>by
  obtain ⟨o,O⟩:=I a z
  rw [e,b] at O;cases O
 refine asz (fun j ys σ H2=>∃ (v:Option V) (row left:List Int) (C:Int),σ=[v,some (.ref m),some (.ref d)]/\ys=row.map V.int/\row.length=j/\Order n (row ++ left)/\H2 m=some (.lst (left.map V.int))/\H2 g=some (.lst ys)/\Dk H2 d p C qs/\∀ a,a ≠ d->a ∉ qs->a ≠ m->a ≠ g->H2 a=H a)
  ⟨_,[],(List.range n.toNat).map fun (i:Nat)=>(i:Int),i,rfl,rfl,rfl,?_,?_,aaf,?_,?_⟩ (fun j ys σ H2 h=>by obtain ⟨v,row,left,C,_,_,_,_,_,e,_⟩:=h;exact e) ?_ ?_
 ·exact Order.id n
 ·rw [aad S.symm,aaf,aD8];rfl
 ·exact J.frame fun a z=>by rw [aad (R a z),aad (U a z)]
 ·intro a _ _ a1 W
  rw [aad W,aad a1]
 ·rintro j ys σ H2 hj ⟨v,row,left,C,rfl,rfl,M,G,B,q,l,u⟩
  have L:left.length=n.toNat - j:=by have:=G.len;simp at this;omega
  have md:m ≠ d:=(U d (.inl rfl)).symm
  have mq:m ∉ qs:=fun z=>U m (.inr (.inr z)) rfl
  have ad:g ≠ d:=(R d (.inl rfl)).symm
  have aq:g ∉ qs:=fun z=>R g (.inr (.inr z)) rfl
  row_cond hgo
  refine ⟨d,p,C,_,qs,rfl,l,by rw [aA3];omega,by rw [aA3];omega,fun r H3 i3 r0 r1 X x=>?_⟩
  rw [aA3] at r1
  row_cond hgo
  obtain ⟨y,hy⟩:∃ y,left[r.toNat]?=some y:=⟨_,aA0 (show r.toNat < left.length by omega)⟩
  refine as4 (y:=.int y) ((x m md mq).trans B) (by omega) (by omega) (azy r0 (by rw [aA3];exact r1)) (by rw [aA5,hy];rfl) ?_
  refine ⟨by rw [aad S];exact (x g ad aq).trans q,ad9 (by simp;omega),_,row ++ [y],left.eraseIdx r.toNat,i3,rfl,by simp,by simp [M],apq G hy,?_,aaf,?_,?_⟩
  ·rw [aad S.symm,aaf,af0]
  ·exact X.frame fun a z=>by rw [aad (R a z),aad (U a z)]
  ·intro a b1 Y b3 b4
   rw [aad b4,aad b3,x a b1 Y];exact u a b1 Y b3 b4
 ·rintro ys σ H2 ⟨v,row,left,C,rfl,rfl,M,G,B,q,l,u⟩
  have L:left=[]:=by have:=G.len;simp at this;exact List.length_eq_zero_iff.mp (by omega)
  subst L
  rw [aE5] at G
  row_cond hgo
  refine k row g H2 C G l b q (fun a o a1 W e=>?_) fun a xs e=>?_
  ·rw [u a a1 W (fun z=>by rw [z,hm] at e;cases e) (fun z=>by rw [z,b] at e;cases e)];exact e
  ·rw [← u a (fun z=>?_) (fun z=>?_) (fun z=>?_) (fun z=>?_)]
   ·exact e
   ·rw [z,l.dd] at e;cases e
   ·obtain ⟨c,f,kk,e2⟩:=l.ql a z
    rw [e2] at e;cases e
   ·rw [z,B] at e;cases e
   ·rw [z,q] at e;cases e
end
def ase:VIo:=fun A ss Q=>A=ODk/\ss=[]/\∀ (n:Int) (es:List (Int × Int)),1<=n->n<=60->PsOk n es->es.length<=1900->Q ODk (.st (webD n es))
def mmP (p:Int × Int):Int × Int:=if p.2 < p.1 then (p.2,p.1) else p
theorem azz {p:Int × Int} {x y:Int} (b:apc [p.1,p.2] x) (a:ac0 [p.1,p.2] y):mmP p=(x,y):=by
 have a1:=b.2 p.1 (by simp)
 have h:=b.2 p.2 (by simp)
 have g:=a.2 p.1 (by simp)
 have f:=a.2 p.2 (by simp)
 have d:=b.1
 have c:=a.1
 simp only [aA8,List.not_mem_nil,or_false] at d c
 unfold mmP
 split
 ·exact Prod.ext (by show p.2=x;omega) (by show p.1=y;omega)
 ·exact Prod.ext (by omega) (by omega)
def ixR (row:List Int) (p:Int × Int):Int × Int:=(aa9 row p.1,aa9 row p.2)
theorem a00 {n:Int} {row:List Int} {c:List (Int × Int)} (g:Order n row) (h:PsOk n c):(c.map (ixR row)).map mmP=c.map (reP row):=by
 rw [aD8]
 refine aE4 fun p d=>?_
 have:=h.inn p d
 have f:=g.ne (a:=p.1) (b:=p.2) (by omega) (by omega) (by omega) (by omega) (by omega)
 show mmP (aa9 row p.1,aa9 row p.2)=reP row p
 unfold mmP reP
 by_cases h1:aa9 row p.1 < aa9 row p.2
 ·rw [aE9 (by simp only;omega),aE8 h1]
 ·rw [aE8 (by simp only;omega),aE9 h1]
theorem asf {n:Int} {ps qs:List (Int × Int)} (h:PsOk n ps) (g:PsOk n qs) (d:∀ p∈ps,∀ q∈qs,p ≠ q):PsOk n (ps ++ qs) :=
 ⟨aE3.mpr ⟨h.nd,g.nd,d⟩,fun p a=>by
  rcases aA7.mp a with z | z
  ·exact h.inn p z
  ·exact g.inn p z⟩
theorem asg {l:List Int} (h:∀ x∈l,2<=x):0<=l.sum:=by
 induction l with
 | nil=>simp
 | cons a l ih =>
  have:=h a (by simp)
  have:=ih fun x b=>h x (by simp [b])
  simp;omega
theorem aup {sz:List Int} (h:∀ x∈sz,2<=x) {i:Nat} {x:Int} (b:sz[i]?=some x):(sz.take (i+1)).sum=(sz.take i).sum+x/\(sz.take (i+1)).sum<=sz.sum/\0<=(sz.take i).sum:=by
 refine ⟨by rw [aG7,b];simp,?_,asg fun y a=>h y (aB9 a)⟩
 have:=congrArg List.sum (aC0 (i+1) sz)
 rw [List.sum_append] at this
 have:=asg fun y (a:y∈sz.drop (i+1))=>h y (aC3 a)
 omega
section
variable {P:Program} {w:World} {K:Frag} {mg:Str->Option Value} {base:Heap}
theorem sc_law_crowds:FnScope ["deck","sizes","n","row","ties","at","size","a","b"] ["deck"] (aai s_law_crowds):=by row_cond sc
theorem ai8 (T:Txt K mg):Can P w K mg base "_law_crowds" 3 ["deck"] (spI K (ase)):=by
 obtain ⟨f,fd,D⟩:=T.d_law_crowds
 obtain ⟨X,C⟩:=T.o_Grower
 have G:=C.mgx
 have a7:=T.n_Grower_held _ G
 refine D.can (D.fn.ok sc_law_crowds (fun vs H Q E h=>lenI h fun A ss Q' q=>by obtain ⟨rfl,rfl,k⟩:=q;rfl) (fun cdv A outer s H vs Q E L h=>?_))
 have nd:=sc_law_crowds.nd
 refine ⟨_,(aac (aam (i:=1) nd rfl (Or.inl rfl) (aaq aar (aa0 (aaa (aa0 (aaa (aat abd aae (aag (aak T) L (aaa (pv 0) (aaa aae aab)))) aab)) (aaa (aa0 (aaa (aat abd aae (aag (aak T) L (aaa (pv 0) (aaa aae aab)))) (aaa (aat abd aae (aag (aak T) L (aaa (pv 0) (aaa aae aab)))) aab))) aab))) (aag (aak T) L (aaa (pv 0) (aaa aae aab))) (fun _ _=>rfl)))
  (aac (aam (i:=2) nd rfl (Or.inl rfl) (aat abd (aaj (ajm rfl) (by rfl) T.b_sum aqz (aaa (pv 1) aab)) (aag (aak T) L (aaa (pv 0) (aaa (aat ad1 aae (aaj (ajm rfl) (by rfl) T.b_sum aqz (aaa (pv 1) aab))) aab)))))
  (aac (aam (i:=3) nd rfl (Or.inr rfl) (aag (aff T) L (aaa (pv 0) (aaa (pv 2) aab))))
  (aac (aam (i:=4) nd rfl (Or.inl rfl) (aa0 aab))
  (aac (aam (i:=5) nd rfl (Or.inl rfl) aae)
  (aac (abt aI6 rfl (aby (pv 1)) (aan (i:=6) nd rfl (Or.inl rfl))
   (aac (abt aI6 rfl (ad8 rfl T.b_range (aaa (pv 5) (aaa (aat abd (pv 5) (pv 6)) aab))) (aan (i:=7) nd rfl (Or.inr rfl))
     (aah (abh (acg PySem.F.plainAttrs_list PySem.F.slot_list_extend PySem.F.type_list_extend aql (pv 4) (aaa (acy rfl (N:=["b","row","a"]) (src:=[none,some 3,some 7]) (by exact abw rfl rfl rfl rfl rfl rfl) (ad8 rfl T.b_range (aaa (aat abd (pv 7) aae) (aaa (aat abd (pv 5) (pv 6)) aab))) (fun _ _ _ _=>(aan (i:=0) (show List.Nodup (["b","row","a"]:List Str) by decide +kernel) rfl (Or.inl rfl) (hf:=Or.inr rfl))) (fun _ _ _ _=>ab4) (fun _ _ _ _=>(aa5 (aaa (aaq (show IxR _ (acm K) from aar) (pv 1) (pv 2) (fun _ _=>rfl)) (aaa (aaq (show IxR _ (acm K) from aar) (pv 1) (pv 0) (fun _ _=>rfl)) aab))))) aab)))))
    (aah (aam (i:=5) nd rfl (Or.inl rfl) (aat abd (pv 5) (pv 6))))))
  (aac (abt aI6 rfl (ad8 rfl T.b_range (aaa (pv 5) (aaa (pv 2) aab))) (aan (i:=8) nd rfl (Or.inl rfl))
   (aah (abc (aaz aot (aag (aak T) L (aaa (pv 0) (aaa aae aab))) aae (aa3 _))
     (aah (abh (acg PySem.F.plainAttrs_list PySem.F.slot_list_append PySem.F.type_list_append abp (pv 4) (aaa (aa5 (aaa (aaq aar (pv 3) (aag (aak T) L (aaa (pv 0) (aaa (pv 8) aab))) (fun _ _=>rfl)) (aaa (aaq aar (pv 3) (pv 8) (fun _ _=>rfl)) aab))) aab))))
     aay)))
  (aah (aas (aa5 (aaa (pv 2) (aaa (aaj adq (by rfl) T.b_sorted acv (aaa (acy rfl (N:=["tie"]) (src:=[none]) (by exact abw rfl rfl rfl rfl rfl rfl) (aby (pv 4)) (fun _ _ _ _=>(aan (i:=0) (show List.Nodup (["tie"]:List Str) by decide +kernel) rfl (Or.inl rfl) (hf:=Or.inr rfl))) (fun _ _ _ _=>ab4) (fun _ _ _ _=>(aa5 (aaa (aaj (show aa2 _ (.builtin "min") (akk K) from (aq4 rfl)) (by rfl) T.b_min adj (aaa (pv 0) aab)) (aaa (aaj (show aa2 _ (.builtin "max") (aed K) from (acw rfl)) (by rfl) T.b_max ab6 (aaa (pv 0) aab)) aab))))) aab)) aab)))))))))))),?_⟩
 refine adr h fun A0 ss Q' q B hK=>?_
 obtain ⟨rfl,rfl,k⟩:=q
 show EvS B _ _ [some (.io ODk),none,none,none,none,none,none,none,none]
 row_cond go
 refine ⟨11,rfl,rfl,by omega,by omega,fun r1 c4 c7=>?_⟩
 row_cond go
 refine ⟨15,rfl,rfl,by omega,by omega,fun r2 c0 c1=>?_⟩
 row_cond go
 refine ⟨15,rfl,rfl,by omega,by omega,fun r3 b6 b0=>?_⟩
 row_cond go
 refine ⟨2,rfl,rfl,by omega,by omega,fun r4 b1 b9=>?_⟩
 obtain ⟨sz,J,Y,a9,a8⟩:∃ sz:List Int,atI [PyData.list [.int (12+r1)],.list [.int (2+r2),.int (2+r3)]] r4=some (.list (sz.map .int))/\(∀ x∈sz,2<=x)/\(2<=sz.sum/\sz.sum<=32)/\sz.length<=2:=by
  rcases (show r4=0\/r4=1 by omega) with rfl | rfl
  ·exact ⟨[12+r1],rfl,fun x R=>by simp at R;omega,by simp;omega,by simp⟩
  ·exact ⟨[2+r2,2+r3],rfl,fun x R=>by simp at R;omega,by simp;omega,by simp⟩
 row_cond go
 refine an6 rfl ?_
 row_cond go
 refine an6 rfl ?_
 row_cond go
 refine ⟨61 - sz.sum,rfl,rfl,by omega,by omega,fun r5 b4 b3=>?_⟩
 row_cond go
 refine ⟨sz.sum+r5,rfl,rfl,by omega,by omega,fun row O=>ada acq ?_⟩
 obtain ⟨n,hn,b8,a2⟩:∃ n,n=sz.sum+r5/\sz.sum<=n/\n<=60:=⟨_,rfl,by omega,by omega⟩
 rw [← hn] at O
 rw [← hn]
 have J:∀ j:Int,0<=j->j < n->∃ x,atI (row.map PyData.int) j=some (.int x)/\0<=x/\x < n/\x=aa9 row j:=fun j Z j1=>⟨aa9 row j,acs Z (by rw [aA5,(O.at Z j1).1];rfl),(O.at Z j1).2.1,(O.at Z j1).2.2,rfl⟩
 row_cond go
 refine acu (fun i e=>∃ M I v ps,e=[some (.io ODk),some (.st (.list (sz.map .int))),some (.st (.int n)),some (.st (.list (row.map .int))),some (.own (OL ((ps.map (ixR row)).map prD))),some (.st (.int (sz.take i).sum)),M,I,v]/\PsOk n ps/\(ps.length:Int)<=32 * (sz.take i).sum/\∀ p∈ps,p.2 < (sz.take i).sum) ⟨none,none,none,[],rfl,PsOk.nil n,by simp,fun p l=>by cases l⟩ ?_ ?_
 ·rintro i x e R g
  refine exS4 e g fun M I v ps d=>?_
  have o:=d.1
  have r:=d.2.1
  have m:=d.2.2
  clear d g
  have b2:=Y x (aA2 R)
  obtain ⟨t1,t2,t3⟩:=aup Y R
  rw [t1] at t2
  rw [t1]
  generalize (sz.take i).sum=c at r t2 t3 m
  row_cond go
  refine ack (fun j e=>∃ I v ps,e=[some (.io ODk),some (.st (.list (sz.map .int))),some (.st (.int n)),some (.st (.list (row.map .int))),some (.own (OL ((ps.map (ixR row)).map prD))),some (.st (.int c)),some (.st (.int x)),I,v]/\PsOk n ps/\(ps.length:Int)<=32 * (c+j)/\∀ p∈ps,p.1 < c+(j:Int)/\p.2 < c+x) ⟨_,_,ps,rfl,o,by simpa using r,fun p l=>by have:=m p l;have:=o.inn p l;omega⟩ ?_ ?_
  ·clear o r m ps
   rintro j e hj g
   refine exS3 e g fun I v ps d=>?_
   have o:=d.1
   have r:=d.2.1
   have m:=d.2.2
   clear d g
   have b5:c+(j:Int) < c+x:=by omega
   obtain ⟨xa,ea,b7,c3,a6⟩:=J (c+(j:Int)) (by omega) (by omega)
   row_cond go
   unfold rngD
   refine adb (fun u:Nat=>prD (xa,aa9 row (c+(j:Int)+1+(u:Int)))) rfl (by simp;omega) (fun u S B' hB=>?_) ?_
   ·have U:=aB8.mp S
    have hb:=O.at (a:=c+(j:Int)+1+(u:Int)) (by omega) (by omega)
    have eb:atI (row.map PyData.int) (c+(j:Int)+1+(u:Int))=some (.int (aa9 row (c+(j:Int)+1+(u:Int)))):=acs (by omega) (by rw [aA5,hb.1];rfl)
    row_cond go
    rfl
   ·refine ⟨_,_,rfl,rfl,by simp;omega,?_⟩
    dsimp only [List.set_cons_zero,List.set_cons_succ]
    subst a6
    refine ⟨_,_,ps ++ (List.range (c+x - (c+(j:Int)+1)).toNat).map fun u:Nat=>(c+(j:Int),c+(j:Int)+1+(u:Int)),by simp only [aE0,aD8];rfl,asf o ⟨?_,fun p l=>?_⟩ fun p l q W e=>?_,by simp;omega,fun p l=>?_⟩
    ·exact aF4.mpr (List.nodup_range.imp fun {a b} h e=>h (by have:=congrArg Prod.snd e;simp only at this;omega))
    ·obtain ⟨u,S,rfl⟩:=aB6.mp l
     have U:=aB8.mp S
     exact ⟨by simp only;omega,by simp only;omega,by simp only;omega⟩
    ·obtain ⟨u,S,rfl⟩:=aB6.mp W
     have:=m p l
     rw [e] at this
     simp only at this
     omega
    ·rcases aA7.mp l with z | z
     ·have:=m p z
      omega
     ·obtain ⟨u,S,rfl⟩:=aB6.mp z
      have U:=aB8.mp S
      exact ⟨by simp only;omega,by simp only;omega⟩
  ·clear o r m ps
   rintro e g
   refine exS3 e g fun I v ps d=>?_
   have o:=d.1
   have r:=d.2.1
   have m:=d.2.2
   clear d g
   row_cond go
   exact ⟨_,_,_,ps,rfl,o,by omega,fun p l=>(m p l).2⟩
 ·rintro e g
  refine exS4 e g fun M I v ps d=>?_
  have o:=d.1
  have r:=d.2.1
  have m:=d.2.2
  clear d g
  rw [aG1] at r m ⊢
  row_cond go
  refine ack (fun j e=>∃ M I v ps,e=[some (.io ODk),some (.st (.list (sz.map .int))),some (.st (.int n)),some (.st (.list (row.map .int))),some (.own (OL ((ps.map (ixR row)).map prD))),some (.st (.int sz.sum)),M,I,v]/\PsOk n ps/\(ps.length:Int)<=1024+j/\∀ p∈ps,p.2 < sz.sum+(j:Int)) ⟨_,_,_,ps,rfl,o,by omega,fun p l=>by have:=m p l;omega⟩ ?_ ?_
  ·clear o r m ps
   rintro j e hj g
   refine exS4 e g fun M I v ps d=>?_
   have o:=d.1
   have r:=d.2.1
   have m:=d.2.2
   clear d g
   obtain ⟨xb,eb,c8,c5,a3⟩:=J (sz.sum+(j:Int)) (by omega) (by omega)
   row_cond go
   refine ⟨5,rfl,rfl,by omega,by omega,fun q qa qb=>?_⟩
   row_cond go
   refine adi (fun W=>?_) (fun W=>?_)
   ·row_cond go
    refine ⟨sz.sum+(j:Int),rfl,rfl,by omega,by omega,fun y ya yb=>?_⟩
    obtain ⟨xy,ey,c2,c6,a0⟩:=J y ya (by omega)
    row_cond go
    subst a0 a3
    refine ⟨_,_,_,ps ++ [(y,sz.sum+(j:Int))],by rw [aE0,aE0];rfl,asf o ⟨by simp,fun p l=>by cases aC1.mp l;exact ⟨by simp only;omega,by simp only;omega,by simp only;omega⟩⟩ fun p l q W e=>?_,by simp;omega,fun p l=>?_⟩
    ·cases aC1.mp W
     have:=m p l
     rw [e] at this
     simp only at this
     omega
    ·rcases aA7.mp l with z | z
     ·have:=m p z
      push_cast
      omega
     ·cases aC1.mp z
      simp only
      push_cast
      omega
   ·row_cond go
    exact ⟨_,_,_,ps,rfl,o,by push_cast;omega,fun p l=>by have:=m p l;push_cast;omega⟩
  ·clear o r m ps
   rintro e g
   refine exS4 e g fun M I v ps d=>?_
   have o:=d.1
   have r:=d.2.1
   have m:=d.2.2
   clear d g
   row_cond go
   refine aeh (ps:=ps.map (reP row)) ?_
   row_cond go
   refine adb (xs:=ps.map (ixR row)) (fun p:Int × Int=>prD (mmP p)) rfl (by rw [aA3];omega) (fun p l B' hB=>?_) ?_
   ·row_cond go
    refine atx (ns:=[p.1,p.2]) rfl (by simp) fun m1 a5=>?_
    row_cond go
    refine atw (ns:=[p.1,p.2]) rfl (by simp) fun m2 a4=>?_
    row_cond go
    exact ⟨by rw [azz a5 a4],rfl⟩
   ·row_cond go
    refine ⟨by rw [← a00 O o];simp only [aD8];rfl,fun qs l hs=>acr ?_⟩
    row_cond go
    have hR:=o.re O
    exact k n qs (by omega) a2 ⟨l.nodup_iff.mpr hR.nd,fun p a1=>hR.inn p (l.mem_iff.mp a1)⟩ (by rw [l.length_eq,aA3];omega)
end
section
variable {P:Program} {w:World} {K:Frag} {mg:Str->Option Value} {base:Heap}
theorem sc_law_web:FnScope ["deck","n","row","kind","ties","k","heads","head","a","b"] ["deck"] (aai s_law_web):=by row_cond sc
theorem anc (T:Txt K mg):Can P w K mg base "_law_web" 4 ["deck"] (spI K (ase)):=by
 obtain ⟨f,fd,D⟩:=T.d_law_web
 obtain ⟨S,z⟩:=T.o_Grower
 have C:=z.mgx
 have b7:=T.n_Grower_held _ C
 refine D.can (D.fn.ok sc_law_web (fun vs H Q E h=>lenI h fun A ss Q' q=>by obtain ⟨rfl,rfl,k⟩:=q;rfl) (fun cdv A outer s H vs Q E c h=>?_))
 have nd:=sc_law_web.nd
 refine ⟨_,(aac (abc (aaz af4 (aag (aak T) c (aaa (pv 0) (aaa aae aab))) aae (aa3 _))
   (aah (aas (aag (ai8 T) c (aaa (pv 0) aab))))
   aay)
  (aac (aam (i:=1) nd rfl (Or.inl rfl) (aat abd aae (aag (aak T) c (aaa (pv 0) (aaa (aaq aar (aa0 (aaa aae (aaa aae (aaa aae (aaa aae aab))))) (aag (aak T) c (aaa (pv 0) (aaa aae aab))) (fun _ _=>rfl)) aab)))))
  (aac (aam (i:=2) nd rfl (Or.inl rfl) (aaq aar (aa0 (aaa (al2 rfl T.b_list rfl T.b_range rfl (aaa (pv 1) aab)) (aaa (aag (aff T) c (aaa (pv 0) (aaa (pv 1) aab))) aab))) (aag (aak T) c (aaa (pv 0) (aaa aae aab))) (fun _ _=>rfl)))
  (aac (aam (i:=3) nd rfl (Or.inl rfl) (aag (aak T) c (aaa (pv 0) (aaa aae aab))))
  (aac (aam (i:=4) nd rfl (Or.inl rfl) ak4)
  (aac (abt aI6 rfl (ad8 rfl T.b_range (aaa aae (aaa (pv 1) aab))) (aan (i:=5) nd rfl (Or.inl rfl))
   (aac (aam (i:=6) nd rfl (Or.inl rfl) (aa0 (aaa (aat ad1 (pv 5) aae) (aaa (aag (aak T) c (aaa (pv 0) (aaa (pv 5) aab))) (aaa (aaj (aca rfl) (by rfl) T.b_max ab6 (aaa aae (aaa (aat ad1 (aat ad1 (pv 5) aae) (aag (aak T) c (aaa (pv 0) (aaa aae aab)))) aab))) (aaa aae (aaa (aat aie (pv 5) aae) aab)))))))
    (aac (aam (i:=7) nd rfl (Or.inl rfl) (aaq aar (aat ahd (pv 6) (aa0 (aaa (aag (aak T) c (aaa (pv 0) (aaa (aaj (acb rfl) (by rfl) T.b_min adj (aaa (pv 5) (aaa aae aab))) aab))) aab))) (pv 3) (fun _ _=>rfl)))
    (aah (aga (adp c) (pv 4) (aa5 (aaa (aaj (acb rfl) (by rfl) T.b_min adj (aaa (aaq aar (pv 2) (pv 5) (fun _ _=>rfl)) (aaa (aaq aar (pv 2) (pv 7) (fun _ _=>rfl)) aab))) (aaa (aaj (aca rfl) (by rfl) T.b_max ab6 (aaa (aaq aar (pv 2) (pv 5) (fun _ _=>rfl)) (aaa (aaq aar (pv 2) (pv 7) (fun _ _=>rfl)) aab))) aab))) adc rfl)))))
  (aac (abc (PW.pt (ag9 (aaz af4 (aag (aak T) c (aaa (pv 0) (aaa aae aab))) aae (aa3 _)) (af2 (aaz aot (pv 1) aae (aa3 _)))))
   (aah (aga (adp c) (pv 4) (aa5 (aaa (aaj (acb rfl) (by rfl) T.b_min adj (aaa (aaq aar (pv 2) aae (fun _ _=>rfl)) (aaa (aaq aar (pv 2) (aux ap9 aae) (fun _ _=>rfl)) aab))) (aaa (aaj (aca rfl) (by rfl) T.b_max ab6 (aaa (aaq aar (pv 2) aae (fun _ _=>rfl)) (aaa (aaq aar (pv 2) (aux ap9 aae) (fun _ _=>rfl)) aab))) aab))) adc rfl))
   aay)
  (aac (abt aI6 rfl (abj rfl T.b_range (aaa (aaq aar (aa0 (aaa aae (aaa (aag (aak T) c (aaa (pv 0) (aaa aae aab))) (aaa (aag (aak T) c (aaa (pv 0) (aaa (aat abd (pv 1) aae) aab))) (aaa (aag (aak T) c (aaa (pv 0) (aaa (aat afk aae (pv 1)) aab))) aab))))) (aag (aak T) c (aaa (pv 0) (aaa aae aab))) (fun _ _=>rfl)) aab)) (aan (i:=5) nd rfl (Or.inl rfl))
   (aac (aam (i:=8) nd rfl (Or.inl rfl) (aag (aak T) c (aaa (pv 0) (aaa (pv 1) aab))))
    (aac (aam (i:=9) nd rfl (Or.inl rfl) (aag (aak T) c (aaa (pv 0) (aaa (pv 1) aab))))
    (aah (abc (aaz aos (pv 8) (pv 9) (aa3 _))
     (aah (aga (adp c) (pv 4) (aa5 (aaa (aaj (acb rfl) (by rfl) T.b_min adj (aaa (pv 8) (aaa (pv 9) aab))) (aaa (aaj (aca rfl) (by rfl) T.b_max ab6 (aaa (pv 8) (aaa (pv 9) aab))) aab))) adc rfl))
     aay)))))
  (aac (abt aI6 rfl (abj rfl T.b_range (aaa (aaq aar (aa0 (aaa aae (aaa aae (aaa (aag (aak T) c (aaa (pv 0) (aaa aae aab))) (aaa (aag (aak T) c (aaa (pv 0) (aaa (aat abd (pv 1) aae) aab))) aab))))) (aag (aak T) c (aaa (pv 0) (aaa aae aab))) (fun _ _=>rfl)) aab)) (aan (i:=5) nd rfl (Or.inl rfl))
   (aah (abc (aaz (azq c.units) (pv 4) ak4 (aa3 _))
     (aah (abh (aud (adp c) (pv 4) (aaq aar (aaj (agt rfl) (by rfl) T.b_sorted acv (aaa (pv 4) aab)) (aag (aak T) c (aaa (pv 0) (aaa (aaj arw (by rfl) T.b_len ab5 (aaa (pv 4) aab)) aab))) (fun _ _=>rfl)) ⟨rfl,rfl,rfl,rfl⟩)))
     aay)))
  (aah (aas (aa5 (aaa (pv 1) (aaa (aaj (agt rfl) (by rfl) T.b_sorted acv (aaa (pv 4) aab)) aab)))))))))))))),?_⟩
 refine adr h fun A0 ss Q' q B hK=>?_
 obtain ⟨rfl,rfl,k⟩:=q
 show EvS B _ _ [some (.io ODk),none,none,none,none,none,none,none,none,none]
 row_cond go
 refine ⟨8,rfl,rfl,by omega,by omega,fun r0 e1 c1=>?_⟩
 row_cond go
 refine adi (fun b5=>?_) (fun b5=>?_)
 ·row_cond go
  exact ⟨rfl,rfl,fun n es n0 n1 d y=>⟨ODk,rfl,k n es n0 n1 d y⟩⟩
 ·row_cond go
  refine ⟨4,rfl,rfl,by omega,by omega,fun O f7 g3=>?_⟩
  obtain ⟨R,g0,e4,g4⟩:∃ R:Int,atI [PyData.int 4,PyData.int 12,PyData.int 12,PyData.int 60] O=some (.int R)/\4<=R/\R<=60:=by
   rcases (show O=0\/O=1\/O=2\/O=3 by omega) with rfl | rfl | rfl | rfl
   ·exact ⟨4,rfl,by omega,by omega⟩
   ·exact ⟨12,rfl,by omega,by omega⟩
   ·exact ⟨12,rfl,by omega,by omega⟩
   ·exact ⟨60,rfl,by omega,by omega⟩
  row_cond go
  refine ⟨R,rfl,rfl,by omega,by omega,fun r2 e9 f2=>?_⟩
  row_cond go
  obtain ⟨n,hn,n0,n1⟩:∃ n,1+r2=n/\1<=n/\n<=60:=⟨_,rfl,by omega,by omega⟩
  rw [hn]
  row_cond go
  refine ⟨n,rfl,rfl,by omega,by omega,fun G a9=>acr ?_⟩
  row_cond go
  refine ⟨2,rfl,rfl,by omega,by omega,fun Y d7 c2=>?_⟩
  obtain ⟨row,b9,L⟩:∃ row:List Int,atI [PyData.list (rngD 0 n.toNat),PyData.list (G.map .int)] Y=some (.list (row.map .int))/\Order n row:=by
   rcases (show Y=0\/Y=1 by omega) with rfl | rfl
   ·exact ⟨(List.range n.toNat).map fun (i:Nat)=>(i:Int),by show some _=some _;rw [axb],Order.id n⟩
   ·exact ⟨G,rfl,a9⟩
  have F:∀ j:Int,0<=j->j < n->∃ x,atI (row.map PyData.int) j=some (.int x)/\0<=x/\x < n/\x=aa9 row j:=fun j U j1=>⟨aa9 row j,acs U (by rw [aA5,(L.at U j1).1];rfl),(L.at U j1).2.1,(L.at U j1).2.2,rfl⟩
  row_cond go
  refine ⟨6,rfl,rfl,by omega,by omega,fun kind ka kb=>?_⟩
  row_cond go
  rw [azn]
  refine ack (fun i e=>∃ g u v o l ps,e=[some (.io ODk),some (.st (.int n)),some (.st (.list (row.map .int))),some (.st (.int kind)),some (.own (OT (kE ps))),g,u,v,o,l]/\PsOk n ps/\ps.length<=i) ⟨_,_,_,_,_,[],rfl,PsOk.nil n,aA6 _⟩ ?_ ?_
  ·rintro i e hi b
   refine exS6 e b fun g u v o l ps a=>?_
   have d:=a.1
   have y:=a.2
   clear a b
   have W:1+(i:Int) < n:=by omega
   obtain ⟨xk,ek,e8,f3,b6⟩:=F (1+(i:Int)) (by omega) W
   have J:(kE ps).length<=999999:=by rw [aeg];omega
   row_cond go
   refine ⟨1+(i:Int),rfl,rfl,by omega,by omega,fun d1 f8 g8=>?_⟩
   row_cond go
   refine ⟨3,rfl,rfl,by omega,by omega,fun d2 d8 e7=>?_⟩
   iterate 16 row_cond st
   refine ada acq ?_
   row_cond go
   refine ⟨_,rfl,rfl,by split <;> omega,by split <;> omega,fun d3 h0 Z=>?_⟩
   have c6:d3 < 1+(i:Int):=by split at Z <;> omega
   obtain ⟨hd,h4,a5,g6⟩:∃ hd:Int,atI ([PyData.int (1+(i:Int) - 1),PyData.int d1,PyData.int (if 1+(i:Int) - 1 - d2 > 0 then 1+(i:Int) - 1 - d2 else 0),PyData.int 0,PyData.int ((1+(i:Int)) / 2)] ++ [PyData.int d3]) kind=some (.int hd)/\0<=hd/\hd < 1+(i:Int):=by
    rcases (show kind=0\/kind=1\/kind=2\/kind=3\/kind=4\/kind=5 by omega) with rfl | rfl | rfl | rfl | rfl | rfl
    ·exact ⟨_,rfl,by omega,by omega⟩
    ·exact ⟨_,rfl,by omega,by omega⟩
    ·exact ⟨_,rfl,by split <;> omega,by split <;> omega⟩
    ·exact ⟨_,rfl,by omega,by omega⟩
    ·exact ⟨_,rfl,by omega,by omega⟩
    ·exact ⟨_,rfl,by omega,by omega⟩
   obtain ⟨xh,eh,c0,e2,b0⟩:=F hd a5 (by omega)
   have a8:xk ≠ xh:=by rw [b6,b0];exact L.ne (by omega) (by omega) (by omega) (by omega) (by omega)
   row_cond go
   rw [al4]
   exact ⟨_,_,_,_,_,_,rfl,d.add (by split <;> omega) (by split <;> split <;> omega) (by split <;> omega),aC9 ag5 (by omega)⟩
  ·rintro e b
   refine exS6 e b fun g u v o l ps a=>?_
   have d:=a.1
   have y:=a.2
   clear a b
   have J:(kE ps).length<=999999:=by rw [aeg];omega
   obtain ⟨x0,e0,g5,d9,a0⟩:=F 0 (by omega) (by omega)
   obtain ⟨xl,el,c9,g2,a7⟩:∃ x,atI (row.map PyData.int) (-1)=some (.int x)/\0<=x/\x < n/\x=aa9 row (n - 1):=by
    obtain ⟨x,ex,x0,x1,b4⟩:=F (n - 1) (by omega) (by omega)
    refine ⟨x,?_,x0,x1,b4⟩
    have hl:(row.map PyData.int).length=n.toNat:=by rw [aA3];exact L.len
    have h2:ixN n.toNat (-1)=some (n.toNat - 1):=by unfold ixN;rw [aE9 (by omega),aE8 (by omega)];congr 1;omega
    have h3:ixN n.toNat (n - 1)=some (n.toNat - 1):=by unfold ixN;rw [aE8 (by omega),aE8 (by omega)];congr 1;omega
    unfold atI at ex ⊢
    rw [hl,h3] at ex
    rw [hl,h2]
    exact ex
   refine' ai0 (by assumption) ?_
   refine alw (fun c_ e3=>?_)
   refine aub (fun e=>∃ ps,e=[some (.io ODk),some (.st (.int n)),some (.st (.list (row.map .int))),some (.st (.int kind)),some (.own (OT (kE ps))),g,u,v,o,l]/\PsOk n ps/\ps.length<=61) ?_ ?_
   ·row_cond go
    refine ⟨4,rfl,rfl,by omega,by omega,fun q qa qb=>?_⟩
    row_cond go
    refine adi (fun h=>?_) (fun h=>?_)
    ·row_cond go
     refine adi (fun h=>?_) (fun h=>?_)
     ·row_cond go
      rw [al4]
      have a8:x0 ≠ xl:=by rw [a0,a7];exact L.ne (by omega) (by omega) (by omega) (by omega) (by omega)
      exact ⟨_,rfl,d.add (by split <;> omega) (by split <;> split <;> omega) (by split <;> omega),aC9 ag5 (by omega)⟩
     ·row_cond go
      exact ⟨ps,rfl,d,by omega⟩
    ·row_cond go
     exact ⟨ps,rfl,d,by omega⟩
   ·clear d y J ps
    rintro e b
    refine exS1 e b fun ps a=>?_
    have d:=a.1
    have y:=a.2
    clear a b
    row_cond go
    refine ⟨4,rfl,rfl,by omega,by omega,fun a1 d0 d6=>?_⟩
    row_cond go
    refine ⟨n+1,rfl,rfl,by omega,by omega,fun a2 c3 h1=>?_⟩
    row_cond go
    refine ⟨4 * n,rfl,rfl,by omega,by omega,fun a3 f1 g7=>?_⟩
    row_cond go
    refine ⟨4,rfl,rfl,by omega,by omega,fun M f0 g9=>?_⟩
    obtain ⟨m,em,m0,m1⟩:∃ m:Int,atI [PyData.int 0,PyData.int a1,PyData.int a2,PyData.int a3] M=some (.int m)/\0<=m/\m<=240:=by
     rcases (show M=0\/M=1\/M=2\/M=3 by omega) with rfl | rfl | rfl | rfl <;> exact ⟨_,rfl,by omega,by omega⟩
    row_cond go
    refine ack (fun i e=>∃ g u v o l ps,e=[some (.io ODk),some (.st (.int n)),some (.st (.list (row.map .int))),some (.st (.int kind)),some (.own (OT (kE ps))),g,u,v,o,l]/\PsOk n ps/\ps.length<=61+i) ⟨_,_,_,_,_,ps,rfl,d,y⟩ ?_ ?_
    ·rintro i e hi b
     refine exS6 e b fun g u v o l ps a=>?_
     have d:=a.1
     have y:=a.2
     clear a b
     have J:(kE ps).length<=999999:=by rw [aeg];omega
     row_cond go
     refine ⟨n,rfl,rfl,by omega,by omega,fun ba c4 c8=>?_⟩
     row_cond go
     refine ⟨n,rfl,rfl,by omega,by omega,fun bb f4 d5=>?_⟩
     row_cond go
     refine av0 (fun h=>?_) (fun h=>?_)
     ·row_cond go
      rw [al4]
      exact ⟨_,_,_,_,_,_,rfl,d.add (by split <;> omega) (by split <;> split <;> omega) (by split <;> omega),aC9 ag5 (by omega)⟩
     ·row_cond go
      exact ⟨_,_,_,_,_,ps,rfl,d,by omega⟩
    ·rintro e b
     refine exS6 e b fun g u v o l ps a=>?_
     have d:=a.1
     have y:=a.2
     clear a b
     row_cond go
     refine ⟨6,rfl,rfl,by omega,by omega,fun b1 f9 e5=>?_⟩
     row_cond go
     refine ⟨n+1,rfl,rfl,by omega,by omega,fun b2 c7 f6=>?_⟩
     row_cond go
     refine ⟨4,rfl,rfl,by omega,by omega,fun N g1 c5=>?_⟩
     obtain ⟨m',d4,f5,e6⟩:∃ m:Int,atI [PyData.int 0,PyData.int 1,PyData.int b1,PyData.int b2] N=some (.int m)/\0<=m/\m<=61:=by
      rcases (show N=0\/N=1\/N=2\/N=3 by omega) with rfl | rfl | rfl | rfl <;> exact ⟨_,rfl,by omega,by omega⟩
     row_cond go
     have X:ps.length<=301:=by omega
     refine ack (fun i e=>∃ g u v o l ps,e=[some (.io ODk),some (.st (.int n)),some (.st (.list (row.map .int))),some (.st (.int kind)),some (.own (OT (kE ps))),g,u,v,o,l]/\PsOk n ps/\ps.length<=301) ⟨_,_,_,_,_,ps,rfl,d,X⟩ ?_ ?_
     ·rintro i e hi b
      refine exS6 e b fun g u v o l ps a=>?_
      have d:=a.1
      have y:=a.2
      clear a b
      iterate 3 row_cond st
      refine azr (.inl rfl) ?_
      row_cond go
      cases hps:ps with
      | nil =>
       refine acp ?_
       row_cond go
       exact ⟨_,_,_,_,_,[],rfl,PsOk.nil n,by simp⟩
      | cons p0 pr =>
       have b8:0 < ps.length:=by rw [hps];simp
       rw [← hps]
       rw [aE8 (show (!(kE ps).isEmpty)=true by rw [hps];rfl)]
       refine alv (aba ?_)
       refine aue (.inl rfl) ?_
       refine au4 ?_
       refine abk (ah4 (.inl rfl) fun qs I hs=>acr ?_)
       refine ajr rfl ?_
       refine ag0 (axd (.inl rfl) ?_)
       row_cond go
       rw [aeg]
       refine ⟨_,rfl,rfl,by omega,by omega,fun r ra rb=>?_⟩
       obtain ⟨q,hq⟩:∃ q,qs[r.toNat]?=some q:=⟨_,aA0 (show r.toNat < qs.length by rw [I.length_eq];omega)⟩
       have eq:atI (qs.map prD) r=some (prD q):=acs ra (by rw [aA5,hq];rfl)
       obtain ⟨j,hj⟩:=List.getElem?_of_mem (I.mem_iff.mp (aA2 hq))
       row_cond go
       refine ⟨kE ps,[Sum.inl q.1,Sum.inl q.2],j,.bool true,rfl,rfl,by unfold kE;rw [aA5,hj];rfl,?_⟩
       dsimp only [List.set_cons_zero,List.set_cons_succ]
       row_cond go
       exact ⟨_,_,_,_,_,ps.eraseIdx j,by rw [show (kE ps).eraseIdx j=kE (ps.eraseIdx j) from af0 _ _ _],⟨d.nd.sublist (List.eraseIdx_sublist ps j),fun p I=>d.inn p ((List.eraseIdx_sublist ps j).mem I)⟩,aC9 (List.length_eraseIdx_le ps j) y⟩
     ·rintro e b
      refine exS6 e b fun g u v o l ps a=>?_
      have d:=a.1
      have y:=a.2
      clear a b
      iterate 6 row_cond st
      refine abk (ah4 (.inl rfl) fun qs I hs=>acr ?_)
      row_cond go
      exact k n qs n0 n1 ⟨I.nodup_iff.mpr d.nd,fun p a6=>d.inn p (I.mem_iff.mp a6)⟩ (by rw [I.length_eq];omega)
end
structure FarD (n:Int) (f:Int->Option Nat) (es:List (Key × PyData)):Prop where
 mem:∀ k d,(k,d)∈es->∃ (v:Int) (j:Nat),k=.inl v/\d=.int (j:Int)/\0<=v/\v < n/\f v=some j
 all:∀ (v:Int) (j:Nat),f v=some j->((.inl v:Key),PyData.int (j:Int))∈es
 nd:(es.map (·.1)).Nodup
 len:es.length+cnt f n.toNat=n.toNat
theorem FarD.val {n:Int} {f:Int->Option Nat} {es:List (Key × PyData)} (h:FarD n f es) (v:Int):valD es (.inl v)=(f v).map fun j => .int (j:Int):=by
 unfold valD
 cases e:es.find? fun e=>decide (e.1=(.inl v:Key)) with
 | none =>
  rw [List.find?_eq_none] at e
  cases hf:f v with
  | none=>rfl
  | some j=>exact absurd (aD6 rfl) (e _ (h.all v j hf))
 | some p =>
  obtain ⟨k,d⟩:=p
  have c:k=.inl v:=by simpa using List.find?_some e
  obtain ⟨u,j,a,b,_,_,g⟩:=h.mem k d (List.mem_of_find?_eq_some e)
  rw [c] at a
  cases a
  rw [g,b]
  rfl
theorem auq (n:Nat):cnt (fun _=>none) n=n:=by
 induction n with
 | zero=>rfl
 | succ n ih=>unfold cnt;rw [ih,aE8 rfl]
theorem FarD.start {n a:Int} (a0:0<=a) (a1:a < n):FarD n (Gr.label (fun _=>none) a 0) [(.inl a,.int 0)]:=by
 refine ⟨fun k d hm=>?_,fun v j b=>?_,by simp,?_⟩
 ·have:(k,d)=((.inl a:Key),PyData.int 0):=by simpa using hm
  cases this
  exact ⟨a,0,rfl,rfl,a0,a1,Gr.label_same⟩
 ·by_cases e:v=a
  ·subst e
   rw [Gr.label_same] at b
   cases b
   exact aC1.mpr rfl
  ·rw [Gr.label_ne e] at b
   cases b
 ·have c:=adl (far:=fun _=>none) (d:=0) a0 rfl (n:=n.toNat) (by omega)
  have f:=auq n.toNat
  simp only [aE1,aH9]
  omega
theorem FarD.put {n v:Int} {f:Int->Option Nat} {es:List (Key × PyData)} {j:Nat} (h:FarD n f es) (v0:0<=v) (s:v < n) (q:f v=none):FarD n (Gr.label f v j) (putD es (.inl v) (.int (j:Int))):=by
 have a:∀ p∈es,p.1 ≠ (.inl v:Key):=fun p c e=>by
  obtain ⟨u,i,b,_,_,_,l⟩:=h.mem p.1 p.2 c
  rw [e] at b
  cases b
  rw [q] at l
  cases l
 have g:putD es (.inl v) (.int (j:Int))=es ++ [(.inl v,.int (j:Int))]:=by
  unfold putD
  rw [aE9]
  rw [List.any_eq_true]
  rintro ⟨p,c,e⟩
  exact a p c (by simpa using e)
 rw [g]
 refine ⟨fun k d hm=>?_,fun u i m=>?_,?_,?_⟩
 ·rcases aA7.mp hm with hm | hm
  ·obtain ⟨u,i,b,r,l,A,w⟩:=h.mem k d hm
   have o:u ≠ v:=fun e=>a (k,d) hm (by rw [← e];exact b)
   exact ⟨u,i,b,r,l,A,by rw [Gr.label_ne o];exact w⟩
  ·have:(k,d)=((.inl v:Key),PyData.int (j:Int)):=by simpa using hm
   cases this
   exact ⟨v,j,rfl,rfl,v0,s,Gr.label_same⟩
 ·by_cases e:u=v
  ·subst e
   rw [Gr.label_same] at m
   cases m
   exact aB2 _ (aC1.mpr rfl)
  ·rw [Gr.label_ne e] at m
   exact aC6 _ (h.all u i m)
 ·rw [aE0,aE3]
  refine ⟨h.nd,by simp,fun x z y B=>?_⟩
  obtain ⟨p,c,rfl⟩:=aB6.mp z
  have:y=.inl v:=by simpa using B
  rw [this]
  exact a p c
 ·have b:=adl (d:=j) v0 q (n:=n.toNat) (by omega)
  have r:=h.len
  rw [aB0]
  simp only [aE1,aH9]
  omega
theorem FarD.ne {n:Int} {f:Int->Option Nat} {es:List (Key × PyData)} (h:FarD n f es) {v:Int} {j:Nat} (a:f v=some j):es ≠ []:=fun e=>by
 have:=h.all v j a
 rw [e] at this
 cases this
theorem FarD.congr {n:Int} {f g:Int->Option Nat} {es:List (Key × PyData)} (h:FarD n f es) (e:∀ v,f v=g v):FarD n g es:=by
 have:f=g:=funext e
 rw [← this]
 exact h
theorem avb:∀ (ns:List Int),aap (.list (ns.map .int))=true
 | []=>rfl
 | a :: ns=>by have:=avb ns;simp only [aap,aD0,plainDs] at *;simp [this]
theorem az0 (ns:List Int):(PyData.list (ns.map .int)).depth<=60:=by
 have:PyData.depthAll (ns.map .int)<=1:=aen fun d hd=>by
  obtain ⟨_,_,rfl⟩:=aB6.mp hd
  simp [PyData.depth]
 simp only [PyData.depth]
 omega
theorem axs (ns:List Int):PyData.eqv (.list (ns.map .int)) (.list [])=ns.isEmpty:=by cases ns <;> rfl
structure FarsD (n:Int) (es:List (Int × Int)) (ess:List (List (Key × PyData))):Prop where
 len:(ess.length:Int)=n
 row:∀ (v:Int) fs,0<=v->ess[v.toNat]?=some fs->FarD n (Gr.farO (Tied es) v) fs
def axt:VP:=fun ss Q=>∃ (n:Int) (es:List (Int × Int)),ss=[.st (webD n es)]/\0<=n/\n<=100/\InN n es/\es.length<=10000/\∀ tl,TiedL n (Tied es) tl->Q (.own (ODL (tlD tl)))
def axu:VP:=fun ss Q=>∃ (n:Int) (es:List (Int × Int)),ss=[.st (webD n es)]/\1<=n/\n<=100/\InN n es/\es.length<=10000/\∀ ess,FarsD n es ess->Q (.own (OL (ess.map abu)))
section
variable {P:Program} {w:World} {K:Frag} {mg:Str->Option Value} {base:Heap}
theorem sc_law_tied:FnScope ["web","found","a","b"] ["web"] (aai s_law_tied):=by row_cond sc
theorem amt (T:Txt K mg):Can P w K mg base "_law_tied" 1 ["web"] (spP K (axt)):=by
 obtain ⟨f,fd,D⟩:=T.d_law_tied
 obtain ⟨x,l⟩:=T.o_Grower
 have m:=l.mgx
 have C:=T.n_Grower_held _ m
 refine D.can (D.fn.ok sc_law_tied (fun vs H Q E h=>lenP h fun ss Q' q=>by obtain ⟨n,es,rfl,R,U,y,I,k⟩:=q;rfl) (fun cdv A outer s H vs Q E O h=>?_))
 have nd:=sc_law_tied.nd
 refine ⟨_,(aac (aam (i:=1) nd rfl (Or.inl rfl) (adg (apt rfl) (by rfl) T.b_dict av1 (aaa (acy rfl (N:=["place"]) (src:=[none]) (by exact abw rfl rfl rfl rfl rfl rfl) (abj rfl T.b_range (aaa (aaq aar (pv 0) aae (fun _ _=>rfl)) aab)) (fun _ _ _ _=>(aan (i:=0) (show List.Nodup (["place"]:List Str) by decide +kernel) rfl (Or.inl rfl) (hf:=Or.inr rfl))) (fun _ _ _ _=>ab4) (fun _ _ _ _=>(aa5 (aaa (pv 0) (aaa (aa0 aab) aab))))) aab)))
  (aac (abt aI6 rfl (aby (aaq aar (pv 0) aae (fun _ _=>rfl))) (acx rfl (aa8 (aan (i:=2) nd rfl (Or.inl rfl)) (aa8 (aan (i:=3) nd rfl (Or.inl rfl)) acl)))
   (aac (abh (acg PySem.F.plainAttrs_list PySem.F.slot_list_append PySem.F.type_list_append abp (aii (adp O) (pv 1) (pv 2) (fun _ _=>rfl)) (aaa (pv 3) aab)))
    (aah (abh (acg PySem.F.plainAttrs_list PySem.F.slot_list_append PySem.F.type_list_append abp (aii (adp O) (pv 1) (pv 3) (fun _ _=>rfl)) (aaa (pv 2) aab))))))
  (aah (aas (pv 1))))),?_⟩
 refine abg h fun ss Q' q B X=>?_
 refine exS2 ss q fun n es c=>?_
 have R:=c.1
 have U:=c.2.1
 have y:=c.2.2.1
 have I:=c.2.2.2.1
 have k:=c.2.2.2.2
 clear c q
 show EvS B _ _ [some (.st (webD n es)),none,none,none]
 row_cond go
 refine ar4 ?_
 row_cond go
 refine ⟨n.toNat,rfl,by omega,?_⟩
 row_cond go
 refine acu (fun i e=>∃ z L tl,e=[some (.st (webD n es)),some (.own (ODL (tlD tl))),z,L]/\TiedL n (Tied (es.take i)) tl/\∀ g∈tl,g.length<=2 * i)
  ⟨none,none,List.replicate n.toNat [],by simp [tlD],⟨by simp;omega,fun i g hi w=>?_⟩,fun g W=>?_⟩ ?_ ?_
 ·rw [aH0] at hi
  split at hi
  ·cases hi;simp [Tied]
  ·cases hi
 ·have:=List.eq_of_mem_replicate W
  subst this;simp
 ·rintro i ⟨a,b⟩ e G p
  refine exS3 e p fun z L tl c=>?_
  have r:=c.1
  have o:=c.2
  clear c p
  have hi:i < es.length:=(aA1.mp G).1
  obtain ⟨a0,a1,b0,b1⟩:=y _ (aA2 G)
  dsimp only at a0 a1 b0 b1
  row_cond go
  obtain ⟨g,d,_⟩:=r.get a0 a1
  have S:=o g (aA2 d)
  refine ah9 (n:=a.toNat) (ds:=g.map .int) rfl rfl rfl (by omega) (adx d) (by rw [aA3];omega) ?_
  dsimp only [List.set_cons_zero,List.set_cons_succ]
  have M:=r.put (q:=b) a0 a1 d
  rw [show g.map PyData.int ++ [.int b]=(g ++ [b]).map .int by simp,agj]
  have j:∀ us∈tl.set a.toNat (g ++ [b]),us.length<=2 * i+1:=fun us J=>by
   rcases List.mem_or_eq_of_mem_set J with h | h
   ·have:=o us h;omega
   ·subst h;simp;omega
  generalize tl.set a.toNat (g ++ [b])=tl2 at M j
  row_cond go
  obtain ⟨g,d,_⟩:=M.get b0 b1
  have S:=j g (aA2 d)
  refine ah9 (n:=b.toNat) (ds:=g.map .int) rfl rfl rfl (by omega) (adx d) (by rw [aA3];omega) ?_
  dsimp only [List.set_cons_zero,List.set_cons_succ]
  rw [show g.map PyData.int ++ [.int a]=(g ++ [a]).map .int by simp,agj]
  refine ⟨_,_,_,rfl,(M.put (q:=a) b0 b1 d).iff fun u v=>(Tied.snoc G u v).symm,fun us J=>?_⟩
  rcases List.mem_or_eq_of_mem_set J with h | h
  ·have:=j us h;omega
  ·subst h;simp;omega
 ·rintro e p
  refine exS3 e p fun z L tl c=>?_
  have r:=c.1
  have o:=c.2
  clear c p
  rw [aG1] at r
  row_cond go
  exact k tl r
theorem sc_law_fars:FnScope ["web","tied","table","place","found","ring","far","later","one","other"] ["web"] (aai s_law_fars):=by row_cond sc
theorem amu (T:Txt K mg):Can P w K mg base "_law_fars" 2 ["web"] (spP K (axu)):=by
 obtain ⟨f,fd,D⟩:=T.d_law_fars
 obtain ⟨a3,I⟩:=T.o_Grower
 have J:=I.mgx
 have b3:=T.n_Grower_held _ J
 refine D.can (D.fn.ok sc_law_fars (fun vs H Q E h=>lenP h fun ss Q' q=>by obtain ⟨n,es,rfl,n0,n1,X,a2,k⟩:=q;rfl) (fun cdv A outer s H vs Q E hr h=>?_))
 have nd:=sc_law_fars.nd
 refine ⟨_,(aac (aam (i:=1) nd rfl (Or.inl rfl) (aag (amt T) hr (aaa (pv 0) aab)))
  (aac (aam (i:=2) nd rfl (Or.inl rfl) (aa0 aab))
  (aac (abt aI6 rfl (abj rfl T.b_range (aaa (aaq aar (pv 0) aae (fun _ _=>rfl)) aab)) (aan (i:=3) nd rfl (Or.inl rfl))
   (aac (aam (i:=4) nd rfl (Or.inl rfl) (avr (asv (pv 3) aae avq) rfl rfl (by simp) (by decide)))
    (aac (aam (i:=5) nd rfl (Or.inl rfl) (aa0 (aaa (pv 3) aab)))
    (aac (aam (i:=6) nd rfl (Or.inl rfl) aae)
    (aac (aku aI6 (aaz (ahn hr.units) (pv 5) (aa0 aab) (aa3 _))
     (aac (aam (i:=6) nd rfl (Or.inl rfl) (aat abd (pv 6) aae))
      (aac (aam (i:=7) nd rfl (Or.inl rfl) (aa0 aab))
      (aac (abt aI6 rfl (aby (pv 5)) (aan (i:=8) nd rfl (Or.inl rfl))
       (aah (abt aI6 rfl (aby (aii (adp hr) (pv 1) (pv 8) (fun _ _=>rfl))) (aan (i:=9) nd rfl (Or.inl rfl))
         (aah (abc (ax2 (aqp (adp hr) (pv 9) (pv 4)))
           (aac (aga (adp hr) (pv 4) (pv 9) (pv 6) rfl)
            (aah (abh (acg PySem.F.plainAttrs_list PySem.F.slot_list_append PySem.F.type_list_append abp (pv 7) (aaa (pv 9) aab)))))
           aay)))))
      (aah (aam (i:=5) nd rfl (Or.inl rfl) (pv 7)))))))
    (aah (abh (acg PySem.F.plainAttrs_list PySem.F.slot_list_append PySem.F.type_list_append abp (pv 2) (aaa (pv 4) aab)))))))))
  (aah (aas (pv 2)))))),?_⟩
 refine abg h fun ss Q' q B hK=>?_
 refine exS2 ss q fun n es b=>?_
 have n0:=b.1
 have n1:=b.2.1
 have X:=b.2.2.1
 have a2:=b.2.2.2.1
 have k:=b.2.2.2.2
 clear b q
 show EvS B _ _ [some (.st (webD n es)),none,none,none,none,none,none,none,none,none]
 row_cond go
 refine ⟨n,es,rfl,by omega,n1,X,a2,fun tl ht=>ada axk ?_⟩
 have hT:∀ u v:Int,Tied es u v->0<=v/\v < n:=fun u v h=>(h.in X).2
 have a9:(tlD tl).map PyData.list ≠ []:=fun e=>by
  have:=ht.1
  have h2:=congrArg List.length e
  simp [tlD] at h2
  rw [h2] at this
  simp at this
  omega
 have R:∀ p:Int,0<=p->p < n->∃ Z:List Int,valD (kvD ((tlD tl).map PyData.list)) (.inl p)=some (.list (Z.map .int))/\∀ u,u∈Z ↔ Tied es p u:=fun p p0 p1=>by
  obtain ⟨Z,S,hw⟩:=ht.get p0 p1
  exact ⟨Z,axj p0 (by rw [aA5,adx S];rfl),hw⟩
 row_cond go
 refine ack (fun i e=>∃ ess v3 v4 v5 v6 v7 G y,e=[some (.st (webD n es)),some (.st (abu (kvD ((tlD tl).map PyData.list)))),some (.own (OL (List.map abu ess))),v3,v4,v5,v6,v7,G,y]/\ess.length=i/\∀ (v:Int) fs,0<=v->ess[v.toNat]?=some fs->FarD n (Gr.farO (Tied es) v) fs) ⟨[],_,_,_,_,_,_,_,rfl,rfl,fun v fs _ h=>by simp at h⟩ ?_ ?_
 ·rintro i e hi g
  refine exS8 e g fun ess v3 v4 v5 v6 v7 G y b=>?_
  have U:=b.1
  have L:=b.2
  clear b g
  obtain ⟨a,ha,a0,a1⟩:∃ a:Int,a=0+(i:Int)/\0<=a/\a < n:=⟨_,rfl,by omega,by omega⟩
  rw [← ha]
  row_cond go
  refine ars rfl ?_
  row_cond go
  refine an8 5 rfl acq ?_
  dsimp only [List.set_cons_zero,List.set_cons_succ]
  refine ajn (fun m e=>∃ v7 G y far fe edge M,e=[some (.st (webD n es)),some (.st (abu (kvD ((tlD tl).map PyData.list)))),some (.own (OL (List.map abu ess))),some (.st (.int a)),some (.own (OD fe)),some (.st (.list (edge.map .int))),some (.st (.int ((M:Nat):Int))),v7,G,y]/\Gr.Ring (Tied es) a M far edge/\FarD n far fe/\(∀ v∈edge,0<=v/\v < n)/\m=2 * cnt far n.toNat+(if edge=[] then 0 else 1))
   ⟨_,_,_,_,_,_,[a],0,rfl,Gr.Ring.start,FarD.start a0 a1,fun v z=>by simp at z;subst z;exact ⟨a0,a1⟩,rfl⟩ ?_
  rintro m e g
  refine exS7 e g fun v7 G y far fe edge M b=>?_
  have hR:=b.1
  have hF:=b.2.1
  have hb:=b.2.2.1
  have a6:=b.2.2.2
  clear b g
  subst a6
  row_cond go
  refine agh (avb _) rfl (az0 _) ?_
  rw [axs]
  cases hedge:edge with
  | nil =>
   subst hedge
   row_cond go
   rw [aE9 (show ¬ ((!([]:List Int).isEmpty)=true) from aA9)]
   row_cond go
   refine ⟨_,rfl,by rw [aA3];omega,?_⟩
   refine ⟨ess ++ [fe],_,_,_,_,_,_,_,by rw [aE0];rfl,by rw [aB0,U];rfl,fun v fs v0 z=>?_⟩
   by_cases hvi:v.toNat < i
   ·rw [aC2 (by omega)] at z
    exact L v fs v0 z
   ·have a7:=(aA1.mp z).1
    simp at a7
    have b2:v.toNat=i:=by omega
    rw [b2,aC7 (by omega),U,Nat.sub_self] at z
    cases z
    rw [show v=a by omega]
    exact hF.congr hR.fin
  | cons e0 er =>
   rw [← hedge]
   have a5:edge ≠ []:=by rw [hedge];simp
   row_cond go
   rw [aE8 (show (!edge.isEmpty)=true by rw [hedge];rfl)]
   row_cond go
   refine acu (fun i e=>∃ G y c l beyond,e=[some (.st (webD n es)),some (.st (abu (kvD ((tlD tl).map PyData.list)))),some (.own (OL (List.map abu ess))),some (.st (.int a)),some (.own (OD l)),some (.st (.list (edge.map .int))),some (.st (.int ((M:Int)+1))),some (.own (OL (beyond.map .int))),G,y]/\Gr.Mid (Tied es) M far edge (fun u=>u∈edge.take i) c beyond/\FarD n c l/\cnt c n.toNat+beyond.length=cnt far n.toNat/\∀ v∈beyond,0<=v/\v < n)
    ⟨G,y,far,fe,[],rfl,Gr.Mid.start.imp fun u Y=>by simp at Y,hF,rfl,fun v z=>by simp at z⟩ ?_ ?_
   ·rintro i p e hp g
    refine exS5 e g fun G y c l beyond b=>?_
    have O:=b.1
    have o:=b.2.1
    have N:=b.2.2.1
    have r:=b.2.2.2
    clear b g
    have a4:=aA2 hp
    obtain ⟨p0,p1⟩:=hb p a4
    obtain ⟨Z,S,hw⟩:=R p p0 p1
    row_cond go
    refine auf ?_
    row_cond go
    refine ⟨kvD ((tlD tl).map PyData.list),.inl p,_,rfl,azt a9,rfl,S,?_⟩
    row_cond go
    refine acu (fun j e=>∃ y c l beyond,e=[some (.st (webD n es)),some (.st (abu (kvD ((tlD tl).map PyData.list)))),some (.own (OL (List.map abu ess))),some (.st (.int a)),some (.own (OD l)),some (.st (.list (edge.map .int))),some (.st (.int ((M:Int)+1))),some (.own (OL (beyond.map .int))),some (.st (.int p)),y]/\Gr.Mid (Tied es) M far edge (fun u=>u∈edge.take i) c beyond/\FarD n c l/\cnt c n.toNat+beyond.length=cnt far n.toNat/\(∀ v∈beyond,0<=v/\v < n)/\∀ x∈Z.take j,c x ≠ none)
     ⟨y,c,l,beyond,rfl,O,o,N,r,fun x W=>by simp at W⟩ ?_ ?_
    ·rintro j u e Y g
     refine exS4 e g fun y c l beyond b=>?_
     have O:=b.1
     have o:=b.2.1
     have N:=b.2.2.1
     have r:=b.2.2.2.1
     have C:=b.2.2.2.2
     clear b g
     have tu:Tied es p u:=(hw u).mp (aA2 Y)
     obtain ⟨u0,u1⟩:=hT _ _ tu
     have a8:=o.val u
     have b5:=o.len
     have b4:l.length<=999999:=by omega
     row_cond go
     rw [a8]
     cases hf:c u with
     | none =>
      rw [aE8 (show (!((none:Option Nat).map fun (j:Nat)=>PyData.int (j:Int)).isSome)=true from rfl)]
      have b6:=adl (d:=M+1) u0 hf (n:=n.toNat) (by omega)
      have b1:∀ m,cnt far m<=m:=fun m=>by
       induction m with
       | zero=>exact aA6 _
       | succ m ih=>unfold cnt;split <;> omega
      have:=b1 n.toNat
      row_cond go
      refine ⟨some (.st (.int u)),Gr.label c u (M+1),_,beyond ++ [u],by simp,O.add a4 tu hf,o.put u0 u1 hf,by simp;omega,fun v z=>?_,fun x W=>?_⟩
      ·rcases aA7.mp z with h | h
       ·exact r v h
       ·have:v=u:=by simpa using h
        subst this;exact ⟨u0,u1⟩
      ·by_cases hx2:x=u
       ·subst hx2;rw [Gr.label_same];simp
       ·rw [Gr.label_ne hx2]
        rcases ab0 Y W with h | h
        ·exact C x h
        ·exact absurd h hx2
     | some d =>
      rw [aE9 (show ¬ ((!((some d:Option Nat).map fun (j:Nat)=>PyData.int (j:Int)).isSome)=true) from aA9)]
      row_cond go
      refine ⟨_,c,l,beyond,rfl,O,o,N,r,fun x W=>?_⟩
      rcases ab0 Y W with h | h
      ·exact C x h
      ·subst h;rw [hf];simp
    ·rintro e g
     refine exS4 e g fun y c l beyond b=>?_
     have O:=b.1
     have o:=b.2.1
     have N:=b.2.2.1
     have r:=b.2.2.2.1
     have C:=b.2.2.2.2
     clear b g
     rw [aG1] at C
     refine ⟨_,_,c,l,beyond,rfl,?_,o,N,r⟩
     refine (O.did (u:=p) fun x tx=>C x ((hw x).mpr tx)).imp fun x W=>?_
     exact ab0 hp W
   ·rintro e g
    refine exS5 e g fun G y c l beyond b=>?_
    have O:=b.1
    have o:=b.2.1
    have N:=b.2.2.1
    have r:=b.2.2.2
    clear b g
    row_cond go
    refine ⟨_,?_,_,_,_,c,l,beyond,M+1,rfl,hR.next O fun u Y=>by rw [aG1];exact Y,o,r,rfl⟩
    rw [aE9 a5]
    cases beyond with
    | nil=>rw [aE8 rfl];simp at N;omega
    | cons b0 br=>rw [aE9 (by simp)];simp at N;omega
 ·rintro e g
  refine exS8 e g fun ess v3 v4 v5 v6 v7 G y b=>?_
  have U:=b.1
  have L:=b.2
  clear b g
  row_cond go
  exact k ess ⟨by omega,L⟩
end
def ap0 (K:Frag):Sp:=fun vs H Q _=>∃ (a:Addr) (ns:List Int),vs=[.ref a]/\SqL K H a (ns.map V.int)/\ns.length<=63/\∀ H',Q (.bl true) H'
def avc:VP:=fun ss Q=>∃ ns:List Int,ss=[.scr ns]/\ns.length<=63/\Q (.st (.bool true))
theorem aur {K:Frag} {vs:List V} {H:Hp} {Q:VK} {E:XK} (h:ap0 K vs H Q E):spP K avc vs H Q E:=by
 obtain ⟨a,ns,rfl,c,b,k⟩:=h
 refine ⟨H,[.scr ns],fun s=>s=.st (.bool true),Same.refl _,fun a d h=>h,.cons ⟨a,rfl,c⟩ .nil,⟨ns,rfl,b,rfl⟩,fun s e v G' H' Fv o=>?_⟩
 subst e
 have r:=o.ok.1
 cases r
 exact k _
theorem webP (n:Int) (es:List (Int × Int)):aap (webD n es)=true:=by
 have:=ah5 es
 simp only [webD,aap,plainDs,this,Bool.and_self]
theorem a01 (n:Int) (es:List (Int × Int)):(webD n es).depth<=60:=by
 have h:PyData.depthAll (es.map prD)<=1:=aen fun d hd=>by
  obtain ⟨p,_,rfl⟩:=aB6.mp hd
  exact ajv p
 simp only [webD,PyData.depth,PyData.depthAll]
 omega
theorem amv {far:Int->Option Nat}:∀ {n:Nat},cnt far n=0 ↔ ∀ v:Int,0<=v->v < n->far v ≠ none
 | 0=>⟨fun _ v d c=>by omega,fun _=>rfl⟩
 | n+1=>by
  have a:=amv (far:=far) (n:=n)
  unfold cnt
  constructor
  ·intro h v v0 b
   by_cases hv:v=n
   ·subst hv
    intro z
    rw [aE8 z] at h
    omega
   ·exact a.mp (by omega) v v0 (by omega)
  ·intro h
   rw [a.mpr fun v v0 b=>h v v0 (by omega),aE9 (h n (by omega) (by omega))]
theorem FarD.full {n:Int} {es:List (Int × Int)} {fs:List (Key × PyData)} (f:1<=n) (h:FarD n (Gr.farO (Tied es) 0) fs):((fs.length:Int)=n ↔ Joined n es):=by
 have g:=h.len
 have a:=amv (far:=Gr.farO (Tied es) 0) (n:=n.toNat)
 constructor
 ·intro e v v0 b
  cases hf:Gr.farO (Tied es) 0 v with
  | some d=>exact ⟨d,Gr.farO_some.mp hf⟩
  | none=>exact absurd hf (a.mp (by omega) v v0 (by omega))
 ·intro c
  have:=a.mpr fun v v0 b z=>by
   obtain ⟨d,hd⟩:=c v v0 (by omega)
   exact Gr.farO_none.mp z d hd
  omega
theorem ash {α:Type} (xs:List α) (f : α->PyData) (d : α):xs.map f=(List.range xs.length).map fun i=>f (xs.getD i d):=by
 refine aF5 fun i=>?_
 rw [aA5,aA5]
 by_cases hi:i < xs.length
 ·rw [aD7 hi,aA0 hi,aH5,aH5,aD2,aA0 hi]
  rfl
 ·rw [aD9 (by omega),aD9 (by simp;omega)]
  rfl
theorem FarD.vals {n:Int} {f:Int->Option Nat} {fs:List (Key × PyData)} (h:FarD n f fs):∃ ns:List Int,fs.map (·.2)=ns.map .int/\∀ x:Int,x∈ns ↔ ∃ (v:Int) (j:Nat),0<=v/\v < n/\f v=some j/\x=(j:Int):=by
 refine ⟨fs.map fun p=>match p.2 with | .int i=>i | _=>0,?_,fun x=>?_⟩
 ·rw [aD8]
  refine aE4 fun p a=>?_
  obtain ⟨v,j,_,e,_⟩:=h.mem p.1 p.2 a
  simp only [Function.comp,e]
 ·rw [aB6]
  constructor
  ·rintro ⟨p,a,rfl⟩
   obtain ⟨v,j,_,e,v0,b,hf⟩:=h.mem p.1 p.2 a
   exact ⟨v,j,v0,b,hf,by rw [e]⟩
  ·rintro ⟨v,j,_,_,hf,rfl⟩
   exact ⟨_,h.all v j hf,rfl⟩
def axv:VP:=fun ss Q=>∃ (n:Int) (es:List (Int × Int)),ss=[.st (webD n es)]/\GW n es/\∀ d,FarN n es d->Q (.st d)
theorem FarN.uniq {n:Int} {es:List (Int × Int)} {d e:PyData} (h:FarN n es d) (g:FarN n es e):d=e:=by
 rcases h with ⟨l,x,s,rfl⟩ | ⟨l,rfl⟩ <;> rcases g with ⟨f,y,m,rfl⟩ | ⟨f,rfl⟩
 ·obtain ⟨⟨u,v,p,o,v0,q,C⟩,r⟩:=s
  obtain ⟨⟨z,w,i,c,a,b,A⟩,j⟩:=m
  have B:=j u v p o v0 q
  have D:=r z w i c a b
  rw [show x=y by omega]
 ·exact absurd l f
 ·exact absurd f l
 ·rfl
theorem FarN.plain {n:Int} {es:List (Int × Int)} {d:PyData} (h:FarN n es d):aap d=true/\d.depth=0/\isiD "bool" d=false:=by
 rcases h with ⟨_,x,_,rfl⟩ | ⟨_,rfl⟩
 ·exact ⟨rfl,by simp [PyData.depth],rfl⟩
 ·exact ⟨rfl,by simp [PyData.depth],rfl⟩
structure DW (n:Int) (es:List (Int × Int)) (j:Nat):Prop where
 lo:1<=n
 hi:n<=60
 ps:PsOk n es
 len:es.length<=1900+j
theorem DW.gw {n:Int} {es:List (Int × Int)} {j:Nat} (h:DW n es j) (b:j<=100):GW n es:=⟨h.lo,by have:=h.hi;omega,fun p a=>by have:=h.ps.inn p a;exact ⟨by omega,by omega,by omega,by omega⟩,by have:=h.len;omega⟩
inductive Deed (n:Int) (es:List (Int × Int)):PyData->Int->Int × Int->Prop
 | place {a:Int}:0<=a->a < n->n < 60->Deed n es (.tuple [.int a]) (n+1) (a,n)
 | tie {s t:Int}:0<=s->s < t->t < n->(s,t) ∉ es->Deed n es (.tuple [.int s,.int t]) n (s,t)
theorem Deed.dw {n m:Int} {es qs:List (Int × Int)} {j:Nat} {d:PyData} {p:Int × Int} (h:DW n es j) (g:Deed n es d m p) (c:qs.Perm (es ++ [p])):DW m qs (j+1):=by
 have f:qs.length<=1900+(j+1):=by
  have:=h.len
  rw [c.length_eq,aB0]
  simp
  omega
 have a:(p ∉ es)/\(0<=p.1/\p.1 < p.2/\p.2 < m)/\n<=m/\m<=60:=by
  have:=h.hi
  cases g with
  | place a0 a1 hn=>exact ⟨fun z=>by have:=h.ps.inn _ z;simp only at this;omega,⟨a0,a1,by simp only;omega⟩,by omega,by omega⟩
  | tie s0 st tn hno=>exact ⟨hno,⟨s0,st,tn⟩,Int.le_refl _,this⟩
 refine ⟨by have:=h.lo;omega,a.2.2.2,⟨c.nodup_iff.mpr (aE3.mpr ⟨h.ps.nd,by simp,fun x i y l e=>by cases aC1.mp l;exact a.1 (e ▸ i)⟩),fun q b=>?_⟩,f⟩
 rcases aA7.mp (c.mem_iff.mp b) with z | z
 ·have:=h.ps.inn q z
  omega
 ·cases aC1.mp z
  exact a.2.1
def az1:VIo:=fun A ss Q=>∃ (n:Int) (es:List (Int × Int)) (j:Nat),A=ODk/\ss=[.st (webD n es)]/\DW n es j/\j<=100/\Q ODk (.st .none)/\∀ d m p,Deed n es d m p->Q ODk (.st d)
def aus:VP:=fun ss Q=>∃ (n m:Int) (es:List (Int × Int)) (j:Nat) (d:PyData) (p:Int × Int),ss=[.st (webD n es),.st d]/\DW n es j/\j<=100/\Deed n es d m p/\∀ qs,Rise qs->qs.Perm (es ++ [p])->Q (.st (webD m qs))
def az2 (mg:Str->Option Value):VIo:=fun A ss Q=>∃ (C:Addr) (n m:Int) (es:List (Int × Int)) (j:Nat) (d:PyData) (p:Int × Int),mg "Grower" = some (.ref C)/\A=OI C (gF n es)/\ss=[.st d]/\DW n es j/\j<=100/\Deed n es d m p/\∀ qs d0 d1,Rise qs->qs.Perm (es ++ [p])->FarN n es d0->FarN m qs d1->Q (OI C (gF m qs)) (.st (.tuple [d0,d1]))
def az3:VIo:=fun A ss Q=>A=ODk/\ss=[]/\Q ODk (.st (.bool true))
section
variable {P:Program} {w:World} {K:Frag} {mg:Str->Option Value} {base:Heap}
theorem sc_law_far_of:FnScope ["web","fars"] ["web"] (aai s_law_far_of):=by row_cond sc
theorem aex (T:Txt K mg):Can P w K mg base "_law_far_of" 10 ["web"] (spP K (axv)):=by
 obtain ⟨f,fd,D⟩:=T.d_law_far_of
 obtain ⟨J,c⟩:=T.o_Grower
 have m:=c.mgx
 have Y:=T.n_Grower_held _ m
 refine D.can (D.fn.ok sc_law_far_of (fun vs H Q E h=>lenP h fun ss Q' q=>by obtain ⟨n,es,rfl,I,S⟩:=q;rfl) (fun cdv A outer s H vs Q E hr h=>?_))
 have nd:=sc_law_far_of.nd
 refine ⟨_,(aac (aam (i:=1) nd rfl (Or.inl rfl) (aag (amu T) hr (aaa (pv 0) aab)))
  (aac (abc (aaz akd (aaj aps (by rfl) T.b_len ab5 (aaa (aaq aar (pv 1) aae (fun _ _=>rfl)) aab)) (aaq aar (pv 0) aae (fun _ _=>rfl)) (aa3 _))
   (aah (aas ady))
   aay)
  (aah (aas (aaj (acw rfl) (by rfl) T.b_max ab6 (aaa (acy rfl (N:=["one"]) (src:=[none]) (by exact abw rfl rfl rfl rfl rfl rfl) (aby (pv 1)) (fun _ _ _ _=>(aan (i:=0) (show List.Nodup (["one"]:List Str) by decide +kernel) rfl (Or.inl rfl) (hf:=Or.inr rfl))) (fun _ _ _ _=>ab4) (fun _ _ _ _=>(aaj (show aa2 _ (.builtin "max") (aed K) from (acw rfl)) (by rfl) T.b_max ab6 (aaa (adg (show aa2 _ (.type "list") amj from apv rfl) (by rfl) T.b_list aeq (aaa (show PE _ _ (tBM0 K "dict" apu _) from ayb PySem.F.plainAttrs_dict PySem.F.slot_dict_values PySem.F.type_dict_values axl (pv 0)) aab)) aab)))) aab)))))),?_⟩
 refine abg h fun ss Q' q B hK=>?_
 refine exS2 ss q fun n es C=>?_
 have I:=C.1
 have S:=C.2
 clear C q
 show EvS B _ _ [some (.st (webD n es)),none]
 have n0:=I.lo
 have n1:=I.hi
 have U:=I.inn
 have a0:=I.len
 have hn:1<=n.toNat:=by omega
 row_cond go
 refine ⟨n,es,rfl,n0,by omega,U,by omega,fun ess g=>ada acq ?_⟩
 obtain ⟨fs,o⟩:∃ fs,ess[(0:Int).toNat]?=some fs:=⟨_,aA0 (by have:=g.len;simp;omega)⟩
 have G:=g.row 0 fs (by omega) o
 have a2:atI (ess.map abu) 0=some (abu fs):=ah0 (f:=abu) (acs (by omega) o)
 have R:fs ≠ []:=G.ne (Gr.farO_self (T:=Tied es) (a:=0))
 have b:=G.full n0
 have a3:=G.len
 row_cond go
 refine auh R ?_
 row_cond go
 by_cases hJ:Joined n es
 ·have a4:=b.mpr hJ
  obtain ⟨M,p⟩:=ai7 hn (dsF es)
  row_cond go
  rw [ash ess abu [],show ess.length=n.toNat by have:=g.len;omega]
  refine adb (f:=fun u:Nat=>abu (ess.getD u [])) (fun u:Nat => .int (M u)) rfl (by simp;omega) (fun u Z B' hB=>?_) ?_
  ·have a5:u < n.toNat:=aB8.mp Z
   have o:ess[((u:Int)).toNat]?=some (ess.getD u []):=by
    rw [Int.toNat_natCast,aD2,aA0 (by have:=g.len;omega)]
    rfl
   have G:=g.row (u:Int) _ (by omega) o
   obtain ⟨ms,W,l⟩:=G.vals
   have X:∀ x,ac0 ms x->x=M u:=fun x r=>by
    have O:ac0 ((List.range n.toNat).map fun (i:Nat)=>dsF es (u:Int) (i:Int)) x:=by
     refine ⟨?_,fun y hy=>?_⟩
     ·obtain ⟨v,j,v0,v1,hf,rfl⟩:=(l x).mp r.1
      refine aB6.mpr ⟨v.toNat,aB8.mpr (by omega),?_⟩
      rw [show ((v.toNat:Nat):Int)=v by omega]
      simp only [dsF,hf,Option.getD_some]
     ·obtain ⟨i,hi,rfl⟩:=aB6.mp hy
      obtain ⟨d,e⟩:=aia hJ (show 0<=(u:Int) by omega) (by omega) (show 0<=(i:Int) by omega) (by have:=aB8.mp hi;omega)
      refine r.2 _ ((l _).mpr ⟨(i:Int),d,by omega,by have:=aB8.mp hi;omega,e,?_⟩)
      simp only [dsF,e,Option.getD_some]
    exact ag7 O (p u)
   have L:ms ≠ []:=fun e=>by
    have:=(l ((0:Nat):Int)).mpr ⟨(u:Int),0,by omega,by omega,Gr.farO_self,rfl⟩
    rw [e] at this
    cases this
   refine au5 (ag0 (abk (ar5 rfl (G.ne (Gr.farO_self (T:=Tied es) (a:=(u:Int)))) (acr ?_))))
   rw [W]
   row_cond go
   exact ad6 L fun x r=>⟨by rw [X x r],rfl⟩
  ·rw [show (List.range n.toNat).map (fun u:Nat=>PyData.int (M u))=((List.range n.toNat).map M).map .int by rw [aD8];rfl]
   row_cond go
   refine ad6 (by simp;omega) fun x r=>?_
   row_cond go
   refine S _ (.inl ⟨hJ,x,⟨?_,fun u v u0 u1 v0 v1=>?_⟩,rfl⟩)
   ·obtain ⟨u,Z,e⟩:=aB6.mp r.1
    obtain ⟨v,hv,e2⟩:=aB6.mp (p u).1
    have:=aB8.mp Z
    have:=aB8.mp hv
    exact ⟨(u:Int),(v:Int),by omega,by omega,by omega,by omega,e2.trans e⟩
   ·have h1:=(p u.toNat).2 _ (aB6.mpr ⟨v.toNat,aB8.mpr (by omega),rfl⟩)
    have h2:=r.2 _ (aB6.mpr ⟨u.toNat,aB8.mpr (by omega),rfl⟩)
    rw [show ((u.toNat:Nat):Int)=u by omega,show ((v.toNat:Nat):Int)=v by omega] at h1
    omega
 ·have a1:(fs.length:Int) < n:=by
   have:¬ (fs.length:Int)=n:=fun z=>hJ (b.mp z)
   omega
  row_cond go
  exact S _ (.inr ⟨hJ,rfl⟩)
theorem sc_law_deed:FnScope ["deck","web","n","ties","a","free","b"] ["deck","web"] (aai s_law_deed):=by row_cond sc
theorem amw (T:Txt K mg):Can P w K mg base "_law_deed" 2 ["deck","web"] (spI K (az1)):=by
 obtain ⟨f,fd,D⟩:=T.d_law_deed
 obtain ⟨o,c⟩:=T.o_Grower
 have g:=c.mgx
 have F:=T.n_Grower_held _ g
 refine D.can (D.fn.ok sc_law_deed (fun vs H Q E h=>lenI h fun A ss Q' q=>by obtain ⟨n,es,j,rfl,rfl,p,Z,J,C⟩:=q;rfl) (fun cdv A outer s H vs Q E l h=>?_))
 have nd:=sc_law_deed.nd
 refine ⟨_,(aac (acd (pv 1) (acx rfl (aa8 (aan (i:=2) nd rfl (Or.inl rfl)) (aa8 (aan (i:=3) nd rfl (Or.inr rfl)) acl))))
  (aac (aam (i:=4) nd rfl (Or.inr rfl) (aag (aak T) l (aaa (pv 0) (aaa (pv 2) aab))))
  (aac (abc (PW.pt (ag9 (aaz af4 (aag (aak T) l (aaa (pv 0) (aaa aae aab))) aae (aa3 _)) (af2 (aaz akd (pv 2) aae (aa3 _)))))
   (aah (aas (aa5 (aaa (pv 4) aab))))
   aay)
  (aac (ak7 (i:=5) nd rfl (Or.inl rfl) rfl (N:=["b","a","ties"]) (src:=[none,some 4,some 3]) (by exact abw rfl rfl rfl rfl rfl rfl) (abj rfl T.b_range (aaa (pv 2) aab)) (fun _ _ _ _=>(aan (i:=0) (show List.Nodup (["b","a","ties"]:List Str) by decide +kernel) rfl (Or.inl rfl) (hf:=Or.inr rfl))) (fun _ _ _ _=>anj (PW.pt (ag9 (aaz aos (pv 0) (pv 1) (aa3 _)) (af2 (aaz (ajl l.units) (aa5 (aaa (aaj (acb rfl) (by rfl) T.b_min adj (aaa (pv 1) (aaa (pv 0) aab))) (aaa (aaj (aca rfl) (by rfl) T.b_max ab6 (aaa (pv 1) (aaa (pv 0) aab))) aab))) (pv 2) rfl))))) (fun _ _ _ _=>(pv 0)))
  (aac (abc (aaz (ayt l.units) (pv 5) (aa0 aab) (aa3 _))
   (aah (aas ady))
   aay)
  (aac (aam (i:=6) nd rfl (Or.inl rfl) (aaq aar (pv 5) (aag (aak T) l (aaa (pv 0) (aaa (aaj abq (by rfl) T.b_len ab5 (aaa (pv 5) aab)) aab))) (fun _ _=>rfl)))
  (aah (aas (aa5 (aaa (aaj (acb rfl) (by rfl) T.b_min adj (aaa (pv 4) (aaa (pv 6) aab))) (aaa (aaj (aca rfl) (by rfl) T.b_max ab6 (aaa (pv 4) (aaa (pv 6) aab))) aab))))))))))),?_⟩
 refine adr h fun A0 ss Q' q B hK=>?_
 obtain ⟨n,es,j,rfl,rfl,p,Z,J,C⟩:=q
 show EvS B _ _ [some (.io ODk),some (.st (webD n es)),none,none,none,none,none]
 have hn:=p.lo
 have M:=p.hi
 have L:=p.len
 row_cond go
 refine ⟨n,rfl,rfl,by omega,by omega,fun a a0 a1=>?_⟩
 row_cond go
 refine ⟨2,rfl,rfl,by omega,by omega,fun r r0 r1=>?_⟩
 row_cond go
 dsimp only [List.set_cons_zero,List.set_cons_succ]
 refine' cutR (R:=EvS B ?c1 ?d1 [some (.io ODk),some (.st (webD n es)),some (.st (.int n)),some (.st (.list (es.map prD))),some (.st (.int a)),none,none]) (fun R=>?K1) ?K2
 case K1 =>
  by_cases l:r=0
  ·by_cases hn0:n < 60
   ·row_cond go
    exact C _ _ _ (.place a0 a1 hn0)
   ·repeat (first | exact R | row_cond st)
  ·repeat (first | exact R | row_cond st)
 case K2 =>
  row_cond go
  unfold rngD
  refine ary (xs:=List.range n.toNat) (f:=fun i:Nat=>PyData.int (0+(i:Int))) (fun i:Nat=>PyData.int (i:Int)) (fun i:Nat=>decide ((i:Int) ≠ a) && !decide ((if (i:Int) < a then (i:Int) else a,if (i:Int) > a then (i:Int) else a)∈es)) rfl (by simp;omega) (fun i hi B' hB=>?_) ?_
  ·have U:=aB8.mp hi
   rw [Int.zero_add]
   by_cases hia:(i:Int)=a
   ·row_cond go
    exact ⟨by simp [hia],rfl,fun z=>nomatch z⟩
   ·row_cond go
    refine an4 (arq (_,_)) (ah5 es) (aC9 (ajv (_,_)) (by decide)) ?_
    rw [aE8 rfl,show PyData.tuple [PyData.int (if (i:Int) < a then (i:Int) else a),PyData.int (if (i:Int) > a then (i:Int) else a)]=prD (if (i:Int) < a then (i:Int) else a,if (i:Int) > a then (i:Int) else a) from rfl,aw8]
    row_cond go
    refine ⟨by simp [hia],rfl,fun _=>?_⟩
    row_cond go
    exact rfl
  ·obtain ⟨fs,m,G⟩:∃ fs:List Nat,(List.range n.toNat).filter (fun i:Nat=>decide ((i:Int) ≠ a) && !decide ((if (i:Int) < a then (i:Int) else a,if (i:Int) > a then (i:Int) else a)∈es))=fs/\(∀ i∈fs,(i:Int) < n/\(i:Int) ≠ a/\(if (i:Int) < a then (i:Int) else a,if (i:Int) > a then (i:Int) else a) ∉ es):=⟨_,rfl,fun i hi=>by
    obtain ⟨X,y⟩:=List.mem_filter.mp hi
    have:=aB8.mp X
    simp only [aG4,decide_eq_true_eq,Bool.not_eq_true',decide_eq_false_iff_not] at y
    exact ⟨by omega,y.1,y.2⟩⟩
   have S:fs.length<=60:=by
    rw [← m]
    exact aC9 (List.length_filter_le _ _) (by rw [List.length_range];omega)
   rw [m]
   refine ada acq ?_
   have v:aap (.list (fs.map fun i:Nat=>PyData.int (i:Int)))=true:=(ael _).mpr fun d hd=>by
    obtain ⟨x,_,rfl⟩:=aB6.mp hd
    rfl
   have u:(PyData.list (fs.map fun i:Nat=>PyData.int (i:Int))).depth<=60:=by
    have h:PyData.depthAll (fs.map fun i:Nat=>PyData.int (i:Int))<=1:=aen fun d hd=>by
     obtain ⟨x,_,rfl⟩:=aB6.mp hd
     simp [PyData.depth]
    simp only [PyData.depth]
    omega
   row_cond go
   refine awq v rfl u ?_
   cases efs:fs with
   | nil =>
    rw [show PyData.eqv (.list (List.map (fun i:Nat=>PyData.int (i:Int)) [])) (.list [])=true from rfl]
    row_cond go
    exact J
   | cons f0 fr =>
    rw [← efs,show PyData.eqv (.list (fs.map fun i:Nat=>PyData.int (i:Int))) (.list [])=false by rw [efs];rfl]
    have I:0 < fs.length:=by rw [efs];simp
    row_cond go
    rw [aA3]
    refine ⟨(fs.length:Int),rfl,rfl,by omega,by omega,fun q O q1=>?_⟩
    obtain ⟨b,hb⟩:∃ b,fs[q.toNat]?=some b:=⟨_,aA0 (show q.toNat < fs.length by omega)⟩
    have W:atI (fs.map fun i:Nat=>PyData.int (i:Int)) q=some (.int (b:Int)):=acs O (by rw [aA5,hb];rfl)
    obtain ⟨b1,b2,Y⟩:=G b (aA2 hb)
    row_cond go
    exact C _ n (if (b:Int) < a then (b:Int) else a,if (b:Int) > a then (b:Int) else a) (.tie (by split <;> omega) (by split <;> split <;> omega) (by split <;> omega) Y)
theorem sc_law_behind:FnScope ["web","deed","n","ties"] ["web","deed"] (aai s_law_behind):=by row_cond sc
theorem ai9 (T:Txt K mg):Can P w K mg base "_law_behind" 1 ["web","deed"] (spP K (aus)):=by
 obtain ⟨f,fd,D⟩:=T.d_law_behind
 obtain ⟨o,b⟩:=T.o_Grower
 have g:=b.mgx
 have x:=T.n_Grower_held _ g
 refine D.can (D.fn.ok sc_law_behind (fun vs H Q E h=>lenP h fun ss Q' q=>by obtain ⟨n,m,es,j,d,p,rfl,u,C,hd,y⟩:=q;rfl) (fun cdv A outer s H vs Q E G h=>?_))
 have nd:=sc_law_behind.nd
 refine ⟨_,(aac (acd (pv 0) (acx rfl (aa8 (aan (i:=2) nd rfl (Or.inl rfl)) (aa8 (aan (i:=3) nd rfl (Or.inl rfl)) acl))))
  (aac (abc (aaz af4 (aaj abq (by rfl) T.b_len ab5 (aaa (pv 1) aab)) aae (aa3 _))
   (aah (aas (aa5 (aaa (aat abd (pv 2) aae) (aaa (aaj adq (by rfl) T.b_sorted acv (aaa (aat ahd (pv 3) (aa0 (aaa (aa5 (aaa (aaq aar (pv 1) aae (fun _ _=>rfl)) (aaa (pv 2) aab))) aab))) aab)) aab)))))
   aay)
  (aah (aas (aa5 (aaa (pv 2) (aaa (aaj adq (by rfl) T.b_sorted acv (aaa (aat ahd (pv 3) (aa0 (aaa (pv 1) aab))) aab)) aab))))))),?_⟩
 refine abg h fun ss Q' q B F=>?_
 refine exS6 ss q fun n m es j d p c=>?_
 have u:=c.1
 have C:=c.2.1
 have hd:=c.2.2.1
 have y:=c.2.2.2
 clear c q
 show EvS B _ _ [some (.st (webD n es)),some (.st d),none,none]
 have z:=u.len
 have l:=(hd.dw u (List.Perm.refl _)).ps.nd
 cases hd with
 | @place a a0 a1 hn =>
  row_cond go
  rw [aD6 (show (([PyData.int a].length:Nat):Int)=1 from rfl)]
  repeat (first | (refine abk (aeh (ps:=es ++ [(a,n)]) ?_)) | row_cond st)
  refine ⟨by rw [aE0];rfl,fun qs r v=>acr ?_⟩
  row_cond go
  exact y qs (ai4 r l v) r
 | @tie s t s0 h12 tn hno =>
  row_cond go
  rw [aD5 (show ¬ (([PyData.int s,PyData.int t].length:Nat):Int)=1 from show ¬ ((2:Nat):Int)=1 by decide)]
  repeat (first | (refine abk (aeh (ps:=es ++ [(s,t)]) ?_)) | row_cond st)
  refine ⟨by rw [aE0];rfl,fun qs r v=>acr ?_⟩
  row_cond go
  exact y qs (ai4 r l v) r
theorem sc_law_done:FnScope ["grower","deed"] ["grower","deed"] (aai s_law_done):=by row_cond sc
theorem amx (T:Txt K mg):Can P w K mg base "_law_done" 13 ["grower","deed"] (spI K (az2 mg)):=by
 obtain ⟨f,fd,D⟩:=T.d_law_done
 obtain ⟨g,c⟩:=T.o_Grower
 have b:=c.mgx
 have z:=T.n_Grower_held _ b
 refine D.can (D.fn.ok sc_law_done (fun vs H Q E h=>lenI h fun A ss Q' q=>by obtain ⟨C,n,m,es,j,d,p,L,rfl,rfl,l,J,hd,F⟩:=q;rfl) (fun cdv A outer s H vs Q E i h=>?_))
 have nd:=sc_law_done.nd
 refine ⟨_,(aac (abc (aaz af4 (aaj abq (by rfl) T.b_len ab5 (aaa (pv 1) aab)) aae (aa3 _))
   (aah (aas (ae6 (aew T b) c.cl i (pv 0) (aaa (aaq aar (pv 1) aae (fun _ _=>rfl)) aab))))
   aay)
  (aah (aas (ae6 (afg T b) c.cl i (pv 0) (aaa (aaq aar (pv 1) aae (fun _ _=>rfl)) (aaa (aaq aar (pv 1) aae (fun _ _=>rfl)) aab)))))),?_⟩
 refine adr h fun S ss Q' q B R=>?_
 obtain ⟨C,n,m,es,j,d,p,L,rfl,rfl,l,J,hd,F⟩:=q
 show EvS B _ _ [some (.io (OI C (gF n es))),some (.st d)]
 obtain rfl:g=C:=by have:=b.symm.trans L;cases this;rfl
 have M:=l.gw J
 have I:=l.len
 cases hd with
 | @place a a0 a1 hn =>
  row_cond go
  rw [aD6 (show (([PyData.int a].length:Nat):Int)=1 from rfl)]
  repeat (first | (refine ae5 (.inr rfl) (akr (by decide +kernel)) ?_) | row_cond st)
  refine ⟨_,_,rfl,.inr rfl,g,n,a,es,b,rfl,rfl,M,hn,l.ps,by omega,a0,a1,fun qs G v i o r u=>?_⟩
  exact ⟨_,rfl,F qs G v i o r u⟩
 | @tie s t s0 h12 tn hno =>
  row_cond go
  rw [aD5 (show ¬ (([PyData.int s,PyData.int t].length:Nat):Int)=1 from show ¬ ((2:Nat):Int)=1 by decide)]
  repeat (first | (refine ae5 (.inr rfl) (akr (by decide +kernel)) ?_) | row_cond st)
  refine ⟨_,_,rfl,.inr rfl,g,n,s,t,es,b,rfl,rfl,M,⟨fun q o=>by cases aC1.mp o;exact ⟨s0,h12,tn⟩,aE3.mpr ⟨l.ps.nd,by simp,fun x N y O e=>by cases aC1.mp O;exact hno (e ▸ N)⟩⟩,by omega,fun qs G v i o r u=>?_⟩
  exact ⟨_,rfl,F qs G v i o r u⟩
theorem sc_law_kept:FnScope ["deck","web","handed","grower","k","deed","before","found"] ["deck"] (aai s_law_kept):=by row_cond sc
theorem amy (T:Txt K mg):Can P w K mg base "_law_kept" 14 ["deck"] (spI K (az3)):=by
 obtain ⟨f,fd,D⟩:=T.d_law_kept
 obtain ⟨b,c⟩:=T.o_Grower
 have a:=c.mgx
 have X:=T.n_Grower_held _ a
 refine D.can (D.fn.ok sc_law_kept (fun vs H Q E h=>lenI h fun A ss Q' q=>by obtain ⟨rfl,rfl,k⟩:=q;rfl) (fun cdv A outer s H vs Q E g h=>?_))
 have nd:=sc_law_kept.nd
 refine ⟨_,(aac (aam (i:=1) nd rfl (Or.inl rfl) (aag (anc T) g (aaa (pv 0) aab)))
  (aac (aam (i:=2) nd rfl (Or.inl rfl) (aa5 (aaa (aaq aar (pv 1) aae (fun _ _=>rfl)) (aaa (adg ah1 (by rfl) T.b_list aeq (aaa (aaq aar (pv 1) aae (fun _ _=>rfl)) aab)) aab))))
  (aac (aam (i:=3) nd rfl (Or.inl rfl) (aug (ae8 T a) c g (aaa (pv 2) aab)))
  (aac (abc (aaz (ahn g.units) (pv 2) (pv 1) (aa3 _))
   (aah (aas adc))
   aay)
  (aac (abh (acg PySem.F.plainAttrs_list PySem.F.slot_list_append PySem.F.type_list_append abp (aaq aar (pv 2) aae (fun _ _=>rfl)) (aaa (aa5 (aaa aae (aaa aae aab))) aab)))
  (aac (abt aI6 rfl (abj rfl T.b_range (aaa aae aab)) (aan (i:=4) nd rfl (Or.inl rfl))
   (aac (aam (i:=5) nd rfl (Or.inl rfl) (aag (amw T) g (aaa (pv 0) (aaa (pv 1) aab))))
    (aah (abc (aaz atd (pv 5) ady (aa3 _))
     (aac (aam (i:=6) nd rfl (Or.inl rfl) (aag (aex T) g (aaa (pv 1) aab)))
      (aac (aam (i:=1) nd rfl (Or.inl rfl) (aag (ai9 T) g (aaa (pv 1) (aaa (pv 5) aab))))
      (aac (aam (i:=7) nd rfl (Or.inl rfl) (aag (amx T) g (aaa (pv 3) (aaa (pv 5) aab))))
      (aac (abc (PW.pt (aut (adf (aco (aaj ac9 (by rfl) T.b_isinstance abz (aaa (pv 7) (aaa (adt (v:=.ty "tuple") rfl T.b_tuple ak9 rfl) aab))))) (ap4 (aaz (ahn g.units) (pv 7) (aa5 (aaa (pv 6) (aaa (aag (aex T) g (aaa (pv 1) aab)) aab))) (aa3 _)))))
       (aah (aas adc))
       aay)
      (aah (abc (aaz (ahn g.units) (acy rfl (N:=["one"]) (src:=[none]) (by exact abw rfl rfl rfl rfl rfl rfl) (ax5 (pv 7)) (fun _ _ _ _=>(aan (i:=0) (show List.Nodup (["one"]:List Str) by decide +kernel) rfl (Or.inl rfl) (hf:=Or.inr rfl))) (fun _ _ _ _=>anj (aco (aaj (show aa2 _ (.builtin "isinstance") (rIsi K) from ac9) (by rfl) T.b_isinstance abz (aaa (pv 0) (aaa (adt (v:=.ty "bool") rfl T.b_bool anq rfl) aab))))) (fun _ _ _ _=>(pv 0))) (aa0 aab) (aa3 _))
       (aah (aas adc))
       aay))))))
     aay))))
  (aah (aas adc)))))))),?_⟩
 refine adr h fun A0 ss Q' q B hK=>?_
 obtain ⟨rfl,rfl,k⟩:=q
 show EvS B _ _ [some (.io ODk),none,none,none,none,none,none,none]
 row_cond go
 refine ⟨rfl,rfl,fun n es n0 n1 y hL=>?_⟩
 have hW:DW n es 0:=⟨n0,n1,y,hL⟩
 repeat (first | (refine ame ?_) | row_cond st)
 refine ⟨_,rfl,?_⟩
 repeat (first | (refine arz (.inl rfl) al6 ?_) | row_cond st)
 refine ⟨b,n,es,a,rfl,rfl,rfl,axg,?_⟩
 repeat (first | (refine auj 3 rfl ?_;dsimp only [List.set_cons_zero,List.set_cons_succ]) | row_cond st)
 refine agh (webP n es) (webP n es) (a01 n es) ?_
 rw [show PyData.tuple [PyData.int n,PyData.list (es.map prD)]=webD n es from rfl,al8 (webP n es)]
 have a1:(es.map prD).length<=999999:=by rw [aA3];omega
 row_cond go
 refine ack (fun j e=>∃ m qs S J U Y,e=[some (.io ODk),some (.st (webD m qs)),some (.own (OW (.int n) (es.map prD ++ [.tuple [.int 0,.int 99]]))),some (.own (OI b (gF m qs))),S,J,U,Y]/\DW m qs j) ⟨n,es,_,_,_,_,rfl,hW⟩ ?_ ?_
 ·rintro j e hj r
  refine exS6 e r fun m qs S J U Y o=>?_
  have l:=o
  clear o r
  have a0:j < 10:=hj
  row_cond go
  refine ⟨m,qs,j,rfl,rfl,l,by omega,?_,fun d C p hd=>?_⟩
  ·row_cond go
   rw [aE9 (show ¬ ((!isNone PyData.none)=true) from aA9)]
   row_cond go
   exact ⟨m,qs,_,_,_,_,rfl,l.lo,l.hi,l.ps,by have:=l.len;omega⟩
  ·have a2:=fun u (G:List.Perm u (qs ++ [p]))=>hd.dw l G
   have O:isNone d=false:=by cases hd <;> rfl
   have hG:=l.gw (show j<=100 by omega)
   row_cond go
   rw [O,aE8 (show (!false)=true from rfl)]
   row_cond go
   refine ⟨m,qs,rfl,hG,fun L Z=>?_⟩
   row_cond go
   refine ⟨m,C,qs,j,d,p,rfl,l,by omega,hd,fun u g G=>?_⟩
   have z:=hd.dw l G
   have I:=z.gw (show j+1<=100 by omega)
   row_cond go
   refine ⟨b,m,C,qs,j,d,p,a,rfl,rfl,l,by omega,hd,fun us e0 R W M g0 g1=>?_⟩
   obtain rfl:u=us:=g.eq W fun x=>G.mem_iff.trans M.mem_iff.symm
   obtain rfl:L=e0:=Z.uniq g0
   obtain ⟨p0,z0,b0⟩:=Z.plain
   obtain ⟨p1,z1,b1⟩:=g1.plain
   have y:aap (.tuple [L,R])=true:=by simp only [aap,plainDs,p0,p1,Bool.and_self]
   row_cond go
   refine age ?_
   row_cond go
   refine ⟨C,u,rfl,I,fun e2 h2=>?_⟩
   obtain rfl:R=e2:=g1.uniq h2
   row_cond go
   refine agh y y (by simp only [PyData.depth,PyData.depthAll,z0,z1];omega) ?_
   rw [al8 y]
   row_cond go
   refine alz (fun d=>d) (isiD "bool") rfl (by simp) (fun d hd B' hB=>?_) ?_
   ·row_cond go
    intro _
    row_cond go
    exact rfl
   ·rw [show ([L,R].filter (isiD "bool")).map (fun d=>d)=[] by simp [List.filter_cons,b0,b1]]
    row_cond go
    refine agh rfl rfl (by decide) ?_
    row_cond go
    rw [aE9 (show ¬ ((!(PyData.list []).eqv (PyData.list []))=true) from aA9)]
    row_cond go
    exact ⟨C,u,_,_,_,_,rfl,z⟩
 ·rintro e r
  refine exS6 e r fun m qs S J U Y o=>?_
  have l:=o
  clear o r
  row_cond go
  exact k
theorem sc_law:FnScope ["script","deck","k"] ["script"] (aai s_law):=by row_cond sc
theorem axw (T:Txt K mg) {f:Addr} {fd:FuncData} (D:DefAt K mg "law" s_law ["script"] f fd):FnOk P w K mg base CX0 15 f fd ["script"] (spP K (avc)):=by
 obtain ⟨g,a⟩:=T.o_Grower
 have b:=a.mgx
 have l:=T.n_Grower_held _ b
 refine D.fn.ok sc_law (fun vs H Q E h=>lenP h fun ss Q' q=>by obtain ⟨ns,rfl,j,o⟩:=q;rfl) (fun cdv A outer s H vs Q E n h=>?_)
 have nd:=sc_law.nd
 refine ⟨_,(aac (aam (i:=1) nd rfl (Or.inl rfl) (aag (amq T) n (aaa (pv 0) aab)))
  (aac (abt aI6 rfl (abj rfl T.b_range (aaa aae aab)) (aan (i:=2) nd rfl (Or.inl rfl))
   (aah (abc (adf (aco (aag (amy T) n (aaa (pv 1) aab))))
     (aah (aas adc))
     aay)))
  (aah (aas adc)))),?_⟩
 refine abg h fun ss Q' q B p=>?_
 refine exS1 ss q fun ns d=>?_
 have j:=d.1
 have o:=d.2
 clear d q
 show EvS B _ _ [some (.scr ns),none,none]
 row_cond go
 refine ⟨ns,rfl,j,?_⟩
 row_cond go
 refine ack (fun i e=>∃ m,e=[some (.scr ns),some (.own ODk),m]) ⟨_,rfl⟩ ?_ ?_
 ·rintro i e hi c
  refine exE1 e c fun m=>?_
  clear c
  row_cond go
  refine ⟨rfl,rfl,?_⟩
  row_cond go
  exact ⟨_,rfl⟩
 ·rintro e c
  refine exE1 e c fun m=>?_
  clear c
  row_cond go
  exact o
theorem az4 (T:Txt K mg) {f:Addr} {fd:FuncData} (D:DefAt K mg "law" s_law ["script"] f fd):FnOk P w K mg base CX0 15 f fd ["script"] (ap0 K):=(axw T D).imp fun _ _ _ _ h=>aur h
end
theorem len0 {α:Type} {us:List α} (h:us.length=0):us=[]:=aG5 h
theorem len1 {α:Type} {us:List α} (h:us.length=1):∃ a0,us=[a0]:=by
 cases us with
 | nil=>cases h
 | cons a us=>exact ⟨a,by rw [len0 (Nat.succ.inj h)]⟩
theorem len2 {α:Type} {us:List α} (h:us.length=2):∃ a0 a1,us=[a0,a1]:=by
 cases us with
 | nil=>cases h
 | cons a us=>obtain ⟨a1,e⟩:=len1 (Nat.succ.inj h);exact ⟨a,a1,by rw [e]⟩
theorem len3 {α:Type} {us:List α} (h:us.length=3):∃ a0 a1 b,us=[a0,a1,b]:=by
 cases us with
 | nil=>cases h
 | cons a us=>obtain ⟨a1,b,e⟩:=len2 (Nat.succ.inj h);exact ⟨a,a1,b,by rw [e]⟩
def Bnd (x:Str) (st:Stmt) (ps:List Str):Prop:=∀ (kV doc pm:Value) (an:Option Addr) (cdv ct:Value) (us:List Value),us.length=ps.length->bindArgs (fnOf x x (abl st) (abi st) (aai st) .none kV doc pm an cdv ct) ⟨us,[]⟩=pure (ps.zip us)
def FnIn (K:Frag) (x:Str) (st:Stmt):Prop:=∃ f oc od kV dc pm an cd ct sl,nsIn K mainGlobals x=some (some (.ref f))/\K.lookup f=some ⟨oc,od,.func (fnOf x x (abl st) (abi st) (aai st) .none kV dc pm an cd ct),sl⟩/\codeIn K cd x=true/\keepIn K (.ref f)=true
theorem fn_in {K:Frag} {x:Str} {st:Stmt} {f:Addr} {od an:Option Addr} {sl:Array (Option Value)} {oc kV d pm b ct:Value} (a:nsIn K mainGlobals x=some (some (.ref f))) (l:K.lookup f=some ⟨oc,od,.func (fnOf x x (abl st) (abi st) (aai st) .none kV d pm an b ct),sl⟩) (c:codeIn K b x=true) (k:keepIn K (.ref f)=true):FnIn K x st:=⟨f,oc,od,kV,d,pm,an,b,ct,sl,a,l,c,k⟩
theorem bnd1 {st:Stmt} {x:Str} {ps:List Str} (c:ps.length=1) (h:∀ (kV doc pm:Value) (an:Option Addr) (cdv ct:Value) (a:Value),bindArgs (fnOf x x (abl st) (abi st) (aai st) .none kV doc pm an cdv ct) ⟨[a],[]⟩=pure (ps.zip [a])):Bnd x st ps:=by
 intro kV doc pm an cdv ct us b
 rw [c] at b
 obtain ⟨_,rfl⟩:=len1 b
 exact h _ _ _ _ _ _ _
theorem bnd2 {st:Stmt} {x:Str} {ps:List Str} (d:ps.length=2) (h:∀ (kV doc pm:Value) (an:Option Addr) (cdv ct:Value) (b a:Value),bindArgs (fnOf x x (abl st) (abi st) (aai st) .none kV doc pm an cdv ct) ⟨[b,a],[]⟩=pure (ps.zip [b,a])):Bnd x st ps:=by
 intro kV doc pm an cdv ct us c
 rw [d] at c
 obtain ⟨_,_,rfl⟩:=len2 c
 exact h _ _ _ _ _ _ _ _
theorem bnd3 {st:Stmt} {x:Str} {ps:List Str} (f:ps.length=3) (h:∀ (kV doc pm:Value) (an:Option Addr) (cdv ct:Value) (b a d:Value),bindArgs (fnOf x x (abl st) (abi st) (aai st) .none kV doc pm an cdv ct) ⟨[b,a,d],[]⟩=pure (ps.zip [b,a,d])):Bnd x st ps:=by
 intro kV doc pm an cdv ct us c
 rw [f] at c
 obtain ⟨_,_,_,rfl⟩:=len3 c
 exact h _ _ _ _ _ _ _ _ _
theorem aax {K:Frag} {h:Heap} {mg:Str->Option Value} {x:Str} {st:Stmt} {ps:List Str} (X:K.In h) (G:h.Ns mainGlobals mg) (q:FnIn K x st)
  (hb:Bnd x st ps):∃ f fd,DefAt K mg x st ps f fd:=by
 obtain ⟨f,oc,od,kV,b,pm,an,d,ct,sl,a,l,c,k⟩:=q
 exact ⟨_,_,have F:=aqs (st:=st) l c k;⟨F,mg_of X G a,F.binds hb⟩⟩
def MBnd (x y:Str) (st:Stmt) (ps:List Str):Prop:=∀ (kV doc pm:Value) (an:Option Addr) (cdv ct:Value) (us:List Value),us.length=ps.length->bindArgs (fnOf x y (abl st) (abi st) (aai st) .none kV doc pm an cdv ct) ⟨us,[]⟩=pure (ps.zip us)
def MeIn (K:Frag) (C:Addr) (x y:Str) (st:Stmt):Prop:=∃ f oc od kV dc pm an cd ct sl,PySem.W.findIn K (.ref C) x=some (some (.ref f))/\PySem.W.isFn K (.ref f)=true/\K.lookup f=some ⟨oc,od,.func (fnOf x y (abl st) (abi st) (aai st) .none kV dc pm an cd ct),sl⟩/\codeIn K cd y=true/\keepIn K (.ref f)=true
theorem me_in {K:Frag} {C:Addr} {x y:Str} {st:Stmt} {f:Addr} {od an:Option Addr} {sl:Array (Option Value)} {oc kV d pm b ct:Value} (a:PySem.W.findIn K (.ref C) x=some (some (.ref f))) (i:PySem.W.isFn K (.ref f)=true) (l:K.lookup f=some ⟨oc,od,.func (fnOf x y (abl st) (abi st) (aai st) .none kV d pm an b ct),sl⟩) (c:codeIn K b y=true) (k:keepIn K (.ref f)=true):MeIn K C x y st:=⟨f,oc,od,kV,d,pm,an,b,ct,sl,a,i,l,c,k⟩
theorem mbn2 {st:Stmt} {x y:Str} {ps:List Str} (d:ps.length=2) (h:∀ (kV doc pm:Value) (an:Option Addr) (cdv ct:Value) (b a:Value),bindArgs (fnOf x y (abl st) (abi st) (aai st) .none kV doc pm an cdv ct) ⟨[b,a],[]⟩=pure (ps.zip [b,a])):MBnd x y st ps:=by
 intro kV doc pm an cdv ct us c
 rw [d] at c
 obtain ⟨_,_,rfl⟩:=len2 c
 exact h _ _ _ _ _ _ _ _
theorem mbn3 {st:Stmt} {x y:Str} {ps:List Str} (f:ps.length=3) (h:∀ (kV doc pm:Value) (an:Option Addr) (cdv ct:Value) (b a c:Value),bindArgs (fnOf x y (abl st) (abi st) (aai st) .none kV doc pm an cdv ct) ⟨[b,a,c],[]⟩=pure (ps.zip [b,a,c])):MBnd x y st ps:=by
 intro kV doc pm an cdv ct us d
 rw [f] at d
 obtain ⟨_,_,_,rfl⟩:=len3 d
 exact h _ _ _ _ _ _ _ _ _
theorem aks {K:Frag} {C:Addr} {x y:Str} {st:Stmt} {ps:List Str} (q:MeIn K C x y st) (hb:MBnd x y st ps):∃ f fd,MeAt K C x y st ps f fd:=by
 obtain ⟨f,oc,od,kV,b,pm,an,d,ct,sl,a,i,l,c,k⟩:=q
 exact ⟨_,_,have F:=aqs (st:=st) l c k;⟨F,⟨a,i,k⟩,F.binds hb⟩⟩
theorem txt_mk {K:Frag} {h:Heap} {mg:Str->Option Value} (X:K.In h) (G:h.Ns mainGlobals mg)
  {j:Tok} {a:Addr} 
  (h0:FnIn K "is_whole" s_is_whole)
  (h1:FnIn K "is_between" s_is_between)
  (h2:FnIn K "need_number" s_need_number)
  (h3:FnIn K "is_place" s_is_place)
  (h4:FnIn K "is_tie" s_is_tie)
  (h5:FnIn K "are_ties" s_are_ties)
  (h6:FnIn K "is_rising" s_is_rising)
  (h7:FnIn K "tied_places" s_tied_places)
  (h8:FnIn K "far_from" s_far_from)
  (h9:FnIn K "need_place" s_need_place)
  (a5:FnIn K "all_far" s_all_far)
  (a6:FnIn K "is_joined" s_is_joined)
  (a4:FnIn K "need_joined" s_need_joined)
  (O:FnIn K "far_rows" s_far_rows)
  (R:FnIn K "most_far" s_most_far)
  (a8:FnIn K "farthest_two" s_farthest_two)
  (M:FnIn K "with_ties" s_with_ties)
  (S:FnIn K "far_or_none" s_far_or_none)
  (Z:FnIn K "_law_deck" s_law_deck)
  (L:FnIn K "_law_draw" s_law_draw)
  (Q:FnIn K "_law_tied" s_law_tied)
  (Y:FnIn K "_law_fars" s_law_fars)
  (a2:FnIn K "_law_order" s_law_order)
  (a7:FnIn K "_law_crowds" s_law_crowds)
  (N:FnIn K "_law_web" s_law_web)
  (P:FnIn K "_law_deed" s_law_deed)
  (U:FnIn K "_law_behind" s_law_behind)
  (T:FnIn K "_law_done" s_law_done)
  (a0:FnIn K "_law_far_of" s_law_far_of)
  (a1:FnIn K "_law_kept" s_law_kept)
  (a3:FnIn K "law" s_law)
  (m:nsIn K mainGlobals "ValueError" = some none)
  (F:nsIn K mainGlobals "all" = some none)
  (I:nsIn K mainGlobals "max" = some none)
  (w:nsIn K mainGlobals "sorted" = some none)
  (y:nsIn K mainGlobals "range" = some none)
  (B:nsIn K mainGlobals "dict" = some none)
  (z:nsIn K mainGlobals "list" = some none)
  (n:nsIn K mainGlobals "isinstance" = some none)
  (J:nsIn K mainGlobals "int" = some none)
  (H:nsIn K mainGlobals "len" = some none)
  (D:nsIn K mainGlobals "sum" = some none)
  (E:nsIn K mainGlobals "min" = some none)
  (A:nsIn K mainGlobals "bool" = some none)
  (x:nsIn K mainGlobals "tuple" = some none)
  (l:nsIn K mainGlobals "MOST_PLACES" = some (some (.int 60 j)))
  (b:nsIn K mainGlobals "Grower" = some (some (.ref a))) (o:PySem.W.plainGet K a Str.empty=true) (r:PySem.W.hasDictIn K a=true) (u:PySem.W.plainOver K a=true) (q:PySem.W.findIn K (.ref a) "__setattr__" = some (some (.builtin "object.__setattr__"))) (p:PySem.W.makesIn K a=true) (s:keepIn K (.ref a)=true)
  (i:PySem.W.findIn K (.ref a) "held" = some none)
  (d:MeIn K a "__init__" "Grower.__init__" s_Grower____init__)
  (c:MeIn K a "put_place" "Grower.put_place" s_Grower__put_place)
  (f:MeIn K a "put_tie" "Grower.put_tie" s_Grower__put_tie)
  (g:MeIn K a "become" "Grower.become" s_Grower__become)
  : Txt K mg where
  o_Grower:=⟨_,mg_of X G b,⟨o,r,u,q⟩,p,s⟩
  n_Grower_held:=fun C v=>by rw [mg_of X G b] at v;cases v;exact i
  m_Grower____init__:=fun C v=>by rw [mg_of X G b] at v;cases v;exact aks d (mbn2 rfl fun _ _ _ _ _ _ _ _=>rfl)
  m_Grower__put_place:=fun C v=>by rw [mg_of X G b] at v;cases v;exact aks c (mbn2 rfl fun _ _ _ _ _ _ _ _=>rfl)
  m_Grower__put_tie:=fun C v=>by rw [mg_of X G b] at v;cases v;exact aks f (mbn3 rfl fun _ _ _ _ _ _ _ _ _=>rfl)
  m_Grower__become:=fun C v=>by rw [mg_of X G b] at v;cases v;exact aks g (mbn2 rfl fun _ _ _ _ _ _ _ _=>rfl)
  b_ValueError:=mg_none_of X G m
  b_all:=mg_none_of X G F
  b_max:=mg_none_of X G I
  b_sorted:=mg_none_of X G w
  b_range:=mg_none_of X G y
  b_dict:=mg_none_of X G B
  b_list:=mg_none_of X G z
  b_isinstance:=mg_none_of X G n
  b_int:=mg_none_of X G J
  b_len:=mg_none_of X G H
  b_sum:=mg_none_of X G D
  b_min:=mg_none_of X G E
  b_bool:=mg_none_of X G A
  b_tuple:=mg_none_of X G x
  v_MOST_PLACES:=⟨_,mg_of X G l⟩
  d_is_whole:=aax X G h0 (bnd1 rfl fun _ _ _ _ _ _ _=>rfl)
  d_is_between:=aax X G h1 (bnd3 rfl fun _ _ _ _ _ _ _ _ _=>rfl)
  d_need_number:=aax X G h2 (bnd3 rfl fun _ _ _ _ _ _ _ _ _=>rfl)
  d_is_place:=aax X G h3 (bnd2 rfl fun _ _ _ _ _ _ _ _=>rfl)
  d_is_tie:=aax X G h4 (bnd2 rfl fun _ _ _ _ _ _ _ _=>rfl)
  d_are_ties:=aax X G h5 (bnd2 rfl fun _ _ _ _ _ _ _ _=>rfl)
  d_is_rising:=aax X G h6 (bnd1 rfl fun _ _ _ _ _ _ _=>rfl)
  d_tied_places:=aax X G h7 (bnd1 rfl fun _ _ _ _ _ _ _=>rfl)
  d_far_from:=aax X G h8 (bnd2 rfl fun _ _ _ _ _ _ _ _=>rfl)
  d_need_place:=aax X G h9 (bnd2 rfl fun _ _ _ _ _ _ _ _=>rfl)
  d_all_far:=aax X G a5 (bnd2 rfl fun _ _ _ _ _ _ _ _=>rfl)
  d_is_joined:=aax X G a6 (bnd1 rfl fun _ _ _ _ _ _ _=>rfl)
  d_need_joined:=aax X G a4 (bnd1 rfl fun _ _ _ _ _ _ _=>rfl)
  d_far_rows:=aax X G O (bnd1 rfl fun _ _ _ _ _ _ _=>rfl)
  d_most_far:=aax X G R (bnd1 rfl fun _ _ _ _ _ _ _=>rfl)
  d_farthest_two:=aax X G a8 (bnd1 rfl fun _ _ _ _ _ _ _=>rfl)
  d_with_ties:=aax X G M (bnd2 rfl fun _ _ _ _ _ _ _ _=>rfl)
  d_far_or_none:=aax X G S (bnd1 rfl fun _ _ _ _ _ _ _=>rfl)
  d_law_deck:=aax X G Z (bnd1 rfl fun _ _ _ _ _ _ _=>rfl)
  d_law_draw:=aax X G L (bnd2 rfl fun _ _ _ _ _ _ _ _=>rfl)
  d_law_tied:=aax X G Q (bnd1 rfl fun _ _ _ _ _ _ _=>rfl)
  d_law_fars:=aax X G Y (bnd1 rfl fun _ _ _ _ _ _ _=>rfl)
  d_law_order:=aax X G a2 (bnd2 rfl fun _ _ _ _ _ _ _ _=>rfl)
  d_law_crowds:=aax X G a7 (bnd1 rfl fun _ _ _ _ _ _ _=>rfl)
  d_law_web:=aax X G N (bnd1 rfl fun _ _ _ _ _ _ _=>rfl)
  d_law_deed:=aax X G P (bnd2 rfl fun _ _ _ _ _ _ _ _=>rfl)
  d_law_behind:=aax X G U (bnd2 rfl fun _ _ _ _ _ _ _ _=>rfl)
  d_law_done:=aax X G T (bnd2 rfl fun _ _ _ _ _ _ _ _=>rfl)
  d_law_far_of:=aax X G a0 (bnd1 rfl fun _ _ _ _ _ _ _=>rfl)
  d_law_kept:=aax X G a1 (bnd1 rfl fun _ _ _ _ _ _ _=>rfl)
  d_law:=aax X G a3 (bnd1 rfl fun _ _ _ _ _ _ _=>rfl)
theorem walk {l:PySem.W.OpenLaw} {q:Program} {b:List Str} {v:(Str->Option Value)->Heap->Prop} {j:World->Heap->Prop} {d:DefRec} {K:Params->Frag} (hn:l.most=some 63) (c:d.params.defaults=[]) (g:d.name = "law")
  (m:∀ (w:World) (h:Heap),j w h->(K w.params).In h)
  (F:∀ (w:World) (mg:Str->Option Value) (h:Heap),(K w.params).In h->h.Ns mainGlobals mg->Txt (K w.params) mg) :
  PySem.W.WalkO q b v j l.row.toRowW d [] (fun f vs=>PySem.call f vs):=by
 refine L2.walk_of (n:=63) (k:=15) (x:="script") (CX:=fun _=>CX0) (sp:=fun w=>ap0 (K w.params)) hn (by decide) c ⟨rfl,by decide,by decide⟩ m (fun w mg C h X G e=>?_) (fun _ _ a ns y _ o=>⟨a,ns,rfl,o,y,fun _=>rfl⟩) fun _ _ _ _ _ z=>z
 have T:=F w mg h X G
 rw [g] at e
 obtain ⟨A,i,D⟩:=T.d_law
 have p:=e.symm.trans D.mgx
 cases p
 refine ⟨i,fun s u=>?_,fun base _ _=>?_⟩
 ·obtain ⟨oc,od,kV,doc,pm,an,cdv,ct,osl,rfl,B,r⟩:=D.fn.ex
  exact .of_eq rfl
 ·exact az4 T D
end G
end
theorem PySem.W.Fast.tw2526835320357839407 : True := trivial
theorem PySem.W.Fast.tw6418857172802872384 : True := trivial
theorem PySem.W.Fast.tw14505758125210410240 : True := trivial
theorem PySem.W.Fast.tw4527059087903308793 : True := trivial
theorem PySem.W.Fast.tw6413739334849221508 : True := trivial
theorem PySem.W.Fast.tw4422897166173192048 : True := trivial
theorem PySem.W.Fast.tw208277907418138026 : True := trivial
theorem PySem.W.Fast.tw2034557643558323881 : True := trivial
theorem PySem.W.Fast.tw9184982987146842922 : True := trivial
theorem PySem.W.Fast.tw15138414997449632003 : True := trivial
theorem PySem.W.Fast.tw12286787429048574104 : True := trivial
theorem PySem.W.Fast.tw7784627809859279615 : True := trivial
theorem PySem.W.Fast.tw16851490179155271828 : True := trivial
theorem PySem.W.Fast.tw3882747200918876460 : True := trivial
theorem PySem.W.Fast.tw10834956186518462495 : True := trivial
theorem PySem.W.Fast.tw16551330159693223483 : True := trivial
theorem PySem.W.Fast.tw14419013480472886477 : True := trivial
theorem PySem.W.Fast.tw2537417454942042060 : True := trivial
theorem PySem.W.Fast.tw7627108101154686976 : True := trivial
theorem PySem.W.Fast.tw6391027182290933581 : True := trivial
theorem PySem.W.Fast.tw3471968442260183856 : True := trivial
theorem PySem.W.Fast.tw805910605334939696 : True := trivial
theorem PySem.W.Fast.tw11959323232676994352 : True := trivial
theorem PySem.W.Fast.tw8542723056044221920 : True := trivial
theorem PySem.W.Fast.tw1428066456572259 : True := trivial
theorem PySem.W.Fast.tw5220775967479592336 : True := trivial
theorem PySem.W.Fast.tw1430860341673382103 : True := trivial
theorem PySem.W.Fast.tw9527676964143422713 : True := trivial
theorem PySem.W.Fast.tw5080101360441092378 : True := trivial
theorem PySem.W.Fast.tw13284699879584272314 : True := trivial
theorem PySem.W.Fast.tw5795941243862924814 : True := trivial
theorem PySem.W.Fast.tw6775877741948907841 : True := trivial
theorem PySem.W.Fast.tw1589960213920808730 : True := trivial
theorem PySem.W.Fast.tw17066915961240792594 : True := trivial
theorem PySem.W.Fast.tw10328595833371216356 : True := trivial
theorem PySem.W.Fast.tw14436778762543941527 : True := trivial
theorem PySem.W.Fast.tw6005901477714006177 : True := trivial
theorem PySem.W.Fast.tw13009669745241670871 : True := trivial
theorem PySem.W.Fast.tw10156376431215360812 : True := trivial
theorem PySem.W.Fast.tw12736588382716803339 : True := trivial
theorem PySem.W.Fast.tw6126224207425372738 : True := trivial
theorem PySem.W.Fast.tw9874476494448283281 : True := trivial
theorem PySem.W.Fast.tw126037328863103247 : True := trivial
theorem PySem.W.Fast.tw16627536842760413739 : True := trivial
theorem PySem.W.Fast.tw845755698460557633 : True := trivial
theorem PySem.W.Fast.tw7022685054355896139 : True := trivial
theorem PySem.W.Fast.tw198410514518496659 : True := trivial
theorem PySem.W.Fast.tw18094995057994195145 : True := trivial
theorem PySem.W.Fast.tw6899564858416302505 : True := trivial
theorem PySem.W.Fast.tw11397856017665571515 : True := trivial
theorem PySem.W.Fast.tw8349383770083860360 : True := trivial
theorem PySem.W.Fast.tw10308648728952882771 : True := trivial
theorem PySem.W.Fast.tw9408729539184425721 : True := trivial
theorem PySem.W.Fast.tw4842784585771423305 : True := trivial
theorem PySem.W.Fast.tw16194145001276623562 : True := trivial
theorem PySem.W.Fast.tw2439594494797290479 : True := trivial
theorem PySem.W.Fast.tw4688781829637942909 : True := trivial
theorem PySem.W.Fast.tw5034559905764776559 : True := trivial
theorem PySem.W.Fast.tw6992873546618374563 : True := trivial
theorem PySem.W.Fast.tw5039356946439062501 : True := trivial
theorem PySem.W.Fast.tw4648512309974983649 : True := trivial
theorem PySem.W.Fast.tw13954268809548754376 : True := trivial
theorem PySem.W.Fast.tw10217986753154656563 : True := trivial
theorem PySem.W.Fast.tw12824870826051421696 : True := trivial
theorem PySem.W.Fast.tw12791863824187972421 : True := trivial
theorem PySem.W.Fast.tw9589653029575948361 : True := trivial
theorem PySem.W.Fast.tw10151572894821918096 : True := trivial
theorem PySem.W.Fast.tw11414862741830133873 : True := trivial
theorem PySem.W.Fast.tw9475207564804928179 : True := trivial
theorem PySem.W.Fast.tw16219746393691557399 : True := trivial
theorem PySem.W.Fast.tw1653999844954471111 : True := trivial
theorem PySem.W.Fast.tw3859001728904968439 : True := trivial
theorem PySem.W.Fast.tw16161531952881378538 : True := trivial
theorem PySem.W.Fast.tw9427814819155321603 : True := trivial
theorem PySem.W.Fast.tw5384256886957804352 : True := trivial
theorem PySem.W.Fast.tw12196648242870344928 : True := trivial
theorem PySem.W.Fast.tw13477192296763556783 : True := trivial
theorem PySem.W.Fast.tw4488652191072712745 : True := trivial
theorem PySem.W.Fast.tw5872863836055394254 : True := trivial
theorem PySem.W.Fast.tw1728571956975800191 : True := trivial
theorem PySem.W.Fast.tw13687147484940040865 : True := trivial
theorem PySem.W.Fast.tw10872397119643924713 : True := trivial
theorem PySem.W.Fast.tw7783698311119427277 : True := trivial
theorem PySem.W.Fast.tw14980095926202895665 : True := trivial
theorem PySem.W.Fast.tw2616702526051122861 : True := trivial
theorem PySem.W.Fast.tw4048415454188638280 : True := trivial
theorem PySem.W.Fast.tw17664967385143185960 : True := trivial
theorem PySem.W.Fast.tw8119817447826737002 : True := trivial
theorem PySem.W.Fast.tw1097305744119545871 : True := trivial
theorem PySem.W.Fast.tw4952629936302166981 : True := trivial
theorem PySem.W.Fast.tw15225095284995021803 : True := trivial
theorem PySem.W.Fast.tw2888356016273588022 : True := trivial
theorem PySem.W.Fast.tw5352741324796162587 : True := trivial
theorem PySem.W.Fast.tw18446425782740428426 : True := trivial
theorem PySem.W.Fast.tw10805588980186834788 : True := trivial
theorem PySem.W.Fast.tw12717060029734129832 : True := trivial
theorem PySem.W.Fast.tw3153628501938749375 : True := trivial
theorem PySem.W.Fast.tw9097440324694219166 : True := trivial
theorem PySem.W.Fast.tw3382101537495705910 : True := trivial
theorem PySem.W.Fast.tw17867130609726617494 : True := trivial
theorem PySem.W.Fast.tw2577069840932870768 : True := trivial
theorem PySem.W.Fast.tw14919666275231397775 : True := trivial
theorem PySem.W.Fast.tw1804930057516139809 : True := trivial
theorem PySem.W.Fast.tw8022560206823644790 : True := trivial
theorem PySem.W.Fast.tw12592476456858912597 : True := trivial
theorem PySem.W.Fast.tw7535508984371615468 : True := trivial
theorem PySem.W.Fast.tw16230937329702889406 : True := trivial
theorem PySem.W.Fast.tw8709121406577321985 : True := trivial
theorem PySem.W.Fast.tw11496659917199822382 : True := trivial
theorem PySem.W.Fast.tw8386408322157894113 : True := trivial
theorem PySem.W.Fast.tw4197670519332807759 : True := trivial
theorem PySem.W.Fast.tw8195573390059376227 : True := trivial
theorem PySem.W.Fast.tw15698495889748235185 : True := trivial
theorem PySem.W.Fast.tw11843056303712989743 : True := trivial
theorem PySem.W.Fast.tw17950691153951122550 : True := trivial
theorem PySem.W.Fast.tw2959124130149719624 : True := trivial
theorem PySem.W.Fast.tw3387106353765359636 : True := trivial
theorem PySem.W.Fast.tw284913348654318219 : True := trivial
theorem PySem.W.Fast.tw12924454561189216047 : True := trivial
theorem PySem.W.Fast.tw4520179530254863086 : True := trivial
theorem PySem.W.Fast.tw15656541333742607095 : True := trivial
theorem PySem.W.Fast.tw17475912785957166008 : True := trivial
theorem PySem.W.Fast.tw8938333957422528665 : True := trivial
theorem PySem.W.Fast.tw9860913692731172252 : True := trivial
theorem PySem.W.Fast.tw7278598919360118734 : True := trivial
theorem PySem.W.Fast.tw7512849522485605507 : True := trivial
theorem PySem.W.Fast.tw17194922629835110761 : True := trivial
theorem PySem.W.Fast.tw15878148471632585113 : True := trivial
theorem PySem.W.Fast.tw12922050385286594297 : True := trivial
theorem PySem.W.Fast.tw14416287522723365206 : True := trivial
theorem PySem.W.Fast.tw9494621859496375898 : True := trivial
theorem PySem.W.Fast.tw12596973212149035338 : True := trivial
theorem PySem.W.Fast.tw15968204217398673672 : True := trivial
theorem PySem.W.Fast.tw9376246787311816552 : True := trivial
theorem PySem.W.Fast.tw3111751576776026861 : True := trivial
theorem PySem.W.Fast.tw5160367236542964278 : True := trivial
theorem PySem.W.Fast.tw11180026649808708214 : True := trivial
theorem PySem.W.Fast.tw3851559231345911220 : True := trivial
theorem PySem.W.Fast.tw8590101999310955701 : True := trivial
theorem PySem.W.Fast.tw13418824992913880213 : True := trivial
theorem PySem.W.Fast.tw9789127801881636660 : True := trivial
theorem PySem.W.Fast.tw14961411633342282717 : True := trivial
theorem PySem.W.Fast.tw17260961540723921154 : True := trivial
theorem PySem.W.Fast.tw8602815822480280592 : True := trivial
theorem PySem.W.Fast.tw16682888707730636767 : True := trivial
theorem PySem.W.Fast.tw2748821368272682997 : True := trivial
theorem PySem.W.Fast.tw17787750940913810279 : True := trivial
theorem PySem.W.Fast.tw10877806802875174632 : True := trivial
theorem PySem.W.Fast.tw11358888689314864926 : True := trivial
theorem PySem.W.Fast.tw9280355258707411509 : True := trivial
theorem PySem.W.Fast.tw4139153386401006990 : True := trivial
theorem PySem.W.Fast.tw17792222941543594310 : True := trivial
theorem PySem.W.Fast.tw10944057816357236917 : True := trivial
theorem PySem.W.Fast.tw4903449904579356187 : True := trivial
theorem PySem.W.Fast.tw654360219823114058 : True := trivial
theorem PySem.W.Fast.tw17129887134639493483 : True := trivial
theorem PySem.W.Fast.tw1231465087422693330 : True := trivial
theorem PySem.W.Fast.tw17343024957503726953 : True := trivial
theorem PySem.W.Fast.tw3243459474720502178 : True := trivial
theorem PySem.W.Fast.tw11900743043201714333 : True := trivial
theorem PySem.W.Fast.tw4653556405968401513 : True := trivial
theorem PySem.W.Fast.tw11269063859514945776 : True := trivial
theorem PySem.W.Fast.tw4756370447656930123 : True := trivial
theorem PySem.W.Fast.tw2444076778898149578 : True := trivial
theorem PySem.W.Fast.tw12742935863209937226 : True := trivial
theorem PySem.W.Fast.tw2047898423529802994 : True := trivial
theorem PySem.W.Fast.tw10418110326869216422 : True := trivial
theorem PySem.W.Fast.tw15335083962142275759 : True := trivial
theorem PySem.W.Fast.tw17542427302728449072 : True := trivial
theorem PySem.W.Fast.tw10060590807704021429 : True := trivial
theorem PySem.W.Fast.tw10021528677574864965 : True := trivial
theorem PySem.W.Fast.tw14005500015458660755 : True := trivial
theorem PySem.W.Fast.tw8170269937454597980 : True := trivial
theorem PySem.W.Fast.tw859089361405771625 : True := trivial
theorem PySem.W.Fast.tw14700832412493729809 : True := trivial
theorem PySem.W.Fast.tw14387567384643498109 : True := trivial
theorem PySem.W.Fast.tw6160746627575191663 : True := trivial
theorem PySem.W.Fast.tw14849337698483898103 : True := trivial
theorem PySem.W.Fast.tw15715374474830775085 : True := trivial
theorem PySem.W.Fast.tw12275585955227275403 : True := trivial
theorem PySem.W.Fast.tw8770313809358913214 : True := trivial
theorem PySem.W.Fast.tw7019739197701474852 : True := trivial
theorem PySem.W.Fast.tw1303103579506721609 : True := trivial
theorem PySem.W.Fast.tw7969339302842529565 : True := trivial
open PySem PySem.W PyProof.Rows
set_option maxRecDepth 100000 in
set_option maxHeartbeats 0 in
theorem PySem.Challenge.cw_fewties_k41_places_and_ties_put_in_holds : PySem.Challenge.rw_fewties_k41_places_and_ties_put_in.Holds := by
 w_on;o_law;k_head;(case hw=>w_witness2)
 k_fill
 refine G.walk (l:=PySem.Challenge.rw_fewties_k41_places_and_ties_put_in) rfl rfl rfl (fun w h Y=>PySem.W.kIn_of Y) ?F
 case F =>
  intro w mg h KX GG
  refine' G.txt_mk KX GG ..
  all_goals try (refine' G.fn_in ?a_ ?l_ ?c_ ?k_;(case a_=>k_is);(case l_=>k_is);(case c_=>k_is);(case k_=>k_is))
  all_goals try k_is
  all_goals try (refine' G.me_in ?a_ ?i_ ?l_ ?c_ ?k_;(case a_=>k_is);(case i_=>k_is);(case l_=>k_is);(case c_=>k_is);(case k_=>k_is))
#print axioms PySem.Challenge.cw_fewties_k41_places_and_ties_put_in_holds
