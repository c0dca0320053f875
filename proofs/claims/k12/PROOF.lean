import PyProof.Rows.All
import Wide.All
import OpenK.AllK
import Wide.FinOn
import PyProof.EqAt
import PyProof.EqKinds
import PyProof.TupleCall
import PyProof.NeData
import PyProof.P3In
import PyProof.WalkInts
import PyProof.Rows.SortWalk
import PyProof.SumWalkG
import PyProof.Rows.CallKwBuiltin
import KE.KDictList
import PyProof.WalksEnum
import PyProof.ZipIter
import PyProof.ConsumeWalk
import PyProof.ListRange
import PyProof.TupleOfSeq
import PyProof.Rows.RuleN_abs
import KE.KDictOf
import PyProof.AttrMissHeap
import PyProof.Rows.SetFrom
import KE.KDictLaws
import PySem.Challenge.RW_fewties_k12_whole_wide_and_far
open PySem.W (Frag kitOne mg_of nsIn mg_none_of excIn fnOf mroIn keepIn codeIn)
set_option Elab.async false
set_option linter.all false
set_option compiler.extract_closed false
set_option maxRecDepth 100000
set_option maxHeartbeats 4000000
noncomputable section
abbrev aA0:=@List.getElem?_eq_getElem
abbrev aA1:=@List.getElem?_eq_some_iff
abbrev aA2:=@List.mem_of_getElem?
abbrev aA3:=@List.length_map
abbrev aA4:=@Array.getElem?_eq_getElem
abbrev aA5:=@List.getElem?_map
abbrev aA6:=@Nat.le_refl
abbrev aA7:=@List.mem_append
abbrev aA8:=@Array.length_toList
abbrev aA9:=@List.mem_cons
abbrev aB0:=@Bool.false_ne_true
abbrev aB1:=@List.length_append
abbrev aB2:=@List.size_toArray
abbrev aB3:=@List.mem_append_right
abbrev aB4:=@List.append_assoc
abbrev aB5:=@List.mem_cons_of_mem
abbrev aB6:=@Nat.ne_of_lt
abbrev aB7:=@List.mem_map
abbrev aB8:=@List.mem_cons_self
abbrev aB9:=@List.mem_range
abbrev aC0:=@List.mem_of_mem_take
abbrev aC1:=@List.take_append_drop
abbrev aC2:=@List.mem_singleton
abbrev aC3:=@List.getElem?_append_left
abbrev aC4:=@List.mem_of_mem_drop
abbrev aC5:=@Nat.lt_of_lt_of_le
abbrev aC6:=@Option.some.inj
abbrev aC7:=@List.mem_append_left
abbrev aC8:=@List.getElem?_append_right
abbrev aC9:=@List.pairwise_append
abbrev aD0:=@Nat.le_trans
abbrev aD1:=@List.map_cons
abbrev aD2:=@List.getElem?_set
abbrev aD3:=@List.getElem?_of_mem
abbrev aD4:=@List.getD_eq_getElem?_getD
abbrev aD5:=@Classical.byContradiction
abbrev aD6:=@Array.getElem?_toList
abbrev aD7:=@decide_eq_false
abbrev aD8:=@decide_eq_true
abbrev aD9:=@List.getElem?_range
abbrev aE0:=@List.map_map
abbrev aE1:=@List.length_range
abbrev aE2:=@List.mem_filter
abbrev aE3:=@List.getElem?_eq_none
abbrev aE4:=@Nat.lt_of_le_of_lt
abbrev aE5:=@List.map_append
abbrev aE6:=@List.length_cons
abbrev aE7:=@Int.emod_nonneg
abbrev aE8:=@Int.emod_lt_of_pos
abbrev aE9:=@List.nodup_append
abbrev aF0:=@List.Nodup.length_le_of_subset
abbrev aF1:=@List.map_congr_left
abbrev aF2:=@List.append_nil
abbrev aF3:=@List.take_of_length_le
abbrev aF4:=@List.getElem_mem
abbrev aF5:=@List.any_eq_true
abbrev aF6:=@List.all_eq_true
abbrev aF7:=@if_pos
abbrev aF8:=@if_neg
abbrev aF9:=@List.getElem?_eq_none_iff
abbrev aG0:=@Nat.lt_succ_of_lt
abbrev aG1:=@List.length_pos_iff
abbrev aG2:=@Nat.zero_le
abbrev aG3:=@List.pairwise_map
abbrev aG4:=@List.ext_getElem?
abbrev aG5:=@beq_iff_eq
abbrev aG6:=@Nat.lt_irrefl
abbrev aG7:=@Nat.le_of_lt
abbrev aG8:=@Array.toList_append
abbrev aG9:=@List.pairwise_iff_getElem
abbrev aH0:=@List.take_length
abbrev aH1:=@List.lookup_cons
abbrev aH2:=@List.length_take
abbrev aH3:=@Bool.and_eq_true
abbrev aH4:=@List.eq_nil_of_length_eq_zero
abbrev aH5:=@List.replicate_succ
abbrev aH6:=@List.take_add_one
abbrev aH7:=@List.getElem?_take_of_lt
abbrev aH8:=@List.mem_iff_getElem
abbrev aH9:=@List.getElem?_replicate
abbrev aI0:=@Bool.eq_iff_iff
abbrev aI1:=@Array.size_push
abbrev aI2:=@List.Pairwise.imp_of_mem
abbrev aI3:=@List.getElem?_cons_succ
abbrev aI4:=@Option.map_some
abbrev aI5:=@List.getElem?_drop
abbrev aI6:=@List.not_mem_nil
abbrev aI7:=@List.nodup_cons
abbrev aI8:=@List.pairwise_cons
abbrev aI9:=@Nat.sub_self
abbrev aJ0:=@Nat.lt_succ_self
abbrev aJ1:=@List.length_drop
abbrev aJ2:=@List.length_nil
open PySem PySem.Spec in
abbrev aJ3:=@wpAny_bind
open PySem PySem.Spec in
abbrev aJ4:=@wpAny_pure
open PySem PySem.Spec in
abbrev aJ5:=@Heap.get?_push_of_some
open PySem PySem.Spec in
abbrev aJ6:=@Heap.lt_size
open PySem PySem.Spec in
abbrev aJ7:=@Heap.get?_push_size
open PySem PySem.Spec in
abbrev aJ8:=@codeAny_mono
open PySem PySem.Spec in
abbrev aJ9:=@wpAny_holding
open PySem PySem.Spec in
abbrev aK0:=@PassesOwn.never
open PySem PySem.Spec in
abbrev aK1:=@Heap.get?_update_other
open PySem PySem.Spec in
abbrev aK2:=@wpAny_mono
open PySem PySem.Spec in
abbrev aK3:=@wpAny_newObj_type
open PySem PySem.Spec in
abbrev aK4:=@Around.under_plainId
open PySem PySem.Spec in
abbrev aK5:=@Heap.size_push
open PySem PySem.Spec in
abbrev aK6:=@wpAny_call_entry
open PySem PySem.Spec in
abbrev aK7:=@wpAny_truthy_bool
open PySem PySem.Spec in
abbrev aK8:=@wpAny_pyIter_list
open PySem PySem.Spec in
abbrev aK9:=@Heap.get?_update_self
open PySem PySem.Spec in
abbrev aL0:=@codeAny_builtin
namespace L2
open PySem PySem.Spec PyProof.Rows
abbrev Key:=Sum Int Str
def agw:Key->Value->Bool
 | .inl k,v=>Value.isInt k v
 | .inr x,v=>Value.isStrOf x v
def keyH (w:World):Key->Int
 | .inl k=>hashInt k
 | .inr x=>hashStr w x
theorem abn:∀ {k:Key} {v:Value},agw k v=true->(∃ i t,k=Sum.inl i/\v=Value.int i t)\/(∃ x t,k=Sum.inr x/\v=Value.str x t)
 | .inl i,v,h=>by
  obtain ⟨t,e⟩:=Value.isInt_shape (k:=i) (v:=v) h
  exact .inl ⟨i,t,rfl,e⟩
 | .inr x,v,h=>by
  obtain ⟨t,e⟩:=Value.isStrOf_shape (x:=x) (v:=v) h
  exact .inr ⟨x,t,rfl,e⟩
theorem ar0 (i:Int) (t:Tok):agw (.inl i) (.int i t)=true:=by simp [agw,Value.isInt]
theorem ar1 (x:Str) (t:Tok):agw (.inr x) (.str x t)=true:=by simp [agw,Value.isStrOf]
theorem azv (a b:Int):decide ((Sum.inl a:Key)=Sum.inl b)=(a == b):=by
 by_cases e:a=b
 ·subst e;simp
 ·have h:¬ (Sum.inl a:Key)=Sum.inl b:=fun q=>e (Sum.inl.inj q)
  rw [aD7 h]
  exact (beq_eq_false_iff_ne.mpr e).symm
theorem azw (a b:Str):decide ((Sum.inr a:Key)=Sum.inr b)=decide (a=b):=by
 by_cases e:a=b
 ·subst e;simp
 ·have h:¬ (Sum.inr a:Key)=Sum.inr b:=fun q=>e (Sum.inr.inj q)
  rw [aD7 h,aD7 e]
theorem azx (a:Int) (b:Str):decide ((Sum.inl a:Key)=Sum.inr b)=false:=aD7 (fun q=>nomatch q)
theorem azy (a:Str) (b:Int):decide ((Sum.inr a:Key)=Sum.inl b)=false:=aD7 (fun q=>nomatch q)
def aa6 (prog:Program) (w:World):PySem.KeyKind prog w Key where
 is:=agw
 hash:=keyH w
 inj:=fun v a b ha hb=>by
  rcases abn ha with ⟨i,t,rfl,rfl⟩ | ⟨x,t,rfl,rfl⟩
  ·rcases abn hb with ⟨j,u,rfl,e⟩ | ⟨y,u,rfl,e⟩
   ·injection e with e1 _;rw [e1]
   ·exact nomatch e
  ·rcases abn hb with ⟨j,u,rfl,e⟩ | ⟨y,u,rfl,e⟩
   ·exact nomatch e
   ·injection e with e1 _;rw [e1]
 byValue:=fun k v h=>by
  rcases abn h with ⟨i,t,rfl,rfl⟩ | ⟨x,t,rfl,rfl⟩ <;> rfl
 pyHash:=fun hv h=>by
  rcases abn hv with ⟨i,t,rfl,rfl⟩ | ⟨x,t,rfl,rfl⟩
  ·exact wpAny_pyHash_int h
  ·exact wpAny_pyHash_str h
 eqBool:=fun hu hv h=>by
  rcases abn hu with ⟨i,t,rfl,rfl⟩ | ⟨x,t,rfl,rfl⟩
  ·rcases abn hv with ⟨j,u,rfl,rfl⟩ | ⟨y,u,rfl,rfl⟩
   ·rw [azv] at h;exact wpAny_eqBool_int h
   ·rw [azx] at h;exact SeqAt.EqAt.int_str i t y u _ _ _ _ h
  ·rcases abn hv with ⟨j,u,rfl,rfl⟩ | ⟨y,u,rfl,rfl⟩
   ·rw [azy] at h;exact SeqAt.EqAt.str_int x t j u _ _ _ _ h
   ·rw [azw] at h;exact wpAny_eqBool_str h
 «strs»:=fun k x t v h=>by
  rcases abn h with ⟨i,u,rfl,e⟩ | ⟨y,u,rfl,e⟩
  ·exact nomatch e
  ·injection e with e1 _
   subst e1
   cases v <;> rfl
theorem ahf (prog:Program) (w:World) (i:Int) (t:Tok):(aa6 prog w).is (.inl i) (.int i t)=true:=ar0 i t
theorem aoc (prog:Program) (w:World) (x:Str) (t:Tok):(aa6 prog w).is (.inr x) (.str x t)=true:=ar1 x t
inductive V where
 | non | bl (b:Bool) | int (i:Int) | str (x:Str) | byt (b:Array UInt8) | flt (b:UInt64) | ref (a:Addr) | ty (n:String)
 deriving DecidableEq
def RelV:V->Value->Prop
 | .non,u=>u=Value.none
 | .bl b,u=>u=Value.bool b
 | .int i,u=>∃ t,u=Value.int i t
 | .str x,u=>∃ t,u=Value.str x t
 | .byt b,u=>∃ t,u=Value.bytes b t
 | .flt b,u=>∃ t,u=Value.float b t
 | .ref a,u=>u=Value.ref a
 | .ty n,u=>u=Value.type n
abbrev Vals:List V->List Value->Prop:=Paired RelV
theorem Vals.length {xs:List V} {us:List Value} (r:Vals xs us):xs.length=us.length:=Paired.length r
theorem Vals.get:∀ {xs:List V} {us:List Value} {i:Nat} {x:V},Vals xs us->xs[i]?=some x->∃ u,us[i]?=some u/\RelV x u
 | _,_,_,_,.nil,e=>by simp at e
 | _,_,0,_,.cons r _,e=>by simp at e;subst e;exact ⟨_,rfl,r⟩
 | _,_,i+1,x,.cons _ t,e=>by
  obtain ⟨u,b,a⟩:=Vals.get (i:=i) (x:=x) t (by simpa using e)
  exact ⟨u,by simpa using b,a⟩
theorem Vals.set {x:V} {u:Value} (r:RelV x u):∀ {xs:List V} {us:List Value} (i:Nat),Vals xs us->Vals (xs.set i x) (us.set i u)
 | _,_,_,.nil => .nil
 | _,_,0,.cons _ t => .cons r t
 | _,_,i+1,.cons q t => .cons q (Vals.set r i t)
theorem Vals.append:∀ {xs ys:List V} {us a:List Value},Vals xs us->Vals ys a->Vals (xs ++ ys) (us ++ a)
 | _,_,_,_,.nil,s=>s
 | _,_,_,_,.cons r t,s => .cons r (Vals.append t s)
def RelO:Option V->Option Value->Prop
 | some v,some u=>RelV v u
 | none,none=>True
 | _,_=>False
def KV {κ:Type}:List (κ × V)->List (κ × Value)->Prop:=Paired fun (p : κ × V) (q : κ × Value)=>p.1=q.1/\RelV p.2 q.2
def kV:Key->V
 | .inl i => .int i
 | .inr x => .str x
inductive HO where
 /-- a list -/
 | lst (xs:List V)
 /-- a tuple (never changes) -/
 | tup (xs:List V)
 /-- a dict whose keys are ints and texts; one whose keys are tuples of ints and texts (the empty one is both) -/
 | dK (kvs:List (Key × V)) | dT (kvs:List (List Key × V))
 /-- a set of ints: its members, its size -/
 | set (S:Int->Bool) (n:Nat)
 /-- an instance of the class at C, its dict at dx, its attributes -/
 | ins (C dx:Addr) (fs:List (Str × V))
 /-- the dict of the instance at x -/
 | own (x:Addr)
 /-- the dict of an exception -/
 | xd (fs:List (Str × V))
 /-- a bound method, f of x -/
 | met (f x:Addr)
 /-- a range object lo, lo + 1, .. below hi -/
 | rng (lo hi:Int)
 /-- a thing that is known to the object (the script; a dict while a loop walks it): read, never written while it is so -/
 | frz (o:Obj) (u:HO)
 /-- a code object's table -/
 | tbl (ps:Array Value)
 /-- any other thing, by what is true of its one object (a def of one's own: SetO a S n:=HO.ext fun h => ..) -/
 | ext (φ:Heap->Prop)
abbrev Hp:=Addr->Option HO
def upd (H:Hp) (a:Addr) (o:HO):Hp:=fun b=>if b=a then some o else H b
theorem aag {H:Hp} {a:Addr} {o:HO}:upd H a o a=some o:=by unfold upd;rw [aF7 rfl]
theorem aad {H:Hp} {a b:Addr} {o:HO} (h:b ≠ a):upd H a o b=H b:=by unfold upd;rw [aF8 h]
theorem awo {H:Hp} {a b:Addr} {o u:HO} (h:H a=some o) (h':H b=some u) (d:o ≠ u):a ≠ b:=by
 intro e;subst e;rw [h] at h';exact d (aC6 h')
theorem aai {H:Hp} {a b:Addr} {o:HO} (h:H a=some o) (h':H b=none):a ≠ b:=by
 intro e;subst e;rw [h] at h';cases h'
section
variable (P:Program) (w:World)
def ObjOk (H:Hp) (h:Heap) (a:Addr):HO->Prop
 | .lst xs=>xs.length<=sizeLine/\∃ (its:List Value) (n:Nat),Vals xs its/\h.get? a=some { cls:=.type "list",data:=.seq its.toArray n }
 | .tup xs=>xs.length<=sizeLine/\∃ its:List Value,Vals xs its/\IsTup h a its.toArray
 | .dK kvs=>kvs.length<=sizeLine/\(a == sysModules)=false/\∃ vs,KV kvs vs/\h.DictOf (aa6 P w) a vs
 | .dT kvs=>kvs.length<=sizeLine/\(a == sysModules)=false/\∃ xs:List (List Key × Addr × Value),
   Paired (fun (p:List Key × V) (q:List Key × Addr × Value)=>p.1=q.1/\H q.2.1=some (.tup (p.1.map kV))/\RelV p.2 q.2.2) kvs xs /\
   ∃ o es ep,h.get? a=some o/\o.ExactDict/\o.data=.dict es ep/\es.toList=xs.map (entryOfKey (tupleKind (aa6 P w)))/\(xs.map (·.1)).Nodup
 | .set S n=>h.SetOf (intKind P w) a S n
 | .ins C dx fs=>H dx=some (.own a)/\fs.length<=1000/\dx ≠ a/\h.get? a=some (PySem.W.instObj C dx) /\
   ∃ mA,h.Ns1 dx mA/\(∀ f,RelO (fs.lookup f) (mA f))/\PySem.Within mA (fs.map (·.1))
 | .own _=>∃ o,h.get? a=some o
 | .xd fs=>∃ mA,h.Ns1 a mA/\∀ f,RelO (fs.lookup f) (mA f)
 | .rng lo hi=>∃ t u v,h.get? a=some { cls:=.type "range",data:=.fields #[.int lo t,.int hi u,.int 1 v] }
 | .frz o u=>h.get? a=some o/\ObjOk H h a u
 | .tbl ps=>h.get? a=some { cls:=.none,data:=.fields ps }
 | .met f x=>h.get? a=some (PySem.W.methodObj (.ref f) (.ref x))
 | .ext φ => φ h/\(∃ o,h.get? a=some o)/\∀ h1 h2:Heap,φ h1->(∀ o,h1.get? a=some o->h2.get? a=some o)->φ h2
def HOk (H:Hp) (h:Heap):Prop:=∀ a o,H a=some o->ObjOk P w H h a o
end
section
variable {P:Program} {w:World} {H H':Hp} {h h':Heap} {a:Addr} {o:HO}
theorem ObjOk.lt (x:ObjOk P w H h a o):a < h.objs.size:=by
 cases o with
 | lst xs=>obtain ⟨_,_,_,_,e⟩:=x;exact aJ6 e
 | tup xs=>obtain ⟨_,_,_,p⟩:=x;exact p.lt
 | dK kvs=>obtain ⟨_,_,_,_,o,_,_,e,_⟩:=x;exact aJ6 e
 | dT kvs=>obtain ⟨_,_,_,_,o,_,_,e,_⟩:=x;exact aJ6 e
 | set S n=>obtain ⟨o,_,_,_,e,_⟩:=x;exact aJ6 e
 | ins C dx fs=>obtain ⟨_,_,_,e,_⟩:=x;exact aJ6 e
 | own y=>obtain ⟨_,e⟩:=x;exact aJ6 e
 | xd fs=>obtain ⟨_,⟨_,_,_,e,_⟩,_⟩:=x;exact aJ6 e
 | rng lo hi=>obtain ⟨_,_,_,e⟩:=x;exact aJ6 e
 | frz ob u=>obtain ⟨e,_⟩:=x;exact aJ6 e
 | tbl ps=>exact aJ6 (show h.get? a=some _ from x)
 | met f y=>exact aJ6 (show h.get? a=some _ from x)
 | ext φ=>obtain ⟨_,⟨_,e⟩,_⟩:=x;exact aJ6 e
theorem Paired.mapP {α β:Type} {F G : α->β->Prop}:∀ {l₁:List α} {l₂:List β},Paired F l₁ l₂->(∀ a b,F a b->G a b)->Paired G l₁ l₂
 | _,_,.nil,_ => .nil
 | _,_,.cons r t,f => .cons (f _ _ r) (Paired.mapP t f)
theorem ObjOk.stay (x:ObjOk P w H h a o) (k:∀ b u,(b=a\/H b=some (.own a))->h.get? b=some u->h'.get? b=some u)
  (i:∀ b,H b=some (.own a)->H' b=some (.own a)) (l:∀ b xs,H b=some (.tup xs)->H' b=some (.tup xs)):ObjOk P w H' h' a o:=by
 induction o with
 | lst xs=>obtain ⟨z,its,n,r,e⟩:=x;exact ⟨z,its,n,r,k _ _ (.inl rfl) e⟩
 | tup xs=>obtain ⟨z,its,r,g,e,c⟩:=x;exact ⟨z,its,r,g,k _ _ (.inl rfl) e,c⟩
 | dK kvs=>obtain ⟨z,y,vs,r,g,es,ep,e,c⟩:=x;exact ⟨z,y,vs,r,g,es,ep,k _ _ (.inl rfl) e,c⟩
 | dT kvs =>
  obtain ⟨z,y,xs,r,g,es,ep,e,c⟩:=x
  exact ⟨z,y,xs,Paired.mapP r fun p q z=>⟨z.1,l _ _ z.2.1,z.2.2⟩,g,es,ep,k _ _ (.inl rfl) e,c⟩
 | set S n=>obtain ⟨g,es,ep,t,e,c⟩:=x;exact ⟨g,es,ep,t,k _ _ (.inl rfl) e,c⟩
 | ins C dx fs =>
  obtain ⟨d,z,ne,e,mA,⟨od,es,ep,j,c⟩,r⟩:=x
  exact ⟨i _ d,z,ne,k _ _ (.inl rfl) e,mA,⟨od,es,ep,k _ _ (.inr d) j,c⟩,r⟩
 | own y=>obtain ⟨g,e⟩:=x;exact ⟨g,k _ _ (.inl rfl) e⟩
 | xd fs=>obtain ⟨mA,⟨od,es,ep,e,c⟩,r⟩:=x;exact ⟨mA,⟨od,es,ep,k _ _ (.inl rfl) e,c⟩,r⟩
 | rng lo hi=>obtain ⟨t,u,v,e⟩:=x;exact ⟨t,u,v,k _ _ (.inl rfl) e⟩
 | frz g u ih=>obtain ⟨e,q⟩:=x;exact ⟨k _ _ (.inl rfl) e,ih q⟩
 | tbl ps =>
  have e:h.get? a=some { cls:=.none,data:=.fields ps }:=x
  show h'.get? a=some { cls:=.none,data:=.fields ps }
  exact k a _ (.inl rfl) e
 | met f y =>
  have e:h.get? a=some (PySem.W.methodObj (.ref f) (.ref y)):=x
  show h'.get? a=some (PySem.W.methodObj (.ref f) (.ref y))
  exact k a _ (.inl rfl) e
 | ext φ=>obtain ⟨p,⟨o,e⟩,st⟩:=x;exact ⟨st _ _ p fun o q=>k _ _ (.inl rfl) q,⟨o,k _ _ (.inl rfl) e⟩,st⟩
theorem HOk.lt (x:HOk P w H h) (e:H a=some o):a < h.objs.size:=(x a o e).lt
theorem HOk.fresh (x:HOk P w H h) (e:h.objs.size<=a):H a=none:=by
 cases q:H a with
 | none=>rfl
 | some u=>exact absurd (aC5 (x.lt q) e) (aG6 _)
theorem HOk.kept (x:HOk P w H h) (k:∀ b u,h.get? b=some u->h'.get? b=some u):HOk P w H h':=fun a o e =>
 (x a o e).stay (fun b u _ q=>k b u q) (fun _ q=>q) fun _ _ q=>q
theorem HOk.laid (x:HOk P w H h) (k:∀ b u,h.get? b=some u->h'.get? b=some u) (d:h.objs.size<=a) (new:ObjOk P w (upd H a o) h' a o):HOk P w (upd H a o) h':=fun b u e=>by
 have hn:=x.fresh d
 by_cases hb:b=a
 ·subst hb;rw [aag] at e;cases e;exact new
 ·rw [aad hb] at e
  exact (x b u e).stay (fun c v _ q=>k c v q) (fun c q=>by rw [aad (aai q hn)];exact q) fun c xs q=>by rw [aad (aai q hn)];exact q
end
def Rd (H:Hp) (a:Addr) (u:HO):Prop:=H a=some u\/∃ o,H a=some (.frz o u)
theorem Rd.ok {P:Program} {w:World} {H:Hp} {h:Heap} {a:Addr} {u:HO} (r:Rd H a u) (x:HOk P w H h):ObjOk P w H h a u:=by
 rcases r with r | ⟨o,r⟩
 ·exact x a u r
 ·obtain ⟨_,q⟩:=x a _ r
  exact q
def Mut:Option HO->Prop
 | some (.lst _)=>True
 | some (.dK _)=>True
 | some (.dT _)=>True
 | some (.set _ _)=>True
 | some (.ins _ _ _)=>True
 | some (.ext _)=>True
 | _=>False
section
variable {P:Program} {w:World} {H:Hp} {h h':Heap} {x e:Addr} {o':HO}
theorem HOk.write (ok:HOk P w H h) (g:Mut (H x)) (j:e=x\/H e=some (.own x)) (k:∀ b u,b ≠ e->h.get? b=some u->h'.get? b=some u) (i:∃ u,h'.get? e=some u)
  (new:ObjOk P w (upd H x o') h' x o'):HOk P w (upd H x o') h':=fun b u q=>by
 have a:∀ c y,H c=some (.own y)->c ≠ x:=fun c y r z=>by subst z;rw [r] at g;exact g
 have d:∀ c xs,H c=some (.tup xs)->c ≠ x:=fun c xs r z=>by subst z;rw [r] at g;exact g
 by_cases hb:b=x
 ·subst hb;rw [aag] at q;cases q;exact new
 ·rw [aad hb] at q
  by_cases hbe:b=e
  ·have l:H b=some (.own x):=by
    rcases j with z | z
    ·exact absurd (hbe.trans z) hb
    ·rw [hbe];exact z
   rw [q] at l;cases l
   obtain ⟨v,m⟩:=i
   exact ⟨v,by rw [hbe];exact m⟩
  ·refine (ok b u q).stay (fun c v f r=>k c v ?_ r) (fun c r=>by rw [aad (a c b r)];exact r) fun c xs r=>by rw [aad (d c xs r)];exact r
   rcases f with rfl | f
   ·exact hbe
   ·rintro rfl
    rcases j with z | z
    ·exact a c b f z
    ·rw [f] at z;cases z;exact hb rfl
end
structure Un (fs ex:List Addr) (H H':Hp) (h h':Heap):Prop where
 keep:∀ b o,h.get? b=some o->H b=none->b ∉ fs->b ∉ ex->h'.get? b=some o
 slot:∀ b o,h.get? b=some o->H b=none->b∈fs->b ∉ ex->∃ sl,h'.get? b=some { o with slots:=sl }
 free:∀ b o,h.get? b=some o->H b=none->b ∉ ex->H' b=none
 there:∀ b o,h.get? b=some o->b ∉ ex->∃ o',h'.get? b=some o'
 tups:∀ b xs,H b=some (.tup xs)->H' b=some (.tup xs)
 frzs:∀ b o u,H b=some (.frz o u)->H' b=some (.frz o u)
 tbls:∀ b ps,H b=some (.tbl ps)->∃ more,H' b=some (.tbl (ps ++ more))
section
variable {fs fs' ex ex':List Addr} {H H1 H2:Hp} {h h1 h2 h':Heap} {a x e:Addr} {o:HO}
theorem Un.any (u:Un fs ex H H1 h h1) {b:Addr} {a:Obj} (q:h.get? b=some a) (n:H b=none) (c:b ∉ ex):∃ sl,h1.get? b=some { a with slots:=sl }:=by
 by_cases hb:b∈fs
 ·exact u.slot b a q n hb c
 ·exact ⟨a.slots,u.keep b a q n hb c⟩
theorem Un.kept (k:∀ b u,h.get? b=some u->h'.get? b=some u):Un fs ex H H h h' :=
 ⟨fun b a q _ _ _=>k b a q,fun b a q _ _ _=>⟨a.slots,k b a q⟩,fun _ _ _ n _=>n,fun b a q _=>⟨a,k b a q⟩,fun _ _ q=>q,fun _ _ _ q=>q,fun _ ps q=>⟨#[],by rw [q];simp⟩⟩
theorem Un.refl:Un fs ex H H h h:=Un.kept fun _ _ q=>q
theorem Un.laid (k:∀ b u,h.get? b=some u->h'.get? b=some u) (c:h.objs.size<=a) (hn:H a=none):Un fs ex H (upd H a o) h h' where
 keep:=fun b u q _ _ _=>k b u q
 slot:=fun b u q _ _ _=>⟨u.slots,k b u q⟩
 free:=fun b u q n _=>by rw [aad (aB6 (aC5 (aJ6 q) c))];exact n
 there:=fun b u q _=>⟨u,k b u q⟩
 tups:=fun b xs q=>by rw [aad (aai q hn)];exact q
 frzs:=fun b u xs q=>by rw [aad (aai q hn)];exact q
 tbls:=fun b ps q=>⟨#[],by rw [aad (aai q hn),q];simp⟩
theorem Un.write (a:Mut (H x)) (f:e=x\/H e=some (.own x)) (k:∀ b u,b ≠ e->h.get? b=some u->h'.get? b=some u) (c:∃ u,h'.get? e=some u):Un fs ex H (upd H x o) h h':=by
 have d:∀ b,H b=none->b ≠ x:=fun b n z=>by subst z;rw [n] at a;exact a
 have hb:∀ b,H b=none->b ≠ e:=fun b n z=>by
  subst z
  rcases f with r | r
  ·exact d b n r
  ·rw [n] at r;cases r
 have hm:∀ b u,H b=some u->¬ Mut (some u)->b ≠ x:=fun b u q g z=>by subst z;rw [q] at a;exact g a
 refine ⟨fun b u q n _ _=>k b u (hb b n) q,fun b u q n _ _=>⟨u.slots,k b u (hb b n) q⟩,fun b u q n _=>by rw [aad (d b n)];exact n,fun b u q _=>?_,
  fun b xs q=>by rw [aad (hm b _ q fun z=>z)];exact q,fun b u xs q=>by rw [aad (hm b _ q fun z=>z)];exact q,fun b ps q=>⟨#[],by rw [aad (hm b _ q fun z=>z),q];simp⟩⟩
 by_cases hbe:b=e
 ·subst hbe;exact c
 ·exact ⟨u,k b u hbe q⟩
end
def trk (h:Heap) (H:Hp):List Addr:=(List.range h.objs.size).filter fun a=>(H a).isSome
def hidT (h:Heap) (H:Hp):Heap:=PySem.W.hideAll h (trk h H)
theorem ar2 (h:Heap) (H:Hp):(hidT h H).objs.size=h.objs.size:=PySem.W.hideAll_size _ _
theorem aun {h:Heap} {H:Hp} {b:Addr} {o:Obj} (e:h.get? b=some o) (n:H b=none):(hidT h H).get? b=some o :=
 PySem.W.hideAll_get _ e fun hm=>by
  have q:(H b).isSome=true:=(aE2.mp hm).2
  rw [n] at q;simp at q
theorem axa {h:Heap} {H:Hp} {b:Addr} {o:Obj} (e:(hidT h H).get? b=some o):h.get? b=some o/\H b=none:=by
 have a:h.get? b=some o:=PySem.W.of_hideAll (trk h H) e
 refine ⟨a,?_⟩
 cases q:H b with
 | none=>rfl
 | some x =>
  have hm:b∈trk h H:=aE2.mpr ⟨aB9.mpr (aJ6 a),by simp [q]⟩
  have z:(hidT h H).get? b=none:=PySem.W.hideAll_none (trk h H) hm
  rw [z] at e;cases e
def axb (g h:Heap) (L:Addr):List (Addr × Obj):=(List.range h.objs.size).filterMap fun a=>if a=L\/(g.get? a).isSome=true then none else (h.get? a).map fun o=>(a,o)
def rest (g h:Heap) (L d:Addr):List (Addr × Obj):=(axb g h L).filter fun p=>decide (p.1 ≠ d)
structure Mod (K:Frag) (mg:Str->Option Value) (base:Heap):Prop where
 kin:K.In base
 glob:base.Ns mainGlobals mg
 blt:∃ mb,base.Ns builtinsNs mb/\∀ x:Str,x ≠ "__name__"->mb x=bootBuiltins x
 nolimit:base.NoLimit
/-- the context: a def's body (or a comprehension's block) running. base: fixed through the whole law; s₀, H₀: the entry; outer: the frames whose slots others may change (a def's callers); stack: all frames that run;
  ex: iterators that were made ahead of the entry and are walked here (a comprehension's);fn: the names whose cells were made at the entry (a def: all;a comprehension's block: its own);calm: not within an except suite;pn: pins that every state bears;xe: what is wanted of an exception that leaves the code -/
structure Cx where
 prog:Program
 w:World
 K:Frag
 mg:Str->Option Value
 base:Heap
 A:Around
 N:List Str
 s₀:Shared
 H₀:Hp
 env:Env
 outer:List Env
 stack:List Env
 ex:List Addr
 fn:Str->Bool
 calm:Bool
 pn:List (Addr × Obj)
 xe:Value->Shared->Prop
def frs (l:List Env):List Addr:=l.filterMap (·.frame)
abbrev Cx.fs (X:Cx):List Addr:=frs X.outer
def Vis (sc:Scope) (x:Str):Prop:=sc.names.lookup x=some .local\/sc.names.lookup x=some .cell\/sc.names.lookup x=some .free
def Loc (sc:Scope) (x:Str):Prop:=sc.names.lookup x=some .local\/sc.names.lookup x=some .cell
def Look (env:Env) (h:Heap) (m:Str->Option Value) (x:Str) (u:Value):Prop :=
 (env.kindOf x=some .local/\m x=some u)\/((env.kindOf x=some .cell\/env.kindOf x=some .free)/\∃ c,env.cells.lookup x=some c/\h.IsCell c (some u))
structure Cx.Ok (X:Cx):Prop where
 mod:Mod X.K X.mg X.base
 kind:X.env.scope.kind=.function
 glob:X.env.globals=mainGlobals
 blt:X.env.builtins=builtinsNs
 above:X.s₀.heap.objs.size<=X.env.locals
 inj:∀ x y c,X.env.cells.lookup x=some c->X.env.cells.lookup y=some c->x=y
 has:∀ x,(X.env.kindOf x=some .cell\/X.env.kindOf x=some .free)->∃ c,X.env.cells.lookup x=some c
 cab:∀ x c,X.fn x=true->X.env.cells.lookup x=some c->X.s₀.heap.objs.size<=c
 hd:X.calm=true->X.A.handled=none
 frames:X.A.frames=some X.stack
 stk:X.stack=X.outer\/(X.stack=X.env :: X.outer/\X.env.frame=some X.env.locals)
 exf:∀ b∈X.ex,b ≠ X.env.locals/\∀ x c,X.env.cells.lookup x=some c->c ≠ b
 bs:∀ b o,X.base.get? b=some o->X.s₀.heap.get? b=some o/\X.H₀ b=none
 bsz:X.base.objs.size<=X.s₀.heap.objs.size
 noex:∀ b o,X.base.get? b=some o->b ∉ X.ex
 exfs:∀ b∈X.ex,b ∉ X.fs
 funs:X.s₀.heap.FunFrames X.base X.outer
 frf:∀ b∈X.fs,X.H₀ b=none
structure Inv (X:Cx) (pins:List (Addr × Obj)) (σ:List (Option V)) (H:Hp) (s:Shared):Prop where
 ok:X.Ok
 os:s.os=X.s₀.os
 bare:AllBare s.gens
 base:Un X.fs X.ex X.H₀ H X.s₀.heap s.heap
 loc:∃ m,s.heap.Ns X.env.locals m/\∀ (i:Nat) (x:Str) (v:V),X.N[i]?=some x->σ[i]?=some (some v)->Vis X.env.scope x->∃ u,RelV v u/\Look X.env s.heap m x u
 cell:∀ x c,X.env.cells.lookup x=some c->∃ v,s.heap.IsCell c v
 free:H X.env.locals=none
 freeC:∀ x c,X.env.cells.lookup x=some c->H c=none
 pin:∀ p∈X.pn ++ pins,s.heap.get? p.1=some p.2/\H p.1=none/\p.1 ≠ X.env.locals/\p.1 ∉ X.fs/\∀ v,p.2.data ≠ .cell v
 hok:HOk X.prog X.w H s.heap
 len : σ.length=X.N.length
section
variable {X:Cx} {pins:List (Addr × Obj)} {σ:List (Option V)} {H H':Hp} {s:Shared} {h':Heap}
theorem Cx.Ok.nofr (ok:X.Ok) {b:Addr} {o:Obj} (e:X.base.get? b=some o):b ∉ X.fs:=fun hb=>by
 have:=(ok.funs.mem hb).1
 rw [e] at this;cases this
theorem Inv.bs (I:Inv X pins σ H s):∀ b o,X.base.get? b=some o->s.heap.get? b=some o/\H b=none:=fun b o e =>
 ⟨I.base.keep b o (I.ok.bs b o e).1 (I.ok.bs b o e).2 (I.ok.nofr e) (I.ok.noex b o e),I.base.free b o (I.ok.bs b o e).1 (I.ok.bs b o e).2 (I.ok.noex b o e)⟩
theorem Inv.bk (I:Inv X pins σ H s):∀ b o,X.base.get? b=some o->s.heap.get? b=some o:=fun b o e=>(I.bs b o e).1
theorem Inv.mod (I:Inv X pins σ H s):Mod X.K X.mg X.base:=I.ok.mod
theorem Inv.kIn (I:Inv X pins σ H s):X.K.In s.heap:=I.ok.mod.kin.keeps I.bk
theorem Inv.lt (I:Inv X pins σ H s):X.env.locals < s.heap.objs.size:=let ⟨_,hn,_⟩:=I.loc;hn.lt
theorem Inv.sz (I:Inv X pins σ H s):X.s₀.heap.objs.size<=s.heap.objs.size:=aD0 I.ok.above (aG7 I.lt)
theorem Inv.nofs (I:Inv X pins σ H s) {a:Addr} (h:s.heap.objs.size<=a):a ∉ X.fs:=fun hb=>by
 obtain ⟨_,o,b,_⟩:=I.ok.funs.mem hb
 exact absurd (aC5 (aJ6 b) (aD0 I.sz h)) (aG6 _)
theorem Inv.cne (I:Inv X pins σ H s):∀ x c,X.env.cells.lookup x=some c->c ≠ X.env.locals:=fun x c e z=>by
 obtain ⟨v,o,d,hd⟩:=I.cell x c e
 obtain ⟨m,⟨o',es,ep,a,b,_⟩,_⟩:=I.loc
 rw [z,a] at d;cases d;rw [b] at hd;cases hd
theorem Inv.funs (I:Inv X pins σ H s):s.heap.FunFrames X.base X.outer:=by
 have all:∀ (l:List Env),(∀ b∈frs l,b∈X.fs)->X.s₀.heap.FunFrames X.base l->s.heap.FunFrames X.base l:=by
  intro l
  induction l with
  | nil=>intro _ _;trivial
  | cons env r ih =>
   intro hs f
   obtain ⟨g,⟨L,o,hf,hn,c,hd⟩,d⟩:=f
   have a:L∈X.fs:=hs L (by unfold frs;rw [List.filterMap_cons,hf];exact aB8)
   obtain ⟨sl,e⟩:=I.base.slot L o c (I.ok.frf L a) a fun z=>I.ok.exfs L z a
   exact ⟨g,⟨L,_,hf,hn,e,hd⟩,ih (fun b hb=>hs b (by unfold frs;rw [List.filterMap_cons,hf];exact aB5 _ hb)) d⟩
 exact all X.outer (fun _ hb=>hb) I.ok.funs
theorem Inv.stack (I:Inv X pins σ H s):s.heap.FunFrames X.base X.stack:=by
 rcases I.ok.stk with e | ⟨e,hf⟩
 ·rw [e];exact I.funs
 ·rw [e]
  obtain ⟨m,hn,_⟩:=I.loc
  refine .cons (by rw [I.ok.kind];decide) hf hn ?_ I.funs
  exact Heap.get?_none_of_le (aD0 I.ok.bsz I.ok.above)
theorem Inv.stkSub (I:Inv X pins σ H s):∀ b∈frs X.stack,b∈X.env.locals :: X.fs:=fun b hb=>by
 rcases I.ok.stk with e | ⟨e,hf⟩
 ·rw [e] at hb;exact aB5 _ hb
 ·rw [e] at hb
  unfold frs at hb
  rw [List.filterMap_cons,hf] at hb
  exact hb
theorem Inv.stkFree (I:Inv X pins σ H s):∀ b∈frs X.stack,H b=none:=fun b hb=>by
 rcases aA9.mp (I.stkSub b hb) with e | hb
 ·rw [e];exact I.free
 ·obtain ⟨_,o,a,_⟩:=I.ok.funs.mem hb
  exact I.base.free b o a (I.ok.frf b hb) fun z=>I.ok.exfs b z hb
theorem Inv.step {g':Array GenState} {t':Nat} {d':Drawn} {ch:List Addr} (I:Inv X pins σ H s)
  (h:∀ b∈ch,(b∈X.ex\/X.s₀.heap.objs.size<=b)/\b ≠ X.env.locals/\(∀ x c,X.env.cells.lookup x=some c->c ≠ b)/\∀ p∈X.pn ++ pins,p.1 ≠ b)
  (keep:∀ b o,b ≠ X.env.locals->b ∉ X.fs->b ∉ ch->s.heap.get? b=some o->H b=none->h'.get? b=some o)
  (slot:∀ b o,b ≠ X.env.locals->b∈X.fs->b ∉ ch->s.heap.get? b=some o->H b=none->∃ sl,h'.get? b=some { o with slots:=sl }) (free:∀ b o,b ∉ ch->s.heap.get? b=some o->H b=none->H' b=none)
  (there:∀ b o,b ∉ ch->s.heap.get? b=some o->∃ o',h'.get? b=some o')
  (tups:∀ b xs,H b=some (.tup xs)->H' b=some (.tup xs)) (frzs:∀ b o u,H b=some (.frz o u)->H' b=some (.frz o u)) (tbls:∀ b ps,H b=some (.tbl ps)->∃ more,H' b=some (.tbl (ps ++ more)))
  (ns:∀ m,s.heap.Ns X.env.locals m->h'.Ns X.env.locals m) (hok:HOk X.prog X.w H' h') (N:AllBare g') :
  Inv X pins σ H' { s with heap:=h',gens:=g',drawn:=d',toks:=t' }:=by
 have B:∀ b o,X.s₀.heap.get? b=some o->b ≠ X.env.locals:=fun b o e=>aB6 (aC5 (aJ6 e) I.ok.above)
 have y:∀ b o,X.s₀.heap.get? b=some o->b ∉ X.ex->b ∉ ch:=fun b o e a hb=>by
  rcases (h b hb).1 with z | z
  ·exact a z
  ·exact absurd (aC5 (aJ6 e) z) (aG6 _)
 have g:∀ x c,X.env.cells.lookup x=some c->∀ v,s.heap.IsCell c v->h'.IsCell c v:=fun x c e v L=>by
  obtain ⟨o,A,hd⟩:=L
  have f:c ∉ ch:=fun z=>(h c z).2.2.1 x c e rfl
  by_cases hc:c∈X.fs
  ·obtain ⟨sl,q⟩:=slot c o (I.cne x c e) hc f A (I.freeC x c e)
   exact ⟨_,q,hd⟩
  ·exact ⟨o,keep c o (I.cne x c e) hc f A (I.freeC x c e),hd⟩
 refine ⟨I.ok,I.os,N,⟨fun b o e n hb a=>?_,fun b o e n hb a=>?_,fun b o e n a=>?_,fun b o e a=>?_,fun b xs e=>tups b xs (I.base.tups b xs e),fun b o xs e=>frzs b o xs (I.base.frzs b o xs e),fun b ps e=>?_⟩,?_,fun x c e=>?_,?_,fun x c e=>?_,fun p F=>?_,hok,I.len⟩
 ·exact keep b o (B b o e) hb (y b o e a) (I.base.keep b o e n hb a) (I.base.free b o e n a)
 ·obtain ⟨sl,j⟩:=I.base.slot b o e n hb a
  obtain ⟨D,C⟩:=slot b _ (B b o e) hb (y b o e a) j (I.base.free b o e n a)
  exact ⟨D,C⟩
 ·obtain ⟨o',j⟩:=I.base.there b o e a
  exact free b o' (y b o e a) j (I.base.free b o e n a)
 ·obtain ⟨o',j⟩:=I.base.there b o e a
  exact there b o' (y b o e a) j
 ·obtain ⟨G,j⟩:=I.base.tbls b ps e
  obtain ⟨J,C⟩:=tbls b _ j
  exact ⟨G ++ J,by rw [C,Array.append_assoc]⟩
 ·obtain ⟨m,hn,K⟩:=I.loc
  refine ⟨m,ns m hn,fun i x v j C M=>?_⟩
  obtain ⟨u,r,l⟩:=K i x v j C M
  refine ⟨u,r,?_⟩
  rcases l with l | ⟨k,c,e,z⟩
  ·exact .inl l
  ·exact .inr ⟨k,c,e,g x c e _ z⟩
 ·obtain ⟨v,z⟩:=I.cell x c e
  exact ⟨v,g x c e v z⟩
 ·obtain ⟨m,⟨o,_,_,A,_⟩,_⟩:=I.loc
  exact free _ o (fun z=>(h _ z).2.1 rfl) A I.free
 ·obtain ⟨v,o,A,hd⟩:=I.cell x c e
  exact free c o (fun z=>(h c z).2.2.1 x c e rfl) A (I.freeC x c e)
 ·obtain ⟨e,n,ne,E,d⟩:=I.pin p F
  have f:p.1 ∉ ch:=fun z=>(h p.1 z).2.2.2 p F rfl
  exact ⟨keep p.1 p.2 ne E f e n,free p.1 p.2 f e n,ne,E,d⟩
theorem Inv.un {t':Nat} (I:Inv X pins σ H s) (u:Un X.fs [] H H' s.heap h') (hok:HOk X.prog X.w H' h'):Inv X pins σ H' { s with heap:=h',toks:=t' }:=by
 obtain ⟨m,⟨o,es,ep,d,r⟩,_⟩:=id I.loc
 obtain ⟨sl,f⟩:=u.any d I.free (by simp)
 exact I.step (g':=s.gens) (d':=s.drawn) (ch:=[]) (fun _ z=>nomatch z) (fun b o _ hb _ e n=>u.keep b o e n hb (by simp)) (fun b o _ hb _ e n=>u.slot b o e n hb (by simp)) (fun b o _ e n=>u.free b o e n (by simp)) (fun b o _ e=>u.there b o e (by simp)) u.tups u.frzs u.tbls (fun h hm=>by
  obtain ⟨o',es',c,a,g⟩:=hm
  rw [d] at a;cases a
  exact ⟨_,es',c,f,g⟩) hok I.bare
theorem Inv.call {g':Array GenState} {t':Nat} {d':Drawn} {ch:List Addr} (I:Inv X pins σ H s) (u:Un (frs X.stack) ch H H' s.heap h') (hok:HOk X.prog X.w H' h') (l:AllBare g')
  (d:∀ b∈ch,(b∈X.ex\/X.s₀.heap.objs.size<=b)/\b ≠ X.env.locals/\(∀ x c,X.env.cells.lookup x=some c->c ≠ b)/\∀ p∈X.pn ++ pins,p.1 ≠ b) :
  Inv X pins σ H' { s with heap:=h',gens:=g',drawn:=d',toks:=t' }:=by
 obtain ⟨m,⟨o,es,ep,i,r⟩,_⟩:=id I.loc
 obtain ⟨sl,g⟩:=u.any i I.free fun z=>(d _ z).2.1 rfl
 exact I.step (ch:=ch) d (fun b o g hb a e n=>u.keep b o e n (fun z=>(aA9.mp (I.stkSub b z)).elim g hb) a) (fun b o _ _ a e n=>u.any e n a) (fun b o a e n=>u.free b o e n a) (fun b o a e=>u.there b o e a) u.tups u.frzs u.tbls (fun q hm=>by
  obtain ⟨o',es',h,f,j⟩:=hm
  rw [i] at f;cases f
  exact ⟨_,es',h,g,j⟩) hok l
theorem Inv.turned {t':Nat} {it:Addr} (I:Inv X pins σ H s) (k:∀ b o,b ≠ it->s.heap.get? b=some o->h'.get? b=some o) (hn:H it=none) (f:it ≠ X.env.locals)
  (h:it∈X.ex\/X.s₀.heap.objs.size<=it) (i:∀ x c,X.env.cells.lookup x=some c->c ≠ it) (j:∀ p∈X.pn ++ pins,p.1 ≠ it):Inv X pins σ H { s with heap:=h',toks:=t' }:=by
 have d:∀ b u,H b=some u->b ≠ it:=fun b u e z=>by rw [z,hn] at e;cases e
 refine I.step (g':=s.gens) (d':=s.drawn) (ch:=[it]) (fun b hb=>?_) (fun b o _ _ a e _=>k b o (fun z=>a (by simp [z])) e) (fun b o _ _ a e _=>⟨o.slots,k b o (fun z=>a (by simp [z])) e⟩) (fun _ _ _ _ n=>n)
  (fun b o a e=>⟨o,k b o (fun z=>a (by simp [z])) e⟩) (fun _ _ e=>e) (fun _ _ _ e=>e) (fun b ps e=>⟨#[],by rw [e];simp⟩) (fun m hm=>?_) (fun b u e=>?_) I.bare
 ·have e:b=it:=by simpa using hb
  subst e
  exact ⟨h,f,i,j⟩
 ·obtain ⟨o,es,ep,g,r⟩:=hm
  exact ⟨o,es,ep,k _ o (Ne.symm f) g,r⟩
 ·refine (I.hok b u e).stay (fun c v a q=>k c v ?_ q) (fun _ q=>q) fun _ _ q=>q
  rcases a with z | z
  ·rw [z];exact d b u e
  ·exact d c _ z
theorem Inv.tok (I:Inv X pins σ H s) (t:Nat):Inv X pins σ H { s with toks:=t }:=I.un (h':=s.heap) (t':=t) Un.refl I.hok
theorem Inv.kept {t':Nat} (I:Inv X pins σ H s) (k:∀ b u,s.heap.get? b=some u->h'.get? b=some u):Inv X pins σ H { s with heap:=h',toks:=t' }:=I.un (Un.kept k) (I.hok.kept k)
theorem Inv.laid {a:Addr} {o:HO} {t':Nat} (I:Inv X pins σ H s) (k:∀ b u,s.heap.get? b=some u->h'.get? b=some u) (c:s.heap.objs.size<=a) (new:ObjOk X.prog X.w (upd H a o) h' a o) :
  Inv X pins σ (upd H a o) { s with heap:=h',toks:=t' }:=I.un (Un.laid k c (I.hok.fresh c)) (I.hok.laid k c new)
theorem Inv.write {x e:Addr} {o:HO} {t':Nat} (I:Inv X pins σ H s) (d:Mut (H x)) (c:e=x\/H e=some (.own x)) (k:∀ b u,b ≠ e->s.heap.get? b=some u->h'.get? b=some u) (a:∃ u,h'.get? e=some u)
  (new:ObjOk X.prog X.w (upd H x o) h' x o):Inv X pins σ (upd H x o) { s with heap:=h',toks:=t' }:=I.un (Un.write d c k a) (I.hok.write d c k a new)
theorem Inv.pins_of {a:List (Addr × Obj)} (I:Inv X pins σ H s) (h:∀ p∈a,s.heap.get? p.1=some p.2/\H p.1=none/\p.1 ≠ X.env.locals/\p.1 ∉ X.fs/\∀ v,p.2.data ≠ .cell v):Inv X a σ H s :=
 ⟨I.ok,I.os,I.bare,I.base,I.loc,I.cell,I.free,I.freeC,fun p b=>(aA7.mp b).elim (fun z=>I.pin p (aC7 _ z)) (h p),I.hok,I.len⟩
theorem nodup_ix {N:List Str} (f:N.Nodup) {i j:Nat} {x:Str} (a:N[i]?=some x) (b:N[j]?=some x):i=j:=by
 obtain ⟨h,d⟩:=aA1.mp a
 obtain ⟨g,c⟩:=aA1.mp b
 exact (List.getElem_inj f).mp (d.trans c.symm)
theorem aj2 {M:Model} {A:Around} {E:Value->Shared->Prop} {i:Nat} {x:Str} {v:V} {u:Value} {Q:Unit->Shared->Prop} (I:Inv X pins σ H s) (hN:X.N.Nodup) (hi:X.N[i]?=some x) (B:Loc X.env.scope x) (r:RelV v u)
  (h:∀ s',Inv X pins (σ.set i (some v)) H s'->(∃ a,Heap.SameBut a s.heap s'.heap/\(a=X.env.locals\/X.env.cells.lookup x=some a))->Q () s') (hf:X.fn x=true\/X.env.scope.names.lookup x=some .local:=by first | exact .inl rfl | exact .inr rfl | assumption):wpAny M A (storeName X.env x u) Q E s:=by
 obtain ⟨m,hn,hl⟩:=id I.loc
 have K:(X.env.scope.kind == .class || (X.env.scope.kind == .module && X.env.locals != X.env.globals))=false:=by rw [I.ok.kind];rfl
 have F:i < σ.length:=by rw [I.len];exact (aA1.mp hi).1
 have cne:=I.cne
 have g:∀ {a:Addr} {h':Heap},(∃ o,s.heap.get? a=some o/\H a=none)->Heap.SameBut a s.heap h'->HOk X.prog X.w H h':=fun {a h'} ha hs b ob e=>by
  obtain ⟨_,_,C⟩:=ha
  refine (I.hok b ob e).stay (fun c R l q=>(hs.2 c ?_).trans q) (fun _ q=>q) fun _ _ q=>q
  rintro rfl
  rcases l with rfl | l
  ·rw [C] at e;cases e
  ·rw [C] at l;cases l
 rcases B with G | G
 ·refine wpAny_storeName_local G hn (fun h' U hs=>?_) K
  obtain ⟨oL,_,_,a0,_⟩:=id hn
  refine h _ ⟨I.ok,I.os,I.bare,⟨fun b o e n hb B=>?_,fun b o e n hb B=>?_,I.base.free,fun b o e B=>?_,I.base.tups,I.base.frzs,I.base.tbls⟩,⟨_,U,fun j y v' f D Z=>?_⟩,fun y c e=>?_,I.free,I.freeC,fun p hp=>?_,g ⟨oL,a0,I.free⟩ hs,by simpa using I.len⟩ ⟨_,hs,.inl rfl⟩
  ·exact (hs.2 b (aB6 (aC5 (aJ6 e) I.ok.above))).trans (I.base.keep b o e n hb B)
  ·obtain ⟨sl,f⟩:=I.base.slot b o e n hb B
   exact ⟨sl,(hs.2 b (aB6 (aC5 (aJ6 e) I.ok.above))).trans f⟩
  ·obtain ⟨o',f⟩:=I.base.there b o e B
   exact ⟨o',(hs.2 b (aB6 (aC5 (aJ6 e) I.ok.above))).trans f⟩
  ·by_cases hj:j=i
   ·subst hj
    rw [hi] at f;cases f
    rw [List.getElem?_set_self F] at D
    cases D
    exact ⟨u,r,.inl ⟨G,by simp⟩⟩
   ·rw [List.getElem?_set_ne (Ne.symm hj)] at D
    obtain ⟨T,W,q⟩:=hl j y v' f D Z
    refine ⟨T,W,?_⟩
    rcases q with ⟨k,e⟩ | ⟨k,c,e,z⟩
    ·refine .inl ⟨k,?_⟩
     have:y ≠ x:=fun e=>hj (nodup_ix hN f (e ▸ hi))
     simp [this,e]
    ·exact .inr ⟨k,c,e,z.sameBut hs (cne y c e)⟩
  ·obtain ⟨R,z⟩:=I.cell y c e
   exact ⟨R,z.sameBut hs (cne y c e)⟩
  ·obtain ⟨e,n,ne,Y,d⟩:=I.pin p hp
   exact ⟨(hs.2 p.1 ne).trans e,n,ne,Y,d⟩
 ·have J:X.fn x=true:=by
   rcases hf with z | z
   ·exact z
   ·rw [z] at G;cases G
  obtain ⟨c,l⟩:=I.ok.has x (.inl G)
  obtain ⟨R,z⟩:=I.cell x c l
  refine wpAny_storeName_cell I.ok.kind G l z (fun h' O hs=>?_)
  obtain ⟨oc,L,P⟩:=id z
  refine h { s with heap:=h' } ⟨I.ok,I.os,I.bare,⟨fun b o e n hb B=>?_,fun b o e n hb B=>?_,I.base.free,fun b o e B=>?_,I.base.tups,I.base.frzs,I.base.tbls⟩,⟨m,hn.sameBut hs (Ne.symm (cne x c l)),fun j y v' f D Z=>?_⟩,fun y S e=>?_,I.free,I.freeC,fun p hp=>?_,g ⟨oc,L,I.freeC x c l⟩ hs,by simpa using I.len⟩ ⟨c,hs,.inr l⟩
  ·exact (hs.2 b (aB6 (aC5 (aJ6 e) (I.ok.cab x c J l)))).trans (I.base.keep b o e n hb B)
  ·obtain ⟨sl,f⟩:=I.base.slot b o e n hb B
   exact ⟨sl,(hs.2 b (aB6 (aC5 (aJ6 e) (I.ok.cab x c J l)))).trans f⟩
  ·obtain ⟨o',f⟩:=I.base.there b o e B
   exact ⟨o',(hs.2 b (aB6 (aC5 (aJ6 e) (I.ok.cab x c J l)))).trans f⟩
  ·by_cases hj:j=i
   ·subst hj
    rw [hi] at f;cases f
    rw [List.getElem?_set_self F] at D
    cases D
    exact ⟨u,r,.inr ⟨.inl G,c,l,O⟩⟩
   ·rw [List.getElem?_set_ne (Ne.symm hj)] at D
    obtain ⟨T,W,q⟩:=hl j y v' f D Z
    refine ⟨T,W,?_⟩
    rcases q with q | ⟨k,S,e,z'⟩
    ·exact .inl q
    ·refine .inr ⟨k,S,e,z'.sameBut hs ?_⟩
     rintro rfl
     exact hj (nodup_ix hN f (I.ok.inj _ _ _ e l ▸ hi))
  ·by_cases hcc:S=c
   ·subst hcc;exact ⟨_,O⟩
   ·obtain ⟨w2,z2⟩:=I.cell y S e
    exact ⟨w2,z2.sameBut hs hcc⟩
  ·obtain ⟨e,n,ne,Y,d⟩:=I.pin p hp
   refine ⟨(hs.2 p.1 ?_).trans e,n,ne,Y,d⟩
   intro q
   rw [q,L] at e
   have q':oc=p.2:=aC6 e
   exact d R (by rw [← q'];exact P)
theorem alv {M:Model} {A:Around} {E:Value->Shared->Prop} {i:Nat} {x:Str} {v:V} {u:Value} {Q:Unit->Shared->Prop} (I:Inv X pins σ H s) (c:X.N.Nodup) (hi:X.N[i]?=some x) (b:Loc X.env.scope x) (r:RelV v u)
  (h:∀ s',Inv X pins (σ.set i (some v)) H s'->Q () s') (hf:X.fn x=true\/X.env.scope.names.lookup x=some .local:=by first | exact .inl rfl | exact .inr rfl | assumption):wpAny M A (storeName X.env x u) Q E s :=
 aj2 I c hi b r (fun s' a _=>h s' a) hf
theorem Inv.call' {s':Shared} {ch:List Addr} (I:Inv X pins σ H s) (d:s'.os=s.os) (u:Un (frs X.stack) ch H H' s.heap s'.heap) (hok:HOk X.prog X.w H' s'.heap) (f:AllBare s'.gens)
  (a:∀ b∈ch,(b∈X.ex\/X.s₀.heap.objs.size<=b)/\b ≠ X.env.locals/\(∀ x c,X.env.cells.lookup x=some c->c ≠ b)/\∀ p∈X.pn ++ pins,p.1 ≠ b):Inv X pins σ H' s':=by
 obtain ⟨h',g',d',t',o'⟩:=s'
 have e:o'=s.os:=d
 subst e
 exact I.call (g':=g') (t':=t') (d':=d') u hok f a
end
abbrev XK:=Value->Option Addr->Hp->Prop
abbrev St:=List (Option V)
abbrev VK:=V->Hp->Prop
abbrev TE:=St->Hp->VK->Prop
abbrev TT:=St->Hp->(Bool->Hp->Prop)->Prop
abbrev TA:=St->Hp->(List V->Hp->Prop)->Prop
structure Ends where
 nx:St->Hp->Prop
 rt:VK
 bk:St->Hp->Prop:=fun _ _=>False
 ct:St->Hp->Prop:=fun _ _=>False
abbrev TS:=Ends->St->Hp->Prop
def EP (X:Cx) (pins:List (Addr × Obj)) (σ:St) (Q:VK) (u:Value) (s':Shared):Prop:=∃ v H',Inv X pins σ H' s'/\RelV v u/\Q v H'
def TP (X:Cx) (pins:List (Addr × Obj)) (σ:St) (Q:Bool->Hp->Prop) (b:Bool) (s':Shared):Prop:=∃ H',Inv X pins σ H' s'/\Q b H'
def AP (X:Cx) (pins:List (Addr × Obj)) (σ:St) (Q:List V->Hp->Prop) (us:List Value) (s':Shared):Prop:=∃ vs H',Inv X pins σ H' s'/\Vals vs us/\Q vs H'
def SP (X:Cx) (pins:List (Addr × Obj)) (D:Ends) (f:Flow) (s':Shared):Prop :=
 match f with
 | .next=>∃ σ' H',Inv X pins σ' H' s'/\D.nx σ' H'
 | .brk=>∃ σ' H',Inv X pins σ' H' s'/\D.bk σ' H'
 | .cont=>∃ σ' H',Inv X pins σ' H' s'/\D.ct σ' H'
 | .ret u=>∃ v σ' H',Inv X pins σ' H' s'/\RelV v u/\D.rt v H'
def PE (X:Cx) (e:Expr) (t:TE):Prop :=
 ∀ (pins:List (Addr × Obj)) (s:Shared) (σ:St) (H:Hp) (Q:VK),Inv X pins σ H s->t σ H Q->wpAny (model X.prog X.w) X.A (eval e X.env) (EP X pins σ Q) X.xe s
def PT (X:Cx) (e:Expr) (t:TT):Prop :=
 ∀ (pins:List (Addr × Obj)) (s:Shared) (σ:St) (H:Hp) (Q:Bool->Hp->Prop),Inv X pins σ H s->t σ H Q->wpAny (model X.prog X.w) X.A (isTrue e X.env (eval e X.env)) (TP X pins σ Q) X.xe s
def PW (X:Cx) (e:Expr) (t:TT):Prop :=
 ∀ (whole:Sem Value) (pins:List (Addr × Obj)) (s:Shared) (σ:St) (H:Hp) (Q:Bool->Hp->Prop),Inv X pins σ H s->t σ H Q->wpAny (model X.prog X.w) X.A (isTrue e X.env whole) (TP X pins σ Q) X.xe s
theorem PW.pt {X:Cx} {e:Expr} {t:TT} (h:PW X e t):PT X e t:=h _
def PA (X:Cx) (es:List Expr) (t:TA):Prop :=
 ∀ (pos:Pos) (pins:List (Addr × Obj)) (s:Shared) (σ:St) (H:Hp) (Q:List V->Hp->Prop),Inv X pins σ H s->t σ H Q->wpAny (model X.prog X.w) X.A (spliced (backTo pos (starEach es X.env))) (AP X pins σ Q) X.xe s
def PS (X:Cx) (st:Stmt) (t:TS):Prop :=
 ∀ (pins:List (Addr × Obj)) (s:Shared) (σ:St) (H:Hp) (D:Ends),Inv X pins σ H s->t D σ H->wpAny (model X.prog X.w) X.A (exec st X.env) (SP X pins D) X.xe s
def PSs (X:Cx) (st:List Stmt) (t:TS):Prop :=
 ∀ (pins:List (Addr × Obj)) (s:Shared) (σ:St) (H:Hp) (D:Ends),Inv X pins σ H s->t D σ H->wpAny (model X.prog X.w) X.A (execs st X.env) (SP X pins D) X.xe s
theorem thn {α:Type} {t:Sem α} {Q b : α->Shared->Prop} {M:Model} {A:Around} {E:Value->Shared->Prop} {s:Shared} (h:wpAny M A t Q E s) (c:∀ a s,Q a s->b a s):wpAny M A t b E s:=aK2 h c fun _ _ x=>x
section
variable {X:Cx}
def tVar (i:Nat):TE:=fun σ H Q=>∃ v,σ[i]?=some (some v)/\Q v H
def tC (v:V):TE:=fun _ H Q=>Q v H
theorem azz {i:Nat} {x:Str} {pos:Pos} (n:X.N[i]?=some x) (g:Vis X.env.scope x) (hd:(x == ("__debug__" : Str))=false:=by decide) (d:(x == ("__classdict__" : Str))=false:=by decide):PE X (.Name x pos) (tVar i):=by
 intro pins s σ H Q I h
 obtain ⟨v,e,h⟩:=h
 obtain ⟨m,hn,j⟩:=I.loc
 obtain ⟨u,r,l⟩:=j i x v n e g
 have fin:EP X pins σ Q u s:=⟨v,H,I,r,h⟩
 rcases l with ⟨b,hm⟩ | ⟨b,c,f,a⟩
 ·exact wpAny_Name (wpAny_loadName_local I.ok.kind b hn hm fin) hd
 ·rcases b with b | b
  ·exact wpAny_Name (wpAny_loadName_cell I.ok.kind b f a fin) hd
  ·exact wpAny_Name (wpAny_loadName_free I.ok.kind b f a fin d) hd
theorem aae {i j pos}:PE X (.Constant (.int i) j pos) (tC (.int i)):=fun _ _ _ H _ I h=>wpAny_Constant_int ⟨.int i,H,I.tok _,⟨_,rfl⟩,h⟩
theorem ace {b j pos}:PE X (.Constant (.bool b) j pos) (tC (.bl b)):=fun _ _ _ H _ I h=>Constant_bool ⟨.bl b,H,I,rfl,h⟩
theorem alw {j pos}:PE X (.Constant .none j pos) (tC .non):=fun _ _ _ H _ I h=>Constant_none ⟨.non,H,I,rfl,h⟩
def Gl (X:Cx) (x:Str):Prop:=X.env.kindOf x=some .globalImplicit
theorem axc {E:Value->Shared->Prop} {pins:List (Addr × Obj)} {s:Shared} {σ:St} {H:Hp} {x:Str} {u:Value} {pos:Pos} {Q:Value->Shared->Prop} (I:Inv X pins σ H s) (a:Gl X x) (hm:X.mg x=some u) (h:Q u s)
  (hd:(x == ("__debug__" : Str))=false:=by decide):wpAny (model X.prog X.w) X.A (eval (.Name x pos) X.env) Q E s :=
 Calls.Name_function_global I.ok.kind a (Calls.loadGlobal_global (by rw [I.ok.glob];exact I.mod.glob.keeps I.bk) hm h) hd
theorem ad3 {E:Value->Shared->Prop} {pins:List (Addr × Obj)} {s:Shared} {σ:St} {H:Hp} {x:Str} {u:Value} {pos:Pos} {Q:Value->Shared->Prop} (I:Inv X pins σ H s) (d:Gl X x) (hm:X.mg x=none) (a:bootBuiltins x=some u) (h:Q u s)
  (hn:x ≠ "__name__":=by decide) (hd:(x == ("__debug__" : Str))=false:=by decide):wpAny (model X.prog X.w) X.A (eval (.Name x pos) X.env) Q E s:=by
 obtain ⟨mb,b,c⟩:=I.mod.blt
 exact Calls.Name_function_global I.ok.kind d (Calls.loadGlobal_builtin (by rw [I.ok.glob];exact I.mod.glob.keeps I.bk) hm (by rw [I.ok.blt];exact b.keeps I.bk) ((c x hn).trans a) h) hd
theorem ai6 {x:Str} {v:V} {u:Value} {pos:Pos} (a:Gl X x) (hm:X.mg x=none) (b:bootBuiltins x=some u) (r:RelV v u) (hn:x ≠ "__name__":=by decide) (hd:(x == ("__debug__" : Str))=false:=by decide):PE X (.Name x pos) (tC v) :=
 fun _ _ _ H _ I h=>ad3 I a hm b ⟨v,H,I,r,h⟩ hn hd
variable {a b:Expr} {ta tb:TE} {pos:Pos}
def PC (X:Cx) (op:CmpOp) (a b:Expr) (t:TE):Prop :=
 ∀ (pins:List (Addr × Obj)) (s:Shared) (σ:St) (H:Hp) (Q:VK),Inv X pins σ H s->t σ H Q ->
  wpAny (model X.prog X.w) X.A (eval a X.env) (fun v s₁=>wpAny (model X.prog X.w) X.A (eval b X.env) (fun u s₂=>wpAny (model X.prog X.w) X.A (compareOp op v u) (EP X pins σ Q) X.xe s₂) X.xe s₁) X.xe s
def tB (t:TE):TT:=fun σ H Q=>t σ H fun x H1=>∃ c,x=.bl c/\Q c H1
theorem ar3 {op:CmpOp} {t:TE} (h:PC X op a b t) (f:behindInMarks op b=false:=by first | exact nobehind _ (by decide) (by decide) | rfl):PT X (.Compare a [op] [b] pos) (tB t):=by
 intro pins s σ H Q I g
 refine wpAny_isTrue_Compare1 (thn (h pins s σ H _ I g) fun v s1 f=>thn f fun u s2 i=>thn i fun c o ⟨x,j,n,m,l⟩=>?_) f
 obtain ⟨d,rfl,q⟩:=l
 cases m
 exact aK7 ⟨j,n,q⟩
theorem ac1 {e:Expr} {t:TE} (h:PE X e t) (f:∀ whole,isTrue e X.env whole=(do let v ← whole;standAt e.pos;holding [v] (truthy v)):=by intro _;rfl):PT X e (tB t):=by
 intro pins s σ H Q I a
 refine isTrue_plain (thn (h pins s σ H _ I a) fun v s1 ⟨x,b,i,g,c⟩=>?_) (f _)
 obtain ⟨d,rfl,q⟩:=c
 cases g
 exact aK7 ⟨b,i,q⟩
variable {tA tB':TT} {rest:List Expr}
def tAnd (t u:TT):TT:=fun σ H Q=>t σ H fun c H1=>if c=true then u σ H1 Q else Q false H1
def tOr (t u:TT):TT:=fun σ H Q=>t σ H fun c H1=>if c=true then Q true H1 else u σ H1 Q
def tNot (t:TT):TT:=fun σ H Q=>t σ H fun c H1=>Q (!c) H1
theorem ai7 (ha:PT X a tA):PW X (.BoolOp .And [a] pos) tA:=by
 intro b pins s σ H Q I h
 refine isTrue_and (thn (ha pins s σ H Q I h) fun c s1 e=>?_)
 cases c with
 | true=>exact isTrue_and_nil e
 | false=>exact e
theorem afg (ha:PT X a tA):PW X (.BoolOp .Or [a] pos) tA:=by
 intro b pins s σ H Q I h
 refine isTrue_or (thn (ha pins s σ H Q I h) fun c s1 e=>?_)
 cases c with
 | false=>exact isTrue_or_nil e
 | true=>exact e
theorem alx (ha:PT X a tA) (hb:PW X (.BoolOp .And (b :: rest) pos) tB'):PW X (.BoolOp .And (a :: b :: rest) pos) (tAnd tA tB'):=by
 intro i pins s σ H Q I h
 refine isTrue_and (thn (ha pins s σ H _ I h) fun c s1 ⟨g,f,d⟩=>?_)
 cases c with
 | true=>exact hb i pins s1 σ g Q f d
 | false=>exact ⟨g,f,d⟩
theorem aez (ha:PT X a tA) (hb:PW X (.BoolOp .Or (b :: rest) pos) tB'):PW X (.BoolOp .Or (a :: b :: rest) pos) (tOr tA tB'):=by
 intro i pins s σ H Q I h
 refine isTrue_or (thn (ha pins s σ H _ I h) fun c s1 ⟨g,f,d⟩=>?_)
 cases c with
 | true=>exact ⟨g,f,d⟩
 | false=>exact hb i pins s1 σ g Q f d
theorem acn (ha:PT X a tA):PT X (.UnaryOp .Not a pos) (tNot tA):=by
 intro pins s σ H Q I h
 exact isTrue_not (ha pins s σ H (fun c b=>Q (!c) b) I h)
def aqk (ta tb:TE):TE:=fun σ H Q=>ta σ H fun x H1=>∃ c,x=.bl c/\if c=true then tb σ H1 Q else Q (.bl false) H1
def aql (ta:TE):TE:=fun σ H Q=>ta σ H fun x H1=>∃ c,x=.bl c/\Q (.bl (!c)) H1
theorem ahy {op} {t:TE} (h:PE X a t):PE X (.BoolOp op [a] pos) t:=fun pins s σ H Q I b=>BoolOp_one (h pins s σ H Q I b)
theorem ahz (ha:PE X a ta) (hb:PE X (.BoolOp .And (b :: rest) pos) tb):PE X (.BoolOp .And (a :: b :: rest) pos) (aqk ta tb):=by
 intro pins s σ H Q I h
 refine BoolOp_and (thn (ha pins s σ H _ I h) fun v s1 ⟨x,g,f,i,d⟩=>?_)
 obtain ⟨c,rfl,d⟩:=d
 cases i
 refine aK7 ?_
 cases c with
 | true=>exact hb pins s1 σ g Q f d
 | false=>exact ⟨.bl false,g,f,rfl,d⟩
theorem az0 (ha:PE X a ta):PE X (.UnaryOp .Not a pos) (aql ta):=by
 intro pins s σ H Q I h
 refine UnaryOp_ (thn (ha pins s σ H _ I h) fun v s1 ⟨x,g,f,d,b⟩=>?_)
 obtain ⟨c,rfl,b⟩:=b
 cases d
 exact not_of (aK7 ⟨.bl (!c),g,f,rfl,b⟩)
end
def SqL (K:Frag) (H:Hp) (a:Addr) (xs:List V):Prop :=
 Rd H a (.lst xs) ∨
  ∃ (o:Obj) (its:Array Value) (n:Nat),K.lookup a=some o/\o.cls=.type "list"/\o.dict=none/\o.data=.seq its n/\its.size<=sizeLine/\Vals xs its.toList
def SqT (K:Frag) (H:Hp) (a:Addr) (xs:List V):Prop :=
 Rd H a (.tup xs) ∨
  ∃ (o:Obj) (its:Array Value) (n:Nat),K.lookup a=some o/\o.cls=.type "tuple"/\o.data=.seq its n/\its.size<=sizeLine/\Vals xs its.toList
def absV:Value->Option V
 | .none=>some .non
 | .bool b=>some (.bl b)
 | .int i _=>some (.int i)
 | .str x _=>some (.str x)
 | .bytes b _=>some (.byt b)
 | .float b _=>some (.flt b)
 | .ref a=>some (.ref a)
 | .type n=>some (.ty n)
 | _=>none
theorem RelV.abs {x:V} {u:Value} (r:RelV x u):absV u=some x:=by
 cases x with
 | non=>cases r;rfl
 | bl _=>cases r;rfl
 | int _=>obtain ⟨t,rfl⟩:=r;rfl
 | str _=>obtain ⟨t,rfl⟩:=r;rfl
 | byt _=>obtain ⟨t,rfl⟩:=r;rfl
 | flt _=>obtain ⟨t,rfl⟩:=r;rfl
 | ref _=>cases r;rfl
 | ty _=>cases r;rfl
theorem RelV.inj {x y:V} {u:Value} (r:RelV x u) (q:RelV y u):x=y:=aC6 (r.abs.symm.trans q.abs)
theorem Vals.inj:∀ {xs ys:List V} {us:List Value},Vals xs us->Vals ys us->xs=ys
 | _,_,_,.nil,.nil=>rfl
 | _,_,_,.cons r t,.cons r' t'=>by rw [r.inj r',Vals.inj t t']
section
variable {X:Cx} {pins:List (Addr × Obj)} {σ:St} {H:Hp} {s:Shared} {a:Addr} {xs ys:List V}
theorem SqL.of {K:Frag} (h:H a=some (.lst xs)):SqL K H a xs:=.inl (.inl h)
theorem SqT.of {K:Frag} (h:H a=some (.tup xs)):SqT K H a xs:=.inl (.inl h)
theorem Inv.list (I:Inv X pins σ H s) (h:SqL X.K H a xs):∃ its:List Value,Vals xs its/\PlainL s.heap a its.toArray/\xs.length<=sizeLine:=by
 rcases h with h | ⟨o,its,n,b,c,hd,hs,hz,r⟩
 ·obtain ⟨z,its,n,r,e⟩:=h.ok I.hok
  exact ⟨its,r,⟨_,n,e,rfl,rfl,rfl⟩,z⟩
 ·refine ⟨its.toList,r,⟨o,n,I.kIn a o b,c,hd,by simpa using hs⟩,?_⟩
  have e:=r.length
  simp only [aA8] at e
  lia
theorem Inv.tuple (I:Inv X pins σ H s) (h:SqT X.K H a xs):∃ its:List Value,Vals xs its/\IsTup s.heap a its.toArray/\xs.length<=sizeLine:=by
 rcases h with h | ⟨o,its,n,b,c,hs,hz,r⟩
 ·obtain ⟨z,its,r,p⟩:=h.ok I.hok
  exact ⟨its,r,p,z⟩
 ·refine ⟨its.toList,r,⟨o,I.kIn a o b,c,n,by simpa using hs⟩,?_⟩
  have e:=r.length
  simp only [aA8] at e
  lia
theorem Inv.list_inj (I:Inv X pins σ H s) (h:SqL X.K H a xs) (h':SqL X.K H a ys):xs=ys:=by
 obtain ⟨its,r,⟨o,n,e,_,_,d⟩,_⟩:=I.list h
 obtain ⟨its',c,⟨o',g,b,_,_,d'⟩,_⟩:=I.list h'
 rw [e] at b;cases b
 rw [d] at d'
 injection d' with f _
 have:its=its':=by simpa using congrArg Array.toList f
 subst this
 exact r.inj c
end
abbrev Cx.wish (X:Cx) (E:Value->Shared->Prop):Cx:={ X with xe:=E }
abbrev Cx.nox (X:Cx):Cx:=X.wish fun _ _=>False
theorem Cx.Ok.wish {X:Cx} (ok:X.Ok) (E:Value->Shared->Prop):(X.wish E).Ok :=
 ⟨ok.mod,ok.kind,ok.glob,ok.blt,ok.above,ok.inj,ok.has,ok.cab,ok.hd,ok.frames,ok.stk,ok.exf,ok.bs,ok.bsz,ok.noex,ok.exfs,ok.funs,ok.frf⟩
theorem Cx.Ok.unwish {X:Cx} {E:Value->Shared->Prop} (ok:(X.wish E).Ok):X.Ok :=
 ⟨ok.mod,ok.kind,ok.glob,ok.blt,ok.above,ok.inj,ok.has,ok.cab,ok.hd,ok.frames,ok.stk,ok.exf,ok.bs,ok.bsz,ok.noex,ok.exfs,ok.funs,ok.frf⟩
section
variable {X:Cx} {pins:List (Addr × Obj)} {σ:St} {H:Hp} {s:Shared} {E:Value->Shared->Prop}
theorem Inv.wish (I:Inv X pins σ H s) (E:Value->Shared->Prop):Inv (X.wish E) pins σ H s:=⟨I.ok.wish E,I.os,I.bare,I.base,I.loc,I.cell,I.free,I.freeC,I.pin,I.hok,I.len⟩
theorem Inv.unwish (I:Inv (X.wish E) pins σ H s):Inv X pins σ H s:=⟨I.ok.unwish,I.os,I.bare,I.base,I.loc,I.cell,I.free,I.freeC,I.pin,I.hok,I.len⟩
theorem SP.unwish {D:Ends} {f:Flow} {s':Shared} (h:SP (X.wish E) pins D f s'):SP X pins D f s':=by
 cases f with
 | next=>obtain ⟨a,H',I,q⟩:=h;exact ⟨a,H',I.unwish,q⟩
 | brk=>obtain ⟨a,H',I,q⟩:=h;exact ⟨a,H',I.unwish,q⟩
 | cont=>obtain ⟨a,H',I,q⟩:=h;exact ⟨a,H',I.unwish,q⟩
 | ret u=>obtain ⟨v,a,H',I,r,q⟩:=h;exact ⟨v,a,H',I.unwish,r,q⟩
theorem PSs.nox {st:List Stmt} {t:TS} (h:PSs X.nox st t):PSs X st t:=fun pins s σ H D I a =>
 aK2 (h pins s σ H D (I.wish _) a) (fun _ _ q=>q.unwish) fun _ _ z=>False.elim z
end
section
variable {X:Cx} {st:Stmt} {rest:List Stmt} {t u:TS} {e:Expr} {te:TE} {pos:Pos}
def aqm:TS:=fun D σ H=>D.nx σ H
def tSeq (t u:TS):TS:=fun D σ H=>t { D with nx:=u D } σ H
theorem aa1:PSs X [] aqm:=fun _ _ σ H _ I h=>wpAny_execs_nil ⟨σ,H,I,h⟩
theorem aac (d:PS X st t) (b:PSs X rest u):PSs X (st :: rest) (tSeq t u):=by
 intro pins s σ H D I h
 refine wpAny_execs_cons (thn (d pins s σ H { D with nx:=u D } I h) fun f s1 q=>?_)
 cases f with
 | next =>
  obtain ⟨a,H',c,q⟩:=q
  exact b pins s1 a H' D c q
 | ret v=>exact q
 | brk=>exact q
 | cont=>exact q
theorem aah (a:PS X st t):PSs X [st] t:=by
 intro pins s σ H D I h
 refine wpAny_execs_cons (thn (a pins s σ H D I h) fun f s1 q=>?_)
 cases f with
 | next=>exact wpAny_execs_nil q
 | ret v=>exact q
 | brk=>exact q
 | cont=>exact q
theorem Inv.quiet {pins:List (Addr × Obj)} {σ:St} {H:Hp} {s:Shared} (I:Inv X pins σ H s):interactive X.env=false:=by simp [interactive,I.ok.kind]
def aqn (te:TE):TS:=fun D σ H=>te σ H fun _ H1=>D.nx σ H1
theorem abj (a:PE X e te) (hs:swapsWith e none pos.line X.env=pure false:=by rfl):PS X (.Expr e pos) (aqn te):=by
 intro pins s σ H D I h
 exact wpAny_Expr_any (thn (a pins s σ H _ I h) fun v s1 ⟨x,d,c,f,b⟩=>⟨σ,d,c,b⟩) I.quiet hs
def tRet (te:TE):TS:=fun D σ H=>te σ H D.rt
theorem aau (a:PE X e te):PS X (.Return (some e) pos) (tRet te):=by
 intro pins s σ H D I h
 exact wpAny_Return_some (thn (a pins s σ H _ I h) fun v s1 ⟨x,f,d,c,b⟩=>⟨x,σ,f,d,c,b⟩)
def tIfS (c:TT) (t u:TS):TS:=fun D σ H=>c σ H fun b H1=>if b=true then t D σ H1 else u D σ H1
theorem abl {c:Expr} {a b:List Stmt} {i:TT} (l:PT X c i) (ha:PSs X a t) (hb:PSs X b u):PS X (.If c a b pos) (tIfS i t u):=by
 intro pins s σ H D I h
 refine wpAny_If (thn (l pins s σ H _ I h) fun d s1 ⟨f,j,g⟩=>?_)
 cases d with
 | true=>exact ha pins s1 σ f D j g
 | false=>exact hb pins s1 σ f D j g
def az1:TS:=fun _ _ _=>False
theorem aly:PS X st az1:=fun _ _ _ _ _ _ h=>h.elim
end
abbrev TG:=V->St->Hp->(St->Hp->Prop)->Prop
abbrev TGs:=List V->St->Hp->(St->Hp->Prop)->Prop
def PG (X:Cx) (target:Expr) (t:TG):Prop :=
 ∀ (pins:List (Addr × Obj)) (s:Shared) (σ:St) (H:Hp) (v:V) (u:Value) (Q:St->Hp->Prop),Inv X pins σ H s->RelV v u->t v σ H Q ->
  wpAny (model X.prog X.w) X.A (assign target X.env u) (fun _ s'=>∃ σ' H',Inv X pins σ' H' s'/\Q σ' H') X.xe s
def PGs (X:Cx) (ts:List Expr) (t:TGs):Prop :=
 ∀ (pins:List (Addr × Obj)) (s:Shared) (σ:St) (H:Hp) (vs:List V) (us:List Value) (Q:St->Hp->Prop),Inv X pins σ H s->Vals vs us->t vs σ H Q ->
  wpAny (model X.prog X.w) X.A (assignInOrder ((assignEach ts X.env).map (·.2)) us) (fun _ s'=>∃ σ' H',Inv X pins σ' H' s'/\Q σ' H') X.xe s
abbrev TSet:=V->V->V->Hp->(Hp->Prop)->Prop
def PSet (X:Cx) (t:TSet):Prop :=
 ∀ (pins:List (Addr × Obj)) (s:Shared) (σ:St) (H:Hp) (o i v:V) (ov iv u:Value) (Q:Hp->Prop),Inv X pins σ H s->RelV o ov->RelV i iv->RelV v u->t o i v H Q ->
  wpAny (model X.prog X.w) X.A (setItem ov iv u) (fun _ s'=>∃ H',Inv X pins σ H' s'/\Q H') X.xe s
section
variable {X:Cx} {pos:Pos}
def aa4 (i:Nat):TG:=fun v σ H Q=>Q (σ.set i (some v)) H
theorem aaj {i:Nat} {x:Str} (c:X.N.Nodup) (hi:X.N[i]?=some x) (b:Loc X.env.scope x) (hf:X.fn x=true\/X.env.scope.names.lookup x=some .local:=by first | exact .inl rfl | exact .inr rfl | assumption):PG X (.Name x pos) (aa4 i):=by
 intro pins s σ H v u Q I r h
 exact wpAny_assign_Name (alv I c hi b r (fun s' a=>⟨_,H,a,h⟩) hf)
def gNil:TGs:=fun vs σ H Q=>vs=[]/\Q σ H
def ae0 (t:TG) (u:TGs):TGs:=fun vs σ H Q=>∃ v r,vs=v :: r/\t v σ H fun σ' H'=>u r σ' H' Q
theorem acp:PGs X [] gNil:=by
 intro pins s σ H vs us Q I r h
 obtain ⟨e,h⟩:=h
 subst e
 cases r
 exact assignInOrder_nil ⟨σ,H,I,h⟩
theorem aa0 {e:Expr} {es:List Expr} {t:TG} {u:TGs} (b:PG X e t) (c:PGs X es u)
  (hs:(assignEach (e :: es) X.env).map (·.2)=assign e X.env :: (assignEach es X.env).map (·.2):=by rfl):PGs X (e :: es) (ae0 t u):=by
 intro pins s σ H vs us Q I r h
 obtain ⟨v,j,g,h⟩:=h
 subst g
 cases r with
 | cons r rr =>
  rw [hs]
  refine assignInOrder_cons (thn (b pins s σ H _ _ _ I r h) fun _ s1 ⟨a,d,i,f⟩=>?_)
  exact c pins s1 a d _ _ Q i rr f
def gTup (K:Frag) (n:Nat) (t:TGs):TG:=fun v σ H Q=>∃ a xs,v=.ref a/\SqT K H a xs/\xs.length=n/\t xs σ H Q
theorem ac9 {es:List Expr} {k:Nat} {t:TGs} {n:Nat} (g:X.calm=true) (h:PGs X es t)
  (hn:(assignEach es X.env).length=n:=by rfl) (d:(assignEach es X.env).findIdx? (·.1)=none:=by rfl):PG X (.Tuple es k pos) (gTup X.K n t):=by
 intro pins s σ H v u Q I r c
 obtain ⟨a,xs,m,i,j,c⟩:=c
 subst m
 cases r
 obtain ⟨its,f,q,hz⟩:=I.tuple i
 refine assign_Tuple_tuple (I.ok.hd g) q (by simp [hn,← j,f.length]) d fun h' l=>?_
 have p:Inv X pins σ H { s with heap:=h' }:=I.kept (t':=s.toks) fun b o e=>l b o (aB6 (aJ6 e)) e
 exact h pins _ σ H xs _ Q p (by simpa using f) c
def gSub (to ti:TE) (t:TSet):TG:=fun v σ H Q=>to σ H fun o H1=>ti σ H1 fun i H2=>t o i v H2 fun H3=>Q σ H3
theorem aga {o i:Expr} {to c:TE} {t:TSet} (d:PE X o to) (hi:PE X i c) (hs:PSet X t)
  (ha:∀ v,assign (.Subscript o i pos) X.env v=(do
   let a ← holding [v] (eval o X.env)
   let b ← holding [v,a] (eval i X.env)
   standAt pos
   holding [v,a,b] (setItem a b v)
   release [v,a,b] []):=by intro _;rfl):PG X (.Subscript o i pos) (gSub to c t):=by
 intro pins s σ H v u Q I r h
 rw [ha]
 refine aJ3 (aJ9 (thn (d pins s σ H _ I h) fun a s1 ⟨x,j,w,p,l⟩=>?_))
 refine aJ3 (aJ9 (thn (hi pins s1 σ j _ w l) fun b s2 ⟨y,H2,g,n,m⟩=>?_))
 refine aJ3 (wpAny_standAt (aJ3 (aJ9 (thn (hs pins s2 σ H2 x y v a b u _ g p n r m) fun _ z ⟨H3,f,q⟩=>?_))))
 exact wpAny_release ⟨σ,H3,f,q⟩
def tAsg (te:TE) (g:TG):TS:=fun D σ H=>te σ H fun x H1=>g x σ H1 D.nx
theorem acr {tg e:Expr} {te:TE} {g:TG} (f:PE X e te) (l:PG X tg g) (hs:swapsWithSole [tg] e pos.line X.env=pure false:=by rfl) (a:swappedStores [tg] e X.env=pure none:=by rfl)
  (b:(assignEach [tg] X.env).map (·.2)=[assign tg X.env]:=by rfl):PS X (.Assign [tg] e pos) (tAsg te g):=by
 intro pins s σ H D I h
 refine wpAny_Assign_stores (thn (f pins s σ H _ I h) fun v s1 ⟨x,c,j,i,d⟩=>?_) hs a
 rw [b]
 exact thn (l pins s1 σ c x v _ j i d) fun _ s2 q=>q
theorem aan {i:Nat} {x:Str} {e:Expr} {te:TE} {a:Pos} (m:X.N.Nodup) (hi:X.N[i]?=some x) (c:Loc X.env.scope x) (g:PE X e te) (hs:swapsWith e (some (.Name x a)) pos.line X.env=pure false:=by rfl) (hf:X.fn x=true\/X.env.scope.names.lookup x=some .local:=by first | exact .inl rfl | exact .inr rfl | assumption) :
  PS X (.Assign [.Name x a] e pos) (tAsg te (aa4 i)):=by
 intro pins s σ H D I h
 refine wpAny_Assign_Name (thn (g pins s σ H _ I h) fun v s1 ⟨y,d,l,j,f⟩=>?_) hs
 exact alv l m hi c j (fun s2 b=>⟨_,d,b,f⟩) hf
end
section
variable {X:Cx} {pos:Pos}
def ar4 (c:TT) (tb:TS):TS:=fun D σ H=>∃ W:Nat->St->Hp->Prop,(∃ m,W m σ H)/\∀ m σ H,W m σ H ->
 c σ H fun b H1=>if b=true then ∃ N:St->Hp->Prop,(∀ σ' H',N σ' H'->∃ m',m' < m/\W m' σ' H')/\tb { D with nx:=N,ct:=N,bk:=D.nx } σ H1 else D.nx σ H1
theorem alz {c:Expr} {body:List Stmt} {z:TT} {r:TS} (B:PassesOwn (model X.prog X.w) X.A X.env X.xe) (C:PT X c z) (hb:PSs X body r):PS X (.While c body [] pos) (ar4 z r):=by
 intro pins s σ H D I h
 obtain ⟨W,⟨F,E⟩,i⟩:=h
 refine wpAny_While (codeAny_whileLoop (fun n s'=>∃ g H',Inv X pins g H' s'/\W n g H') ?_ F ⟨σ,H,I,E⟩)
 rintro n s1 ⟨d,x,J,G⟩
 refine wpAny_passesOwn B (thn (C pins s1 d x _ J (i n d x G)) fun b s2 ⟨H2,u,j⟩=>?_)
 cases b with
 | true =>
  obtain ⟨N,y,j⟩:=j
  rw [aF7 rfl]
  refine wpAny_passesOwn B (thn (hb pins s2 d H2 _ u j) fun f K l=>?_)
  cases f with
  | next =>
   obtain ⟨a,H3,m,q⟩:=l
   obtain ⟨o,hm,p⟩:=y a H3 q
   exact ⟨o,hm,a,H3,m,p⟩
  | cont =>
   obtain ⟨a,H3,m,q⟩:=l
   obtain ⟨o,hm,p⟩:=y a H3 q
   exact ⟨o,hm,a,H3,m,p⟩
  | brk=>exact l
  | ret v=>exact l
 | false =>
  rw [aF8 aB0]
  exact wpAny_execs_nil ⟨d,H2,u,j⟩
end
structure It where
 go:Nat->Hp->Prop
 yld:Nat->Hp->V->Hp->Prop
 stop:Nat->Hp->Prop
def FpOk (X:Cx) (pins:List (Addr × Obj)) (H:Hp) (b:Addr):Prop :=
 H b=none/\b ≠ X.env.locals/\b ∉ X.fs/\(b∈X.ex\/X.s₀.heap.objs.size<=b)/\(∀ x c,X.env.cells.lookup x=some c->c ≠ b)/\∀ p∈X.pn ++ pins,p.1 ≠ b
theorem Inv.fpOk {X:Cx} {pins:List (Addr × Obj)} {σ:St} {H H':Hp} {s:Shared} {b:Addr} (I:Inv X pins σ H s) (hb:s.heap.objs.size<=b) (hn:H' b=none):FpOk X pins H' b:=by
 refine ⟨hn,Nat.ne_of_gt (aC5 I.lt hb),I.nofs hb,.inr (aD0 I.sz hb),fun x c e z=>?_,fun p a z=>?_⟩
 ·obtain ⟨v,q⟩:=I.cell x c e
  exact absurd (aC5 q.lt (by rw [z];exact hb)) (aG6 _)
 ·exact absurd (aC5 (aJ6 (I.pin p a).1) (by rw [z];exact hb)) (aG6 _)
structure Turn (P:Program) (w:World) (K:Frag) (tg:Expr) (J:It) (fp:List Addr) (it:Addr) (tn:Nat->Heap->Prop):Prop where
 mem:it∈fp
 obj:∀ i h,tn i h->∀ b∈fp,∃ o,h.get? b=some o/\∀ v,o.data ≠ .cell v
 keep:∀ i h h',tn i h->(∀ b∈fp,∀ o,h.get? b=some o->h'.get? b=some o)->tn i h'
 item:∀ (X:Cx),X.prog=P->X.w=w->X.K=K->X.calm=true->∀ (i:Nat) (pins:List (Addr × Obj)) (s:Shared) (σ:St) (H:Hp) (E:Value->Shared->Prop),Inv X pins σ H s->(∀ b∈fp,FpOk X pins H b)->tn i s.heap->J.go i H ->
  wpAny (model P w) X.A (pyNext (.ref it)) (fun r s1=>∃ u,r=some u /\
   wpAny (model P w) X.A (letOwnedTupleGo tg (.ref it) u) (fun _ s2=>∃ x H',Inv X pins σ H' s2/\RelV x u/\J.yld i H x H'/\tn (i+1) s2.heap/\∀ b∈fp,H' b=none) E s1) E s
 done:∀ (X:Cx),X.prog=P->X.w=w->X.K=K->X.calm=true->∀ (i:Nat) (pins:List (Addr × Obj)) (s:Shared) (σ:St) (H:Hp) (E:Value->Shared->Prop),Inv X pins σ H s->(∀ b∈fp,FpOk X pins H b)->tn i s.heap->J.stop i H ->
  wpAny (model P w) X.A (pyNext (.ref it)) (fun r s1=>r=none/\Inv X pins σ H s1) E s
 self:∀ (A:Around) (i:Nat) (s:Shared) (Q:Value->Shared->Prop) (E:Value->Shared->Prop),tn i s.heap->Q (.ref it) s->wpAny (model P w) A (pyIter (.ref it)) Q E s
abbrev TI:=St->Hp->(It->Hp->Prop)->Prop
def PIE (X:Cx) (pins:List (Addr × Obj)) (σ:St) (tg:Expr) (R:It->Hp->Prop) (itv:Value) (s2:Shared):Prop :=
 ∃ (it:Addr) (fp:List Addr) (tn:Nat->Heap->Prop) (J:It) (H':Hp),itv=.ref it/\Inv X pins σ H' s2/\Turn X.prog X.w X.K tg J fp it tn/\tn 0 s2.heap/\(∀ b∈fp,FpOk X pins H' b)/\R J H'
def PI (X:Cx) (tg iter:Expr) (wi:TI):Prop :=
 ∀ (pins:List (Addr × Obj)) (s:Shared) (σ:St) (H:Hp) (R:It->Hp->Prop),Inv X pins σ H s->wi σ H R ->
  wpAny (model X.prog X.w) X.A (eval iter X.env) (fun v s1=>wpAny (model X.prog X.w) X.A (pyIter v) (PIE X pins σ tg R) X.xe s1) X.xe s
theorem awp {M:Model} {A:Around} {E:Value->Shared->Prop} {s:Shared} {tg:Expr} {it:Addr} {u:Value} {o:Obj} {n:String} {vs:Array Value} {Q:Unit->Shared->Prop} (c:s.heap.get? it=some o) (b:o.cls=.type n) (hd:o.data=.fields vs)
  (hn:["enumerate","zip","dict_itemiterator","dict_reverseitemiterator","odict_iterator","itertools.zip_longest","itertools.pairwise"].contains n=false) (a:Q () s):wpAny M A (letOwnedTupleGo tg (.ref it) u) Q E s:=by
 unfold letOwnedTupleGo
 cases tg <;> first
  | exact aJ4 a
  | (cases u <;> first
    | exact aJ4 a
    | (refine aJ3 (wpAny_load c ?_)
       rw [b,hd]
       show wpAny M A (if (["enumerate","zip","dict_itemiterator","dict_reverseitemiterator","odict_iterator","itertools.zip_longest","itertools.pairwise"].contains n && vs[0]? == some (rawInt _))=true then _ else _) Q E s
       rw [aF8 (by intro h;rw [hn,Bool.false_and] at h;cases h)]
       exact aJ4 a))
def Itl (K:Frag) (a:Addr):It :=
 ⟨fun i H=>∃ xs x,SqL K H a xs/\xs[i]?=some x,fun i H x H'=>H'=H/\∀ xs,SqL K H a xs->xs[i]?=some x,fun i H=>∃ xs,SqL K H a xs/\xs.length<=i⟩
def Itr (lo:Int) (n:Nat):It:=⟨fun i _=>i < n,fun i H x H'=>H'=H/\x=.int (lo+i),fun i _=>n<=i⟩
theorem ar5 {P:Program} {w:World} {K:Frag} {tg:Expr} (a it:Addr):Turn P w K tg (Itl K a) [it] it (fun i h=>h.IsListIter it a i) where
 mem:=by simp
 obj:=fun i h st b hb=>by
  have e:b=it:=by simpa using hb
  subst e
  obtain ⟨o,e,c,d⟩:=st
  exact ⟨o,e,fun v z=>by rw [d] at z;cases z⟩
 keep:=fun i h h' st k=>st.at fun o e=>k it (by simp) o e
 item:=by
  intro X g l j C i pins s σ H E I hf st A
  subst g l j
  obtain ⟨xs,x,f,n⟩:=A
  obtain ⟨its,q,p,hz⟩:=I.list f
  obtain ⟨u,G,D⟩:=q.get n
  obtain ⟨y,f1,F,r,B,m⟩:=hf it (by simp)
  refine wpAny_pyNext_list_item st p.isList (x:=u) (by simpa using G) fun h' st' sb=>?_
  have M:Inv X pins σ H { s with heap:=h' }:=I.turned (t':=s.toks) (fun b o hb e=>(sb.2 b hb).trans e) y f1 r B m
  obtain ⟨o,e,c,d⟩:=id st'
  exact ⟨u,rfl,awp (s:={ s with heap:=h' }) e c d (by decide) ⟨x,H,M,D,⟨rfl,fun ys J=>by rw [I.list_inj J f];exact n⟩,st',fun b hb=>(hf b hb).1⟩⟩
 done:=by
  intro X g l j C i pins s σ H E I hf st A
  subst g l j
  obtain ⟨xs,f,n⟩:=A
  obtain ⟨its,q,p,hz⟩:=I.list f
  obtain ⟨y,f1,F,r,B,m⟩:=hf it (by simp)
  have N:=q.length
  exact wpAny_pyNext_list_end (I.ok.hd C) st p.isList (by simp;lia) fun h' L=>⟨rfl,I.turned (t':=s.toks) (fun b o hb e=>L b o hb e) y f1 r B m⟩
 self:=fun _ _ _ _ _ st h=>wpAny_pyIter_listiter st h
theorem aqo {P:Program} {w:World} {K:Frag} {tg:Expr} (it:Addr) (lo:Int) (n:Nat):Turn P w K tg (Itr lo n) [it] it (fun i h=>IsRangeIter h it (lo+(i:Nat) * 1) ((n:Int) - (i:Nat)) 1) where
 mem:=by simp
 obj:=fun i h st b hb=>by
  have e:b=it:=by simpa using hb
  subst e
  exact ⟨_,st,fun v z=>by
   have x:Data.fields _=Data.cell v:=z
   cases x⟩
 keep:=fun i h h' st k=>k it (by simp) _ st
 item:=by
  intro X a f c d i pins s σ H E I hf st m
  subst a f c
  obtain ⟨l,f1,y,j,p,g⟩:=hf it (by simp)
  have W:=Walks.range (prog:=X.prog) (w:=X.w) (I.ok.hd d) it lo 1 n
  refine W.item i s _ _ m st fun v h' q r st' u=>?_
  obtain ⟨t,rfl⟩:=r
  have B:Inv X pins σ H { s with heap:=h',toks:=q }:=I.turned (fun b o hb e=>u b o (by simpa using hb) e) l f1 j p g
  refine ⟨_,rfl,awp (s:={ s with heap:=h',toks:=q }) (n:="range_iterator") st' rfl rfl (by decide) ⟨.int (lo+i),H,B,⟨t,?_⟩,⟨rfl,rfl⟩,st',fun b hb=>(hf b hb).1⟩⟩
  rw [Int.mul_one]
 done:=by
  intro X a f c d i pins s σ H E I hf st m
  subst a f c
  obtain ⟨l,f1,y,j,p,g⟩:=hf it (by simp)
  exact wpAny_pyNext_range_end (I.ok.hd d) st (by have:n<=i:=m;lia) fun h' A=>⟨rfl,I.turned (t':=s.toks) (fun b o hb e=>A b o hb e) l f1 j p g⟩
 self:=fun _ _ _ _ _ st h=>wpAny_pyIter_rangeiter st h
section
variable {X:Cx} {tg:Expr}
def aqp (K:Frag) (tl:TE):TI:=fun σ H R=>tl σ H fun x H1=>∃ a,x=.ref a/\(∃ xs,SqL K H1 a xs)/\R (Itl K a) H1
theorem aba {l:Expr} {tl:TE} (f:PE X l tl):PI X tg l (aqp X.K tl):=by
 intro pins s σ H R I h
 refine thn (f pins s σ H _ I h) fun v s1 ⟨x,g,c,j,i⟩=>?_
 obtain ⟨a,e,⟨xs,d⟩,q⟩:=i
 subst e
 cases j
 obtain ⟨its,m,p,hz⟩:=c.list d
 refine aK8 p.isList ?_
 refine ⟨s1.heap.objs.size,[s1.heap.objs.size],_,_,g,rfl,c.kept (t':=s1.toks) fun b o e=>aJ5 _ e,ar5 a _,⟨_,aJ7 _ rfl,rfl,rfl⟩,fun b hb=>?_,q⟩
 have e:b=s1.heap.objs.size:=by simpa using hb
 subst e
 exact c.fpOk (aA6 _) (c.hok.fresh (aA6 _))
theorem al0 {pins:List (Addr × Obj)} {σ:St} {H:Hp} {s:Shared} {R:It->Hp->Prop} {E:Value->Shared->Prop} {lo hi:Int} {t u v:Tok} {a:Nat} (I:Inv X pins σ H s) (d : -(2 ^ 62)<=lo) (f:lo < 2 ^ 62) (i : -(2 ^ 62)<=hi) (j:hi < 2 ^ 62)
  (q:R (Itr lo (hi - lo).toNat) H):wpAny (model X.prog X.w) X.A (pyIter (.ref s.heap.objs.size)) (PIE X pins σ tg R) E { s with heap:=s.heap.push { cls:=.type "range",data:=.fields #[.int lo t,.int hi u,.int 1 v] },toks:=a }:=by
 refine wpAny_pyIter_range (IsRange.new ..) (small_one d f i j) ?_
 have c:Inv X pins σ H { s with heap:=s.heap.push { cls:=.type "range",data:=.fields #[.int lo t,.int hi u,.int 1 v] },toks:=a }:=I.kept fun b o e=>aJ5 _ e
 refine ⟨(s.heap.push { cls:=.type "range",data:=.fields #[.int lo t,.int hi u,.int 1 v] }).objs.size,[(s.heap.push { cls:=.type "range",data:=.fields #[.int lo t,.int hi u,.int 1 v] }).objs.size],_,_,H,rfl,
  c.kept (t':=a) fun b o e=>aJ5 _ e,aqo _ lo (hi - lo).toNat,?_,fun b hb=>?_,q⟩
 ·have h:lo+((0:Nat):Int) * 1=lo:=by simp
  have g:(((hi - lo).toNat:Nat):Int) - ((0:Nat):Int)=Builtin.Range.rangeSize lo hi 1:=by rw [rangeSize_one];split <;> lia
  show IsRangeIter _ _ (lo+((0:Nat):Int) * 1) ((((hi - lo).toNat:Nat):Int) - ((0:Nat):Int)) 1
  rw [h,g]
  exact aJ7 _ rfl
 ·have e:b=(s.heap.push { cls:=.type "range",data:=.fields #[.int lo t,.int hi u,.int 1 v] }).objs.size:=by simpa using hb
  subst e
  exact c.fpOk (aA6 _) (c.hok.fresh (aA6 _))
def aqq (ta:TA):TI:=fun σ H R=>ta σ H fun vs H1=>∃ j:Int,vs=[.int j]/\-(2 ^ 62)<=j/\j < 2 ^ 62/\R (Itr 0 j.toNat) H1
def awq (ta:TA):TI:=fun σ H R=>ta σ H fun vs H1=>∃ i j:Int,vs=[.int i,.int j]/\(-(2 ^ 62)<=i/\i < 2 ^ 62/\-(2 ^ 62)<=j/\j < 2 ^ 62)/\R (Itr i (j - i).toNat) H1
theorem abk {a:Expr} {c:TA} {p pos:Pos} (i:Gl X "range") (hm:X.mg "range" = none) (ha:PA X [a] c) (hs:starEach [a] X.env=[(false,eval a X.env)]:=by rfl):PI X tg (.Call (.Name "range" p) [a] [] pos) (aqq c):=by
 intro pins s σ H R I h
 refine Call_ (ad3 I i hm boot_range (PyProof.Rows.callWith_type1 (thn (ha pos pins s σ H _ I h) fun us s1 ⟨vs,l,g,f,b⟩=>?_) hs rfl))
 obtain ⟨j,e,b,d,q⟩:=b
 subst e
 cases f with
 | cons r rr =>
  cases rr
  obtain ⟨t,rfl⟩:=r
  exact call_range_1 (al0 g (by lia) (by lia) b d (by simpa using q))
theorem ad4 {a b:Expr} {f:TA} {p pos:Pos} (o:Gl X "range") (hm:X.mg "range" = none) (ha:PA X [a,b] f) (hs:starEach [a,b] X.env=[(false,eval a X.env),(false,eval b X.env)]:=by rfl) (c:starEach [b] X.env=[(false,eval b X.env)]:=by rfl) :
  PI X tg (.Call (.Name "range" p) [a,b] [] pos) (awq f):=by
 intro pins s σ H R I h
 refine Call_ (ad3 I o hm boot_range (PyProof.Rows.callWith_type1 (thn (ha pos pins s σ H _ I h) fun us s1 ⟨vs,v,n,l,d⟩=>?_) (by rw [hs,c]) (by rw [c];rfl)))
 obtain ⟨i,j,e,⟨d,g,m,u⟩,q⟩:=d
 subst e
 cases l with
 | cons r rr =>
  cases rr with
  | cons r' rr =>
   cases rr
   obtain ⟨t,rfl⟩:=r
   obtain ⟨t',rfl⟩:=r'
   exact call_range_2 (al0 n d g m u q)
def tFor (wi:TI) (g:TG) (tb:TS):TS:=fun D σ H=>wi σ H fun J H1=>∃ W:Nat->Nat->St->Hp->Prop,(∃ m,W 0 m σ H1)/\∀ i m σ H,W i m σ H ->
 (J.stop i H/\D.nx σ H)\/(J.go i H/\∃ N:St->Hp->Prop,(∀ σ' H',N σ' H'->∃ m',m' < m/\W (i+1) m' σ' H')/\∀ x H',J.yld i H x H'->g x σ H' fun σ2 H2=>tb { D with nx:=N,ct:=N,bk:=D.nx } σ2 H2)
def aen (fp:List Addr) (h:Heap):List (Addr × Obj):=fp.filterMap fun b=>(h.get? b).map fun o=>(b,o)
theorem ab4 {fp:List Addr} {h:Heap} {b:Addr} {o:Obj} (hb:b∈fp) (e:h.get? b=some o):(b,o)∈aen fp h:=List.mem_filterMap.mpr ⟨b,hb,by rw [e];rfl⟩
theorem ar6 {fp:List Addr} {h:Heap} {p:Addr × Obj} (c:p∈aen fp h):p.1∈fp/\h.get? p.1=some p.2:=by
 obtain ⟨b,hb,e⟩:=List.mem_filterMap.mp c
 cases q:h.get? b with
 | none=>rw [q] at e;cases e
 | some o =>
  rw [q] at e
  have a:(b,o)=p:=aC6 e
  subst a
  exact ⟨hb,q⟩
theorem Inv.pinned {pins:List (Addr × Obj)} {σ:St} {H:Hp} {s:Shared} {fp:List Addr} (I:Inv X pins σ H s) (hf:∀ b∈fp,FpOk X pins H b) (c:∀ b∈fp,∃ o,s.heap.get? b=some o/\∀ v,o.data ≠ .cell v):Inv X (pins ++ aen fp s.heap) σ H s :=
 I.pins_of fun p g=>(aA7.mp g).elim (fun z=>I.pin p (aB3 _ z)) fun z=>by
  obtain ⟨hb,e⟩:=ar6 z
  obtain ⟨h,f1,f,_⟩:=hf p.1 hb
  obtain ⟨o,a,d⟩:=c p.1 hb
  rw [e] at a;cases a
  exact ⟨e,h,f1,f,d⟩
theorem Inv.unpinned {pins pl:List (Addr × Obj)} {σ:St} {H:Hp} {s:Shared} (I:Inv X (pins ++ pl) σ H s):Inv X pins σ H s:=I.pins_of fun p a=>I.pin p (aB3 _ (aC7 _ a))
theorem abp {iter:Expr} {body:List Stmt} {wi:TI} {g:TG} {Z:TS} {pos:Pos} (G:PassesOwn (model X.prog X.w) X.A X.env X.xe) (U:X.calm=true) (hi:PI X tg iter wi) (hg:PG X tg g) (hb:PSs X body Z)
  (hs:∀ x,foldedSetIterable iter X.env x=pure x:=by intro _;rfl):PS X (.For tg iter body [] pos) (tFor wi g Z):=by
 intro pins s σ H D I h
 refine wpAny_For (thn (hi pins s σ H _ I h) fun v s1 h1=>thn h1 fun a0 s2 h2=>?_) hs
 obtain ⟨it,fp,tn,J,H2,e,I2,T,R,f2,W,⟨m0,w0⟩,K⟩:=h2
 subst e
 -- what stays true of the iterator's objects through the loop
 have c:∀ {H':Hp},(∀ b∈fp,H' b=none)->∀ b∈fp,FpOk X pins H' b:=fun hn b hb=>⟨hn b hb,(f2 b hb).2⟩
 refine codeAny_forLoop_any (fun n s'=>∃ i q H',Inv X pins q H' s'/\tn i s'.heap/\(∀ b∈fp,H' b=none)/\W i n q H') ?_ m0 ⟨0,σ,H2,I2,R,fun b hb=>(f2 b hb).1,w0⟩
 rintro n s3 ⟨i,y,H3,Y,F,C,w3⟩
 rcases K i n y H3 w3 with ⟨stop,qn⟩ | ⟨go,N,hN,step⟩
 ·refine wpAny_passesOwn G (thn (T.done X rfl rfl rfl U i pins s3 y H3 X.xe Y (c C) F stop) fun r s4 ⟨M,I4⟩=>?_)
  subst M
  exact wpAny_execs_nil ⟨y,H3,I4,qn⟩
 ·refine wpAny_passesOwn G (thn (T.item X rfl rfl rfl U i pins s3 y H3 X.xe Y (c C) F go) fun r s4 ⟨u,M,h4⟩=>?_)
  subst M
  refine wpAny_passesOwn G (thn h4 fun _ s5 ⟨x,S,I5,r5,y5,B,P⟩=>?_)
  have O:=I5.pinned (c P) (T.obj _ _ B)
  refine wpAny_passesOwn G (thn (hg _ s5 y S x u _ O r5 (step x S y5)) fun _ s6 ⟨L,H6,I6,q6⟩=>?_)
  refine wpAny_passesOwn G (thn (hb _ s6 L H6 _ I6 q6) fun f Q z=>?_)
  have l:∀ {a:St} {j:Hp},Inv X (pins ++ aen fp s5.heap) a j Q->N a j->∃ m,m < n/\∃ i q H',Inv X pins q H' Q/\tn i Q.heap/\(∀ b∈fp,H' b=none)/\W i m q H':=fun {a j} p E=>by
   obtain ⟨m',hm,w7⟩:=hN a j E
   refine ⟨m',hm,i+1,a,j,p.unpinned,T.keep _ _ _ B fun b hb o e=>(p.pin (b,o) (aB3 _ (aB3 _ (ab4 hb e)))).1,fun b hb=>?_,w7⟩
   obtain ⟨o,e,d⟩:=T.obj _ _ B b hb
   exact (p.pin (b,o) (aB3 _ (aB3 _ (ab4 hb e)))).2.1
  cases f with
  | next=>obtain ⟨a,j,p,E⟩:=z;exact l p E
  | cont=>obtain ⟨a,j,p,E⟩:=z;exact l p E
  | brk=>obtain ⟨a,j,p,z⟩:=z;exact ⟨a,j,p.unpinned,z⟩
  | ret v=>obtain ⟨x7,a,j,p,r7,z⟩:=z;exact ⟨x7,a,j,p.unpinned,r7,z⟩
end
theorem ar7 {lo:Int} {n:Nat} {g:TG} {d:TS} {D:Ends} {σ:St} {H:Hp} (b:Nat->St->Hp->Prop) (j:b 0 σ H)
  (hs:∀ i σ H,i < n->b i σ H->g (.int (lo+i)) σ H fun a H2=>d { D with nx:=b (i+1),ct:=b (i+1),bk:=D.nx } a H2) (hd:∀ σ H,b n σ H->D.nx σ H) :
  ∃ W:Nat->Nat->St->Hp->Prop,(∃ m,W 0 m σ H)/\∀ i m σ H,W i m σ H ->
   ((Itr lo n).stop i H/\D.nx σ H)\/((Itr lo n).go i H/\∃ N:St->Hp->Prop,(∀ c H',N c H'->∃ f,f < m/\W (i+1) f c H')/\∀ x H',(Itr lo n).yld i H x H'->g x σ H' fun a H2=>d { D with nx:=N,ct:=N,bk:=D.nx } a H2):=by
 refine ⟨fun i m σ H=>m=n - i/\i<=n/\b i σ H,⟨n,by simp,aG2 _,j⟩,?_⟩
 rintro i m σ H ⟨rfl,hi,p⟩
 by_cases hlt:i < n
 ·refine .inr ⟨hlt,b (i+1),fun c H' h=>⟨n - (i+1),by lia,rfl,hlt,h⟩,fun x H' y=>?_⟩
  obtain ⟨e,y⟩:=y
  subst e y
  exact hs i σ _ hlt p
 ·have e:i=n:=by lia
  subst e
  exact .inl ⟨aA6 _,hd σ H p⟩
abbrev R2:=V->V->Hp->VK->Prop
def OpR (X:Cx) (f:Value->Value->Sem Value) (r:R2):Prop :=
 ∀ (pins:List (Addr × Obj)) (s:Shared) (σ:St) (H:Hp) (x y:V) (v u:Value) (Q:VK),Inv X pins σ H s->RelV x v->RelV y u->r x y H Q ->
  wpAny (model X.prog X.w) X.A (f v u) (EP X pins σ Q) X.xe s
def UnR (X:Cx) (f:Value->Sem Value) (r:V->Hp->VK->Prop):Prop :=
 ∀ (pins:List (Addr × Obj)) (s:Shared) (σ:St) (H:Hp) (x:V) (v:Value) (Q:VK),Inv X pins σ H s->RelV x v->r x H Q ->
  wpAny (model X.prog X.w) X.A (f v) (EP X pins σ Q) X.xe s
def aa3 (X:Cx) (f:Value) (r:List V->Hp->VK->Prop):Prop :=
 ∀ (pins:List (Addr × Obj)) (s:Shared) (σ:St) (H:Hp) (xs:List V) (us:List Value) (Q:VK),Inv X pins σ H s->Vals xs us->r xs H Q ->
  wpAny (model X.prog X.w) X.A (call f us) (EP X pins σ Q) X.xe s
def TruR (X:Cx) (r:V->Hp->(Bool->Hp->Prop)->Prop):Prop :=
 ∀ (pins:List (Addr × Obj)) (s:Shared) (σ:St) (H:Hp) (x:V) (v:Value) (Q:Bool->Hp->Prop),Inv X pins σ H s->RelV x v->r x H Q ->
  wpAny (model X.prog X.w) X.A (truthy v) (TP X pins σ Q) X.xe s
def tOp (r:R2) (ta tb:TE):TE:=fun σ H Q=>ta σ H fun x H1=>tb σ H1 fun y H2=>r x y H2 Q
def tUn (r:V->Hp->VK->Prop) (ta:TE):TE:=fun σ H Q=>ta σ H fun x H1=>r x H1 Q
def rI (C:Int->Int->Prop) (g:Int->Int->V):R2:=fun x y H Q=>∃ i j,x=.int i/\y=.int j/\C i j/\Q (g i j) H
def rI0 (g:Int->Int->V):R2:=fun x y H Q=>∃ i j,x=.int i/\y=.int j/\Q (g i j) H
def rU (g:Int->V):V->Hp->VK->Prop:=fun x H Q=>∃ i,x=.int i/\Q (g i) H
section
variable {X:Cx} {a b c:Expr} {ta tb tc:TE} {pos:Pos}
theorem binT (ha:PE X a ta) (hb:PE X b tb) {pins:List (Addr × Obj)} {s:Shared} {σ:St} {H:Hp} {R:V->V->Hp->Prop} (I:Inv X pins σ H s)
  (h:ta σ H fun x g=>tb σ g fun y H2=>R x y H2) {Q:Value->Shared->Prop} {f:Value->Value->Sem Value}
  (hf:∀ v u s2 x y H2,Inv X pins σ H2 s2->RelV x v->RelV y u->R x y H2->wpAny (model X.prog X.w) X.A (f v u) Q X.xe s2) :
  wpAny (model X.prog X.w) X.A (eval a X.env) (fun v c=>wpAny (model X.prog X.w) X.A (eval b X.env) (fun u d=>wpAny (model X.prog X.w) X.A (f v u) Q X.xe d) X.xe c) X.xe s:=by
 refine thn (ha pins s σ H _ I h) fun v s1 ⟨x,g,o,n,j⟩=>?_
 refine thn (hb pins s1 σ g _ o j) fun u s2 ⟨y,H2,i,m,l⟩=>?_
 exact hf v u s2 x y H2 i n m l
theorem aav {op:Operator} {r:R2} (c:OpR X (binaryOp op) r) (ha:PE X a ta) (hb:PE X b tb):PE X (.BinOp a op b pos) (tOp r ta tb):=by
 intro pins s σ H Q I h
 exact wpAny_BinOp (binT ha hb I h fun v u s2 x y H2 f d g q=>c pins s2 σ H2 x y v u Q f d g q)
theorem awr {op:UnaryOp} {r:V->Hp->VK->Prop} (c:UnR X (unaryOp op) r) (ha:PE X a ta):PE X (.UnaryOp op a pos) (tUn r ta):=by
 intro pins s σ H Q I h
 exact UnaryOp_ (thn (ha pins s σ H _ I h) fun v s1 ⟨x,g,f,d,b⟩=>c pins s1 σ g x v Q f d b)
theorem opI {f:Value->Value->Sem Value} {C:Int->Int->Prop} {g:Int->Int->Int}
  (a:∀ (i j:Int) (t u:Tok) (s:Shared) (Q:Value->Shared->Prop) (E:Value->Shared->Prop),C i j->Q (.int (g i j) s.toks) { s with toks:=s.toks+1 }->wpAny (model X.prog X.w) X.A (f (.int i t) (.int j u)) Q E s) :
  OpR X f (rI C fun i j => .int (g i j)):=by
 intro pins s σ H x y v u Q I c d h
 obtain ⟨i,j,rfl,rfl,b,q⟩:=h
 obtain ⟨t,rfl⟩:=c
 obtain ⟨t',rfl⟩:=d
 exact a i j t t' s _ _ b ⟨.int (g i j),H,I.tok _,⟨_,rfl⟩,q⟩
theorem opI0 {f:Value->Value->Sem Value} {g:Int->Int->Int}
  (a:∀ (i j:Int) (t u:Tok) (s:Shared) (Q:Value->Shared->Prop) (E:Value->Shared->Prop),Q (.int (g i j) s.toks) { s with toks:=s.toks+1 }->wpAny (model X.prog X.w) X.A (f (.int i t) (.int j u)) Q E s) :
  OpR X f (rI0 fun i j => .int (g i j)):=by
 intro pins s σ H x y v u Q I b c h
 obtain ⟨i,j,rfl,rfl,q⟩:=h
 obtain ⟨t,rfl⟩:=b
 obtain ⟨t',rfl⟩:=c
 exact a i j t t' s _ _ ⟨.int (g i j),H,I.tok _,⟨_,rfl⟩,q⟩
theorem opB0 {f:Value->Value->Sem Value} {g:Int->Int->Bool}
  (a:∀ (i j:Int) (t u:Tok) (s:Shared) (Q:Value->Shared->Prop) (E:Value->Shared->Prop),Q (.bool (g i j)) s->wpAny (model X.prog X.w) X.A (f (.int i t) (.int j u)) Q E s) :
  OpR X f (rI0 fun i j => .bl (g i j)):=by
 intro pins s σ H x y v u Q I b c h
 obtain ⟨i,j,rfl,rfl,q⟩:=h
 obtain ⟨t,rfl⟩:=b
 obtain ⟨t',rfl⟩:=c
 exact a i j t t' s _ _ ⟨.bl (g i j),H,I,rfl,q⟩
def CDiv (i j:Int):Prop:=0 < j/\j < 1073741824
def CPow (i j:Int):Prop:=0<=j/\j<=1000000/\i.natAbs < 2 ^ 64
def CMul (i j:Int):Prop:=(-(2 ^ 64) < i/\i < 2 ^ 64)\/(-(2 ^ 64) < j/\j < 2 ^ 64)
theorem CMul.ok {i j:Int} (h:CMul i j):IntMulOk i j:=by
 rcases h with ⟨b,a⟩ | ⟨b,a⟩
 ·exact .of_left (intBits_le_64 b a)
 ·exact .of_right (intBits_le_64 b a)
theorem abq:OpR X (binaryOp .Add) (rI0 fun i j => .int (i+j)):=opI0 fun _ _ _ _ _ _ _ q=>add_int q
theorem aeo:OpR X (binaryOp .Sub) (rI0 fun i j => .int (i - j)):=opI0 fun _ _ _ _ _ _ _ q=>sub_int q
theorem afh:OpR X (binaryOp .Mult) (rI CMul fun i j => .int (i * j)):=opI fun _ _ _ _ _ _ _ a q=>mul_int q a.ok
theorem ai8:OpR X (binaryOp .FloorDiv) (rI CDiv fun i j => .int (i / j)):=opI fun i j _ _ _ _ _ a q=>by
 have c:(0:Int) < j:=a.1
 have b:j < 1073741824:=a.2
 exact floordiv_int (by lia) (by rw [Int.fdiv_eq_ediv_of_nonneg i (by lia)];exact q) (.inl (PyProof.noPylong_small (by lia)))
theorem aep:OpR X (binaryOp .Mod) (rI (fun _ j=>0 < j) fun i j => .int (i % j)):=opI fun i j _ _ _ _ _ a q=>by
 have b:(0:Int) < j:=a
 exact mod_int' (by lia) (by rw [Int.fmod_eq_emod_of_nonneg i (by lia)];exact q)
theorem az2:OpR X (binaryOp .Pow) (rI CPow fun i j => .int (i ^ j.toNat)):=opI fun _ _ _ _ _ _ _ a q=>pow_int_small a.1 a.2.1 a.2.2 q
theorem unI {f:Value->Sem Value} {g:Int->Int}
  (a:∀ (i:Int) (t:Tok) (s:Shared) (Q:Value->Shared->Prop) (E:Value->Shared->Prop),Q (.int (g i) s.toks) { s with toks:=s.toks+1 }->wpAny (model X.prog X.w) X.A (f (.int i t)) Q E s) :
  UnR X f (rU fun i => .int (g i)):=by
 intro pins s σ H x v Q I b h
 obtain ⟨i,rfl,q⟩:=h
 obtain ⟨t,rfl⟩:=b
 exact a i t s _ _ ⟨.int (g i),H,I.tok _,⟨_,rfl⟩,q⟩
theorem ar8:UnR X (unaryOp .USub) (rU fun i => .int (-i)):=unI fun _ _ _ _ _ q=>neg_int q
end
def scal:V->V->Bool
 | .non,.non=>true | .non,.int _=>true | .int _,.non=>true | .non,.bl _=>true | .bl _,.non=>true | .non,.str _=>true | .str _,.non=>true
 | .int _,.int _=>true | .bl _,.bl _=>true | .str _,.str _=>true | .byt _,.byt _=>true
 | .int _,.str _=>true | .str _,.int _=>true | .bl _,.str _=>true | .str _,.bl _=>true
 | _,_=>false
def rEq:R2:=fun x y H Q=>scal x y=true/\Q (.bl (decide (x=y))) H
def rNe:R2:=fun x y H Q=>scal x y=true/\Q (.bl (!decide (x=y))) H
theorem agx {i j:Int}:decide (V.int i=V.int j)=(i == j):=by
 rw [aI0]
 simp
theorem ar9 {i j:Bool}:decide (V.bl i=V.bl j)=(i == j):=by
 rw [aI0]
 simp
theorem aot {i j:Str}:decide (V.str i=V.str j)=(i == j):=by
 rw [aI0]
 simp
theorem aou {i j:Array UInt8}:decide (V.byt i=V.byt j)=(i.toList == j.toList):=by
 rw [aI0]
 cases i
 cases j
 simp
section
variable {X:Cx} {a b c:Expr} {ta tb tc:TE} {pos:Pos}
theorem aax {pins:List (Addr × Obj)} {σ:St} {H:Hp} {s:Shared} {Q:VK} {k a:Bool} (I:Inv X pins σ H s) (q:Q (.bl k) H) (e:k=a):EP X pins σ Q (.bool a) s:=by
 subst e
 exact ⟨.bl k,H,I,rfl,q⟩
theorem aeh:OpR X (compareOp .Eq) rEq:=by
 intro pins s σ H x y v u Q I b a h
 obtain ⟨hs,q⟩:=h
 cases x with
 | non =>
  cases b
  cases y with
  | non=>cases a;exact PySem.EqNone.eq_none_none (aax I q (by simp))
  | bl j=>cases a;exact PySem.EqNone.eq_none_bool (aax I q (by simp))
  | int j=>obtain ⟨t',rfl⟩:=a;exact PySem.EqNone.eq_none_int (aax I q (by simp))
  | str j=>obtain ⟨t',rfl⟩:=a;exact PySem.EqNone.eq_none_str (aax I q (by simp))
  | _=>exact absurd (show false=true from hs) aB0
 | bl i =>
  cases b
  cases y with
  | non=>cases a;exact PySem.EqNone.eq_bool_none (aax I q (by simp))
  | bl j=>cases a;exact eq_bool (aax I q ar9)
  | str j=>obtain ⟨t',rfl⟩:=a;exact PySem.EqMixed.eq_bool_str (aax I q (by simp))
  | _=>exact absurd (show false=true from hs) aB0
 | int i =>
  obtain ⟨t,rfl⟩:=b
  cases y with
  | non=>cases a;exact PySem.EqNone.eq_int_none (aax I q (by simp))
  | int j=>obtain ⟨t',rfl⟩:=a;exact eq_int (aax I q agx)
  | str j=>obtain ⟨t',rfl⟩:=a;exact PySem.EqMixed.eq_int_str (aax I q (by simp))
  | _=>exact absurd (show false=true from hs) aB0
 | str i =>
  obtain ⟨t,rfl⟩:=b
  cases y with
  | non=>cases a;exact PySem.EqNone.eq_str_none (aax I q (by simp))
  | bl j=>cases a;exact PySem.EqMixed.eq_str_bool (aax I q (by simp))
  | int j=>obtain ⟨t',rfl⟩:=a;exact PySem.EqMixed.eq_str_int (aax I q (by simp))
  | str j=>obtain ⟨t',rfl⟩:=a;exact eq_str (aax I q aot)
  | _=>exact absurd (show false=true from hs) aB0
 | byt i =>
  obtain ⟨t,rfl⟩:=b
  cases y with
  | byt j=>obtain ⟨t',rfl⟩:=a;exact PySem.W.eq_bytes (aax I q aou)
  | _=>exact absurd (show false=true from hs) aB0
 | _=>cases y <;> exact absurd (show false=true from hs) aB0
theorem agy:OpR X (compareOp .NotEq) rNe:=by
 intro pins s σ H x y v u Q I b a h
 obtain ⟨hs,q⟩:=h
 cases x with
 | non =>
  cases b
  cases y with
  | non=>cases a;exact PySem.EqNone.ne_none_none (aax I q (by simp))
  | bl j=>cases a;exact PySem.EqNone.ne_none_bool (aax I q (by simp))
  | int j=>obtain ⟨t',rfl⟩:=a;exact PySem.EqNone.ne_none_int (aax I q (by simp))
  | str j=>obtain ⟨t',rfl⟩:=a;exact PySem.EqNone.ne_none_str (aax I q (by simp))
  | _=>exact absurd (show false=true from hs) aB0
 | bl i =>
  cases b
  cases y with
  | non=>cases a;exact PySem.EqNone.ne_bool_none (aax I q (by simp))
  | bl j=>cases a;exact ne_bool (aax I q (congrArg not ar9))
  | str j=>obtain ⟨t',rfl⟩:=a;exact PySem.EqMixed.ne_bool_str (aax I q (by simp))
  | _=>exact absurd (show false=true from hs) aB0
 | int i =>
  obtain ⟨t,rfl⟩:=b
  cases y with
  | non=>cases a;exact PySem.EqNone.ne_int_none (aax I q (by simp))
  | int j=>obtain ⟨t',rfl⟩:=a;exact ne_int (aax I q (congrArg not agx))
  | str j=>obtain ⟨t',rfl⟩:=a;exact PySem.EqMixed.ne_int_str (aax I q (by simp))
  | _=>exact absurd (show false=true from hs) aB0
 | str i =>
  obtain ⟨t,rfl⟩:=b
  cases y with
  | non=>cases a;exact PySem.EqNone.ne_str_none (aax I q (by simp))
  | bl j=>cases a;exact PySem.EqMixed.ne_str_bool (aax I q (by simp))
  | int j=>obtain ⟨t',rfl⟩:=a;exact PySem.EqMixed.ne_str_int (aax I q (by simp))
  | str j=>obtain ⟨t',rfl⟩:=a;exact ne_str (aax I q (congrArg not aot))
  | _=>exact absurd (show false=true from hs) aB0
 | byt i =>
  obtain ⟨t,rfl⟩:=b
  cases y with
  | byt j=>obtain ⟨t',rfl⟩:=a;exact PySem.W.ne_bytes (aax I q (congrArg not aou))
  | _=>exact absurd (show false=true from hs) aB0
 | _=>cases y <;> exact absurd (show false=true from hs) aB0
theorem aqr:OpR X (compareOp .Lt) (rI0 fun i j => .bl (decide (i < j))):=opB0 fun _ _ _ _ _ _ _ q=>lt_int q
theorem ady:OpR X (compareOp .LtE) (rI0 fun i j => .bl (decide (i<=j))):=opB0 fun _ _ _ _ _ _ _ q=>le_int q
theorem ah0:OpR X (compareOp .Gt) (rI0 fun i j => .bl (decide (j < i))):=opB0 fun _ _ _ _ _ _ _ q=>gt_int q
theorem a2j:OpR X (compareOp .GtE) (rI0 fun i j => .bl (decide (j<=i))):=opB0 fun _ _ _ _ _ _ _ q=>ge_int q
theorem az3:OpR X (compareOp .Is) (fun x y H Q=>y=.non/\Q (.bl (decide (x=.non))) H):=by
 intro pins s σ H x y v u Q I a b h
 obtain ⟨rfl,q⟩:=h
 cases b
 refine is_none_gen (aax I q ?_)
 cases x <;> first
  | (cases a;rfl)
  | (obtain ⟨t,rfl⟩:=a;rfl)
theorem aay (b:Expr) {op:CmpOp} (h:op ≠ .In:=by decide) (a:op ≠ .NotIn:=by decide):behindInMarks op b=false:=by
 have d:(op == CmpOp.In)=false:=by cases op <;> first | rfl | exact absurd rfl h
 have c:(op == CmpOp.NotIn)=false:=by cases op <;> first | rfl | exact absurd rfl a
 cases b <;> simp [behindInMarks,d,c]
theorem abz {op:CmpOp} {r:R2} (c:OpR X (compareOp op) r) (ha:PE X a ta) (hb:PE X b tb) (hm:behindInMarks op b=false):PE X (.Compare a [op] [b] pos) (tOp r ta tb):=by
 intro pins s σ H Q I h
 exact wpAny_Compare1 (binT ha hb I h fun v u s2 x y H2 f d g q=>c pins s2 σ H2 x y v u Q f d g q) hm
def ali (t:TE):TT:=fun σ H Q=>t σ H fun x H'=>∃ k,x=.bl k/\Q k H'
theorem aa7 {op:CmpOp} {r:R2} (d:OpR X (compareOp op) r) (ha:PE X a ta) (hb:PE X b tb) (hm:behindInMarks op b=false):PT X (.Compare a [op] [b] pos) (ali (tOp r ta tb)):=by
 intro pins s σ H Q I h
 refine wpAny_isTrue_Compare1 (thn (ha pins s σ H _ I h) fun v s1 ⟨x,i,q,o,j⟩=>thn (hb pins s1 σ i _ q j) fun u s2 ⟨y,H2,g,n,l⟩ =>
  thn (d pins s2 σ H2 x y v u _ g o n l) fun c w ⟨z,H3,f,m,k,e,p⟩=>?_) hm
 subst e
 cases m
 exact aK7 ⟨H3,f,p⟩
def ah1 (r r':R2) (ta tb tc:TE):TE:=fun σ H Q=>ta σ H fun x H1=>tb σ H1 fun y H2=>r x y H2 fun z H3=>∃ k,z=.bl k /\
 (if k=true then tc σ H3 fun w' H4=>r' y w' H4 Q else Q (.bl false) H3)
theorem auo {op f:CmpOp} {r j:R2} (o:OpR X (compareOp op) r) (g:OpR X (compareOp f) j) (ha:PE X a ta) (hb:PE X b tb) (n:PE X c tc)
  (hm:lastMarks [op,f] [b,c]=false:=by with_unfolding_all rfl):PE X (.Compare a [op,f] [b,c] pos) (ah1 r j ta tb tc):=by
 intro pins s σ H Q I h
 refine Compare_chain (thn (ha pins s σ H _ I h) fun v s1 ⟨x,A,M,L,C⟩=>chain_link (thn (hb pins s1 σ A _ M C) fun u s2 ⟨y,H2,q,l,D⟩ =>
  thn (o pins s2 σ H2 x y v u _ q L l D) fun d w ⟨z,H3,i,E,k,e,m⟩=>?_)) hm
 subst e
 cases E
 refine aK7 ?_
 cases k with
 | false=>exact ite_ff ⟨.bl false,H3,i,rfl,m⟩
 | true=>exact ite_tt (chain_last (thn (n pins w σ H3 _ i m) fun p K ⟨B,F,G,J,N⟩=>g pins K σ F y B u p Q G l J N))
theorem ahm {op f:CmpOp} {r j:R2} (o:OpR X (compareOp op) r) (g:OpR X (compareOp f) j) (ha:PE X a ta) (hb:PE X b tb) (n:PE X c tc)
  (hm:lastMarks [op,f] [b,c]=false:=by with_unfolding_all rfl):PT X (.Compare a [op,f] [b,c] pos) (ali (ah1 r j ta tb tc)):=by
 intro pins s σ H Q I h
 refine isTrue_chain (thn (ha pins s σ H _ I h) fun v s1 ⟨x,C,S,R,F⟩=>test_link (thn (hb pins s1 σ C _ S F) fun u s2 ⟨y,H2,A,l,G⟩ =>
  thn (o pins s2 σ H2 x y v u _ A R l G) fun d B ⟨z,H3,i,K,k,e,m⟩=>?_)) hm
 subst e
 cases K
 refine aK7 ?_
 cases k with
 | false =>
  obtain ⟨Z,p,W⟩:=m
  cases p
  exact ite_ff ⟨H3,i,W⟩
 | true =>
  refine ite_tt (test_last (thn (n pins B σ H3 _ i m) fun q P ⟨E,L,M,O,U⟩=>thn (g pins P σ L y E u q _ M l O U) fun d' s5 ⟨z2,N,J,T,Y,w,D⟩=>?_))
  subst w
  cases T
  exact aK7 ⟨N,J,D⟩
def TruV (K:Frag) (x:V) (H:Hp) (k:Bool):Prop :=
 match x with
 | .non=>k=false
 | .bl b=>k=b
 | .int i=>k=(i != 0)
 | .str y=>y.length<=sizeLine/\k=((y.length:Int) != 0)
 | .byt y=>y.size<=sizeLine/\k=((y.size:Int) != 0)
 | .ref p=>(∃ xs,SqL K H p xs/\k = !xs.isEmpty)\/(∃ xs,SqT K H p xs/\k = !xs.isEmpty)\/∃ kvs,H p=some (.dK kvs)/\k = !kvs.isEmpty
 | _=>False
theorem aqs {κ:Type} {kvs:List (κ × V)} {vs:List (κ × Value)} (r:KV kvs vs):(!vs.isEmpty) = !kvs.isEmpty:=by
 cases r <;> rfl
theorem ah2 {xs:List V} {its:List Value} (r:Vals xs its):(!its.toArray.isEmpty) = !xs.isEmpty:=by
 cases r <;> simp
theorem agb:(sizeLine:Nat) < 2 ^ 63:=by rw [sizeLine_eq];decide
theorem az4:TruR X (fun x H Q=>∃ k,TruV X.K x H k/\Q k H):=by
 intro pins s σ H x v Q I d h
 obtain ⟨k,e,q⟩:=h
 have l:=agb
 have hs:sizeLine=16777216:=sizeLine_eq
 cases x with
 | non =>
  cases d
  have a:k=false:=e
  subst a
  exact truthy_none ⟨H,I,q⟩
 | bl b =>
  cases d
  have a:k=b:=e
  subst a
  exact aK7 ⟨H,I,q⟩
 | int i =>
  obtain ⟨t,rfl⟩:=d
  have a:k=(i != 0):=e
  subst a
  exact PySem.P.truthy_int ⟨H,I,q⟩
 | str y =>
  obtain ⟨t,rfl⟩:=d
  obtain ⟨g,a⟩:y.length<=sizeLine/\k=((y.length:Int) != 0):=e
  subst a
  exact PySem.P.truthy_str (by lia) ⟨H,I.tok _,q⟩
 | byt y =>
  obtain ⟨t,rfl⟩:=d
  obtain ⟨g,a⟩:y.size<=sizeLine/\k=((y.size:Int) != 0):=e
  subst a
  exact PySem.W.truthy_bytes (by lia) ⟨H,I.tok _,q⟩
 | ref p =>
  cases d
  have a:(∃ xs,SqL X.K H p xs/\k = !xs.isEmpty)\/(∃ xs,SqT X.K H p xs/\k = !xs.isEmpty)\/∃ kvs,H p=some (.dK kvs)/\k = !kvs.isEmpty:=e
  rcases a with ⟨xs,f,a⟩ | ⟨xs,f,a⟩ | ⟨kvs,f,a⟩
  ·subst a
   obtain ⟨its,r,pl,hz⟩:=I.list f
   have c:=r.length
   exact wpAny_truthy_list pl.isList (by simp only [aB2];lia) ⟨H,I.tok _,by rw [ah2 r];exact q⟩
  ·subst a
   obtain ⟨its,r,pl,hz⟩:=I.tuple f
   have c:=r.length
   exact truthy_tuple pl (by simp only [aB2];lia) ⟨H,I.tok _,by rw [ah2 r];exact q⟩
  ·subst a
   obtain ⟨hz,j,vs,r,m⟩:kvs.length<=sizeLine/\(p == sysModules)=false/\∃ vs,KV kvs vs/\s.heap.DictOf (aa6 X.prog X.w) p vs:=I.hok p _ f
   have c:kvs.length=vs.length:=Paired.length r
   exact wpAny_truthy_dict j m (by lia) ⟨H,I.tok _,by rw [aqs r];exact q⟩
 | _=>exact (show False from e).elim
theorem aup (ha:PE X a ta) (d:∀ whole,isTrue a X.env whole=(do let v ← whole;standAt a.pos;holding [v] (truthy v))) :
  PT X a (fun σ H Q=>ta σ H fun x H'=>∃ k,TruV X.K x H' k/\Q k H'):=by
 intro pins s σ H Q I h
 exact isTrue_plain (thn (ha pins s σ H _ I h) fun v s1 ⟨x,b,g,f,c⟩=>az4 pins s1 σ b x v Q g f c) (d _)
theorem abx {x:V} {us:List Value} (r:Vals [x] us):∃ u,us=[u]/\RelV x u:=by
 cases r with
 | cons r1 r2=>cases r2;exact ⟨_,rfl,r1⟩
theorem aqt {x y:V} {us:List Value} (r:Vals [x,y] us):∃ u a,us=[u,a]/\RelV x u/\RelV y a:=by
 cases r with
 | cons r1 r2 =>
  cases r2 with
  | cons r3 r4=>cases r4;exact ⟨_,_,rfl,r1,r3⟩
theorem asa (a:X.calm=true):aa3 X (.builtin "max") (fun xs H Q=>∃ i j,xs=[.int i,.int j]/\Q (.int (if j > i then j else i)) H):=by
 intro pins s σ H xs us Q I r h
 obtain ⟨i,j,rfl,q⟩:=h
 obtain ⟨u,b,rfl,⟨t,rfl⟩,⟨t',rfl⟩⟩:=aqt r
 refine max_two_ints (I.ok.hd a) fun h' c k=>⟨_,H,I.kept k,?_,q⟩
 by_cases hj:j > i
 ·rw [aF7 hj,aF7 hj];exact ⟨_,rfl⟩
 ·rw [aF8 hj,aF8 hj];exact ⟨_,rfl⟩
theorem asb (a:X.calm=true):aa3 X (.builtin "min") (fun xs H Q=>∃ i j,xs=[.int i,.int j]/\Q (.int (if j < i then j else i)) H):=by
 intro pins s σ H xs us Q I r h
 obtain ⟨i,j,rfl,q⟩:=h
 obtain ⟨u,b,rfl,⟨t,rfl⟩,⟨t',rfl⟩⟩:=aqt r
 refine min_two_ints (I.ok.hd a) fun h' c k=>⟨_,H,I.kept k,?_,q⟩
 by_cases hj:j < i
 ·rw [aF7 hj,aF7 hj];exact ⟨_,rfl⟩
 ·rw [aF8 hj,aF8 hj];exact ⟨_,rfl⟩
theorem asc:aa3 X (.type "int") (fun xs H Q=>(∃ i,xs=[.int i]/\Q (.int i) H)\/∃ k,xs=[.bl k]/\Q (.int (if k then 1 else 0)) H):=by
 intro pins s σ H xs us Q I r h
 rcases h with ⟨i,rfl,q⟩ | ⟨k,rfl,q⟩
 ·obtain ⟨u,rfl,t,rfl⟩:=abx r
  exact call_int_int ⟨.int i,H,I,⟨_,rfl⟩,q⟩
 ·obtain ⟨u,rfl,a⟩:=abx r
  cases a
  exact call_int_bool ⟨.int (if k then 1 else 0),H,I.tok _,⟨_,rfl⟩,q⟩
end
structure ObjM (h:Heap) (x dx C:Addr) (mA:Str->Option Value):Prop where
 obj:h.get? x=some (PySem.W.instObj C dx)
 ns:h.Ns1 dx mA
 ne:dx ≠ x
theorem asd {h:Heap} {dx:Addr} {mA:Str->Option Value} (n:h.Ns1 dx mA):∃ od,h.get? dx=some od/\∀ name,PySem.W.lookIn name od=some (mA name):=by
 obtain ⟨o,es,ep,c,hd,g,_,hm⟩:=n
 refine ⟨o,c,fun name=>?_⟩
 have e:=hm name
 unfold nsFind findBy at e
 rw [← Array.find?_toList] at e
 unfold PySem.W.lookIn
 rw [hd]
 dsimp only
 split
 ·rename_i y q
  rw [q] at e
  exact congrArg some e
 ·rename_i q
  rw [q] at e
  have a:es.toList.any (·.refKey)=false:=by
   rw [List.any_eq_false]
   intro y f
   obtain ⟨z,t,b⟩:=g y (Array.mem_toList_iff.mp f)
   simp [DictEntry.refKey,b]
  have d:¬ es.toList.any (·.refKey)=true:=by rw [a];exact aB0
  rw [aF8 d]
  exact congrArg some e
theorem ObjM.look {h:Heap} {x dx C:Addr} {mA:Str->Option Value} (I:ObjM h x dx C mA):∃ od,PySem.W.InstAt h x (PySem.W.instObj C dx) C (some od)/\∀ name,PySem.W.lookIn name od=some (mA name) :=
 let ⟨od,a,b⟩:=asd I.ns
 ⟨od,⟨I.obj,rfl,rfl,a⟩,b⟩
section
variable {prog:Program} {w:World} {A:Around} {E:Value->Shared->Prop} {s:Shared} {K:Frag} {x dx C f:Addr} {mA:Str->Option Value} {name:Str} {v:Value}
end
def putF (f:Str) (v:V):List (Str × V)->List (Str × V)
 | []=>[(f,v)]
 | (g,x) :: r=>if g=f then (g,v) :: r else (g,x) :: putF f v r
theorem RelO.some_of {v:V} {o:Option Value} (r:RelO (some v) o):∃ u,o=some u/\RelV v u:=by
 cases o with
 | none=>exact (show False from r).elim
 | some u=>exact ⟨u,rfl,r⟩
section
variable {P:Program} {w:World} {H H':Hp} {h h':Heap} {a C dx:Addr} {fs fs':List (Str × V)}
theorem ins_get (hok:HOk P w H h) (e:H a=some (.ins C dx fs)):∃ mA,ObjM h a dx C mA/\(∀ f,RelO (fs.lookup f) (mA f))/\PySem.Within mA (fs.map (·.1))/\fs.length<=1000/\H dx=some (.own a):=by
 obtain ⟨d,z,ne,b,mA,n,r,q⟩:=(show ObjOk P w H h a (.ins C dx fs) from hok a _ e)
 exact ⟨mA,⟨b,n,ne⟩,r,q,z,d⟩
end
structure Cls (K:Frag) (C:Addr):Prop where
 pg:PySem.W.plainGet K C Str.empty=true
 hd:PySem.W.hasDictIn K C=true
 po:PySem.W.plainOver K C=true
 sa:PySem.W.findIn K (.ref C) "__setattr__" = some (some (.builtin "object.__setattr__"))
theorem Cls.get {K:Frag} {C:Addr} (c:Cls K C) (f:Str):PySem.W.plainGet K C f=true:=c.pg
section
variable {X:Cx} {pins:List (Addr × Obj)} {σ:St} {H:Hp} {s:Shared} {a C dx:Addr} {fs:List (Str × V)} {f:Str} {v:V} {A:Around} {E:Value->Shared->Prop}
end
section
variable {X:Cx} {o e value:Expr} {f:Str} {pos pos' tpos:Pos} {ta tv:TE}
end
section
variable {X:Cx} {pins:List (Addr × Obj)} {σ:St} {H:Hp} {s:Shared} {A:Around} {E:Value->Shared->Prop} {Q:Value->Shared->Prop} {c:Value} {b:Bool}
inductive TyOf (K:Frag) (H:Hp):V->Value->Prop where
 | non:TyOf K H .non (.type "NoneType")
 | bl (x:Bool):TyOf K H (.bl x) (.type "bool")
 | int (i:Int):TyOf K H (.int i) (.type "int")
 | str (x:Str):TyOf K H (.str x) (.type "str")
 | flt (x:UInt64):TyOf K H (.flt x) (.type "float")
 | lst {a:Addr} {xs:List V} (e:H a=some (.lst xs)):TyOf K H (.ref a) (.type "list")
 | frz {a:Addr} {o:Obj} {xs:List V} (e:H a=some (.frz o (.lst xs))):TyOf K H (.ref a) (.type "list")
 | tup {a:Addr} {xs:List V} (e:H a=some (.tup xs)):TyOf K H (.ref a) (.type "tuple")
 | dK {a:Addr} {kvs:List (Key × V)} (e:H a=some (.dK kvs)):TyOf K H (.ref a) (.type "dict")
 | dT {a:Addr} {kvs:List (List Key × V)} (e:H a=some (.dT kvs)):TyOf K H (.ref a) (.type "dict")
 | ins {a C dx:Addr} {fs:List (Str × V)} (e:H a=some (.ins C dx fs)) (cl:Cls K C) (ha:PySem.W.findIn K (.ref C) "__class__" = some (some (.builtin "object.__class__")))
   (hn:PySem.W.specialIn K (.builtin "object.__class__") "__get__" = some (some (.builtin "getset_descriptor.__get__"))) (htk:PySem.W.takesIn K (.builtin "object.__class__")=some true)
   (hm:mroIn K C (.type "object")=some true):TyOf K H (.ref a) (.ref C)
theorem ase {x:V} {u t:Value} (I:Inv X pins σ H s) (d:RelV x u) (ty:TyOf X.K H x t) (e:kitOne X.K t c=some b) (h:∀ j,Q (.bool b) { s with toks:=j }) :
  wpAny (model X.prog X.w) A (call (.builtin "isinstance") [u,c]) Q E s:=by
 cases ty with
 | non=>cases (show u=Value.none from d);exact PySem.W.kia_one PySem.W.kitx_none I.kIn True.intro e (fun z=>nomatch z) h
 | bl y=>cases (show u=Value.bool y from d);exact PySem.W.kia_one PySem.W.kitx_bool I.kIn True.intro e (fun z=>nomatch z) h
 | int i=>obtain ⟨t,q⟩:=(show ∃ t,u=Value.int i t from d);cases q;exact PySem.W.kia_one PySem.W.kitx_int I.kIn True.intro e (fun z=>nomatch z) h
 | str y=>obtain ⟨t,q⟩:=(show ∃ t,u=Value.str y t from d);cases q;exact PySem.W.kia_one PySem.W.kitx_str I.kIn True.intro e (fun z=>nomatch z) h
 | flt y=>obtain ⟨t,q⟩:=(show ∃ t,u=Value.float y t from d);cases q;exact PySem.W.kia_one PySem.W.kitx_float I.kIn True.intro e (fun z=>nomatch z) h
 | @lst a xs ea =>
  cases (show u=Value.ref a from d)
  obtain ⟨_,_,n,_,f⟩:=(show ObjOk X.prog X.w H s.heap a (.lst xs) from I.hok a _ ea)
  exact PySem.W.kia_one PySem.W.kitx_list I.kIn ⟨_,f,rfl⟩ e (fun z=>nomatch z) h
 | @frz a ob xs ea =>
  cases (show u=Value.ref a from d)
  obtain ⟨_,_,_,n,_,f⟩:=(show ObjOk X.prog X.w H s.heap a (.frz ob (.lst xs)) from I.hok a _ ea)
  exact PySem.W.kia_one PySem.W.kitx_list I.kIn ⟨_,f,rfl⟩ e (fun z=>nomatch z) h
 | @tup a xs ea =>
  cases (show u=Value.ref a from d)
  obtain ⟨_,_,_,p⟩:=(show ObjOk X.prog X.w H s.heap a (.tup xs) from I.hok a _ ea)
  obtain ⟨o,f,g,_⟩:=p
  exact PySem.W.kia_one PySem.W.kitx_tuple I.kIn ⟨o,f,g⟩ e (fun z=>nomatch z) h
 | @dK a kvs ea =>
  cases (show u=Value.ref a from d)
  obtain ⟨_,_,vs,_,p⟩:=(show ObjOk X.prog X.w H s.heap a (.dK kvs) from I.hok a _ ea)
  obtain ⟨o,es,ep,f,g,_⟩:=p
  exact PySem.W.kia_one PySem.W.kitx_dict I.kIn ⟨o,f,g.1⟩ e (fun z=>nomatch z) h
 | @dT a kvs ea =>
  cases (show u=Value.ref a from d)
  obtain ⟨_,_,xs,_,o,es,ep,f,g,_⟩:=(show ObjOk X.prog X.w H s.heap a (.dT kvs) from I.hok a _ ea)
  exact PySem.W.kia_one PySem.W.kitx_dict I.kIn ⟨o,f,g.1⟩ e (fun z=>nomatch z) h
 | @ins a C dx fs ea cl ha hn htk hm =>
  cases (show u=Value.ref a from d)
  obtain ⟨mA,O,_⟩:=ins_get I.hok ea
  obtain ⟨od,J,_⟩:=O.look
  exact PySem.W.kia_one (PySem.W.kitx_own (cl.get _) cl.hd ha hn htk hm) I.kIn J e (fun z=>nomatch z) h
end
structure Room (k:Nat) (A:Around):Prop where
 hd:A.handled=none
 dp:A.depth+3 * k+5 < recursionLimit
 un:A.units+16 * k+200 < cLine
theorem Room.mono {j k:Nat} {A:Around} (r:Room k A) (h:j<=k):Room j A:=⟨r.hd,by have:=r.dp;lia,by have:=r.un;lia⟩
theorem Room.deeper {k:Nat} {A:Around} (r:Room (k+1) A) (env:Env):Room k (A.deeper env) :=
 ⟨r.hd,by have:=r.dp;show A.depth+1+3 * k+5 < _;lia,by have:=r.un;show A.units+3+16 * k+200 < _;lia⟩
theorem Room.depth {k:Nat} {A:Around} (r:Room k A):A.depth < recursionLimit:=by have:=r.dp;lia
theorem Room.units {k:Nat} {A:Around} (r:Room k A):A.units+64 < cLine:=by have:=r.un;lia
def tNil:TA:=fun _ H Q=>Q [] H
def aa5 (ta:TE) (tr:TA):TA:=fun σ H Q=>ta σ H fun x H1=>tr σ H1 fun xs H2=>Q (x :: xs) H2
section
variable {X:Cx} {e:Expr} {es:List Expr} {te:TE} {t:TA} {pos:Pos}
theorem aab:PA X [] tNil:=fun _ _ _ _ H Q I h=>Calls.spliced_nil ⟨[],H,I,.nil,h⟩
theorem aaa (ha:PE X e te) (a:PA X es t) (hs:starEach (e :: es) X.env=(false,eval e X.env) :: starEach es X.env:=by rfl):PA X (e :: es) (aa5 te t):=by
 intro pos pins s σ H Q I h
 rw [hs]
 show wpAny _ _ (spliced ((false,eval e X.env) :: backTo pos (starEach es X.env))) _ _ s
 refine Calls.spliced_cons (thn (ha pins s σ H _ I h) fun u s1 ⟨x,c,j,i,d⟩=>?_)
 exact thn (a pos pins s1 σ c _ j d) fun us s2 ⟨xs,H2,b,g,f⟩=>⟨x :: xs,H2,b,.cons i g,f⟩
def tTup (t:TA):TE:=fun σ H Q=>t σ H fun xs H1=>xs.length<=sizeLine/\∀ p,H1 p=none->Q (.ref p) (upd H1 p (.tup xs))
def tLst (t:TA):TE:=fun σ H Q=>t σ H fun xs H1=>xs.length<=sizeLine/\∀ p,H1 p=none->Q (.ref p) (upd H1 p (.lst xs))
theorem abd {x1} (h:PA X es t):PE X (.Tuple es x1 pos) (tTup t):=by
 intro pins s σ H Q I d
 refine wpAny_Tuple_spliced (thn (h pos pins s σ H _ I d) fun us s1 ⟨xs,a,c,r,z,q⟩=>⟨by rw [← r.length];exact z,?_⟩)
 have hf:a s1.heap.objs.size=none:=c.hok.fresh (aA6 _)
 refine ⟨.ref s1.heap.objs.size,upd a s1.heap.objs.size (.tup xs),c.laid (t':=s1.toks) (fun b u e=>aJ5 _ e) (aA6 _) ?_,rfl,q _ hf⟩
 exact ⟨z,us,r,⟨_,aJ7 _ rfl,rfl,_,rfl⟩⟩
theorem aa8 (h:PA X es t):PE X (.List es pos) (tLst t):=by
 intro pins s σ H Q I d
 refine wpAny_List_spliced (thn (h pos pins s σ H _ I d) fun us s1 ⟨xs,a,c,r,z,q⟩=>⟨by rw [← r.length];exact z,?_⟩)
 have hf:a s1.heap.objs.size=none:=c.hok.fresh (aA6 _)
 refine ⟨.ref s1.heap.objs.size,upd a s1.heap.objs.size (.lst xs),c.laid (t':=s1.toks) (fun b u e=>aJ5 _ e) (aA6 _) ?_,rfl,q _ hf⟩
 exact ⟨z,us,0,r,aJ7 _ rfl⟩
end
abbrev Sp:=List V->Hp->VK->XK->Prop
abbrev CXT:=List Env->Hp->Shared->XK->Value->Shared->Prop
structure Env0 (P:Program) (w:World) (K:Frag) (mg:Str->Option Value) (base:Heap) (A:Around) (outer:List Env) (s:Shared) (H:Hp):Prop where
 frames:A.frames=some outer
 mod:Mod K mg base
 bs:∀ b o,base.get? b=some o->s.heap.get? b=some o/\H b=none
 bsz:base.objs.size<=s.heap.objs.size
 funs:s.heap.FunFrames base outer
 frf:∀ b∈frs outer,H b=none
 hok:HOk P w H s.heap
 bare:AllBare s.gens
def CE (outer:List Env) (P:Program) (w:World) (H:Hp) (s:Shared) (Q:VK) (u:Value) (s':Shared):Prop :=
 ∃ v H',s'.os=s.os/\AllBare s'.gens/\Un (frs outer) [] H H' s.heap s'.heap/\HOk P w H' s'.heap/\RelV v u/\Q v H'
def CR (CX:CXT) (outer:List Env) (P:Program) (w:World) (H:Hp) (s:Shared) (Q:VK) (E:XK) (r:Result) (s':Shared):Prop :=
 match r with
 | .ok (.ret u)=>CE outer P w H s Q u s'
 | .ok _=>False
 | .error e=>CX outer H s E e s'
structure FnOk (P:Program) (w:World) (K:Frag) (mg:Str->Option Value) (base:Heap) (CX:CXT) (k:Nat) (f:Addr) (fd:FuncData) (ps:List Str) (sp:Sp):Prop where
 len:∀ vs H Q E,sp vs H Q E->vs.length=ps.length
 run:∀ (A:Around) (outer:List Env) (s:Shared) (H:Hp) (args:Args) (us:List Value) (vs:List V) (Q:VK) (E:XK),Room k A->Env0 P w K mg base A outer s H->BindsTo s fd args (ps.zip us)->Vals vs us->sp vs H Q E ->
  codeAny (model P w) A (.call (.ref f) args) (CR CX outer P w H s Q E) s
theorem FnOk.imp {P:Program} {w:World} {K:Frag} {mg:Str->Option Value} {base:Heap} {CX:CXT} {k:Nat} {f:Addr} {fd:FuncData} {ps:List Str} {sp a:Sp} (F:FnOk P w K mg base CX k f fd ps sp)
  (h:∀ vs H Q E,a vs H Q E->sp vs H Q E):FnOk P w K mg base CX k f fd ps a :=
 ⟨fun vs H Q E q=>F.len vs H Q E (h _ _ _ _ q),fun A outer s H args us vs Q E b d hb c hs=>F.run A outer s H args us vs Q E b d hb c (h _ _ _ _ hs)⟩
section
variable {X:Cx} {pins:List (Addr × Obj)} {σ:St} {H:Hp} {s s':Shared}
theorem Inv.env0 (I:Inv X pins σ H s):Env0 X.prog X.w X.K X.mg X.base X.A X.stack s H :=
 ⟨I.ok.frames,I.ok.mod,I.bs,aD0 I.ok.bsz I.sz,I.stack,I.stkFree,I.hok,I.bare⟩
theorem Inv.after {Q:VK} {u:Value} (I:Inv X pins σ H s) (h:CE X.stack X.prog X.w H s Q u s'):EP X pins σ Q u s':=by
 obtain ⟨v,H',os,bare,un,hok,r,q⟩:=h
 obtain ⟨hh,g,d,t,os'⟩:=s'
 obtain rfl:os'=s.os:=os
 exact ⟨v,H',I.call (h':=hh) (g':=g) (d':=d) (t':=t) (ch:=[]) un hok bare (fun b z=>absurd z (by simp)),r,q⟩
end
def acj (sp:Sp) (dvs:List V) (E:XK) (t:TA):TE:=fun σ H Q=>t σ H fun vs H1=>sp (vs ++ dvs) H1 Q E
def Binds (K:Frag) (fd:FuncData) (ps:List Str) (ds:List Value):Prop :=
 ∀ (s:Shared) (us:List Value),K.In s.heap->(us ++ ds).length=ps.length->BindsTo s fd ⟨us,[]⟩ (ps.zip (us ++ ds))
theorem Binds.all {K:Frag} {fd:FuncData} {ps:List Str} (h:∀ us:List Value,us.length=ps.length->bindArgs fd ⟨us,[]⟩=pure (ps.zip us)):Binds K fd ps []:=fun s us _ a=>by
 rw [aF2] at a ⊢
 exact .of_eq (h us a)
def al1 (CX:CXT) (X:Cx) (E:XK):Prop:=∀ (pins:List (Addr × Obj)) (σ:St) (H:Hp) (s:Shared) (e:Value) (s':Shared),Inv X pins σ H s->CX X.stack H s E e s'->X.xe e s'
section
variable {X:Cx} {CX:CXT} {k:Nat} {f C:Addr} {fd:FuncData} {ps:List Str} {sp:Sp} {dvs:List V} {ds:List Value} {E:XK} {x m:Str} {p pos apos:Pos} {e o:Expr} {es:List Expr} {ta:TE} {t:TA}
theorem az5 {pins:List (Addr × Obj)} {σ:St} {H:Hp} {s:Shared} {Q:VK} {us:List Value} {vs:List V} (F:FnOk X.prog X.w X.K X.mg X.base CX k f fd ps sp) (c:Room k X.A) (hb:Binds X.K fd ps ds) (hd:Vals dvs ds) (d:al1 CX X E)
  (I:Inv X pins σ H s) (r:Vals vs us) (h:sp (vs ++ dvs) H Q E):wpAny (model X.prog X.w) X.A (call (.ref f) us) (EP X pins σ Q) X.xe s:=by
 have b:Vals (vs ++ dvs) (us ++ ds):=r.append hd
 have g:(us ++ ds).length=ps.length:=by rw [← b.length];exact F.len _ _ _ _ h
 refine wpAny_call (aJ8 (F.run X.A X.stack s H ⟨us,[]⟩ (us ++ ds) (vs ++ dvs) Q E c I.env0 (hb s us I.kIn g) b h) fun r s' a=>?_)
 cases r with
 | error e=>exact d pins σ H s e s' I a
 | ok fl =>
  cases fl with
  | ret u=>exact I.after a
  | next=>exact False.elim a
  | brk=>exact False.elim a
  | cont=>exact False.elim a
theorem axd (F:FnOk X.prog X.w X.K X.mg X.base CX k f fd ps sp) (d:Room k X.A) (l:Gl X x) (hm:X.mg x=some (.ref f)) (i:keepIn X.K (.ref f)=true) (hb:Binds X.K fd ps ds) (hd:Vals dvs ds) (g:al1 CX X E)
  (ha:PA X (e :: es) t) (a:(x == ("__debug__" : Str))=false:=by decide) (j:starEach (e :: es) X.env=(false,eval e X.env) :: starEach es X.env:=by rfl) (b:(backTo pos (starEach es X.env)).any (·.1)=false:=by rfl) :
  PE X (.Call (.Name x p) (e :: es) [] pos) (acj sp dvs E t):=by
 intro pins s σ H Q I h
 refine wpAny_Call_Name_kw (axc I l hm ?_ a)
 refine PySem.W.callWith_K (h₀:=X.base) I.ok.mod.kin i (thn (ha pos pins s σ H _ I h) fun us s1 ⟨vs,m,c,r,q⟩=>⟨c.kIn,?_⟩) j b
 exact az5 F d hb hd g c r q
end
section
variable {X:Cx} {CX:CXT} {k:Nat} {f C:Addr} {fd:FuncData} {ps ks:List Str} {sp:Sp} {E:XK} {x m:Str} {p pos apos kpos:Pos} {e o:Expr} {es:List Expr} {kws:List Keyword} {te ta:TE} {t tk:TA} {nm:Option Str}
variable {g:List Value->List Value->List Value} {gV:List V->List V->List V}
end
structure FnScope (N P:List Str) (sc:Scope):Prop where
 kind:sc.kind=.function
 co:sc.isCoroutine=false
 gen:sc.isGenerator=false
 nd:N.Nodup
 pre:N.take P.length=P
 par:∀ x∈P,sc.names.lookup x=some .local\/sc.names.lookup x=some .cell
 nofree:∀ y∈sc.names,y.2 ≠ .free
theorem aj3 {kindOf:Str->Option NameKind} {x:Str}:∀ {binds:List (Str × Value)} {m:Str->Option Value},(∀ v,(x,v) ∉ binds)->bindL kindOf binds m x=m x
 | [],_,_=>rfl
 | (n,v) :: r,m,h=>by
  unfold bindL
  rw [aj3 fun w a=>h w (aB5 _ a)]
  split
  ·have:x ≠ n:=by rintro rfl;exact h v aB8
   simp [this]
  ·rfl
theorem aj4 {kindOf:Str->Option NameKind} {x:Str}:∀ {binds:List (Str × Value)} {m:Str->Option Value},(∀ v,(x,v) ∉ binds)->bindC kindOf binds m x=m x
 | [],_,_=>rfl
 | (n,v) :: r,m,h=>by
  unfold bindC
  rw [aj4 fun w a=>h w (aB5 _ a)]
  split
  ·rfl
  ·have:x ≠ n:=by rintro rfl;exact h v aB8
   simp [this]
theorem aj5 {kindOf:Str->Option NameKind} {x:Str} {v:Value}:∀ {P:List Str} {vs:List Value} {i:Nat} {m:Str->Option Value},P.Nodup->P[i]?=some x->vs[i]?=some v->kindOf x=some .local ->
  bindL kindOf (P.zip vs) m x=some v
 | [],_,_,_,_,h,_,_=>by simp at h
 | _ :: _,[],_,_,_,_,h,_=>by simp at h
 | p :: P,w :: vs,0,m,nd,h1,h2,hk=>by
  simp at h1 h2;subst h1;subst h2
  show bindL kindOf ((p,w) :: P.zip vs) m p=_
  unfold bindL
  rw [aj3 fun v a=>(aI7.mp nd).1 (List.of_mem_zip a).1,aF7 hk]
  simp
 | p :: P,w :: vs,i+1,m,nd,h1,h2,hk=>by
  show bindL kindOf ((p,w) :: P.zip vs) m x=_
  unfold bindL
  exact aj5 (i:=i) (aI7.mp nd).2 (by simpa using h1) (by simpa using h2) hk
theorem aj6 {kindOf:Str->Option NameKind} {x:Str} {v:Value}:∀ {P:List Str} {vs:List Value} {i:Nat} {m:Str->Option Value},P.Nodup->P[i]?=some x->vs[i]?=some v->kindOf x ≠ some .local ->
  bindC kindOf (P.zip vs) m x=some v
 | [],_,_,_,_,h,_,_=>by simp at h
 | _ :: _,[],_,_,_,_,h,_=>by simp at h
 | p :: P,w :: vs,0,m,nd,h1,h2,hk=>by
  simp at h1 h2;subst h1;subst h2
  show bindC kindOf ((p,w) :: P.zip vs) m p=_
  unfold bindC
  rw [aj4 fun v a=>(aI7.mp nd).1 (List.of_mem_zip a).1,aF8 hk]
  simp
 | p :: P,w :: vs,i+1,m,nd,h1,h2,hk=>by
  show bindC kindOf ((p,w) :: P.zip vs) m x=_
  unfold bindC
  exact aj6 (i:=i) (aI7.mp nd).2 (by simpa using h1) (by simpa using h2) hk
def start (N:List Str) (vs:List V):St:=vs.map some ++ List.replicate (N.length - vs.length) none
def cxOf (CX:CXT) (P:Program) (w:World) (K:Frag) (mg:Str->Option Value) (base:Heap) (N:List Str) (qual:Str) (scope:Scope) (f:Addr) (cd:Value) (A:Around) (outer:List Env) (s:Shared) (H:Hp) (E:XK):Cx where
 prog:=P
 w:=w
 K:=K
 mg:=mg
 base:=base
 A:=A.deeper (envOfC qual scope s.heap.objs.size f cd)
 N:=N
 s₀:=s
 H₀:=H
 env:=envOfC qual scope s.heap.objs.size f cd
 outer:=outer
 stack:=envOfC qual scope s.heap.objs.size f cd :: outer
 ex:=[]
 calm:=true
 fn:=fun _=>true
 pn:=[]
 xe:=fun e s'=>wpAny (model P w) (A.deeper (envOfC qual scope s.heap.objs.size f cd)) (leaving (envOfC qual scope s.heap.objs.size f cd) e) (fun _ s''=>CX outer H s E e s'') (fun e' s''=>CX outer H s E e' s'') s'
theorem al2 {sc:Scope} {n:Nat} {x:Str} (h:sc.names.lookup x=some .cell):∃ c,(cellsFrom n sc.names []).lookup x=some c:=by
 have q:=PySem.W.cellsFrom_some sc.names n [] (.inl h)
 exact Option.isSome_iff_exists.mp q
theorem asf {CX:CXT} {P:Program} {w:World} {K:Frag} {mg:Str->Option Value} {base:Heap} {N ps:List Str} {qual:Str} {scope:Scope} {f:Addr} {B:Value} {A:Around} {outer:List Env} {s s1:Shared} {H:Hp} {E:XK} {us:List Value} {vs:List V}
  (S:FnScope N ps scope) (hd:A.handled=none) (g:Env0 P w K mg base A outer s H) (M:vs.length=ps.length) (r:Vals vs us)
  (x:InCallC s s.heap.objs.size (bindL (envOfC qual scope s.heap.objs.size f B).kindOf (ps.zip us) fun _=>none) (cellsFrom (s.heap.objs.size+1) scope.names []) (bindC (envOfC qual scope s.heap.objs.size f B).kindOf (ps.zip us) fun _=>none) s1) :
  Inv (cxOf CX P w K mg base N qual scope f B A outer s H E) [] (start N vs) H s1:=by
 have I:ps.length<=N.length:=by have:=congrArg List.length S.pre;rw [aH2] at this;lia
 obtain ⟨C,J,rfl,F⟩:=x.done
 have j:∀ b:Addr,b ∉ (cxOf CX P w K mg base N qual scope f B A outer s H E).ex:=fun b z=>absurd (show b∈([]:List Addr) from z) (by simp)
 refine ⟨⟨g.mod,S.kind,rfl,rfl,aA6 _,fun y z c C d=>?_,fun y l=>?_,fun y c _ h=>?_,fun _=>hd,Around.frames_deeper g.frames,.inr ⟨rfl,rfl⟩,fun b z=>absurd z (j b),g.bs,g.bsz,fun b _ _=>j b,fun b z=>absurd z (j b),g.funs,g.frf⟩,
  rfl,g.bare,Un.kept F,⟨_,x.toInCall.ns,fun i y v C d L=>?_⟩,fun y c h=>⟨_,x.cell y c h⟩,g.hok.fresh (aA6 _),fun y c h=>?_,fun p o=>absurd (show p∈([]:List (Addr × Obj)) from o) (by simp),g.hok.kept F,?_⟩
 ·exact name_of_addr x.apart (PySem.mem_of_lookup C) (PySem.mem_of_lookup d)
 ·have l:scope.names.lookup y=some .cell\/scope.names.lookup y=some .free:=l
  rcases l with l | l
  ·exact al2 l
  ·exact absurd rfl (S.nofree _ (PySem.mem_of_lookup l))
 ·exact aG7 (x.above y c (PySem.mem_of_lookup h))
 ·have hi:i < vs.length:=by
   unfold start at d
   by_cases hi:i < vs.length
   ·exact hi
   ·rw [aC8 (by simpa using hi)] at d
    rw [aH9] at d
    split at d <;> cases d
  have ha:vs[i]?=some v:=by
   unfold start at d
   rw [aC3 (by simpa using hi),aA5] at d
   cases e:vs[i]? with
   | none=>rw [e] at d;cases d
   | some a=>rw [e] at d;cases d;rfl
  obtain ⟨u,D,G⟩:=r.get ha
  have o:ps[i]?=some y:=by
   rw [← S.pre,aH7 (by lia)];exact C
  have m:ps.Nodup:=by rw [← S.pre];exact S.nd.sublist (List.take_sublist _ _)
  refine ⟨u,G,?_⟩
  rcases S.par y (aA2 o) with k | k
  ·exact .inl ⟨k,aj5 m o D k⟩
  ·obtain ⟨c,e⟩:=al2 (n:=s.heap.objs.size+1) k
   refine .inr ⟨.inl k,c,e,?_⟩
   have q:=x.cell y c e
   rw [aj6 m o D (by show scope.names.lookup y ≠ _;rw [k];decide)] at q
   exact q
 ·exact g.hok.fresh (aG7 (x.above y c (PySem.mem_of_lookup h)))
 ·unfold start
  show _=N.length
  rw [aB1,aA3,List.length_replicate]
  lia
theorem a2k {CX:CXT} {P:Program} {w:World} {K:Frag} {mg:Str->Option Value} {base:Heap} {k:Nat} {f:Addr} {name qual:Str} {a:Arguments} {body:List Stmt} {scope:Scope} {B kV doc pm cdv ct oc:Value} {an od:Option Addr}
  {osl:Array (Option Value)} {N ps:List Str} {sp:Sp} (C:K.lookup f=some ⟨oc,od,.func (fnOf name qual a body scope B kV doc pm an cdv ct),osl⟩) (j:codeIn K cdv qual=true) (S:FnScope N ps scope)
  (len:∀ vs H Q E,sp vs H Q E->vs.length=ps.length)
  (d:∀ (A:Around) (outer:List Env) (s:Shared) (H:Hp) (vs:List V) (Q:VK) (E:XK),Room k (A.deeper (envOfC qual scope s.heap.objs.size f cdv))->sp vs H Q E ->
   ∃ t,PSs (cxOf CX P w K mg base N qual scope f cdv A outer s H E) body t/\t { nx:=fun _ H'=>Q .non H',rt:=Q } (start N vs) H) :
  FnOk P w K mg base CX (k+1) f (fnOf name qual a body scope B kV doc pm an cdv ct) ps sp:=by
 refine ⟨len,fun A outer s H args us vs Q E l h hb r i=>?_⟩
 have G:=len _ _ _ _ i
 have z:K.In s.heap:=h.mod.kin.keeps fun b o e=>(h.bs b o e).1
 have p:s.heap.NoLimit:=h.mod.nolimit.keeps fun b o e=>(h.bs b o e).1
 have g:∀ y∈ps.zip us,scope.names.lookup y.1=some .local\/(scope.names.lookup y.1=some .cell/\((cellsFrom (s.heap.objs.size+1) scope.names []).lookup y.1).isSome=true):=fun ⟨n,v⟩ L=>by
  rcases S.par n (List.of_mem_zip L).1 with q | q
  ·exact .inl q
  ·exact .inr ⟨q,PySem.W.cellsFrom_some _ _ _ (.inl q)⟩
 refine codeAny_call_function l.depth (z _ _ C) rfl S.co S.gen rfl (PySem.W.codeRec_of z j) (hb _ _ _ _ ?_)
 refine wpAny_newFunctionEnv_cells S.kind g fun env M s1 x=>?_
 subst M
 refine ⟨p.keeps x.toInCall.keep,codeAny_func ?_⟩
 obtain ⟨t,O,F⟩:=d A outer s H vs Q E (l.deeper _) i
 have I:Inv (cxOf CX P w K mg base N qual scope f cdv A outer s H E) [] (start N vs) H s1:=asf S l.hd h G r x
 refine aK2 (O [] s1 (start N vs) H _ I F) (fun D s' hs=>?_) fun e s' hs=>hs
 have fin:∀ {c:St} {H':Hp} {v:V} {u:Value},Inv (cxOf CX P w K mg base N qual scope f cdv A outer s H E) [] c H' s'->RelV v u->Q v H'->CE outer P w H s Q u s' :=
  fun {c H' v u} J m q=>⟨v,H',J.os,J.bare,J.base,J.hok,m,q⟩
 cases D with
 | ret u =>
  obtain ⟨v,c,H',J,m,q⟩:=hs
  exact fin J m q
 | next =>
  obtain ⟨c,H',J,q⟩:=hs
  exact fin (v:=V.non) (u:=Value.none) J rfl q
 | brk =>
  obtain ⟨_,_,_,q⟩:=hs
  exact False.elim q
 | cont =>
  obtain ⟨_,_,_,q⟩:=hs
  exact False.elim q
section
variable {X:Cx} {x:Str} {p pos:Pos} {e:Expr} {es:List Expr} {t:TA} {id T:String} {r:List V->Hp->VK->Prop}
def tCB (r:List V->Hp->VK->Prop) (t:TA):TE:=fun σ H Q=>t σ H fun vs H1=>r vs H1 Q
theorem aak (c:aa3 X (.builtin id) r) (m:Gl X x) (hm:X.mg x=none) (d:bootBuiltins x=some (.builtin id)) (ha:PA X (e :: es) t) (hn:x ≠ "__name__":=by decide) (a:(x == ("__debug__" : Str))=false:=by decide)
  (i:starEach (e :: es) X.env=(false,eval e X.env) :: starEach es X.env:=by rfl) (b:(backTo pos (starEach es X.env)).any (·.1)=false:=by rfl):PE X (.Call (.Name x p) (e :: es) [] pos) (tCB r t):=by
 intro pins s σ H Q I h
 refine wpAny_Call_Name_kw (ad3 I m hm d ?_ hn a)
 exact PyProof.Rows.callWith_builtin1 (thn (ha pos pins s σ H _ I h) fun us s1 ⟨vs,f,l,j,g⟩=>c pins s1 σ f vs us Q l j g) i b
theorem ad5 (c:aa3 X (.type T) r) (m:Gl X x) (hm:X.mg x=none) (d:bootBuiltins x=some (.type T)) (ha:PA X (e :: es) t) (hn:x ≠ "__name__":=by decide) (a:(x == ("__debug__" : Str))=false:=by decide)
  (i:starEach (e :: es) X.env=(false,eval e X.env) :: starEach es X.env:=by rfl) (b:(backTo pos (starEach es X.env)).any (·.1)=false:=by rfl):PE X (.Call (.Name x p) (e :: es) [] pos) (tCB r t):=by
 intro pins s σ H Q I h
 refine wpAny_Call_Name_kw (ad3 I m hm d ?_ hn a)
 exact PyProof.Rows.callWith_type1 (thn (ha pos pins s σ H _ I h) fun us s1 ⟨vs,f,l,j,g⟩=>c pins s1 σ f vs us Q l j g) i b
end
end L2
namespace HT
open PySem PyProof.Rows
def lexLt:List Int->List Int->Bool
 | [],[]=>false
 | [],_ :: _=>true
 | _ :: _,[]=>false
 | x :: xs,y :: ys=>if x=y then lexLt xs ys else decide (x < y)
theorem aft (x y:Int) (xs ys:List Int):lexLt (x :: xs) (y :: ys)=if x=y then lexLt xs ys else decide (x < y):=rfl
section
open PySem.SeqAt
open PySem.AutoSeq1 (wpAny_loadPart')
open PySem.MeetsSeq PySem.MeetsSeq2 PySem.MeetsSeq3
end
section
variable {prog:Program} {w:World} {A:Around} {E:Value->Shared->Prop} {s:Shared}
end
end HT
namespace L2
open PySem PySem.Spec PyProof.Rows
abbrev TO:=St->Hp->(Option Int->Hp->Prop)->Prop
theorem ab5 {ns:List Int}:∀ {us:List Value},Vals (ns.map V.int) us->IntsAre us ns:=by
 induction ns with
 | nil=>intro us r;rw [List.map_nil] at r;cases r;exact .nil
 | cons n ns ih =>
  intro us r
  rw [aD1] at r
  cases r with
  | cons r1 r2 =>
   obtain ⟨t,e⟩:=r1
   subst e
   exact .cons n t (ih r2)
section
variable {X:Cx} {e:Expr} {te:TE} {lo hi:Option Expr} {tl th:TO} {pos p2:Pos}
def SlR (X:Cx) (r:V->Option Int->Option Int->Hp->VK->Prop):Prop :=
 ∀ (pins:List (Addr × Obj)) (s:Shared) (σ:St) (H:Hp) (x:V) (v vl vu:Value) (lo hi:Option Int) (sl:Addr) (Q:VK),Inv X pins σ H s->RelV x v->s.heap.IsSliceOf sl vl vu .none->IsPart vl lo->IsPart vu hi->r x lo hi H Q ->
  ∃ T id,typeLookup (.type T) "__getitem__" = pure (some (.builtin id))/\s.TypeIs v T/\wpAny (model X.prog X.w) X.A (getItem v (.ref sl)) (EP X pins σ Q) X.xe s
end
def ixN (n:Nat) (i:Int):Option Nat:=if 0<=i then (if i < n then some i.toNat else none) else if -(n:Int)<=i then some (i+n).toNat else none
def atI {α:Type} (xs:List α) (i:Int):Option α:=(ixN xs.length i).bind fun j=>xs[j]?
theorem aov {n:Nat} {i:Int} {j:Nat} (h:ixN n i=some j):seqIndex? i n=some j/\j < n/\-(n:Int)<=i/\i < n:=by
 unfold ixN at h
 by_cases h0:0<=i
 ·rw [aF7 h0] at h
  by_cases h1:i < n
  ·rw [aF7 h1] at h
   have e:i.toNat=j:=aC6 h
   exact ⟨by rw [seqIndex_of h0 h1,e],by lia,by lia,h1⟩
  ·rw [aF8 h1] at h;cases h
 ·rw [aF8 h0] at h
  by_cases h1 : -(n:Int)<=i
  ·rw [aF7 h1] at h
   have e:(i+n).toNat=j:=aC6 h
   exact ⟨by rw [seqIndex_neg (by lia) h1,e],by lia,h1,by lia⟩
  ·rw [aF8 h1] at h;cases h
theorem aow {α:Type} {xs:List α} {i:Int} {v : α} (h:atI xs i=some v):∃ j,seqIndex? i xs.length=some j/\xs[j]?=some v/\j < xs.length/\-(xs.length:Int)<=i/\i < xs.length:=by
 unfold atI at h
 cases e:ixN xs.length i with
 | none=>rw [e] at h;cases h
 | some j =>
  rw [e] at h
  obtain ⟨b,a,c,d⟩:=aov e
  exact ⟨j,b,h,a,c,d⟩
theorem adr {α:Type} {xs:List α} {j:Nat} {v : α} (h:xs[j]?=some v):atI xs (j:Int)=some v:=by
 have a:j < xs.length:=(aA1.mp h).1
 have e:ixN xs.length (j:Int)=some j:=by
  unfold ixN
  rw [aF7 (by lia),aF7 (by lia)];simp
 unfold atI;rw [e];exact h
def axe (b:Expr):Prop:=∀ o i,subscripted b false o i=operate [o,i] (getItem o i)
def IxR (X:Cx) (r:R2):Prop :=
 ∀ (value slice:Expr) (pins:List (Addr × Obj)) (s:Shared) (σ:St) (H:Hp) (x y:V) (v u:Value) (Q:VK),Inv X pins σ H s->RelV x v->RelV y u->r x y H Q ->
  subscripted slice false v u=operate [v,u] (getItem v u)->wpAny (model X.prog X.w) X.A (subscriptTail value slice v u) (EP X pins σ Q) X.xe s
def MtR (X:Cx) (id:String) (r:V->List V->Hp->VK->Prop):Prop :=
 ∀ (pins:List (Addr × Obj)) (s:Shared) (σ:St) (H:Hp) (x:V) (xs:List V) (v:Value) (us:List Value) (Q:VK),Inv X pins σ H s->RelV x v->Vals xs us->r x xs H Q ->
  wpAny (model X.prog X.w) X.A (call (.builtin id) (v :: us)) (EP X pins σ Q) X.xe s
section
variable {X:Cx} {a b:Expr} {ta tb:TE} {pos:Pos}
theorem IxR.or {r d:R2} (h:IxR X r) (h':IxR X d):IxR X (fun x y H Q=>r x y H Q\/d x y H Q):=by
 intro b a pins s σ H x y v u Q I c f q hs
 rcases q with q | q
 ·exact h b a pins s σ H x y v u Q I c f q hs
 ·exact h' b a pins s σ H x y v u Q I c f q hs
theorem aao {r:R2} (c:IxR X r) (ha:PE X a ta) (hb:PE X b tb) (hs:axe b):PE X (.Subscript a b pos) (tOp r ta tb):=by
 intro pins s σ H Q I h
 exact Subscript_ (binT ha hb I h fun v u s2 x y H2 f d g q=>c a b pins s2 σ H2 x y v u Q f d g q (hs _ _))
def rIxL (K:Frag):R2:=fun x y H Q=>∃ p xs i v,x=.ref p/\y=.int i/\SqL K H p xs/\atI xs i=some v/\Q v H
def rIxT (K:Frag):R2:=fun x y H Q=>∃ p xs i v,x=.ref p/\y=.int i/\SqT K H p xs/\atI xs i=some v/\Q v H
theorem ix_list:IxR X (rIxL X.K):=by
 intro d b pins s σ H x y v u Q I n A h hs
 obtain ⟨p,xs,i,z,rfl,rfl,l,D,q⟩:=h
 cases n
 obtain ⟨t,rfl⟩:=A
 obtain ⟨its,r,pl,hz⟩:=I.list l
 obtain ⟨j,a,m,E,C,B⟩:=aow D
 obtain ⟨w,g,c⟩:=r.get m
 have o:=r.length
 have hn:=agb
 have fin:EP X pins σ Q w s:=⟨z,H,I,c,q⟩
 by_cases h0:0<=i
 ·have f:i.toNat=j:=by
   rw [seqIndex_of h0 B] at a
   exact aC6 a
  exact item_listR pl.isList h0 (by lia) (by rw [f];simpa using g) fin hs
 ·have f:(i+(its.toArray.size:Int)).toNat=j:=by
   rw [seqIndex_neg (by lia) C] at a
   rw [aB2,← o]
   exact aC6 a
  exact subscriptTail_builtinR (x:=w) pl.isList.typeIs slot_list_getitem.lookup
   (wpAny_getItem_list_neg (Q:=fun r s'=>r=w/\EP X pins σ Q r s') pl.isList (by lia) (by rw [aB2] <;> lia) (by lia) (by rw [f];simpa using g) ⟨rfl,fin⟩) hs
theorem az6:IxR X (rIxT X.K):=by
 intro c a pins s σ H x y v u Q I l n h hs
 obtain ⟨p,xs,i,z,rfl,rfl,f,o,q⟩:=h
 cases l
 obtain ⟨t,rfl⟩:=n
 obtain ⟨its,r,pl,hz⟩:=I.tuple f
 obtain ⟨j,d,g,C,D,B⟩:=aow o
 obtain ⟨w,A,b⟩:=r.get g
 have m:=r.length
 have hn:=agb
 have fin:EP X pins σ Q w s:=⟨z,H,I,b,q⟩
 exact subscriptTail_builtinR (x:=w) pl.typeIs slot_tuple_getitem.lookup
  (getItem_tuple (j:=j) (Q:=fun r s'=>r=w/\EP X pins σ Q r s') pl (by lia) (by lia) (by rw [aB2,← m];exact d) (by simpa using A) ⟨rfl,fin⟩) hs
theorem aqu (its:List Value) (n j:Nat) (u:Value):Obj.mapSeq (·.setIfInBounds j u) { cls:=.type "list",data:=.seq its.toArray n }={ cls:=.type "list",data:=.seq (its.set j u).toArray n }:=by
 simp [Obj.mapSeq]
theorem Inv.lst {pins:List (Addr × Obj)} {σ:St} {H:Hp} {s:Shared} {p:Addr} {xs:List V} (I:Inv X pins σ H s) (h:H p=some (.lst xs)) :
  ∃ (its:List Value) (n:Nat),Vals xs its/\s.heap.get? p=some { cls:=.type "list",data:=.seq its.toArray n }/\xs.length<=sizeLine:=by
 obtain ⟨z,its,n,r,e⟩:=I.hok p _ h
 exact ⟨its,n,r,e,z⟩
theorem Inv.lstUpd {pins:List (Addr × Obj)} {σ:St} {H:Hp} {s:Shared} {p:Addr} {xs ys:List V} {its its':List Value} {n a:Nat} {f:Obj->Obj} (I:Inv X pins σ H s) (h:H p=some (.lst xs))
  (c:s.heap.get? p=some { cls:=.type "list",data:=.seq its.toArray n }) (hf:f { cls:=.type "list",data:=.seq its.toArray n }={ cls:=.type "list",data:=.seq its'.toArray a }) (r:Vals ys its') (hz:ys.length<=sizeLine) (t:Nat) :
  Inv X pins σ (upd H p (.lst ys)) { s with heap:=s.heap.update p f,toks:=t }:=by
 have e:(s.heap.update p f).get? p=some { cls:=.type "list",data:=.seq its'.toArray a }:=by
  rw [aK9 f c (by rw [hf] <;> rfl),hf]
 refine I.write (x:=p) (e:=p) (by rw [h];trivial) (.inl rfl) (fun b u hb q=>(aK1 _ _ (Ne.symm hb)).trans q) ⟨_,e⟩ ?_
 exact ⟨hz,its',a,r,e⟩
def aqv:V->V->V->Hp->(Hp->Prop)->Prop:=fun o i v H Q=>∃ p xs k j,o=.ref p/\i=.int k/\H p=some (.lst xs)/\ixN xs.length k=some j/\Q (upd H p (.lst (xs.set j v)))
theorem aeq:PSet X aqv:=by
 intro pins s σ H o i v C A u Q I x w z h
 obtain ⟨p,xs,k,j,rfl,rfl,m,y,q⟩:=h
 cases x
 obtain ⟨t,rfl⟩:=w
 obtain ⟨its,n,r,b,hz⟩:=I.lst m
 obtain ⟨a,B,g,l⟩:=aov y
 have c:=r.length
 have hn:=agb
 have f:Inv X pins σ (upd H p (.lst (xs.set j v))) { s with heap:=s.heap.update p (Obj.mapSeq (·.setIfInBounds j u)) } :=
  I.lstUpd m b (aqu its n j u) (r.set z j) (by rw [List.length_set];exact hz) s.toks
 by_cases h0:0<=k
 ·have d:k.toNat=j:=by
   rw [seqIndex_of h0 l] at a
   exact aC6 a
  exact PySem.W.ki_setAt b h0 (by lia) (by rw [aB2,← c];exact l) (by rw [d];exact ⟨_,f,q⟩)
 ·have d:(k+(its.toArray.size:Int)).toNat=j:=by
   rw [seqIndex_neg (by lia) g] at a
   rw [aB2,← c]
   exact aC6 a
  exact PySem.W.ki_setBack b (by lia) (by rw [aB2,← c];exact g) (by lia) (by rw [d];exact ⟨_,f,q⟩)
theorem al3:aa3 X (.builtin "len") (fun xs H Q=>∃ p ys,xs=[.ref p]/\(SqL X.K H p ys\/SqT X.K H p ys)/\Q (.int ys.length) H):=by
 intro pins s σ H xs us Q I r h
 obtain ⟨p,ys,rfl,b,q⟩:=h
 obtain ⟨u,rfl,d⟩:=abx r
 cases d
 have hn:=agb
 rcases b with b | b
 ·obtain ⟨its,c,pl,hz⟩:=I.list b
  have a:=c.length
  exact Calls.call_len_list pl.isList (by simp only [aB2] <;> lia) ⟨.int ys.length,H,I.tok _,⟨s.toks+1,by rw [aB2,a]⟩,q⟩
 ·obtain ⟨its,c,pl,hz⟩:=I.tuple b
  have a:=c.length
  exact len_tuple pl (by simp only [aB2] <;> lia) ⟨.int ys.length,H,I.tok _,⟨s.toks+1,by rw [aB2,a]⟩,q⟩
def tyV (K:Frag) (T:String) (x:V) (H:Hp):Prop:=match x with
 | .str _=>T = "str"
 | .int _=>T = "int"
 | .ref p=>(T = "list"/\∃ xs,SqL K H p xs)\/(T = "tuple"/\∃ o,K.lookup p=some o/\o.cls=.type "tuple"/\o.dict=none) ∨
   (T = "dict"/\((∃ kvs,H p=some (.dK kvs))\/∃ kvs,H p=some (.dT kvs)))\/(T = "set"/\∃ S n,H p=some (.set S n))
 | _=>False
theorem az7 {pins:List (Addr × Obj)} {σ:St} {H:Hp} {s:Shared} {T:String} {x:V} {v:Value} (I:Inv X pins σ H s) (r:RelV x v) (ty:tyV X.K T x H) :
  s.TypeIs v T/\∀ a,v=.ref a->∃ f,s.heap.get? a=some f/\f.dict=none:=by
 cases x with
 | str z =>
  obtain ⟨t,rfl⟩:=r
  cases (show T = "str" from ty)
  exact ⟨typeIs_str s z t,fun _ e=>nomatch e⟩
 | int i =>
  obtain ⟨t,rfl⟩:=r
  cases (show T = "int" from ty)
  exact ⟨typeIs_int s i t,fun _ e=>nomatch e⟩
 | ref p =>
  cases r
  rcases ty with ⟨rfl,xs,h⟩ | ⟨rfl,o,b,g,hd⟩ | ⟨rfl,b⟩ | ⟨rfl,S,n,b⟩
  ·obtain ⟨its,_,pl,_⟩:=I.list h
   refine ⟨pl.isList.typeIs,fun a e=>?_⟩
   cases e
   obtain ⟨o,n,e,c,hd,_⟩:=pl
   exact ⟨o,e,hd⟩
  ·refine ⟨⟨o,I.kIn p o b,g⟩,fun a e=>?_⟩
   cases e
   exact ⟨o,I.kIn _ o b,hd⟩
  ·have z:∃ o,s.heap.get? p=some o/\o.ExactDict:=by
    rcases b with ⟨kvs,b⟩ | ⟨kvs,b⟩
    ·obtain ⟨_,_,_,_,o,_,_,e,ex,_⟩:=I.hok p _ b
     exact ⟨o,e,ex⟩
    ·obtain ⟨_,_,_,_,o,_,_,e,ex,_⟩:=I.hok p _ b
     exact ⟨o,e,ex⟩
   obtain ⟨o,e,ex⟩:=z
   refine ⟨⟨o,e,ex.1⟩,fun a d=>?_⟩
   cases d
   exact ⟨o,e,ex.2.1⟩
  ·obtain ⟨o,_,_,_,e,ex,_⟩:=I.hok p _ b
   refine ⟨⟨o,e,ex.1⟩,fun a d=>?_⟩
   cases d
   exact ⟨o,e,ex.2.1⟩
 | _=>exact False.elim ty
def tBM (K:Frag) (T:String) (r:V->List V->Hp->VK->Prop) (to:TE) (t:TA):TE:=fun σ H Q=>to σ H fun x H1=>tyV K T x H1/\t σ H1 fun xs H2=>r x xs H2 Q
variable {o e:Expr} {es:List Expr} {to:TE} {t:TA} {name:Str} {apos cpos:Pos} {T id:String} {r:V->List V->Hp->VK->Prop}
theorem acy (n:PlainAttrs T) (slot:Slot T name id) (g:typeOf (.builtin id)=pure (.type "method_descriptor")) (hm:MtR X id r) (m:PE X o to) (ha:PA X (e :: es) t)
  (c:attributeBase o name X.env (eval o X.env)=eval o X.env:=by rfl)
  (f:((backTo cpos (starEach (e :: es) X.env)).all (fun x => !x.1) && (backToKw cpos (keywordEach [] X.env)).all (fun x=>x.1.isSome)
   && decide ((e :: es).length+([]:List Keyword).length+(if ([]:List Keyword).isEmpty then 0 else 1) < 30))=true:=by rfl)
  (d:(apos.endLine == cpos.line)=true:=by rfl) (hs:starEach (e :: es) X.env=(false,eval e X.env) :: starEach es X.env:=by rfl) (b:(backTo cpos (starEach es X.env)).any (·.1)=false:=by rfl) :
  PE X (.Call (.Attribute o name apos) (e :: es) [] cpos) (tBM X.K T r to t):=by
 intro pins s σ H Q I h
 refine wpAny_Call_method_late c f d rfl (thn (m pins s σ H _ I h) fun v s1 ⟨x,w,l,j,ty,y⟩=>?_)
 obtain ⟨p,q⟩:=az7 l j ty
 refine ⟨T,id,n,slot,g,p,q,?_⟩
 have i:=ha cpos pins s1 σ w _ l y
 rw [hs] at i ⊢
 refine Calls.callWith_builtin (by show (false || (backTo cpos (starEach es X.env)).any (·.1))=false;rw [b] <;> rfl) (Calls.evalArgs_plain ?_)
 exact thn i fun us s2 ⟨vs,H2,u,A,z⟩=>hm pins s2 σ H2 x vs v us Q u j A z
/- xs.append(e), list.index on a module's tuple .. are MtR facts of 06m -/
end
def MtM (X:Cx) (id:String) (r:V->List V->Hp->VK->Prop):Prop :=
 ∀ (pins:List (Addr × Obj)) (s:Shared) (σ:St) (H:Hp) (x:V) (xs:List V) (v:Value) (us:List Value) (Q:VK),Inv X pins σ H s->RelV x v->Vals xs us->r x xs H Q ->
  wpAny (model X.prog X.w) X.A (call (.builtin id) (v :: us)) (EP X pins σ Q) X.xe s
theorem Vals.one:∀ {x:V} {us:List Value},Vals [x] us->∃ u,us=[u]/\RelV x u
 | _,_,.cons r .nil=>⟨_,rfl,r⟩
theorem Vals.eraseIdx:∀ {xs:List V} {us:List Value} (i:Nat),Vals xs us->Vals (xs.eraseIdx i) (us.eraseIdx i)
 | _,_,_,.nil => .nil
 | _,_,0,.cons _ t=>t
 | _,_,i+1,.cons r t => .cons r (Vals.eraseIdx i t)
theorem Vals.rep {xs:List V} {us:List Value} (h:Vals xs us):∀ k:Nat,Vals (List.replicate k xs).flatten (List.replicate k us).flatten
 | 0 => .nil
 | k+1=>by
  rw [aH5,aH5,List.flatten_cons,List.flatten_cons]
  exact Vals.append h (Vals.rep h k)
theorem aj7 {α:Type}:∀ (l:List α) (i:Nat),(l.eraseIdx i).length<=l.length
 | [],_=>aA6 _
 | _ :: _,0=>Nat.le_succ _
 | _ :: r,i+1=>Nat.succ_le_succ (aj7 r i)
theorem aj8 (its:List Value):∀ (k:Nat) (a:List Value),
  List.foldl (fun d b=>d ++ b) a.toArray (List.replicate k its.toArray)=(a ++ (List.replicate k its).flatten).toArray
 | 0,a=>by simp
 | k+1,a=>by
  have e:a.toArray ++ its.toArray=(a ++ its).toArray:=by simp
  have c:(a ++ its) ++ (List.replicate k its).flatten=a ++ (List.replicate (k+1) its).flatten:=by
   rw [aH5,List.flatten_cons,aB4]
  rw [← c,← aj8 its k (a ++ its),← e,aH5,List.foldl_cons]
section
variable {X:Cx} {pins:List (Addr × Obj)} {σ:St} {H:Hp} {s:Shared} {l b:Addr} {xs ys zs:List V}
theorem Inv.lset {its its':List Value} {n:Nat} {f:Array Value->Array Value} {t':Nat} (I:Inv X pins σ H s) (a:H l=some (.lst xs))
  (e:s.heap.get? l=some { cls:=.type "list",data:=.seq its.toArray n }) (hf:f its.toArray=its'.toArray) (b:Vals ys its') (hz:ys.length<=sizeLine) :
  Inv X pins σ (upd H l (.lst ys)) { s with heap:=s.heap.update l (Obj.mapSeq f),toks:=t' }:=by
 have q:=PySem.IsL.update e f
 rw [hf] at q
 refine I.write (x:=l) (e:=l) (by rw [a];exact trivial) (.inl rfl) (fun d u hb c=>(aK1 s.heap (Obj.mapSeq f) (Ne.symm hb)).trans c) ⟨_,q⟩ ?_
 exact ⟨hz,its',_,b,q⟩
theorem Inv.lnew {its:List Value} {t':Nat} (I:Inv X pins σ H s) (a:Vals ys its) (hz:ys.length<=sizeLine) :
  Inv X pins σ (upd H s.heap.objs.size (.lst ys)) { s with heap:=s.heap.push { cls:=.type "list",data:=.seq its.toArray },toks:=t' } :=
 I.laid (fun _ _ q=>aJ5 _ q) (aA6 _) ⟨hz,its,0,a,aJ7 _ rfl⟩
theorem Inv.fresh (I:Inv X pins σ H s):H s.heap.objs.size=none:=I.hok.fresh (aA6 _)
theorem Inv.lstM (I:Inv X pins σ H s) (a:H l=some (.lst xs)):xs.length<=sizeLine/\∃ (its:List Value) (n:Nat),Vals xs its/\xs.length=its.length/\s.heap.get? l=some { cls:=.type "list",data:=.seq its.toArray n }:=by
 obtain ⟨z,its,n,r,e⟩:=I.hok l _ a
 exact ⟨z,its,n,r,r.length,e⟩
theorem al4 {n:Nat} (h:n<=sizeLine):Builtin.List.listTooLong n=false:=by
 unfold Builtin.List.listTooLong
 exact aD7 (by lia)
end
section
variable {X:Cx}
def ael:V->List V->Hp->VK->Prop:=fun x vs H Q=>∃ l xs y,x=.ref l/\vs=[y]/\H l=some (.lst xs)/\xs.length < sizeLine/\Q .non (upd H l (.lst (xs ++ [y])))
theorem abr:MtM X "list.append" ael:=by
 intro pins s σ H x vs v us Q I c d h
 obtain ⟨l,xs,y,rfl,rfl,a,hz,q⟩:=h
 cases c
 obtain ⟨u,rfl,b⟩:=d.one
 obtain ⟨z,its,n,r,f,e⟩:=I.lstM a
 refine call_meets F.slot_list_append ⟨_,e,rfl⟩ F.entry_list_append (F.args_list_append_2 _ _) (PySem.list_append l its.toArray n u (by rw [aB2];lia)) ⟨e,?_⟩
 refine ⟨.non,_,I.lset (its':=its ++ [u]) a e (by simp) (r.append (.cons b .nil)) ?_,rfl,q⟩
 rw [aB1,List.length_singleton]
 lia
def ai9:V->List V->Hp->VK->Prop:=fun x vs H Q=>∃ l b xs zs,x=.ref l/\vs=[.ref b]/\H l=some (.lst xs)/\H b=some (.lst zs)/\xs.length+zs.length<=sizeLine/\Q .non (upd H l (.lst (xs ++ zs)))
theorem asg:MtM X "list.extend" ai9:=by
 intro pins s σ H x vs v us Q I i p h
 obtain ⟨l,b,xs,y,rfl,rfl,d,g,hz,q⟩:=h
 cases i
 obtain ⟨u,rfl,f⟩:=p.one
 cases f
 obtain ⟨z,its,n,r,A,e⟩:=I.lstM d
 obtain ⟨B,a,o,w,m,j⟩:=I.lstM g
 have hsz:its.toArray.size+a.toArray.size<=sizeLine:=by rw [aB2,aB2];lia
 have c:¬ (!its.toArray.isEmpty && Builtin.List.listTooLong (its.toArray.size+a.toArray.size))=true:=by
  rw [al4 hsz,Bool.and_false]
  exact aB0
 refine call_meets F.slot_list_extend ⟨_,e,rfl⟩ F.entry_list_extend (F.args_list_extend_2 _ _)
  (AutoSeq1.list_extend_list_list_0 l its.toArray n b a.toArray o c (by rw [aB2];lia) (by lia)) ⟨e,j,?_⟩
 refine ⟨.non,_,I.lset (its':=its ++ a) d e (by simp) (r.append w) ?_,rfl,q⟩
 rw [aB1]
 lia
def al5:V->List V->Hp->VK->Prop:=fun x vs H Q=>∃ l xs i k y,x=.ref l/\vs=[.int i]/\H l=some (.lst xs)/\-(2 ^ 63)<=i/\i < 2 ^ 63/\seqIndex? i xs.length=some k/\xs[k]?=some y/\Q y (upd H l (.lst (xs.eraseIdx k)))
theorem auq:MtM X "list.pop" al5:=by
 intro pins s σ H x vs v us Q I j A h
 obtain ⟨l,xs,i,k,y,rfl,rfl,b,f,g,p,o,q⟩:=h
 cases j
 obtain ⟨u,rfl,d⟩:=A.one
 obtain ⟨t,rfl⟩:=d
 obtain ⟨z,its,n,r,m,e⟩:=I.lstM b
 obtain ⟨w,c,a⟩:=r.get o
 refine call_meets F.slot_list_pop ⟨_,e,rfl⟩ F.entry_list_pop (F.args_list_pop_2 _ _)
  (MeetsSeq.list_pop_at l its.toArray n i t k w (fitsIndex_both f g) (by rw [aB2,← m];exact p) (by rw [← aD6];exact c) (by rw [aB2];lia)) ⟨e,?_⟩
 refine ⟨y,_,I.lset (its':=its.eraseIdx k) b e ?_ (r.eraseIdx k) ?_,a,q⟩
 ·show its.toArray.eraseIdxIfInBounds k=(its.eraseIdx k).toArray
  rw [List.eraseIdxIfInBounds_toArray]
 ·have:=aj7 xs k
  lia
def rCat:R2:=fun x y H Q=>∃ l b xs zs,x=.ref l/\y=.ref b/\H l=some (.lst xs)/\H b=some (.lst zs)/\xs.length+zs.length<=sizeLine/\∀ p,H p=none->Q (.ref p) (upd H p (.lst (xs ++ zs)))
theorem ash:OpR X (binaryOp .Add) rCat:=by
 intro pins s σ H x y v u Q I d j h
 obtain ⟨l,b,xs,p,rfl,rfl,g,c,hz,q⟩:=h
 cases d
 cases j
 obtain ⟨z,its,n,r,w,e⟩:=I.lstM g
 obtain ⟨B,a,A,o,i,f⟩:=I.lstM c
 refine PySem.P.add_list e f ?_ (by rw [aB2,aB2];lia)
 have m:its.toArray ++ a.toArray=(its ++ a).toArray:=by simp
 rw [m]
 exact ⟨.ref _,_,I.lnew (t':=s.toks) (r.append o) (by rw [aB1];lia),rfl,q _ I.fresh⟩
def rRep:R2:=fun x y H Q=>∃ l k xs,x=.ref l/\y=.int k/\H l=some (.lst xs)/\-(2 ^ 63)<=k/\k < 2 ^ 63/\xs.length * k.toNat<=sizeLine /\
 ∀ p,H p=none->Q (.ref p) (upd H p (.lst (List.replicate k.toNat xs).flatten))
theorem aox {α:Type} (xs:List α) (k:Nat):(List.replicate k xs).flatten.length=k * xs.length:=by
 induction k with
 | zero=>simp
 | succ k ih=>rw [aH5,List.flatten_cons,aB1,ih,Nat.succ_mul,Nat.add_comm]
theorem asi:OpR X (binaryOp .Mult) rRep:=by
 intro pins s σ H x y v u Q I w C h
 obtain ⟨l,k,xs,rfl,rfl,A,o,p,hz,q⟩:=h
 cases w
 obtain ⟨t,rfl⟩:=C
 obtain ⟨z,its,n,r,B,e⟩:=I.lstM A
 have f:its.toArray.size * k.toNat<=sizeLine:=by rw [aB2,← B];exact hz
 have d:¬ its.toArray.size * k.toNat > (2 ^ 63 - 1) / 8:=by
  have:(sizeLine:Nat)<=(2 ^ 63 - 1) / 8:=by decide
  lia
 have c:¬ (!Builtin.List.listFitsIndex k)=true:=by
  rw [fitsIndex_both o p]
  exact aB0
 have b:¬ Builtin.List.listTooLong (its.toArray.size * k.toNat)=true:=by
  rw [al4 f]
  exact aB0
 have g:List.foldl (fun j i=>j ++ i) #[] (List.replicate (if its.toArray.isEmpty=true then 0 else k.toNat) its.toArray)=(List.replicate k.toNat its).flatten.toArray:=by
  have D:∀ m:Nat,List.foldl (fun j i=>j ++ i) #[] (List.replicate m its.toArray)=(List.replicate m its).flatten.toArray:=fun m=>by
   have:=aj8 its m []
   rw [List.nil_append] at this
   exact this
  rw [D]
  cases its with
  | nil=>simp
  | cons a r'=>rw [aF8 (by simp)]
 refine wpAny_binaryOp_repeat_ref (T:="list") (U:="int") (by decide) ⟨_,e,rfl⟩ (fun s'=>typeIs_int s' k t) noFill_list_mul F.fills_int_mul F.slot_int_rmul repeat_list F.slot_int_index.lookup
  (call_meets F.slot_int_rmul (typeIs_int s k t) F.entry_int_rmul (F.args_int_rmul_2 _ _) (int___rmul___int_list k t l its.toArray n)
   ⟨e,rfl,⟨_,e,rfl⟩,call_meets F.slot_list_mul ⟨_,e,rfl⟩ F.entry_list_mul (F.args_list_mul_2 _ _) (AutoListH.list___mul___list_int_3 l its.toArray n k t c d b) ⟨e,?_⟩⟩)
 rw [g]
 exact ⟨.ref _,_,I.lnew (t':=s.toks) (r.rep k.toNat) (by rw [aox,Nat.mul_comm];exact hz),rfl,q _ I.fresh⟩
end
section
variable {prog:Program} {w:World} {A:Around} {E:Value->Shared->Prop} {s:Shared}
end
section
variable {X:Cx}
end
section
variable {κ:Type} [DecidableEq κ]
def valV (kvs:List (κ × V)) (k : κ):Option V:=(kvs.find? fun kv=>decide (kv.1=k)).map (·.2)
def putK (kvs:List (κ × V)) (k : κ) (v:V):List (κ × V) :=
 if (kvs.any fun kv=>decide (kv.1=k))=true then kvs.map (fun kv=>if kv.1=k then (kv.1,v) else kv) else kvs ++ [(k,v)]
def aws (kvs:List (κ × V)) (k : κ):List (κ × V):=kvs.filter fun kv=>decide (kv.1 ≠ k)
theorem afu {p : κ × V} {r:List (κ × V)} {k : κ} (e:p.1=k):valV (p :: r) k=some p.2:=by simp [valV,List.find?_cons,e]
theorem afv {p : κ × V} {r:List (κ × V)} {k : κ} (e:¬ p.1=k):valV (p :: r) k=valV r k:=by simp [valV,List.find?_cons,e]
theorem al6 (k : κ):∀ kvs:List (κ × V),(kvs.any fun a=>decide (a.1=k))=(valV kvs k).isSome
 | []=>rfl
 | p :: r=>by
  rw [List.any_cons]
  by_cases e:p.1=k
  ·simp only [afu e,aD8 e,Bool.true_or,Option.isSome_some]
  ·rw [afv e,aD7 e,Bool.false_or];exact al6 k r
theorem afb (kvs:List (κ × V)) (k : κ) (v:V):(putK kvs k v).length<=kvs.length+1:=by
 unfold putK
 split
 ·rw [aA3];lia
 ·rw [aB1,aE6,aJ2];lia
theorem RelO.isSome_eq {o:Option V} {u:Option Value} (r:RelO o u):o.isSome=u.isSome:=by
 cases o with
 | none=>cases u with
  | none=>rfl
  | some _=>exact (show False from r).elim
 | some _=>cases u with
  | none=>exact (show False from r).elim
  | some _=>rfl
theorem KV.val {kvs:List (κ × V)} {vs:List (κ × Value)} (r:KV kvs vs) (k : κ):RelO (valV kvs k) (valueAt vs k):=by
 unfold KV at r
 induction r with
 | nil=>exact True.intro
 | @cons p q ps qs h t ih =>
  obtain ⟨c,d⟩:=h
  by_cases e:p.1=k
  ·have a:q.1=k:=c.symm.trans e
   have b:valueAt (q :: qs) k=some q.2:=by simp [valueAt,List.find?_cons,a]
   rw [afu e,b];exact d
  ·have a:¬ q.1=k:=fun z=>e (c.trans z)
   have b:valueAt (q :: qs) k=valueAt qs k:=by simp [valueAt,List.find?_cons,a]
   rw [afv e,b];exact ih
theorem KV.any {kvs:List (κ × V)} {vs:List (κ × Value)} (r:KV kvs vs) (k : κ):(kvs.any fun a=>decide (a.1=k))=vs.any fun a=>decide (a.1=k):=by
 unfold KV at r
 induction r with
 | nil=>rfl
 | cons h t ih=>rw [List.any_cons,List.any_cons,ih,h.1]
theorem KV.repl {kvs:List (κ × V)} {vs:List (κ × Value)} (r:KV kvs vs) (k : κ) {y:V} {u:Value} (c:RelV y u) :
  KV (kvs.map fun a=>if a.1=k then (a.1,y) else a) (vs.map fun a=>if a.1=k then (a.1,u) else a):=by
 unfold KV at r ⊢
 induction r with
 | nil=>exact .nil
 | @cons p q ps qs h t ih =>
  rw [aD1,aD1]
  refine .cons ?_ ih
  obtain ⟨b,d⟩:=h
  by_cases e:p.1=k
  ·rw [aF7 e,aF7 (b.symm.trans e)];exact ⟨b,c⟩
  ·rw [aF8 e,aF8 (fun z=>e (b.trans z))];exact ⟨b,d⟩
theorem KV.put {kvs:List (κ × V)} {vs:List (κ × Value)} (r:KV kvs vs) (k : κ) {y:V} {u:Value} (a:RelV y u):KV (putK kvs k y) (stored vs k u):=by
 unfold putK stored
 rw [r.any k]
 by_cases e:(vs.any fun b=>decide (b.1=k))=true
 ·rw [aF7 e,aF7 e];exact r.repl k a
 ·rw [aF8 e,aF8 e];exact Paired.snoc r ⟨rfl,a⟩
theorem KV.length {kvs:List (κ × V)} {vs:List (κ × Value)} (r:KV kvs vs):kvs.length=vs.length:=Paired.length r
end
theorem ah3 {P:Program} {w:World} {k:Key} {u:Value} (r:RelV (kV k) u):(aa6 P w).is k u=true:=by
 cases k with
 | inl i=>obtain ⟨t,e⟩:=(show ∃ t,u=Value.int i t from r);subst e;exact ahf P w i t
 | inr x=>obtain ⟨t,e⟩:=(show ∃ t,u=Value.str x t from r);subst e;exact aoc P w x t
theorem aj9 {P:Program} {w:World}:∀ {ks:List Key} {us:List Value},Vals (ks.map kV) us->ItemsAre (aa6 P w) ks us
 | [],_,r=>by rw [List.map_nil] at r;cases r;exact .nil
 | k :: ks,_,r=>by
  rw [aD1] at r
  cases r with
  | cons h t=>exact .cons (ah3 h) (aj9 t)
abbrev KT (H:Hp):List (List Key × V)->List (List Key × Addr × Value)->Prop:=Paired fun p q=>p.1=q.1/\H q.2.1=some (.tup (p.1.map kV))/\RelV p.2 q.2.2
theorem KT.val {H:Hp} {kvs:List (List Key × V)} {xs:List (List Key × Addr × Value)} (r:KT H kvs xs) (k:List Key):RelO (valV kvs k) ((atKey xs k).map (·.2)):=by
 induction r with
 | nil=>exact True.intro
 | @cons p q ps qs h t ih =>
  obtain ⟨c,_,d⟩:=h
  by_cases e:p.1=k
  ·have a:q.1=k:=c.symm.trans e
   have b:atKey (q :: qs) k=some q.2:=by simp [atKey,List.find?_cons,a]
   rw [afu e,b];exact d
  ·have a:¬ q.1=k:=fun z=>e (c.trans z)
   have b:atKey (q :: qs) k=atKey qs k:=by simp [atKey,List.find?_cons,a]
   rw [afv e,b];exact ih
theorem KT.repl {H:Hp} {kvs:List (List Key × V)} {xs:List (List Key × Addr × Value)} (r:KT H kvs xs) (k:List Key) {y:V} {u:Value} (d:RelV y u) :
  KT H (kvs.map fun b=>if b.1=k then (b.1,y) else b) (xs.map (putAt k u)):=by
 induction r with
 | nil=>exact .nil
 | @cons p q ps qs h t ih =>
  rw [aD1,aD1]
  refine .cons ?_ ih
  obtain ⟨a,c,f⟩:=h
  unfold putAt
  by_cases e:p.1=k
  ·rw [aF7 e,aF7 (a.symm.trans e)];exact ⟨a,c,d⟩
  ·rw [aF8 e,aF8 (fun z=>e (a.trans z))];exact ⟨a,c,f⟩
theorem KT.put {H:Hp} {kvs:List (List Key × V)} {xs:List (List Key × Addr × Value)} (r:KT H kvs xs) (k:List Key) {b:Addr} {y:V} {u:Value} (hb:H b=some (.tup (k.map kV))) (a:RelV y u) :
  KT H (putK kvs k y) (storedH xs k b u):=by
 have e:(kvs.any fun c=>decide (c.1=k))=(atKey xs k).isSome:=by
  rw [al6,(r.val k).isSome_eq,Option.isSome_map]
 unfold putK storedH
 rw [e]
 by_cases q:(atKey xs k).isSome=true
 ·rw [aF7 q,aF7 q];exact r.repl k a
 ·rw [aF8 q,aF8 q];exact Paired.snoc r ⟨rfl,hb,a⟩
theorem KT.keeps {H H':Hp} {kvs:List (List Key × V)} {xs:List (List Key × Addr × Value)} (r:KT H kvs xs) (a:∀ b ys,H b=some (.tup ys)->H' b=some (.tup ys)):KT H' kvs xs :=
 Paired.mapP r fun _ _ z=>⟨z.1,a _ _ z.2.1,z.2.2⟩
section
variable {P:Program} {w:World} {H:Hp} {h:Heap} {a:Addr}
theorem awt {u:HO} (ok:HOk P w H h) (e:Rd H a u):ObjOk P w H h a u:=e.ok ok
theorem ah4 {kvs:List (Key × V)} (ok:HOk P w H h) (e:Rd H a (.dK kvs)):kvs.length<=sizeLine/\(a == sysModules)=false/\∃ vs,KV kvs vs/\h.DictOf (aa6 P w) a vs :=
 show ObjOk P w H h a (.dK kvs) from awt ok e
theorem awu {kvs:List (Key × V)} (ok:HOk P w H h) (e:H a=some (.dK kvs)):kvs.length<=sizeLine/\(a == sysModules)=false/\∃ vs,KV kvs vs/\h.DictOf (aa6 P w) a vs:=ah4 ok (.inl e)
theorem afi {ks:List Key} (ok:HOk P w H h) (e:H a=some (.tup (ks.map kV))):(tupleKind (aa6 P w)).is h ks a:=by
 obtain ⟨_,its,r,o,c,b,n,d⟩:=(show ObjOk P w H h a (.tup (ks.map kV)) from ok a _ e)
 exact ⟨o,its.toArray,n,c,b,d,by simpa using aj9 r⟩
theorem ah5 {kvs:List (List Key × V)} (ok:HOk P w H h) (e:Rd H a (.dT kvs)):kvs.length<=sizeLine/\(a == sysModules)=false /\
  ∃ xs,KT H kvs xs/\h.DictOfH (tupleKind (aa6 P w)) a xs:=by
 obtain ⟨z,y,xs,r,o,es,ep,c,d,g,i,f⟩:=(show ObjOk P w H h a (.dT kvs) from awt ok e)
 refine ⟨z,y,xs,r,o,es,ep,c,d,g,i,fun x b=>?_,f⟩
 have all:∀ {l:List (List Key × V)} {m:List (List Key × Addr × Value)},KT H l m->∀ x∈m,(tupleKind (aa6 P w)).is h x.1 x.2.1:=by
  intro l m q
  induction q with
  | nil=>intro x b;exact nomatch b
  | @cons p q ps qs hq t ih =>
   intro x b
   rcases aA9.mp b with e | b
   ·subst e
    exact afi ok (by rw [← hq.1];exact hq.2.1)
   ·exact ih x b
 exact all r x b
theorem ah6 {kvs:List (List Key × V)} (ok:HOk P w H h) (e:H a=some (.dT kvs)):kvs.length<=sizeLine/\(a == sysModules)=false /\
  ∃ xs,KT H kvs xs/\h.DictOfH (tupleKind (aa6 P w)) a xs:=ah5 ok (.inl e)
end
def DGet (H:Hp) (a:Addr) (y:V) (r:Option V):Prop :=
 (∃ kvs k,Rd H a (.dK kvs)/\y=kV k/\r=valV kvs k)\/∃ kvs k b,Rd H a (.dT kvs)/\y=.ref b/\H b=some (.tup (k.map kV))/\r=valV kvs k
def DPut (H:Hp) (a:Addr) (y v:V) (H':Hp):Prop :=
 (∃ kvs k,H a=some (.dK kvs)/\y=kV k/\kvs.length < sizeLine/\H'=upd H a (.dK (putK kvs k v))) ∨
 ∃ kvs k b,H a=some (.dT kvs)/\y=.ref b/\H b=some (.tup (k.map kV))/\kvs.length < sizeLine/\H'=upd H a (.dT (putK kvs k v))
theorem DGet.k {H:Hp} {a:Addr} {kvs:List (Key × V)} {k:Key} (e:H a=some (.dK kvs)):DGet H a (kV k) (valV kvs k):=.inl ⟨kvs,k,.inl e,rfl,rfl⟩
theorem DPut.k {H:Hp} {a:Addr} {kvs:List (Key × V)} {k:Key} {v:V} (e:H a=some (.dK kvs)) (b:kvs.length < sizeLine):DPut H a (kV k) v (upd H a (.dK (putK kvs k v))):=.inl ⟨kvs,k,e,rfl,b,rfl⟩
theorem DPut.t {H:Hp} {a b:Addr} {kvs:List (List Key × V)} {k:List Key} {v:V} (e:H a=some (.dT kvs)) (c:H b=some (.tup (k.map kV))) (d:kvs.length < sizeLine) :
  DPut H a (.ref b) v (upd H a (.dT (putK kvs k v))):=.inr ⟨kvs,k,b,e,rfl,c,d,rfl⟩
section
variable {X:Cx} {pins:List (Addr × Obj)} {σ:St} {H:Hp} {s:Shared} {a:Addr} {y v:V} {u r:Value} {o:Option V} {A:Around} {E:Value->Shared->Prop}
theorem Inv.big (I:Inv X pins σ H s):sysModules < s.heap.objs.size:=by
 have h:mainGlobals < s.heap.objs.size:=(I.mod.glob.keeps I.bk).lt
 exact Nat.lt_trans (by decide) h
theorem asj {Q:Value->Shared->Prop} (q:A.units+1 < cLine) (I:Inv X pins σ H s) (g:DGet H a y (some v)) (n:RelV y u) (h:∀ f s',Inv X pins σ H s'->RelV v f->Q f s') :
  wpAny (model X.prog X.w) A (getItem (.ref a) u) Q E s:=by
 rcases g with ⟨kvs,k,e,j,l⟩ | ⟨kvs,k,b,e,j,r,l⟩
 ·subst j
  obtain ⟨z,hd,vs,d,dd⟩:=ah4 I.hok e
  obtain ⟨f,i,c⟩:=RelO.some_of (v:=v) (o:=valueAt vs k) (by rw [l];exact d.val k)
  exact wpAny_getItem_of (ah3 n) dd.mapOf i (h f _ (I.tok _) c)
 ·subst j
  cases (show u=Value.ref b from n)
  obtain ⟨z,hd,xs,d,dd⟩:=ah5 I.hok e
  obtain ⟨f,i,c⟩:=RelO.some_of (v:=v) (o:=(atKey xs k).map (·.2)) (by rw [l];exact d.val k)
  obtain ⟨p,x,m⟩:=Option.map_eq_some_iff.mp i
  refine wpAny_getItem_heap (tupleKind_room_in1 q) (afi I.hok r) dd x ?_
  rw [m]
  exact h f _ (I.tok _) c
theorem axf {Q:Value->Shared->Prop} (i:A.units+1 < cLine) (I:Inv X pins σ H s) (g:DGet H a y o) (f:RelV y u) (h:∀ s',Inv X pins σ H s'->Q (.bool (!o.isSome)) s') :
  wpAny (model X.prog X.w) A (compareOp .NotIn u (.ref a)) Q E s:=by
 rcases g with ⟨kvs,k,e,d,l⟩ | ⟨kvs,k,b,e,d,j,l⟩
 ·subst d
  obtain ⟨z,hd,vs,c,dd⟩:=ah4 I.hok e
  refine wpAny_notIn_of (ah3 f) hd dd.mapOf ?_
  rw [← (c.val k).isSome_eq,← l]
  exact h _ (I.tok _)
 ·subst d
  cases (show u=Value.ref b from f)
  obtain ⟨z,hd,xs,c,dd⟩:=ah5 I.hok e
  refine wpAny_notIn_heap (tupleKind_room_in1 i) (afi I.hok j) hd dd ?_
  have q:=(c.val k).isSome_eq
  rw [Option.isSome_map] at q
  rw [← q,← l]
  exact h _ (I.tok _)
theorem agz {h':Heap} {t':Nat} {c:HO} (I:Inv X pins σ H s) (f:Mut (H a)) (hs:Heap.SameBut a s.heap h') (d:∃ q,h'.get? a=some q) (new:ObjOk X.prog X.w (upd H a c) h' a c) :
  Inv X pins σ (upd H a c) { s with heap:=h',toks:=t' } :=
 I.write (x:=a) (e:=a) f (.inl rfl) (fun b q hb z=>(hs.2 b hb).trans z) d new
theorem asl {P:Program} {w:World} {H':Hp} {h':Heap} {kvs:List (Key × V)} {vs:List (Key × Value)} (z:kvs.length<=sizeLine) (hd:(a == sysModules)=false) (b:KV kvs vs) (dd:h'.DictOf (aa6 P w) a vs) :
  ObjOk P w H' h' a (.dK kvs):=⟨z,hd,vs,b,dd⟩
theorem asm {H':Hp} {Q:Unit->Shared->Prop} (F:A.units+1 < cLine) (I:Inv X pins σ H s) (g:DPut H a y v H') (p:RelV y u) (x:RelV v r) (h:∀ s',Inv X pins σ H' s'->Q () s') :
  wpAny (model X.prog X.w) A (setItem (.ref a) u r) Q E s:=by
 rcases g with ⟨kvs,k,e,m,l,j⟩ | ⟨kvs,k,b,e,m,B,l,j⟩
 ·subst m j
  obtain ⟨z,hd,vs,d,dd⟩:=awu I.hok e
  have hz:vs.length<=sizeLine:=by rw [← d.length];exact z
  have n:(putK kvs k v).length<=sizeLine:=by have:=afb kvs k v;lia
  refine wpAny_setItem_pairs (hsz:=hz) (ah3 p) dd fun h' f hs=>h _ ?_
  have K:∃ q,h'.get? a=some q:=let ⟨q,_,_,i,_⟩:=f;⟨q,i⟩
  exact agz I (by rw [e];exact True.intro) hs K (asl n hd (d.put k x) f)
 ·subst m j
  cases (show u=Value.ref b from p)
  obtain ⟨z,hd,xs,d,dd⟩:=ah6 I.hok e
  have hz:xs.length<=sizeLine:=by rw [← Paired.length d];exact z
  have n:(putK kvs k v).length<=sizeLine:=by have:=afb kvs k v;lia
  refine wpAny_setItem_heap (hsz:=hz) (tupleKind_room_in1 F) (afi I.hok B) dd fun h' f hs=>h _ ?_
  obtain ⟨q,es,ep,i,C,G,J,_,D⟩:=f
  refine agz I (by rw [e];exact True.intro) hs ⟨q,i⟩ ⟨n,hd,_,(d.put k B x).keeps fun c ys o=>?_,q,es,ep,i,C,G,J,D⟩
  rw [aad (awo o e (fun z=>nomatch z))]
  exact o
end
section
variable {X:Cx} {pins:List (Addr × Obj)} {σ:St} {H:Hp} {s:Shared} {a:Addr} {kvs:List (Key × V)} {k:Key} {u:Value} {A:Around} {E:Value->Shared->Prop}
end
def NoSl (i:Expr):Prop:=∀ ov iv,subscripted i false ov iv=operate [ov,iv] (getItem ov iv)
theorem axg {prog:Program} {w:World} {A:Around} {E:Value->Shared->Prop} {s:Shared} {env:Env} {b a:Expr} {pos:Pos} {T id:String} {Q:Value->Shared->Prop}
  (n:typeLookup (.type T) "__getitem__" = pure (some (.builtin id))) (hs:NoSl a)
  (h:wpAny (model prog w) A (eval b env) (fun o f=>wpAny (model prog w) A (eval a env) (fun i c=>c.TypeIs o T/\wpAny (model prog w) A (getItem o i) Q E c) E f) E s) :
  wpAny (model prog w) A (eval (.Subscript b a pos) env) Q E s:=by
 refine Subscript_ (aK2 h (fun o f l=>aK2 l (fun i c d=>?_) fun _ _ x=>x) fun _ _ x=>x)
 obtain ⟨m,d⟩:=d
 unfold subscriptTail
 refine aJ3 ?_
 rw [getitemInPython_of_ne m.not_modules]
 refine aJ3 (wpAny_specialOf m n ?_)
 have fin:wpAny (model prog w) A (subscripted a false o i) (fun r g=>wpAny (model prog w) A (letTemporaryGo b o r >>= fun _=>pure r) Q E g) E c:=by
  rw [hs o i]
  exact wpAny_operating (aK2 d (fun r g j=>aJ3 (wpAny_letTemporaryGo (aJ4 j))) fun _ _ x=>x)
 first
  | exact aJ4 (aJ3 fin)
  | exact aJ3 (aJ4 (aJ3 fin))
  | exact aJ3 fin
theorem aod {X:Cx} {pins:List (Addr × Obj)} {σ:St} {H:Hp} {s:Shared} {a:Addr} {y:V} {o:Option V} (I:Inv X pins σ H s) (g:DGet H a y o):s.TypeIs (.ref a) "dict":=by
 rcases g with ⟨kvs,k,e,_,_⟩ | ⟨kvs,k,b,e,_,_,_⟩
 ·obtain ⟨_,_,vs,_,dd⟩:=ah4 I.hok e
  exact dd.typeIs
 ·obtain ⟨_,_,xs,_,dd⟩:=ah5 I.hok e
  exact dd.typeIs
def alj (td ty:TE):TE:=fun σ H Q=>td σ H fun x H1=>ty σ H1 fun y H2=>∃ a v,x=.ref a/\DGet H2 a y (some v)/\Q v H2
def afj (ty td:TE):TE:=fun σ H Q=>ty σ H fun y H1=>td σ H1 fun x H2=>∃ a o,x=.ref a/\DGet H2 a y o/\Q (.bl (!o.isSome)) H2
def ah7 (td ty tv:TE):TS:=fun D σ H=>tv σ H fun v H1=>td σ H1 fun x H2=>ty σ H2 fun y H3=>∃ a H4,x=.ref a/\DPut H3 a y v H4/\D.nx σ H4
section
variable {X:Cx} {o i e value:Expr} {pos pos' tpos:Pos} {td ty tv:TE}
theorem aja (q:X.A.units+1 < cLine) (d:PE X o td) (hi:PE X i ty) (hs:NoSl i):PE X (.Subscript o i pos) (alj td ty):=by
 intro pins s σ H Q I h
 refine axg PySem.F.slot_dict_getitem.lookup hs (thn (d pins s σ H _ I h) fun u s1 ⟨x,l,r,j,n⟩=>thn (hi pins s1 σ l _ r n) fun w s2 ⟨y,H2,c,m,a,v,ex,g,p⟩=>?_)
 subst ex
 obtain rfl:u=Value.ref a:=j
 exact ⟨aod c g,asj q c g m fun z B f b=>⟨v,H2,f,b,p⟩⟩
theorem aka (q:X.A.units+1 < cLine) (hi:PE X i ty) (b:PE X o td):PC X .NotIn i o (afj ty td):=by
 intro pins s σ H Q I h
 refine thn (hi pins s σ H _ I h) fun v s1 ⟨y,j,r,l,m⟩=>thn (b pins s1 σ j _ r m) fun u s2 ⟨x,H2,f,d,a,p,ex,g,n⟩=>?_
 subst ex
 obtain rfl:u=Value.ref a:=d
 exact axf q f g l fun w c=>⟨.bl (!p.isSome),H2,c,rfl,n⟩
theorem afk (q:X.A.units+1 < cLine) (b:PE X o td) (hi:PE X i ty) (d:PE X value tv) (hs:swapsWith value (some (.Subscript o i pos')) pos.line X.env=pure false) :
  PS X (.Assign [.Subscript o i pos'] value pos) (ah7 td ty tv):=by
 intro pins s σ H D I h
 refine wpAny_Assign_Subscript (thn (d pins s σ H _ I h) fun r s1 ⟨v,l,E,B,n⟩=>thn (b pins s1 σ l _ E n) fun u s2 ⟨x,H2,j,f,p⟩=>thn (hi pins s2 σ H2 _ j p) fun F G ⟨y,H3,c,m,a,w,ex,g,C⟩=>?_) hs
 subst ex
 obtain rfl:u=Value.ref a:=f
 exact asm q c g m B fun J z=>⟨σ,w,z,C⟩
end
theorem aur {P:Program} {w:World} {H:Hp} (h:Heap) (hb:sysModules < h.objs.size):ObjOk P w H (h.push { cls:=.type "dict",data:=.dict #[] }) h.objs.size (.dK []) :=
 ⟨aG2 _,beq_eq_false_iff_ne.mpr (Ne.symm (aB6 hb)),[],.nil,Heap.DictOf.new h⟩
theorem aus {P:Program} {w:World} {H:Hp} (h:Heap) (hb:sysModules < h.objs.size):ObjOk P w H (h.push { cls:=.type "dict",data:=.dict #[] }) h.objs.size (.dT []) :=
 ⟨aG2 _,beq_eq_false_iff_ne.mpr (Ne.symm (aB6 hb)),[],.nil,_,#[],0,aJ7 _ rfl,⟨rfl,rfl,rfl⟩,rfl,rfl,List.nodup_nil⟩
def al7:TE:=fun _ H Q=>∀ p,H p=none->Q (.ref p) (upd H p (.dT []))
section
variable {X:Cx} {pos:Pos}
theorem al8:PE X (.Dict [] [] pos) al7:=fun pins s σ H Q I h =>
 wpAny_Dict_empty ⟨.ref s.heap.objs.size,_,I.laid (a:=s.heap.objs.size) (o:=.dT []) (t':=s.toks) (fun _ _ q=>aJ5 _ q) (aA6 _) (aus s.heap I.big),rfl,h _ (I.hok.fresh (aA6 _))⟩
end
def al9:List (TE × TE)->St->Hp->(List (V × V)->Hp->Prop)->Prop
 | [],_,H,Q=>Q [] H
 | (tk,tv) :: r,σ,H,Q=>tk σ H fun x H1=>tv σ H1 fun y H2=>al9 r σ H2 fun ps H3=>Q ((x,y) :: ps) H3
abbrev VV:List (V × V)->List (Value × Value)->Prop:=Paired fun p q=>RelV p.1 q.1/\RelV p.2 q.2
def PPs (X:Cx) (pos:Pos) (keys:List (Option Expr)) (values:List Expr) (trs:List (TE × TE)):Prop :=
 ∀ (pins:List (Addr × Obj)) (s:Shared) (σ:St) (H:Hp) (Q:List (V × V)->Hp->Prop),Inv X pins σ H s->al9 trs σ H Q ->
  wpAny (model X.prog X.w) X.A (evalPairs (pairTrees keys values X.env pos)) (fun vs s'=>∃ ps H',Inv X pins σ H' s'/\VV ps vs/\Q ps H') X.xe s
theorem axh {X:Cx} {pos:Pos}:PPs X pos [] [] []:=fun pins s σ H Q I h=>pairTrees_nil_walk ⟨[],H,I,.nil,h⟩
theorem aut {X:Cx} {pos:Pos} {k v:Expr} {ks:List (Option Expr)} {vs:List Expr} {d c:TE} {a:List (TE × TE)} (q:PE X k d) (i:PE X v c) (f:PPs X pos ks vs a) :
  PPs X pos (some k :: ks) (v :: vs) ((d,c) :: a):=fun pins s σ H Q I h =>
 pairTrees_cons_walk (thn (q pins s σ H _ I h) fun u s1 ⟨x,m,w,j,o⟩=>thn (i pins s1 σ m _ w o) fun z s2 ⟨y,H2,l,n,p⟩ =>
  thn (f pins s2 σ H2 _ l p) fun B A ⟨ps,H3,g,b,r⟩=>⟨(x,y) :: ps,H3,g,.cons ⟨j,n⟩ b,r⟩)
def afl (kvs more:List (Key × V)):List (Key × V):=more.foldl (fun acc kv=>putK acc kv.1 kv.2) kvs
theorem KV.merge:∀ {more:List (Key × V)} {rs:List (Key × Value)} {kvs:List (Key × V)} {vs:List (Key × Value)},KV more rs->KV kvs vs->KV (afl kvs more) (merged vs rs):=by
 intro more rs kvs vs r
 unfold KV at r
 induction r generalizing kvs vs with
 | nil=>intro q;exact q
 | @cons p q ps qs h t ih =>
  intro a
  have e:KV (putK kvs p.1 p.2) (stored vs q.1 q.2):=by
   have:=a.put p.1 h.2
   rw [← h.1];exact this
  exact ih e
theorem af6:∀ (more kvs:List (Key × V)),(afl kvs more).length<=kvs.length+more.length
 | [],kvs=>by show kvs.length<=kvs.length+0;lia
 | p :: r,kvs=>by
  have b:=af6 r (putK kvs p.1 p.2)
  have a:=afb kvs p.1 p.2
  show (afl (putK kvs p.1 p.2) r).length<=_
  rw [aE6];lia
theorem ah8 {P:Program} {w:World}:∀ {kvs:List (Key × V)} {f:List (Value × Value)},VV (kvs.map fun d=>(kV d.1,d.2)) f->∃ rs,Carries (aa6 P w) f rs/\KV kvs rs
 | [],_,r=>by rw [List.map_nil] at r;cases r;exact ⟨[],True.intro,.nil⟩
 | p :: kvs,_,r=>by
  rw [aD1] at r
  cases r with
  | @cons a b as bs h t =>
   obtain ⟨rs,c,q⟩:=ah8 (P:=P) (w:=w) t
   obtain ⟨b1,g⟩:=b
   exact ⟨(p.1,g) :: rs,⟨ah3 h.1,rfl,c⟩,.cons ⟨rfl,h.2⟩ q⟩
def awv (trs:List (TE × TE)):TE:=fun σ H Q=>∀ p,H p=none->al9 trs σ (upd H p (.dK [])) fun ps H2=>H2 p=some (.dK [])/\∃ kvs:List (Key × V),ps=kvs.map (fun kv=>(kV kv.1,kv.2))/\kvs.length<=15/\Q (.ref p) (upd H2 p (.dK (afl [] kvs)))
theorem axi {X:Cx} {pos:Pos} {keys:List (Option Expr)} {b:List Expr} {f:List (TE × TE)} (h:PPs X pos keys b f) (d:keys.all (·.isSome)=true) (u:keys.length=b.length) (r:keys ≠ [])
  (j:keys.length<=15):PE X (.Dict keys b pos) (awv f):=by
 intro pins s σ H Q I q
 have hn:=I.hok.fresh (aA6 s.heap.objs.size)
 have B:=I.laid (a:=s.heap.objs.size) (o:=.dK []) (h':=s.heap.push { cls:=.type "dict",data:=.dict #[] }) (t':=s.toks) (fun _ _ q=>aJ5 _ q) (aA6 _) (aur s.heap I.big)
 refine wpAny_Dict_walk (knd:=aa6 X.prog X.w) d u r j (thn (h pins _ σ _ _ B (q _ hn)) fun D s2 ⟨ps,H2,l,i,e,kvs,ep,C,x⟩=>?_)
 subst ep
 obtain ⟨rs,c,m⟩:=ah8 (P:=X.prog) (w:=X.w) i
 obtain ⟨z,hd,v,y,dd⟩:=awu l.hok e
 cases y
 refine ⟨rs,c,dd,fun h' g hs=>⟨.ref s.heap.objs.size,_,?_,rfl,x⟩⟩
 have hz:(afl [] kvs).length<=sizeLine:=by
  have n:=af6 kvs []
  rw [aJ2] at n
  rw [sizeLine_eq];lia
 have A:∃ q,h'.get? s.heap.objs.size=some q:=let ⟨q,_,_,p,_⟩:=g;⟨q,p⟩
 exact agz l (by rw [e];exact True.intro) hs A (asl hz hd (m.merge .nil) g)
structure M1 (X:Cx) (o:Expr) (m:Str) (apos:Pos) (e:Expr) (cpos:Pos):Prop where
 base:attributeBase o m X.env (eval o X.env)=eval o X.env
 few:((backTo cpos (starEach [e] X.env)).all (fun x => !x.1) && (backToKw cpos (keywordEach [] X.env)).all (fun x=>x.1.isSome)
  && decide (([e]:List Expr).length+([]:List Keyword).length+(if ([]:List Keyword).isEmpty then 0 else 1) < 30))=true
 line:(apos.endLine == cpos.line)=true
 trees:backTo cpos (starEach [e] X.env)=[(false,eval e X.env)]
def IsD (H:Hp) (a:Addr):Prop:=(∃ kvs,Rd H a (.dK kvs))\/∃ kvs,Rd H a (.dT kvs)
theorem az8 {X:Cx} {pins:List (Addr × Obj)} {σ:St} {H:Hp} {s:Shared} {a:Addr} (I:Inv X pins σ H s) (d:IsD H a) :
  s.TypeIs (.ref a) "dict"/\(∀ b,Value.ref a=.ref b->∃ c,s.heap.get? b=some c/\c.dict=none)/\(a == sysModules)=false:=by
 rcases d with ⟨kvs,e⟩ | ⟨kvs,e⟩
 ·obtain ⟨_,hd,vs,_,dd⟩:=ah4 I.hok e
  refine ⟨dd.typeIs,fun b q=>?_,hd⟩
  cases q
  obtain ⟨c,_,_,f,g,_⟩:=dd
  exact ⟨c,f,g.2.1⟩
 ·obtain ⟨_,hd,xs,_,dd⟩:=ah5 I.hok e
  refine ⟨dd.typeIs,fun b q=>?_,hd⟩
  cases q
  obtain ⟨c,_,_,f,g,_⟩:=dd
  exact ⟨c,f,g.2.1⟩
section
variable {X:Cx} {pins:List (Addr × Obj)} {σ:St} {H:Hp} {s:Shared} {a:Addr} {y d:V} {u r:Value} {o:Option V} {A:Around} {E:Value->Shared->Prop}
end
section
variable {X:Cx} {o e f:Expr} {apos cpos:Pos} {td ty tx:TE}
end
section
variable {X:Cx} {pins:List (Addr × Obj)} {σ:St} {H:Hp} {s:Shared} {a:Addr} {kvs:List (Key × V)} {A:Around} {E:Value->Shared->Prop}
end
section
variable {X:Cx} {pins:List (Addr × Obj)} {σ:St} {H:Hp} {s:Shared} {a:Addr} {y:V} {u:Value} {A:Around} {E:Value->Shared->Prop}
end
end L2
namespace Att
open PySem PySem.W PySem.Calls PyProof.Rows
theorem ah9 {P:Params} {h:Heap}:∀ (ns:List Int) (vs:List Value),WellAll P h vs (ns.map WData.int)->IntsAre vs ns:=by
 intro ns
 induction ns with
 | nil =>
  intro vs w
  rw [List.map_nil] at w
  cases w
  exact .nil
 | cons n ns ih =>
  intro vs w
  rw [aD1] at w
  cases w with
  | cons a b =>
   cases a
   exact .cons _ _ (ih _ b)
theorem asn {l:OpenLaw} {n:Nat} (hn:l.most=some n) {P:Params} {h:Heap} {args:List WData} {c:List Value}
  (b:l.row.toRowW.claim.pre args=true) (m:WellAll P h c args) :
  ∃ a vs ns,c=[Value.ref a]/\args=[WData.list (ns.map WData.int)]/\h.get? a=some { cls:=.type "list",data:=.seq vs.toArray }/\IntsAre vs ns/\ns.length<=n:=by
 have j:WShape.hasAll [] args [.list .int]=true:=(pre_splitW b).1
 have o:l.pre.holds [] { args:=args }=true:=(pre_splitW b).2
 obtain ⟨d,r,rfl,p,s⟩:=hasAllW_cons j
 obtain rfl:=hasAllW_nil s
 obtain ⟨xs,rfl,u⟩:=hasW_list p
 obtain ⟨ns,rfl⟩:=items_int u
 have f:ns.length<=n:=by
  unfold OpenLaw.pre at o
  have i:(WTm.not (.lt (.lit (.int (n:Int))) (.len (.arg 0)))).holds [] { args:=[.list (ns.map .int)] }=true:=by
   have i:=(holds_andW o).1
   rw [hn] at i
   exact i
  have g:=condW_of i (w_not (w_lt w_lit (w_len_list (w_arg rfl))))
  rw [aA3] at g
  refine Nat.le_of_not_lt fun q=>?_
  have v:(n:Int) < ((ns.length:Nat):Int):=by lia
  first
   | (rw [aD8 v] at g;exact absurd g (by decide))
   | (simp at g;lia)
 cases m with
 | cons w1 w2 =>
  cases w2
  cases w1 with
  | list ho hall=>exact ⟨_,_,ns,rfl,rfl,ho,ah9 ns _ hall,f⟩
theorem aso (l:OpenLaw) (args:List WData):l.row.toRowW.claim.post args (.bool true) args=true :=
 postW_of (r:=l.row.toRowW) (X:=(true == true))
  (show WShape.has [] (.bool true) .bool=true by first | rfl | decide | simp [WShape.has,WShape.arms,WShape.armsAll])
  (show (WTm.eq .res (.lit (.bool true))).value [] { args:=args,res:=some (.bool true),after:=args }=some (.bool (true == true)) from w_eq_bool (w_res rfl) w_lit) rfl
theorem attach_call {l:OpenLaw} {n:Nat} {q:Program} {c:List Str} {B:(Str->Option Value)->Heap->Prop} {z:World->Heap->Prop} {d:DefRec}
  (hn:l.most=some n) (u:d.params.defaults=[])
  (call:∀ (w:World) (s₀ b:Shared) (mg mb:Str->Option Value) (fa:Addr) (o:Obj) (pm m doc:Value) (a:Addr) (vs:List Value) (ns:List Int),
   Ground q c [] B w s₀ mg mb b.heap->z w b.heap ->
   b.heap.get? fa=some o->o.data=.func (docDef d.name d.params d.body d.scope pm m doc)->b.heap.CodeRec m d.name->mg d.name=some (.ref fa) ->
   b.heap.get? a=some { cls:=.type "list",data:=.seq vs.toArray }->IntsAre vs ns->ns.length<=n->b.gens = #[] ->
   codeAny (model l.prog w) callerA (.call (.ref fa) ⟨[.ref a],[]⟩) (fun r s'=>r=.ok (.ret (.bool true))/\OldK b.heap s'.heap/\s'.os=b.os/\AllBare s'.gens) b) :
  WalkO q c B z l.row.toRowW d [] (fun f vs=>PySem.call f vs):=by
 intro w s₀ b mg mb G Y fa o pm m doc E kV C hd p x v L args A as i y D s H
 obtain rfl:E=.none:=Dflts.none x u
 obtain rfl:kV=.none:=Dflts.noKw x
 obtain ⟨a,vs,ns,rfl,rfl,h,g,j⟩:=asn hn i s
 refine enter_call (aJ8 (call w s₀ b mg mb fa o pm m doc a vs ns G Y C (fd_plain hd) p v h g j L) fun r s' F=>?_)
 obtain ⟨rfl,I,J,K⟩:=F
 exact ⟨.inl ⟨.bool true,.bool true,[],rfl,fun _=>rfl,.bool true,aso l _,fun _=>⟨List.Pairwise.nil,fun _ hm=>(nomatch hm)⟩⟩,I,J,K⟩
section
variable {prog:Program} {w:World} {A:Around} {E:Value->Shared->Prop} {s:Shared} {K:Frag}
end
end Att
namespace L2
open PySem PySem.Spec PyProof.Rows
theorem agc:∀ {vs:List Value} {ns:List Int},IntsAre vs ns->Vals (ns.map V.int) vs
 | _,_,.nil => .nil
 | _,_,.cons n t h => .cons ⟨t,rfl⟩ (agc h)
def Only (H:Hp):Prop:=∀ b,H b=none\/∃ o xs,H b=some (.frz o (.lst xs))
theorem auu {P:Program} {w:World} {K:Frag} {mg mb:Str->Option Value} {CX:CXT} {k:Nat} {fa a:Addr} {fd:FuncData} {x:Str} {sp:Sp} {c:Shared} {vs:List Value} {ns:List Int}
  (O:K.In c.heap) (A:c.heap.Ns mainGlobals mg) (hb:c.heap.Ns builtinsNs mb) (E:∀ x:Str,x ≠ "__name__"->mb x=bootBuiltins x) (l:c.heap.NoLimit) (Y:c.gens = #[])
  (ha:c.heap.get? a=some { cls:=.type "list",data:=.seq vs.toArray }) (hi:IntsAre vs ns) (N:ns.length<=sizeLine) (T:Room k callerA)
  (F:∀ base:Heap,K.In base->base.Ns mainGlobals mg->FnOk P w K mg base CX k fa fd [x] sp) (j:∀ (s:Shared) (u:Value),BindsTo s fd ⟨[u],[]⟩ [(x,u)])
  (J:∀ H:Hp,Only H->SqL K H a (ns.map V.int)->sp [.ref a] H (fun v _=>v=.bl true) fun _ _ _=>False)
  (I:∀ H e s',CX [] H c (fun _ _ _=>False) e s'->False) :
  codeAny (model P w) callerA (.call (.ref fa) ⟨[.ref a],[]⟩) (fun r s'=>r=.ok (.ret (.bool true))/\OldK c.heap s'.heap/\s'.os=c.os/\AllBare s'.gens) c:=by
 have R:=agc hi
 have C:=hi.length
 -- from an abstract heap in which nothing but the script may be tracked
 have i:∀ H:Hp,Only H->SqL K H a (ns.map V.int)->HOk P w H c.heap->(∀ b,H b ≠ none->b=a)->(H a ≠ none->K.lookup a=none) ->
   codeAny (model P w) callerA (.call (.ref fa) ⟨[.ref a],[]⟩) (fun r s'=>r=.ok (.ret (.bool true))/\OldK c.heap s'.heap/\s'.os=c.os/\AllBare s'.gens) c:=by
  intro H M hS hok L hK
  have f:∀ {b:Addr} {o:Obj},c.heap.get? b=some o->H b=none->(hidT c.heap H).get? b=some o:=fun e n=>aun e n
  have G:∀ {b:Addr} {o:Obj} {es:Array DictEntry} {ep:Nat},c.heap.get? b=some o->o.data=.dict es ep->H b=none:=fun {b o es ep} e d=>by
   cases q:H b with
   | none=>rfl
   | some u =>
    have D:b=a:=L b (by rw [q];simp)
    subst D
    rw [ha] at e;cases e
    have d':Data.seq vs.toArray _=Data.dict es ep:=d
    cases d'
  have g:∀ {b:Addr} {m:Str->Option Value},c.heap.Ns b m->(hidT c.heap H).Ns b m:=fun {b m} ⟨o,es,ep,e,d,r⟩=>⟨o,es,ep,f e (G e d),d,r⟩
  have B:K.In (hidT c.heap H):=fun b o e=>f (O b o e) (by
   cases q:H b with
   | none=>rfl
   | some u =>
    have D:b=a:=L b (by rw [q];simp)
    subst D
    rw [hK (by rw [q];simp)] at e;cases e)
  have X:Mod K mg (hidT c.heap H):=⟨B,g A,⟨mb,g hb,E⟩,let ⟨S,h1,h2⟩:=l;⟨S,g h1,h2⟩⟩
  have W:Env0 P w K mg (hidT c.heap H) callerA [] c H:=⟨rfl,X,fun b o e=>axa e,Nat.le_of_eq (ar2 _ _),trivial,fun b hb=>absurd (show b∈([]:List Addr) from hb) (by simp),hok,.of_eq Y⟩
  refine aJ8 ((F _ B (g A)).run callerA [] c H ⟨[.ref a],[]⟩ [.ref a] [.ref a] _ _ T W (j c (.ref a)) (.cons rfl .nil) (J H M hS)) fun r s' h=>?_
  cases r with
  | error e=>exact (I H e s' h).elim
  | ok fl =>
   cases fl with
   | next=>exact False.elim h
   | brk=>exact False.elim h
   | cont=>exact False.elim h
   | ret u =>
    obtain ⟨v,H',os,bare,un,p,r',q⟩:=h
    have Z:v=.bl true:=q
    subst Z
    obtain rfl:u=Value.bool true:=r'
    refine ⟨rfl,OldK.of_keep fun b o e=>?_,os,bare⟩
    cases q:H b with
    | none=>exact un.keep b o e q (by intro z;exact absurd (show b∈([]:List Addr) from z) (by simp)) (by simp)
    | some u =>
     rcases M b with z | ⟨ob,xs,z⟩
     ·rw [q] at z;cases z
     ·have U:=un.frzs b ob _ z
      obtain ⟨Q,_⟩:=hok b _ z
      obtain ⟨e2,_⟩:=p b _ U
      rw [e] at Q;cases Q
      exact e2
 cases hk:K.lookup a with
 | some o =>
  -- the script is one of the module's own objects
  have e:=O a o hk
  rw [ha] at e
  cases e
  refine i (fun _=>none) (fun _ => .inl rfl) (.inr ⟨_,vs.toArray,_,hk,rfl,rfl,rfl,by rw [aB2,C];exact N,by simpa using R⟩) (fun b u z=>by have y:(none:Option HO)=some u:=z;cases y) (fun b z=>absurd rfl z) fun z=>absurd rfl z
 | none =>
  refine i (fun b=>if b=a then some (.frz { cls:=.type "list",data:=.seq vs.toArray } (.lst (ns.map V.int))) else none) (fun b=>?_) (.inl (.inr ⟨{ cls:=.type "list",data:=.seq vs.toArray },aF7 rfl⟩)) (fun b u z=>?_) (fun b z=>?_) fun _=>hk
  ·by_cases hb:b=a
   ·exact .inr ⟨_,_,aF7 hb⟩
   ·exact .inl (aF8 hb)
  ·by_cases hb:b=a
   ·have y:=(aF7 hb).symm.trans z
    cases y
    subst hb
    exact ⟨ha,by rw [aA3];exact N,vs,_,R,ha⟩
   ·have y:=(aF8 hb).symm.trans z
    cases y
  ·by_cases hb:b=a
   ·exact hb
   ·exact absurd (aF8 hb) z
abbrev KOf {K:Frag} {h:Heap} (_:K.In h):Frag:=K
theorem walk_of {l:PySem.W.OpenLaw} {n k:Nat} {q:Program} {j:List Str} {J:(Str->Option Value)->Heap->Prop} {D:World->Heap->Prop} {d:DefRec} {K:Params->Frag} {CX:World->CXT} {sp:World->Sp} {x:Str}
  (hn:l.most=some n) (r:n<=sizeLine) (y:d.params.defaults=[]) (I:Room k callerA)
  (P:∀ (w:World) (h:Heap),D w h->(K w.params).In h)
  (F:∀ (w:World) (mg:Str->Option Value) (fa:Addr) (h:Heap),(K w.params).In h->h.Ns mainGlobals mg->mg d.name=some (.ref fa) ->
   ∃ fd:FuncData,(∀ (s:Shared) (u:Value),BindsTo s fd ⟨[u],[]⟩ [(x,u)]) /\
    ∀ base:Heap,(K w.params).In base->base.Ns mainGlobals mg->FnOk l.prog w (K w.params) mg base (CX w) k fa fd [x] (sp w))
  (B:∀ (w:World) (H:Hp) (a:Addr) (ns:List Int),ns.length<=n->Only H->SqL (K w.params) H a (ns.map V.int)->sp w [.ref a] H (fun v _=>v=.bl true) fun _ _ _=>False)
  (A:∀ (w:World) (H:Hp) (s:Shared) (e:Value) (s':Shared),CX w [] H s (fun _ _ _=>False) e s'->False) :
  PySem.W.WalkO q j J D l.row.toRowW d [] (fun f vs=>PySem.call f vs):=by
 refine Att.attach_call hn y fun w s₀ m mg mb fa o pm R doc a vs ns G Y Q hd E z p i c O=>?_
 have C:=P w _ Y
 obtain ⟨fd,hb,N⟩:=F w mg fa _ C G.T.g z
 exact auu C G.T.g G.T.b G.T.builtins G.T.nolimit O p i (aD0 c r) I N hb (fun H M L=>B w H a ns c M L) fun H e s'=>A w H m e s'
end L2
/- THE LAST THEOREM (shape; LID, My.* are yours):
  My.Adr: a structure of the addresses that your layer names (classes,functions);My.Txt K t: a structure (Prop) of the equations over K;
  My.txt_mk:{K} {implicit addresses ..} (e1:nsIn K mainGlobals "law" = some (some (.ref f))) (e2:K.lookup f=some ⟨oc,od,.func (fnOf "law" "law" params body scope dV kV doc pm an cdv ct),sl⟩) (e3:codeIn K cdv "law" = true) .. : ∃ t,My.Txt K t
set_option maxRecDepth 100000 in
set_option maxHeartbeats 0 in
theorem PySem.Challenge.cw_LID_holds : PySem.Challenge.rw_LID.Holds := by
 w_on;o_law;k_head;(case hw=>w_witness2)
 k_fill
 refine L2.walk_of (l:=PySem.Challenge.rw_LID) (n:=63) (k:=40) (x:="script") (CX:=fun w => ..) (sp:=fun _=>My.sp_law) rfl (by decide) rfl ⟨rfl,by decide,by decide⟩ (fun w h Y=>PySem.W.kIn_of Y) ?F ?S ?C
 case F =>
  intro w mg fa h KX G hmg
  have T:∃ t,My.Txt (L2.KOf KX) t:=by
   dsimp only [L2.KOf]                          -- K must stand as «<heap const> w.params» for k_is
   refine' My.txt_mk ?e1 ?e2 ?e3 ..
   (case e1=>PySem.W.k_is)                    -- in the order: a name -> its address -> its object -> its parts
   (case e2=>PySem.W.k_is)
   ..
  obtain ⟨t,T⟩:=T
  have e0:=hmg.symm.trans (mg_of KX G T.law)
  cases e0                                       -- fa is the law's own address
  exact ⟨_,fun s u => .of_eq rfl,fun base kb nb=>My.law_fn T kb nb⟩     -- if «.of_eq rfl» comes too early: refine' ⟨_,?b,fun base kb nb=>My.law_fn T kb nb⟩;exact fun s u => .of_eq rfl
 case S=>exact fun w H a ns hl hO hS => ..
 case C=>exact ..
(the tactic k_is has no namespace: write k_is) -/
namespace L2
open PySem PySem.Spec PyProof.Rows
def acg (s:Stmt):Arguments:=match s with
 | .FunctionDef _ a _ _ _ _ _ _ _ _=>a
 | _=>{ posonlyargs:=[],args:=[],vararg:=none,kwonlyargs:=[],kw_defaults:=[],kwarg:=none,defaults:=[] }
def ab0 (s:Stmt):List Stmt:=match s with
 | .FunctionDef _ _ b _ _ _ _ _ _ _=>b
 | _=>[]
def aal (s:Stmt):Scope:=match s with
 | .FunctionDef _ _ _ _ _ _ sc _ _ _=>sc
 | _=>{ kind:=.function,names:=[],isGenerator:=false,isCoroutine:=false }
abbrev CX0:CXT:=fun _ _ _ _ _ _=>False
abbrev E0:XK:=fun _ _ _=>False
theorem a2l {X:Cx}:al1 CX0 X E0:=fun _ _ _ _ _ _ _ h=>h.elim
structure Fun (K:Frag) (x qual:Str) (st:Stmt) (f:Addr) (fd:FuncData):Prop where
 ex:∃ (oc:Value) (od:Option Addr) (kV doc pm:Value) (an:Option Addr) (cdv ct:Value) (osl:Array (Option Value)),
  fd=fnOf x qual (acg st) (ab0 st) (aal st) .none kV doc pm an cdv ct/\K.lookup f=some ⟨oc,od,.func fd,osl⟩/\codeIn K cdv qual=true
 kp:keepIn K (.ref f)=true
section
variable {P:Program} {w:World} {K:Frag} {mg:Str->Option Value} {base:Heap}
theorem Fun.ok {x qual:Str} {st:Stmt} {f:Addr} {fd:FuncData} {N ps:List Str} {k:Nat} {sp:Sp} (F:Fun K x qual st f fd) (S:FnScope N ps (aal st)) (len:∀ vs H Q E,sp vs H Q E->vs.length=ps.length)
  (a:∀ (cdv:Value) (A:Around) (outer:List Env) (s:Shared) (H:Hp) (vs:List V) (Q:VK) (E:XK),Room k (A.deeper (envOfC qual (aal st) s.heap.objs.size f cdv))->sp vs H Q E ->
   ∃ t,PSs (cxOf CX0 P w K mg base N qual (aal st) f cdv A outer s H E).nox (ab0 st) t/\t { nx:=fun _ H'=>Q .non H',rt:=Q } (start N vs) H):FnOk P w K mg base CX0 (k+1) f fd ps sp:=by
 obtain ⟨oc,od,kV,doc,pm,an,cdv,ct,osl,rfl,d,b⟩:=F.ex
 refine a2k d b S len fun A outer s H vs Q E g c=>?_
 obtain ⟨t,h,q⟩:=a cdv A outer s H vs Q E g c
 exact ⟨t,h.nox,q⟩
theorem Fun.binds {x qual:Str} {st:Stmt} {f:Addr} {fd:FuncData} {ps:List Str} (F:Fun K x qual st f fd)
  (h:∀ (kV doc pm:Value) (an:Option Addr) (cdv ct:Value) (us:List Value),us.length=ps.length->bindArgs (fnOf x qual (acg st) (ab0 st) (aal st) .none kV doc pm an cdv ct) ⟨us,[]⟩=pure (ps.zip us)):Binds K fd ps []:=by
 obtain ⟨oc,od,kV,doc,pm,an,cdv,ct,osl,rfl,b,a⟩:=F.ex
 exact .all (h kV doc pm an cdv ct)
theorem az9 {x qual:Str} {st:Stmt} {f:Addr} {oc:Value} {od an:Option Addr} {osl:Array (Option Value)} {kV doc pm cdv ct:Value} (l:K.lookup f=some ⟨oc,od,.func (fnOf x qual (acg st) (ab0 st) (aal st) .none kV doc pm an cdv ct),osl⟩)
  (c:codeIn K cdv qual=true) (k:keepIn K (.ref f)=true):Fun K x qual st f (fnOf x qual (acg st) (ab0 st) (aal st) .none kV doc pm an cdv ct):=⟨⟨oc,od,kV,doc,pm,an,cdv,ct,osl,rfl,l,c⟩,k⟩
end
theorem adg {A:Around} {k:Nat} (a:Room k A):A.units+1 < cLine:=aE4 (Nat.add_le_add_left (by decide:1<=64) _) a.units
theorem ad6 {n:Nat} (h:n<=1000):n < sizeLine:=aE4 h (by decide)
section
variable {X:Cx}
theorem pv (i:Nat) {x:Str} {pos:Pos} (c:X.N[i]?=some x:=by rfl) (b:Vis X.env.scope x:=by first | exact Or.inl rfl | exact Or.inr (Or.inl rfl) | exact Or.inr (Or.inr rfl)) (hd:(x == ("__debug__" : Str))=false:=by decide)
  (a:(x == ("__classdict__" : Str))=false:=by decide):PE X (.Name x pos) (tVar i):=azz c b hd a
end
theorem iteF {A B:Prop} (h:B):if false=true then A else B:=by
 rw [aF8 aB0]
 exact h
theorem iteT {A B:Prop} (h:A):if true=true then A else B:=by
 rw [aF7 rfl]
 exact h
def Same (H H':Hp):Prop:=∀ b o,H b=some o->H' b=some o
theorem Same.refl (H:Hp):Same H H:=fun _ _ h=>h
theorem Same.trans {H d H2:Hp} (a:Same H d) (b:Same d H2):Same H H2:=fun c o h=>b c o (a c o h)
theorem Same.seq {K:Frag} {H H':Hp} {a:Addr} {xs:List V} (e:Same H H') (h:SqL K H a xs):SqL K H' a xs:=by
 rcases h with (h | ⟨o,h⟩) | h
 ·exact .inl (.inl (e _ _ h))
 ·exact .inl (.inr ⟨o,e _ _ h⟩)
 ·exact .inr h
section
variable {X:Cx}
end
section
variable {κ:Type} [DecidableEq κ]
end
def clos (env:Env):List (Str × NameKind)->List (Str × Addr)->List (Str × Addr)
 | [],cs=>cs
 | (n,k) :: r,cs=>if k == NameKind.free then (match env.cells.lookup n with | some a=>clos env r ((n,a) :: cs) | none=>clos env r cs) else clos env r cs
theorem aia {env:Env} {sc:Scope} (h:∀ n,(n,NameKind.free)∈sc.names->∃ a,env.cells.lookup n=some a):closureFor sc env=pure (clos env sc.names []):=by
 have all:∀ (l:List (Str × NameKind)) (cs:List (Str × Addr)),(∀ n,(n,NameKind.free)∈l->∃ a,env.cells.lookup n=some a) ->
   (forIn l cs fun (x:Str × NameKind) (cs:List (Str × Addr))=>match x with | (name,kind)=>if kind == NameKind.free then (do let a ← cellOf env name;pure (ForInStep.yield ((name,a) :: cs))) else pure (ForInStep.yield cs))=(pure (clos env l cs):Sem _):=by
  intro l
  induction l with
  | nil=>intro cs _;rfl
  | cons p r ih =>
   intro cs c
   obtain ⟨n,k⟩:=p
   rw [List.forIn_cons]
   unfold clos
   dsimp only
   cases hk:(k == NameKind.free) with
   | false =>
    simp only [Bool.false_eq_true,if_false,pure_bind]
    exact ih cs fun m hm=>c m (aB5 _ hm)
   | true =>
    have f:k=NameKind.free:=by simpa using hk
    subst f
    obtain ⟨a,ha⟩:=c n aB8
    have d:cellOf env n=pure a:=by unfold cellOf;rw [ha]
    simp only [if_true,d,pure_bind,ha]
    exact ih _ fun m hm=>c m (aB5 _ hm)
 have e:=all sc.names [] h
 unfold closureFor
 refine Eq.trans (b:=(pure (clos env sc.names []):Sem _) >>= fun cs=>pure cs) ?_ (pure_bind _ _)
 exact congrArg (fun z:Sem (List (Str × Addr))=>z >>= fun cs=>pure cs) e
theorem ae1 {env:Env} {x:Str} {c:Addr}:∀ {l:List (Str × NameKind)} {cs:List (Str × Addr)},(clos env l cs).lookup x=some c->env.cells.lookup x=some c\/cs.lookup x=some c
 | [],cs,h => .inr h
 | (n,k) :: r,cs,h=>by
  unfold clos at h
  by_cases hk:(k == NameKind.free)=true
  ·rw [aF7 hk] at h
   cases ha:env.cells.lookup n with
   | none=>rw [ha] at h;exact ae1 h
   | some a =>
    rw [ha] at h
    rcases ae1 h with e | e
    ·exact .inl e
    ·rw [aH1] at e
     cases hx:(x == n) with
     | true =>
      rw [hx] at e
      have:x=n:=by simpa using hx
      subst this
      cases e
      exact .inl ha
     | false=>rw [hx] at e;exact .inr e
  ·rw [aF8 hk] at h
   exact ae1 h
theorem ae2 {env:Env} {x:Str}:∀ {l:List (Str × NameKind)} {cs:List (Str × Addr)},(∃ c,cs.lookup x=some c)->∃ c,(clos env l cs).lookup x=some c
 | [],cs,h=>h
 | (n,k) :: r,cs,h=>by
  unfold clos
  by_cases hk:(k == NameKind.free)=true
  ·rw [aF7 hk]
   cases ha:env.cells.lookup n with
   | none=>exact ae2 h
   | some a =>
    refine ae2 ?_
    rw [aH1]
    cases hx:(x == n) with
    | true=>exact ⟨_,rfl⟩
    | false=>exact h
  ·rw [aF8 hk]
   exact ae2 h
theorem aer {env:Env} {x:Str} (h:∃ a,env.cells.lookup x=some a):∀ {l:List (Str × NameKind)} {cs:List (Str × Addr)},(x,NameKind.free)∈l->∃ c,(clos env l cs).lookup x=some c
 | [],_,hm=>absurd hm (by simp)
 | (n,k) :: r,cs,hm=>by
  rcases aA9.mp hm with e | hm
  ·cases e
   obtain ⟨a,ha⟩:=h
   unfold clos
   rw [aF7 (by rfl),ha]
   refine ae2 ⟨a,?_⟩
   rw [aH1]
   simp
  ·unfold clos
   by_cases hk:(k == NameKind.free)=true
   ·rw [aF7 hk]
    cases ha:env.cells.lookup n with
    | none=>exact aer h hm
    | some a=>exact aer h hm
   ·rw [aF8 hk]
    exact aer h hm
theorem agd {env:Env} {x:Str}:∀ {names:List (Str × NameKind)},(∀ y∈names,y.2 ≠ .cell) ->
  ((names.map fun (n,k)=>if (k == NameKind.free && env.scope.kind == .function && env.kindOf n == some .cell) then (n,NameKind.cell) else (n,k)).lookup x=some .cell ∨
   (names.map fun (n,k)=>if (k == NameKind.free && env.scope.kind == .function && env.kindOf n == some .cell) then (n,NameKind.cell) else (n,k)).lookup x=some .free)->names.lookup x=some .free
 | [],_,h=>by rcases h with h | h <;> simp at h
 | (n,k) :: r,hc,h=>by
  have a:=@agd env x r fun y b=>hc y (aB5 _ b)
  rw [aH1]
  simp only [aD1] at h
  by_cases hq:(k == NameKind.free && env.scope.kind == .function && env.kindOf n == some .cell)=true
  ·rw [aF7 hq] at h
   have c:k=NameKind.free:=by
    have:=hq;simp only [aH3] at this;simpa using this.1.1
   subst c
   cases hx:(x == n) with
   | true=>rfl
   | false=>simp only [aH1,hx] at h;exact a h
  ·rw [aF8 hq] at h
   cases hx:(x == n) with
   | true =>
    simp only [aH1,hx] at h
    rcases h with h | h
    ·cases h;exact absurd rfl (hc (n,NameKind.cell) aB8)
    ·exact h
   | false=>simp only [aH1,hx] at h;exact a h
theorem ae3 {env:Env} {x:Str}:∀ {names:List (Str × NameKind)},names.lookup x=some .free ->
  ((names.map fun (n,k)=>if (k == NameKind.free && env.scope.kind == .function && env.kindOf n == some .cell) then (n,NameKind.cell) else (n,k)).lookup x=some .cell ∨
   (names.map fun (n,k)=>if (k == NameKind.free && env.scope.kind == .function && env.kindOf n == some .cell) then (n,NameKind.cell) else (n,k)).lookup x=some .free)
 | [],h=>by simp at h
 | (n,k) :: r,h=>by
  have a:=@ae3 env x r
  rw [aH1] at h
  simp only [aD1]
  by_cases hq:(k == NameKind.free && env.scope.kind == .function && env.kindOf n == some .cell)=true
  ·rw [aF7 hq]
   cases hx:(x == n) with
   | true=>left;simp [aH1,hx]
   | false=>rw [hx] at h;simp only [aH1,hx];exact a h
  ·rw [aF8 hq]
   cases hx:(x == n) with
   | true=>rw [hx] at h;right;simp only [aH1,hx];exact h
   | false=>rw [hx] at h;simp only [aH1,hx];exact a h
def Cx.comp (X:Cx) (N:List Str) (sc:Scope) (C:Addr) (s0:Shared) (H0:Hp) (ex:List Addr):Cx where
 prog:=X.prog
 w:=X.w
 K:=X.K
 mg:=X.mg
 base:=X.base
 A:=X.A
 N:=N
 s₀:=s0
 H₀:=H0
 env:=compEnvC sc (clos X.env sc.names []) C X.env
 outer:=X.stack
 stack:=X.stack
 ex:=ex
 fn:=fun _=>false
 calm:=X.calm
 pn:=[]
 xe:=fun _ _=>False
def pick (src:List (Option Nat)) (σ:St):St:=src.map fun o=>match o with | some j=>(σ[j]?).getD none | none=>none
structure LcOk (X:Cx) (N:List Str) (sc:Scope) (src:List (Option Nat)):Prop where
 kind:sc.kind=.function
 nocell:∀ y∈sc.names,y.2 ≠ .cell
 own:∀ y∈sc.names,y.2=.local->sc.names.lookup y.1=some .local
 outs:∀ y∈sc.names,y.2=.free->X.env.kindOf y.1=some .cell\/X.env.kindOf y.1=some .free
 len:src.length=N.length
 from':∀ (i j:Nat),src[i]?=some (some j)->∃ x,N[i]?=some x/\X.N[j]?=some x/\sc.names.lookup x=some .free
theorem LcOk.clo {X:Cx} {N:List Str} {sc:Scope} {src:List (Option Nat)} (L:LcOk X N sc src) (ok:X.Ok):closureFor sc X.env=pure (clos X.env sc.names []) :=
 aia fun n hn=>ok.has n (L.outs (n,.free) hn rfl)
theorem ama {X:Cx} {pins:List (Addr × Obj)} {σ:St} {H:Hp} {s:Shared} {N:List Str} {sc:Scope} {src:List (Option Nat)} {fp:List Addr} {h:Heap} {t':Nat}
  (L:LcOk X N sc src) (I:Inv X pins σ H s) (hf:∀ b∈fp,FpOk X pins H b) (f:∀ b∈fp,b < s.heap.objs.size)
  (hn:h.Ns s.heap.objs.size fun _=>none) (g:∀ b o,s.heap.get? b=some o->h.get? b=some o) :
  Inv (X.comp N sc s.heap.objs.size s H fp) [] (pick src σ) H { s with heap:=h,toks:=t' }:=by
 have look:∀ {x c},(clos X.env sc.names []).lookup x=some c->X.env.cells.lookup x=some c:=fun {x c} e=>by
  rcases ae1 e with z | z
  ·exact z
  ·simp at z
 refine ⟨⟨I.ok.mod,L.kind,I.ok.glob,I.ok.blt,aA6 _,fun x y c n a=>?_,fun x J=>?_,fun x c z _=>?_,I.ok.hd,I.ok.frames,.inl rfl,fun b hb=>⟨?_,fun x c e=>?_⟩,I.bs,aD0 I.ok.bsz I.sz,fun b o e hb=>?_,fun b hb z=>?_,I.stack,I.stkFree⟩,
  rfl,I.bare,Un.kept g,⟨_,hn,fun i x v n a Q=>?_⟩,fun x c e=>?_,I.hok.fresh (aA6 _),fun x c e=>I.freeC x c (look e),fun p O=>?_,I.hok.kept g,?_⟩
 ·exact I.ok.inj x y c (look n) (look a)
 ·have q:=agd (env:=X.env) (x:=x) L.nocell J
  exact aer (I.ok.has x (L.outs (x,.free) (PySem.mem_of_lookup q) rfl)) (PySem.mem_of_lookup q)
 ·exact Bool.noConfusion z
 ·exact aB6 (f b hb)
 ·exact (hf b hb).2.2.2.2.1 x c (look e)
 ·rcases (hf b hb).2.2.2.1 with z | z
  ·exact I.ok.noex b o e z
  ·exact absurd (aC5 (aJ6 e) (aD0 I.ok.bsz z)) (aG6 _)
 ·rcases aA9.mp (I.stkSub b z) with q | q
  ·exact (hf b hb).2.1 q
  ·exact (hf b hb).2.2.1 q
 ·unfold pick at a
  rw [aA5] at a
  cases q:src[i]? with
  | none=>rw [q] at a;cases a
  | some o =>
   rw [q] at a
   cases o with
   | none=>cases a
   | some j =>
    obtain ⟨y,F,M,B⟩:=L.from' i j q
    have A:N[i]?=some x:=n
    rw [A] at F
    cases F
    have G : σ[j]?=some (some v):=by
     cases q2 : σ[j]? with
     | none=>simp [q2] at a
     | some z=>simp [q2] at a;rw [a]
    have f:=L.outs (x,.free) (PySem.mem_of_lookup B) rfl
    have w:Vis X.env.scope x:=by
     rcases f with z | z
     ·exact .inr (.inl z)
     ·exact .inr (.inr z)
    obtain ⟨m,_,K⟩:=I.loc
    obtain ⟨u,r,l⟩:=K j x v M G w
    refine ⟨u,r,.inr ⟨?_,?_⟩⟩
    ·exact ae3 (env:=X.env) B
    ·rcases l with ⟨z,_⟩ | ⟨_,c,C,oc,d,hd⟩
     ·rcases f with E | E <;> (rw [E] at z;cases z)
     ·obtain ⟨P,D⟩:=aer (env:=X.env) ⟨c,C⟩ (PySem.mem_of_lookup B) (cs:=[])
      have:=look D
      rw [C] at this;cases this
      exact ⟨c,D,oc,g c oc d,hd⟩
 ·obtain ⟨v,oc,d,hd⟩:=I.cell x c (look e)
  exact ⟨v,oc,g c oc d,hd⟩
 ·exact absurd (show p∈([]:List (Addr × Obj)) from O) (by simp)
 ·show (pick src σ).length=N.length
  unfold pick
  rw [aA3]
  exact L.len
def PIf (X:Cx) (ifs:List Expr) (t:TT):Prop :=
 ∀ (pins:List (Addr × Obj)) (s:Shared) (σ:St) (H:Hp) (Q:Bool->Hp->Prop),Inv X pins σ H s->t σ H Q ->
  wpAny (model X.prog X.w) X.A (forIn ifs true fun c r=>if r=true then do let ok ← isTrue c X.env (eval c X.env);pure (ForInStep.yield ok) else pure (ForInStep.yield r)) (TP X pins σ Q) X.xe s
def tYes:TT:=fun _ H Q=>Q true H
theorem abb {X:Cx}:PIf X [] tYes:=fun _ _ _ H _ I h=>wpAny_tests_nil ⟨H,I,h⟩
theorem axj {X:Cx} {c:Expr} {t:TT} (h:PT X c t):PIf X [c] t:=fun pins s σ H Q I q=>wpAny_tests_one (h pins s σ H Q I q)
abbrev LW:=Nat->Nat->List V->St->Hp->Prop
def age (J:It) (g:TG) (tif:TT) (te:TE) (acc:Addr) (Qd:List V->Hp->Prop) (W:LW):Prop:=∀ (i m:Nat) (ys:List V) (σ:St) (H:Hp),W i m ys σ H->H acc=some (.lst ys)/\((J.stop i H/\Qd ys H)\/(J.go i H /\
 ∃ Nx:List V->St->Hp->Prop,(∀ ys' σ' H',Nx ys' σ' H'->∃ m',m' < m/\W (i+1) m' ys' σ' H')/\∀ x H2,J.yld i H x H2 ->
 g x σ H2 fun σ3 H3=>tif σ3 H3 fun b H4=>if b=true then te σ3 H4 fun y H5=>H5 acc=some (.lst ys)/\ys.length < sizeLine/\Nx (ys ++ [y]) σ3 (upd H5 acc (.lst (ys ++ [y]))) else Nx ys σ3 H4))
theorem asp {X:Cx} {tg iter C:Expr} {B:List Expr} {sc:Scope} {pos:Pos} {J:It} {fp:List Addr} {it:Addr} {tn:Nat->Heap->Prop} {g:TG} {L:TT} {te:TE} {a:Addr} {Qd:List V->Hp->Prop} {W:LW} {R:Result->Shared->Prop}
  (T:Turn X.prog X.w X.K tg J fp it tn) (hc:X.calm=true) (l:∀ e s,¬ X.xe e s) (hg:PG X tg g) (a0:PIf X B L) (he:PE X C te)
  (O:age J g L te a Qd W) (hR:∀ ys σ H s,Inv X [] σ H s->Qd ys H->R (.ok .next) s)
  {i m:Nat} {ys:List V} {σ:St} {H:Hp} {s:Shared} (I:Inv X [] σ H s) (st:tn i s.heap) (hf:∀ b∈fp,FpOk X [] H b) (w:W i m ys σ H) :
  codeAny (model X.prog X.w) X.A (.compLoop (.ListComp C [⟨tg,iter,B,0⟩] sc pos) 0 (.ref it) (.ref a) X.env) R s:=by
 have c:∀ {H':Hp},(∀ b∈fp,H' b=none)->∀ b∈fp,FpOk X [] H' b:=fun hn b hb=>⟨hn b hb,(hf b hb).2⟩
 refine codeAny_loop rfl (fun n s'=>∃ i ys f H',Inv X [] f H' s'/\tn i s'.heap/\(∀ b∈fp,H' b=none)/\W i n ys f H') ?_ m ⟨i,ys,σ,H,I,st,fun b hb=>(hf b hb).1,w⟩
 rintro n s1 ⟨i,ys,h,S,I1,G,N,w1⟩
 show wpAny _ X.A ((compTurn (.ListComp C [⟨tg,iter,B,0⟩] sc pos) 0 (.ref it) (.ref a) X.env).onRaise (fun x=>do noteFrame x X.env;theTreesLotGoes x)) _ _ s1
 refine wpAny_noted ?_
 rw [compTurn_list]
 refine aJ3 (wpAny_standAt (aJ3 ?_))
 obtain ⟨a2,⟨stop,qd⟩ | ⟨go,Nx,M,step⟩⟩:=O i n ys h S w1
 ·refine thn (T.done X rfl rfl rfl hc i [] s1 h S _ I1 (c N) G stop) fun r s2 ⟨U,I2⟩=>?_
  subst U
  exact aJ4 (hR ys h S s2 I2 qd)
 ·refine thn (T.item X rfl rfl rfl hc i [] s1 h S _ I1 (c N) G go) fun r s2 ⟨u,U,h2⟩=>?_
  subst U
  refine aJ3 (thn h2 fun _ s3 ⟨x,H3,I3,r3,y3,v,Y⟩=>?_)
  have a1:=I3.pinned (c Y) (T.obj _ _ v)
  refine aJ3 (aK2 (hg _ s3 h H3 x u _ a1 r3 (step x H3 y3)) (fun _ s4 ⟨q,H4,I4,q4⟩=>?_) fun e s' z=>(l e s' z).elim)
  have p:∀ {j:St} {D:Hp} {F:Shared} {Z:List V},Inv X ([] ++ aen fp s3.heap) j D F->(∃ P,P < n/\W (i+1) P Z j D)->∃ m,m < n/\∃ i ys f H',Inv X [] f H' F/\tn i F.heap/\(∀ b∈fp,H' b=none)/\W i m ys f H':=fun {j D F Z} E w7=>by
   obtain ⟨P,hm,w7⟩:=w7
   refine ⟨P,hm,i+1,Z,j,D,E.unpinned,T.keep _ _ _ v fun b hb o e=>(E.pin (b,o) (aB3 _ (aB3 _ (ab4 hb e)))).1,fun b hb=>?_,w7⟩
   obtain ⟨o,e,d⟩:=T.obj _ _ v b hb
   exact (E.pin (b,o) (aB3 _ (aB3 _ (ab4 hb e)))).2.1
  refine aJ3 (aK2 (a0 _ s4 q H4 _ I4 q4) (fun b s5 ⟨H5,I5,Q⟩=>?_) fun e s' z=>(l e s' z).elim)
  cases b with
  | false =>
   rw [aF8 aB0] at Q
   exact aJ4 ⟨rfl,p I5 (M _ _ _ Q)⟩
  | true =>
   rw [aF7 rfl] at Q
   refine aJ3 (aJ3 (aK2 (he _ s5 q H5 _ I5 Q) (fun yv s6 ⟨y,H6,I6,r6,a6,l6,w6⟩=>?_) fun e s' z=>(l e s' z).elim))
   have ap:=abr (X:=X) _ s6 q H6 (.ref a) [y] (.ref a) [yv] (fun _ H'=>H'=upd H6 a (.lst (ys ++ [y]))) I6 rfl (.cons r6 .nil) ⟨a,ys,y,rfl,rfl,a6,l6,rfl⟩
   refine aJ3 (aK2 ap (fun _ F ⟨v7,D,E,_,e7⟩=>?_) fun e s' z=>(l e s' z).elim)
   subst e7
   exact aJ4 (aJ4 ⟨rfl,p E (M _ _ _ w6)⟩)
def tLC (src:List (Option Nat)) (wi:TI) (g:TG) (tif:TT) (te:TE):TE:=fun σ H Q=>wi σ H fun J H1=>∀ acc,H1 acc=none->∃ W:LW,(∃ m,W 0 m [] (pick src σ) (upd H1 acc (.lst [])))/\age J g tif te acc (fun _ H'=>Q (.ref acc) H') W
section
variable {X:Cx} {N:List Str} {tg iter elt:Expr} {ifs:List Expr} {sc:Scope} {src:List (Option Nat)} {wi:TI} {g:TG} {tif:TT} {te:TE} {pos:Pos}
theorem axk (hc:X.calm=true) (L:LcOk X N sc src) (hg:∀ C B D ex,PG (X.comp N sc C B D ex) tg g) (M:∀ C B D ex,PIf (X.comp N sc C B D ex) ifs tif) (Y:∀ C B D ex,PE (X.comp N sc C B D ex) elt te)
  {pins:List (Addr × Obj)} {d:Shared} {σ:St} {H3:Hp} {Q:VK} (j:Inv X pins σ H3 d) {it a:Addr} {fp:List Addr} {J:It} {tn:Nat->Heap->Prop} (T:Turn X.prog X.w X.K tg J fp it tn) (E:tn 0 d.heap) (h:∀ b∈fp,FpOk X pins H3 b)
  {W:LW} {m0:Nat} (U:W 0 m0 [] (pick src σ) H3) (F:age J g tif te a (fun _ H'=>Q (.ref a) H') W) (use:Option (Value->Sem Unit)) (P:Value->Shared->Prop)
  (S:∀ C H' s' m,Inv X pins σ H' s'->Q (.ref a) H'->s'.heap.Ns C m->H' C=none->C ≠ X.env.locals->(C∈X.ex\/X.s₀.heap.objs.size<=C)->(∀ x c,X.env.cells.lookup x=some c->c ≠ C)->(∀ p∈X.pn ++ pins,p.1 ≠ C) ->
   compPost (model X.prog X.w) X.A X.xe use P (.ref a) C (.ok .next) s') :
  wpAny (model X.prog X.w) X.A (newFunctionEnv sc X.env.globals (clos X.env sc.names []) [] X.env.qual none .none (some X.env)) (fun f u =>
    codeAny (model X.prog X.w) X.A (.compStart (.ListComp elt [⟨tg,iter,ifs,0⟩] sc pos) 0 (.ref it) (.ref a) { f with scope:=relabel sc X.env }) (compPost (model X.prog X.w) X.A X.xe use P (.ref a) f.locals) u) X.xe d:=by
 refine wpAny_newFunctionEnv L.nocell (by intro y hy;simp at hy) (fun I n r=>?_) L.kind
 have O:∀ b∈fp,b < d.heap.objs.size:=fun b hb=>by
  obtain ⟨o,H,_⟩:=T.obj _ _ E b hb
  exact aJ6 H
 have s:∀ b o,d.heap.get? b=some o->I.get? b=some o:=fun b o e=>r.extBut b o (aB6 (aJ6 e)) (aJ5 _ e)
 have G:=ama (t':=d.toks+([]:List (Str × Value)).length) L j h O (by simpa using n) s
 have l:tn 0 I:=T.keep _ _ _ E fun b _ o e=>s b o e
 have f4:∀ b∈fp,FpOk (X.comp N sc d.heap.objs.size d H3 fp) [] H3 b:=fun b hb =>
  ⟨(h b hb).1,(G.ok.exf b hb).1,G.ok.exfs b hb,.inl hb,(G.ok.exf b hb).2,fun p R=>absurd (show p∈([]:List (Addr × Obj)) from R) (by simp)⟩
 have fin:∀ (ys:List V) q H' s',Inv (X.comp N sc d.heap.objs.size d H3 fp) [] q H' s'->Q (.ref a) H'->compPost (model X.prog X.w) X.A X.xe use P (.ref a) d.heap.objs.size (.ok .next) s':=fun ys q H' s' i q'=>by
  have Z:Inv X pins σ H' s':=j.call' (ch:=fp) i.os i.base i.hok i.bare fun b hb=>⟨(h b hb).2.2.2.1,(h b hb).2.1,(h b hb).2.2.2.2.1,(h b hb).2.2.2.2.2⟩
  obtain ⟨m,hn,_⟩:=i.loc
  refine S _ H' s' m Z q' hn i.free (Nat.ne_of_gt j.lt) (.inr j.sz) (fun x c e z=>?_) fun p R z=>?_
  ·obtain ⟨v,o,H,_⟩:=j.cell x c e
   exact absurd (aJ6 H) (by rw [z];exact aG6 _)
  ·exact absurd (aJ6 (j.pin p R).1) (by rw [z];exact aG6 _)
 have loop:codeAny (model X.prog X.w) X.A (.compLoop (.ListComp elt [⟨tg,iter,ifs,0⟩] sc pos) 0 (.ref it) (.ref a) (X.comp N sc d.heap.objs.size d H3 fp).env)
   (compPost (model X.prog X.w) X.A X.xe use P (.ref a) d.heap.objs.size) { d with heap:=I,toks:=d.toks+([]:List (Str × Value)).length } :=
  asp (X:=X.comp N sc d.heap.objs.size d H3 fp) T hc (fun _ _ z=>z) (hg _ _ _ _) (M _ _ _ _) (Y _ _ _ _) F fin G l f4 U
 exact codeAny_compStart_list loop (T.self _ 0 _ _ _ l loop)
theorem amb (B:X.calm=true) (L:LcOk X N sc src) (hi:PI X tg iter wi) (R:∀ C i j ex,PG (X.comp N sc C i j ex) tg g) (n:∀ C i j ex,PIf (X.comp N sc C i j ex) ifs tif) (O:∀ C i j ex,PE (X.comp N sc C i j ex) elt te)
  {pins:List (Addr × Obj)} {s:Shared} {σ:St} {H:Hp} {Q:VK} (I:Inv X pins σ H s) (h:tLC src wi g tif te σ H Q) (use:Option (Value->Sem Unit)) (P:Value->Shared->Prop)
  (z:∀ a C H' s' m,Inv X pins σ H' s'->Q (.ref a) H'->s'.heap.Ns C m->H' C=none->C ≠ X.env.locals->(C∈X.ex\/X.s₀.heap.objs.size<=C)->(∀ x c,X.env.cells.lookup x=some c->c ≠ C)->(∀ p∈X.pn ++ pins,p.1 ≠ C) ->
   compPost (model X.prog X.w) X.A X.xe use P (.ref a) C (.ok .next) s')
  (hs:∀ x,foldedSetIterable iter X.env x=pure x) :
  wpAny (model X.prog X.w) X.A (comprehension (.ListComp elt [⟨tg,iter,ifs,0⟩] sc pos) sc X.env (firstIterPos [⟨tg,iter,ifs,0⟩] pos) (newList []) false (eval iter X.env) use) P X.xe s:=by
 refine wpAny_comprehension_free rfl hs (L.clo I.ok) L.kind L.own (thn (hi pins s σ H _ I h) fun v s1 E=>thn E fun G s2 F=>?_)
 obtain ⟨it,fp,tn,J,H2,e,r,T,f,y,M⟩:=F
 subst e
 have d:H2 s2.heap.objs.size=none:=r.hok.fresh (aA6 _)
 obtain ⟨W,⟨S,K⟩,l⟩:=M s2.heap.objs.size d
 have q:∀ b∈fp,b < s2.heap.objs.size:=fun b hb=>by
  obtain ⟨o,D,_⟩:=T.obj _ _ f b hb
  exact aJ6 D
 refine aK3 ?_
 refine axk B L R n O (H3:=upd H2 s2.heap.objs.size (.lst [])) ?_ T ?_ ?_ K l use P (z _)
 ·exact r.laid (t':=s2.toks) (fun b u e=>aJ5 _ e) (aA6 _) ⟨aG2 _,[],0,.nil,aJ7 _ rfl⟩
 ·exact T.keep _ _ _ f fun b _ o e=>aJ5 _ e
 ·exact fun b hb=>⟨by rw [aad (aB6 (q b hb))];exact (y b hb).1,(y b hb).2⟩
theorem acz (j:X.calm=true) (L:LcOk X N sc src) (hi:PI X tg iter wi) (v:∀ C a c ex,PG (X.comp N sc C a c ex) tg g) (f:∀ C a c ex,PIf (X.comp N sc C a c ex) ifs tif) (r:∀ C a c ex,PE (X.comp N sc C a c ex) elt te)
  (hs:∀ x,foldedSetIterable iter X.env x=pure x:=by intro _;rfl):PE X (.ListComp elt [⟨tg,iter,ifs,0⟩] sc pos) (tLC src wi g tif te):=by
 intro pins s σ H Q I h
 rw [eval_ListComp]
 refine amb j L hi v f r I h none _ (fun d C H' s' m J q hn p l n i u=>?_) hs
 refine ⟨m,hn,fun h' sb=>⟨.ref d,H',?_,rfl,q⟩⟩
 exact J.turned (t':=s'.toks) (fun b o hb e=>sb.extBut b o hb e) p l n i u
end
section
variable {X:Cx} {N:List Str} {tg iter elt:Expr} {ifs:List Expr} {sc:Scope} {src:List (Option Nat)} {wi:TI} {g:TG} {tif:TT} {te:TE} {pos spos px:Pos}
theorem amc {i:Nat} {x:Str} (Q:X.N.Nodup) (n:X.N[i]?=some x) (F:Loc X.env.scope x) (B:X.calm=true) (L:LcOk X N sc src) (hi:PI X tg iter wi) (P:∀ C d f ex,PG (X.comp N sc C d f ex) tg g)
  (p:∀ C d f ex,PIf (X.comp N sc C d f ex) ifs tif) (K:∀ C d f ex,PE (X.comp N sc C d f ex) elt te)
  (r:swapsWith (.ListComp elt [⟨tg,iter,ifs,0⟩] sc pos) (some (.Name x px)) spos.line X.env=pure true:=by rfl)
  (hf:X.fn x=true\/X.env.scope.names.lookup x=some .local:=by first | exact .inl rfl | exact .inr rfl | assumption)
  (hs:∀ x,foldedSetIterable iter X.env x=pure x:=by intro _;rfl):PS X (.Assign [.Name x px] (.ListComp elt [⟨tg,iter,ifs,0⟩] sc pos) spos) (tAsg (tLC src wi g tif te) (aa4 i)):=by
 intro pins s σ H D I h
 rw [exec_Assign_Name_used _ _ _ _ r]
 refine aJ3 (wpAny_standAt (aJ3 ?_))
 show wpAny _ X.A (do let _ ← comprehension (.ListComp elt [⟨tg,iter,ifs,0⟩] sc pos) sc X.env _ (newList []) false (eval iter X.env) (some (assign (.Name x px) X.env))) _ _ s
 refine aJ3 (aK2 (amb B L hi P p K I h (some (assign (.Name x px) X.env)) (fun _ s'=>SP X pins D .next s') (fun c C H' s' m J q hn G y w j M=>?_) hs) (fun _ s' E=>aJ4 (aJ4 E)) fun _ _ e=>e)
 show wpAny _ X.A (assign (.Name x px) X.env (.ref c)) _ _ _
 refine wpAny_assign_Name (aj2 J Q n F (v:=.ref c) rfl (fun s2 O ⟨a,sb,ha⟩=>?_) hf)
 have u:C ≠ a:=by
  rcases ha with z | z
  ·rw [z];exact y
  ·exact (j x a z).symm
 refine ⟨m,hn.sameBut sb u,fun h' l=>⟨_,H',?_,q⟩⟩
 exact O.turned (t':=s2.toks) (fun b o hb e=>l.extBut b o hb e) G y w j M
end
section
variable {g:TG} {tif:TT} {te:TE} {acc:Addr} {Qd:List V->Hp->Prop} {σ0:St} {H0:Hp}
theorem auv {lo:Int} {n:Nat} (c:Nat->List V->St->Hp->Prop) (j:c 0 [] σ0 H0) (ha:∀ i ys σ H,c i ys σ H->H acc=some (.lst ys))
  (hs:∀ i ys σ H,i < n->c i ys σ H->g (.int (lo+i)) σ H fun a H3=>tif a H3 fun b d=>if b=true then te a d fun y f=>f acc=some (.lst ys)/\ys.length < sizeLine/\c (i+1) (ys ++ [y]) a (upd f acc (.lst (ys ++ [y]))) else c (i+1) ys a d)
  (hd:∀ ys σ H,c n ys σ H->Qd ys H):∃ W:LW,(∃ m,W 0 m [] σ0 H0)/\age (Itr lo n) g tif te acc Qd W:=by
 refine ⟨fun i m ys σ H=>m=n - i/\i<=n/\c i ys σ H,⟨n,by simp,aG2 _,j⟩,?_⟩
 rintro i m ys σ H ⟨rfl,hi,p⟩
 refine ⟨ha i ys σ H p,?_⟩
 by_cases hlt:i < n
 ·refine .inr ⟨hlt,c (i+1),fun l o H' h=>⟨n - (i+1),by lia,rfl,hlt,h⟩,fun x H' y=>?_⟩
  obtain ⟨e,y⟩:=y
  subst e y
  exact hs i ys σ _ hlt p
 ·have e:i=n:=by lia
  subst e
  exact .inl ⟨aA6 _,hd ys σ H p⟩
end
def aoy (J:It) (g:TG) (tif:TT) (te:TE) (acc:Addr) (Qd:List V->St->Hp->Prop) (W:LW):Prop:=∀ (i m:Nat) (ys:List V) (σ:St) (H:Hp),W i m ys σ H->H acc=some (.lst ys)/\((J.stop i H/\Qd ys σ H)\/(J.go i H /\
 ∃ Nx:List V->St->Hp->Prop,(∀ ys' σ' H',Nx ys' σ' H'->∃ m',m' < m/\W (i+1) m' ys' σ' H')/\∀ x H2,J.yld i H x H2 ->
 g x σ H2 fun σ3 H3=>tif σ3 H3 fun b H4=>if b=true then te σ3 H4 fun y H5=>H5 acc=some (.lst ys)/\ys.length < sizeLine/\Nx (ys ++ [y]) σ3 (upd H5 acc (.lst (ys ++ [y]))) else Nx ys σ3 H4))
def ajb (J:It) (g:TG) (tif:TT) (wi2:TI) (g2:TG) (tif2:TT) (te:TE) (acc:Addr) (Qd:List V->Hp->Prop) (W:LW):Prop:=∀ (i m:Nat) (ys:List V) (σ:St) (H:Hp),W i m ys σ H->((J.stop i H/\Qd ys H)\/(J.go i H /\
 ∃ Nx:List V->St->Hp->Prop,(∀ ys' σ' H',Nx ys' σ' H'->∃ m',m' < m/\W (i+1) m' ys' σ' H')/\∀ x H2,J.yld i H x H2 ->
 g x σ H2 fun σ3 H3=>tif σ3 H3 fun b H4=>if b=true then wi2 σ3 H4 fun J2 H5=>∃ W2:LW,(∃ m2,W2 0 m2 ys σ3 H5)/\aoy J2 g2 tif2 te acc Nx W2 else Nx ys σ3 H4))
theorem akx (a t1 i1 f d:Expr) (f1 g:List Expr) (sc:Scope) (pos:Pos) (it b:Value) (env:Env) :
  compTurn (.ListComp a [⟨t1,i1,f1,0⟩,⟨f,d,g,0⟩] sc pos) 0 it b env=(do
   standAt i1.pos
   match ← pyNext it with
   | none=>pure (.done .next)
   | some v =>
    letOwnedTupleGo t1 it v
    assign t1 env v
    let mut ok:=true
    for c in f1 do
     if ok then ok ← isTrue c env (eval c env)
    if ok then
     let x ← eval d env
     standAt d.pos
     let x ← foldedSetIterable d env x
     let _ ← runOwn (.compStart (.ListComp a [⟨t1,i1,f1,0⟩,⟨f,d,g,0⟩] sc pos) 1 (← holding [x] (pyIter x)) b env) env
    again (.compLoop (.ListComp a [⟨t1,i1,f1,0⟩,⟨f,d,g,0⟩] sc pos) 0 it b env)):=by rfl
theorem aky (a t1 i1 d g:Expr) (f1 f:List Expr) (sc:Scope) (pos:Pos) (it b:Value) (env:Env) :
  compTurn (.ListComp a [⟨t1,i1,f1,0⟩,⟨d,g,f,0⟩] sc pos) 1 it b env=(do
   standAt g.pos
   match ← pyNext it with
   | none=>pure (.done .next)
   | some v =>
    letOwnedTupleGo d it v
    assign d env v
    let mut ok:=true
    for c in f do
     if ok then ok ← isTrue c env (eval c env)
    if ok then
     (do let _ ← call (.builtin "list.append") [b,← eval a env])
    again (.compLoop (.ListComp a [⟨t1,i1,f1,0⟩,⟨d,g,f,0⟩] sc pos) 1 it b env)):=by rfl
theorem asq {prog:Program} {w:World} {A:Around} {R:Result->Shared->Prop} {s:Shared} {c t1 i1 g d:Expr} {f1 i:List Expr} {sc:Scope} {pos:Pos} {it b:Value} {env:Env}
  (j:codeAny (model prog w) A (.compLoop (.ListComp c [⟨t1,i1,f1,0⟩,⟨g,d,i,0⟩] sc pos) 1 it b env) R s)
  (h:wpAny (model prog w) A (pyIter it) (fun a s'=>codeAny (model prog w) A (.compLoop (.ListComp c [⟨t1,i1,f1,0⟩,⟨g,d,i,0⟩] sc pos) 1 a b env) R s') (notedBy (model prog w) A env fun x s'=>R (.error x) s') s) :
  codeAny (model prog w) A (.compStart (.ListComp c [⟨t1,i1,f1,0⟩,⟨g,d,i,0⟩] sc pos) 1 it b env) R s:=by
 refine codeAny_of_tree ?_
 show wpAny _ _ ((compStart (.ListComp c [⟨t1,i1,f1,0⟩,⟨g,d,i,0⟩] sc pos) 1 it b env).onRaise (fun x=>do noteFrame x env;standAt theWindowsPlace)) _ _ s
 refine wpAny_notedAt ?_
 unfold compStart
 show wpAny _ _ (ask >>= _) _ _ s
 apply aJ3;apply wpAny_askSetting;apply wpAny_ite;split
 ·first | exact aJ3 (aJ4 (aJ4 ⟨rfl,j⟩)) | exact aJ4 ⟨rfl,j⟩
 ·have q:wpAny (model prog w) A (pyIter it >>= fun a=>again (.compLoop (.ListComp c [⟨t1,i1,f1,0⟩,⟨g,d,i,0⟩] sc pos) 1 a b env)) (fun fin s'=>match fin with | .done f=>R (.ok f) s' | .again c'=>c'.quiet=true/\codeAny (model prog w) A c' R s') (notedBy (model prog w) A env fun x s'=>R (.error x) s') s :=
   aJ3 (aK2 h (fun a s' h'=>aJ4 ⟨rfl,h'⟩) fun _ _ x=>x)
  first
   | exact aJ3 (wpAny_rule (aJ3 (wpAny_standAt (aJ3 (aK2 h (fun a s' h'=>aJ4 ⟨rfl,h'⟩) fun _ _ x=>x)))))
   | (apply aJ3;apply wpAny_rule;show wpAny _ _ (standAt d.pos >>= _) _ _ s;exact aJ3 (wpAny_standAt (aJ3 (aK2 h (fun a s' h'=>aJ4 ⟨rfl,h'⟩) fun _ _ x=>x))))
theorem aqw {X:Cx} {C t1 i1 tg iter:Expr} {f1 B:List Expr} {sc:Scope} {pos:Pos} {J:It} {fp:List Addr} {it:Addr} {tn:Nat->Heap->Prop} {g:TG} {L:TT} {te:TE} {a:Addr} {Qd:List V->St->Hp->Prop} {W:LW} {R:Result->Shared->Prop} {pins:List (Addr × Obj)}
  (T:Turn X.prog X.w X.K tg J fp it tn) (hc:X.calm=true) (l:∀ e s,¬ X.xe e s) (hg:PG X tg g) (a0:PIf X B L) (he:PE X C te)
  (O:aoy J g L te a Qd W) (hR:∀ ys σ H s,Inv X pins σ H s->Qd ys σ H->R (.ok .next) s)
  {i m:Nat} {ys:List V} {σ:St} {H:Hp} {s:Shared} (I:Inv X pins σ H s) (st:tn i s.heap) (hf:∀ b∈fp,FpOk X pins H b) (w:W i m ys σ H) :
  codeAny (model X.prog X.w) X.A (.compLoop (.ListComp C [⟨t1,i1,f1,0⟩,⟨tg,iter,B,0⟩] sc pos) 1 (.ref it) (.ref a) X.env) R s:=by
 have c:∀ {H':Hp},(∀ b∈fp,H' b=none)->∀ b∈fp,FpOk X pins H' b:=fun hn b hb=>⟨hn b hb,(hf b hb).2⟩
 refine codeAny_loop rfl (fun n s'=>∃ i ys f H',Inv X pins f H' s'/\tn i s'.heap/\(∀ b∈fp,H' b=none)/\W i n ys f H') ?_ m ⟨i,ys,σ,H,I,st,fun b hb=>(hf b hb).1,w⟩
 rintro n s1 ⟨i,ys,h,S,I1,G,N,w1⟩
 show wpAny _ X.A ((compTurn (.ListComp C [⟨t1,i1,f1,0⟩,⟨tg,iter,B,0⟩] sc pos) 1 (.ref it) (.ref a) X.env).onRaise (fun x=>do noteFrame x X.env;theTreesLotGoes x)) _ _ s1
 refine wpAny_noted ?_
 rw [aky]
 refine aJ3 (wpAny_standAt (aJ3 ?_))
 obtain ⟨a2,⟨stop,qd⟩ | ⟨go,Nx,M,step⟩⟩:=O i n ys h S w1
 ·refine thn (T.done X rfl rfl rfl hc i pins s1 h S _ I1 (c N) G stop) fun r s2 ⟨U,I2⟩=>?_
  subst U
  exact aJ4 (hR ys h S s2 I2 qd)
 ·refine thn (T.item X rfl rfl rfl hc i pins s1 h S _ I1 (c N) G go) fun r s2 ⟨u,U,h2⟩=>?_
  subst U
  refine aJ3 (thn h2 fun _ s3 ⟨x,H3,I3,r3,y3,v,Y⟩=>?_)
  have a1:=I3.pinned (c Y) (T.obj _ _ v)
  refine aJ3 (aK2 (hg _ s3 h H3 x u _ a1 r3 (step x H3 y3)) (fun _ s4 ⟨q,H4,I4,q4⟩=>?_) fun e s' z=>(l e s' z).elim)
  have p:∀ {j:St} {D:Hp} {F:Shared} {Z:List V},Inv X (pins ++ aen fp s3.heap) j D F->(∃ P,P < n/\W (i+1) P Z j D)->∃ m,m < n/\∃ i ys f H',Inv X pins f H' F/\tn i F.heap/\(∀ b∈fp,H' b=none)/\W i m ys f H':=fun {j D F Z} E w7=>by
   obtain ⟨P,hm,w7⟩:=w7
   refine ⟨P,hm,i+1,Z,j,D,E.unpinned,T.keep _ _ _ v fun b hb o e=>(E.pin (b,o) (aB3 _ (aB3 _ (ab4 hb e)))).1,fun b hb=>?_,w7⟩
   obtain ⟨o,e,d⟩:=T.obj _ _ v b hb
   exact (E.pin (b,o) (aB3 _ (aB3 _ (ab4 hb e)))).2.1
  refine aJ3 (aK2 (a0 _ s4 q H4 _ I4 q4) (fun b s5 ⟨H5,I5,Q⟩=>?_) fun e s' z=>(l e s' z).elim)
  cases b with
  | false =>
   rw [aF8 aB0] at Q
   exact aJ4 ⟨rfl,p I5 (M _ _ _ Q)⟩
  | true =>
   rw [aF7 rfl] at Q
   refine aJ3 (aJ3 (aK2 (he _ s5 q H5 _ I5 Q) (fun yv s6 ⟨y,H6,I6,r6,a6,l6,w6⟩=>?_) fun e s' z=>(l e s' z).elim))
   have ap:=abr (X:=X) _ s6 q H6 (.ref a) [y] (.ref a) [yv] (fun _ H'=>H'=upd H6 a (.lst (ys ++ [y]))) I6 rfl (.cons r6 .nil) ⟨a,ys,y,rfl,rfl,a6,l6,rfl⟩
   refine aJ3 (aK2 ap (fun _ F ⟨v7,D,E,_,e7⟩=>?_) fun e s' z=>(l e s' z).elim)
   subst e7
   exact aJ4 (aJ4 ⟨rfl,p E (M _ _ _ w6)⟩)
theorem aqx {X:Cx} {C t1 i1 t2 L:Expr} {f1 f2:List Expr} {sc:Scope} {pos:Pos} {J:It} {fp:List Addr} {it:Addr} {tn:Nat->Heap->Prop} {g:TG} {P:TT} {Q:TI} {g2:TG} {q:TT} {te:TE} {y:Addr} {Qd:List V->Hp->Prop} {W:LW} {R:Result->Shared->Prop}
  (T:Turn X.prog X.w X.K t1 J fp it tn) (hc:X.calm=true) (l:∀ e s,¬ X.xe e s) (hg:PG X t1 g) (a2:PIf X f1 P) (a5:PI X t2 L Q) (a1:PG X t2 g2) (F:PIf X f2 q) (he:PE X C te)
  (a3:∀ x,foldedSetIterable L X.env x=pure x)
  (Z:ajb J g P Q g2 q te y Qd W) (hR:∀ ys σ H s,Inv X [] σ H s->Qd ys H->R (.ok .next) s)
  {i m:Nat} {ys:List V} {σ:St} {H:Hp} {s:Shared} (I:Inv X [] σ H s) (st:tn i s.heap) (hf:∀ b∈fp,FpOk X [] H b) (w:W i m ys σ H) :
  codeAny (model X.prog X.w) X.A (.compLoop (.ListComp C [⟨t1,i1,f1,0⟩,⟨t2,L,f2,0⟩] sc pos) 0 (.ref it) (.ref y) X.env) R s:=by
 have c:∀ {H':Hp},(∀ b∈fp,H' b=none)->∀ b∈fp,FpOk X [] H' b:=fun hn b hb=>⟨hn b hb,(hf b hb).2⟩
 refine codeAny_loop rfl (fun n s'=>∃ i ys a H',Inv X [] a H' s'/\tn i s'.heap/\(∀ b∈fp,H' b=none)/\W i n ys a H') ?_ m ⟨i,ys,σ,H,I,st,fun b hb=>(hf b hb).1,w⟩
 rintro n s1 ⟨i,ys,j,H1,I1,O,Y,w1⟩
 show wpAny _ X.A ((compTurn (.ListComp C [⟨t1,i1,f1,0⟩,⟨t2,L,f2,0⟩] sc pos) 0 (.ref it) (.ref y) X.env).onRaise (fun x=>do noteFrame x X.env;theTreesLotGoes x)) _ _ s1
 refine wpAny_noted ?_
 rw [akx]
 refine aJ3 (wpAny_standAt (aJ3 ?_))
 obtain ⟨stop,qd⟩ | ⟨go,Nx,S,step⟩:=Z i n ys j H1 w1
 ·refine thn (T.done X rfl rfl rfl hc i [] s1 j H1 _ I1 (c Y) O stop) fun r s2 ⟨hr,I2⟩=>?_
  subst hr
  exact aJ4 (hR ys j H1 s2 I2 qd)
 ·refine thn (T.item X rfl rfl rfl hc i [] s1 j H1 _ I1 (c Y) O go) fun r s2 ⟨u,hr,h2⟩=>?_
  subst hr
  refine aJ3 (thn h2 fun _ s3 ⟨x,H3,I3,r3,y3,B,a0⟩=>?_)
  have a6:=I3.pinned (c a0) (T.obj _ _ B)
  refine aJ3 (aK2 (hg _ s3 j H3 x u _ a6 r3 (step x H3 y3)) (fun _ s4 ⟨G,H4,I4,q4⟩=>?_) fun e s' z=>(l e s' z).elim)
  have v:∀ {p:St} {E:Hp} {N:Shared} {zs:List V},Inv X ([] ++ aen fp s3.heap) p E N->(∃ m',m' < n/\W (i+1) m' zs p E)->∃ m,m < n/\∃ i ys a H',Inv X [] a H' N/\tn i N.heap/\(∀ b∈fp,H' b=none)/\W i m ys a H':=fun {p E N zs} M w7=>by
   obtain ⟨m',hm,w7⟩:=w7
   refine ⟨m',hm,i+1,zs,p,E,M.unpinned,T.keep _ _ _ B fun b hb o e=>(M.pin (b,o) (aB3 _ (aB3 _ (ab4 hb e)))).1,fun b hb=>?_,w7⟩
   obtain ⟨o,e,d⟩:=T.obj _ _ B b hb
   exact (M.pin (b,o) (aB3 _ (aB3 _ (ab4 hb e)))).2.1
  refine aJ3 (aK2 (a2 _ s4 G H4 _ I4 q4) (fun b s5 ⟨H5,I5,q5⟩=>?_) fun e s' z=>(l e s' z).elim)
  cases b with
  | false =>
   rw [aF8 aB0] at q5
   exact aJ4 ⟨rfl,v I5 (S _ _ _ q5)⟩
  | true =>
   rw [aF7 rfl] at q5
   refine aJ3 (aK2 (a5 _ s5 G H5 _ I5 q5) (fun xv s6 h6=>?_) fun e s' z=>(l e s' z).elim)
   refine aJ3 (wpAny_standAt (aJ3 ?_))
   rw [a3 xv]
   refine aJ4 (aJ3 (aJ9 (aK2 h6 (fun b0 N h7=>?_) fun e s' z=>(l e s' z).elim)))
   obtain ⟨a7,b2,a9,J2,E,e,M,T2,U,a4,W2,⟨m2,w2⟩,D⟩:=h7
   subst e
   refine aJ3 (wpAny_runOwn ?_)
   have loop:=aqw (R:=fun r s'=>match r with | .ok f=>(∃ m,m < n/\∃ i ys a H',Inv X [] a H' s'/\tn i s'.heap/\(∀ b∈fp,H' b=none)/\W i m ys a H') | .error e=>False) (t1:=t1) (i1:=i1) (f1:=f1) (iter:=L) (sc:=sc) (pos:=pos) T2 hc l a1 F he D (fun a8 b1 H8 s8 I8 q8=>v I8 (S _ _ _ q8)) M U a4 w2
   have st:=asq loop (T2.self _ 0 _ _ _ U loop)
   refine aJ8 st fun r s' h=>?_
   cases r with
   | error e=>exact h.elim
   | ok f=>exact aJ4 ⟨rfl,h⟩
def tLC2 (src:List (Option Nat)) (wi:TI) (g:TG) (tif:TT) (wi2:TI) (g2:TG) (tif2:TT) (te:TE):TE:=fun σ H Q=>wi σ H fun J H1=>∀ acc,H1 acc=none->∃ W:LW,(∃ m,W 0 m [] (pick src σ) (upd H1 acc (.lst [])))/\ajb J g tif wi2 g2 tif2 te acc (fun _ H'=>Q (.ref acc) H') W
section
variable {X:Cx} {N:List Str} {t1 i1 t2 i2 elt:Expr} {f1 f2:List Expr} {sc:Scope} {src:List (Option Nat)} {wi wi2:TI} {g g2:TG} {tif tif2:TT} {te:TE} {pos:Pos}
theorem auw (hc:X.calm=true) (L:LcOk X N sc src) (hg:∀ C f h ex,PG (X.comp N sc C f h ex) t1 g) (U:∀ C f h ex,PIf (X.comp N sc C f h ex) f1 tif) (R:∀ C f h ex,PI (X.comp N sc C f h ex) t2 i2 wi2) (S:∀ C f h ex,PG (X.comp N sc C f h ex) t2 g2) (u:∀ C f h ex,PIf (X.comp N sc C f h ex) f2 tif2) (he:∀ C f h ex,PE (X.comp N sc C f h ex) elt te)
  (M:∀ C f h ex x,foldedSetIterable i2 (X.comp N sc C f h ex).env x=pure x)
  {pins:List (Addr × Obj)} {d:Shared} {σ:St} {H3:Hp} {Q:VK} (n:Inv X pins σ H3 d) {it a:Addr} {fp:List Addr} {J:It} {tn:Nat->Heap->Prop} (T:Turn X.prog X.w X.K t1 J fp it tn) (F:tn 0 d.heap) (j:∀ b∈fp,FpOk X pins H3 b)
  {W:LW} {m0:Nat} (w0:W 0 m0 [] (pick src σ) H3) (G:ajb J g tif wi2 g2 tif2 te a (fun _ H'=>Q (.ref a) H') W) (use:Option (Value->Sem Unit)) (P:Value->Shared->Prop)
  (hP:∀ C H' s' m,Inv X pins σ H' s'->Q (.ref a) H'->s'.heap.Ns C m->H' C=none->C ≠ X.env.locals->(C∈X.ex\/X.s₀.heap.objs.size<=C)->(∀ x c,X.env.cells.lookup x=some c->c ≠ C)->(∀ p∈X.pn ++ pins,p.1 ≠ C) ->
   compPost (model X.prog X.w) X.A X.xe use P (.ref a) C (.ok .next) s') :
  wpAny (model X.prog X.w) X.A (newFunctionEnv sc X.env.globals (clos X.env sc.names []) [] X.env.qual none .none (some X.env)) (fun i E =>
    codeAny (model X.prog X.w) X.A (.compStart (.ListComp elt [⟨t1,i1,f1,0⟩,⟨t2,i2,f2,0⟩] sc pos) 0 (.ref it) (.ref a) { i with scope:=relabel sc X.env }) (compPost (model X.prog X.w) X.A X.xe use P (.ref a) i.locals) E) X.xe d:=by
 refine wpAny_newFunctionEnv L.nocell (by intro y hy;simp at hy) (fun O r B=>?_) L.kind
 have Y:∀ b∈fp,b < d.heap.objs.size:=fun b hb=>by
  obtain ⟨o,I,_⟩:=T.obj _ _ F b hb
  exact aJ6 I
 have D:∀ b o,d.heap.get? b=some o->O.get? b=some o:=fun b o e=>B.extBut b o (aB6 (aJ6 e)) (aJ5 _ e)
 have H:=ama (t':=d.toks+([]:List (Str × Value)).length) L n j Y (by simpa using r) D
 have q:tn 0 O:=T.keep _ _ _ F fun b _ o e=>D b o e
 have f4:∀ b∈fp,FpOk (X.comp N sc d.heap.objs.size d H3 fp) [] H3 b:=fun b hb =>
  ⟨(j b hb).1,(H.ok.exf b hb).1,H.ok.exfs b hb,.inl hb,(H.ok.exf b hb).2,fun p Z=>absurd (show p∈([]:List (Addr × Obj)) from Z) (by simp)⟩
 have fin:∀ (ys:List V) s H' s',Inv (X.comp N sc d.heap.objs.size d H3 fp) [] s H' s'->Q (.ref a) H'->compPost (model X.prog X.w) X.A X.xe use P (.ref a) d.heap.objs.size (.ok .next) s':=fun ys s H' s' l q'=>by
  have Jo:Inv X pins σ H' s':=n.call' (ch:=fp) l.os l.base l.hok l.bare fun b hb=>⟨(j b hb).2.2.2.1,(j b hb).2.1,(j b hb).2.2.2.2.1,(j b hb).2.2.2.2.2⟩
  obtain ⟨m,hn,_⟩:=l.loc
  refine hP _ H' s' m Jo q' hn l.free (Nat.ne_of_gt n.lt) (.inr n.sz) (fun x c e z=>?_) fun p Z z=>?_
  ·obtain ⟨v,o,I,_⟩:=n.cell x c e
   exact absurd (aJ6 I) (by rw [z];exact aG6 _)
  ·exact absurd (aJ6 (n.pin p Z).1) (by rw [z];exact aG6 _)
 have loop:codeAny (model X.prog X.w) X.A (.compLoop (.ListComp elt [⟨t1,i1,f1,0⟩,⟨t2,i2,f2,0⟩] sc pos) 0 (.ref it) (.ref a) (X.comp N sc d.heap.objs.size d H3 fp).env)
   (compPost (model X.prog X.w) X.A X.xe use P (.ref a) d.heap.objs.size) { d with heap:=O,toks:=d.toks+([]:List (Str × Value)).length } :=
  aqx (X:=X.comp N sc d.heap.objs.size d H3 fp) T hc (fun _ _ z=>z) (hg _ _ _ _) (U _ _ _ _) (R _ _ _ _) (S _ _ _ _) (u _ _ _ _) (he _ _ _ _) (M _ _ _ _) G fin H q f4 w0
 exact codeAny_compStart_list loop (T.self _ 0 _ _ _ q loop)
theorem asr (B:X.calm=true) (L:LcOk X N sc src) (hi:PI X t1 i1 wi) (Y:∀ C a c ex,PG (X.comp N sc C a c ex) t1 g) (r:∀ C a c ex,PIf (X.comp N sc C a c ex) f1 tif) (z:∀ C a c ex,PI (X.comp N sc C a c ex) t2 i2 wi2) (n:∀ C a c ex,PG (X.comp N sc C a c ex) t2 g2) (j:∀ C a c ex,PIf (X.comp N sc C a c ex) f2 tif2) (S:∀ C a c ex,PE (X.comp N sc C a c ex) elt te)
  (hs:∀ x,foldedSetIterable i1 X.env x=pure x:=by intro _;rfl) (p:∀ C a c ex x,foldedSetIterable i2 (X.comp N sc C a c ex).env x=pure x:=by intros;rfl):PE X (.ListComp elt [⟨t1,i1,f1,0⟩,⟨t2,i2,f2,0⟩] sc pos) (tLC2 src wi g tif wi2 g2 tif2 te):=by
 intro pins s σ H Q I h
 rw [eval_ListComp]
 refine wpAny_comprehension_free rfl hs (L.clo I.ok) L.kind L.own (thn (hi pins s σ H _ I h) fun v s1 F=>thn F fun K s2 G=>?_)
 obtain ⟨it,fp,tn,J,H2,e,A,T,i,f,R⟩:=G
 subst e
 have d:H2 s2.heap.objs.size=none:=A.hok.fresh (aA6 _)
 obtain ⟨W,⟨Z,O⟩,l⟩:=R s2.heap.objs.size d
 have y:∀ b∈fp,b < s2.heap.objs.size:=fun b hb=>by
  obtain ⟨o,E,_⟩:=T.obj _ _ i b hb
  exact aJ6 E
 refine aK3 ?_
 refine auw (pins:=pins) B L Y r z n j S p (H3:=upd H2 s2.heap.objs.size (.lst [])) ?_ T ?_ ?_ O l none _ ?_
 ·exact A.laid (t':=s2.toks) (fun b u e=>aJ5 _ e) (aA6 _) ⟨aG2 _,[],0,.nil,aJ7 _ rfl⟩
 ·exact T.keep _ _ _ i fun b _ o e=>aJ5 _ e
 ·exact fun b hb=>⟨by rw [aad (aB6 (y b hb))];exact (f b hb).1,(f b hb).2⟩
 ·intro C H' s' m J q hn P D M w U
  refine ⟨m,hn,fun h' sb=>⟨.ref s2.heap.objs.size,H',?_,rfl,q⟩⟩
  exact J.turned (t':=s'.toks) (fun b o hb e=>sb.extBut b o hb e) P D M w U
end
def rLen (K:Frag):List V->Hp->VK->Prop:=fun xs H Q=>∃ p ys,xs=[.ref p]/\(SqL K H p ys\/SqT K H p ys)/\Q (.int ys.length) H
theorem acs {X:Cx}:aa3 X (.builtin "len") (rLen X.K):=al3
def alk:List V->Hp->VK->Prop:=fun xs H Q=>∃ i j,xs=[.int i,.int j]/\Q (.int (if j > i then j else i)) H
def alm:List V->Hp->VK->Prop:=fun xs H Q=>∃ i j,xs=[.int i,.int j]/\Q (.int (if j < i then j else i)) H
theorem ack {X:Cx} (a:X.calm=true):aa3 X (.builtin "max") alk:=asa a
theorem acl {X:Cx} (a:X.calm=true):aa3 X (.builtin "min") alm:=asb a
def aln:List V->Hp->VK->Prop:=fun xs H Q=>(∃ i,xs=[.int i]/\Q (.int i) H)\/∃ k,xs=[.bl k]/\Q (.int (if k then 1 else 0)) H
theorem aib {X:Cx}:aa3 X (.type "int") aln:=asc
section
variable {σ:St} {H:Hp} {D:Ends} {K:Frag}
theorem a0a {t u:TS} (h:t { D with nx:=u D } σ H):tSeq t u D σ H:=h
theorem a0b {te:TE} {g:TG} (h:te σ H fun x a=>g x σ a D.nx):tAsg te g D σ H:=h
theorem a0c {te:TE} (h:te σ H D.rt):tRet te D σ H:=h
theorem axl {te:TE} (h:te σ H fun _ a=>D.nx σ a):aqn te D σ H:=h
theorem axm (h:D.nx σ H):aqm D σ H:=h
theorem a0d {c:TT} {t u:TS} (h:c σ H fun b a=>if b=true then t D σ a else u D σ a):tIfS c t u D σ H:=h
theorem ag0 {i:Nat} {v:V} {Q:St->Hp->Prop} (h:Q (σ.set i (some v)) H):aa4 i v σ H Q:=h
theorem axn {to a:TE} {t:TSet} {v:V} {Q:St->Hp->Prop} (h:to σ H fun o b=>a σ b fun i H2=>t o i v H2 fun H3=>Q σ H3):gSub to a t v σ H Q:=h
theorem amd {i:Nat} {v:V} {Q:VK} (a : σ[i]?=some (some v)) (h:Q v H):tVar i σ H Q:=⟨v,a,h⟩
theorem go_c {v:V} {Q:VK} (h:Q v H):tC v σ H Q:=h
theorem a2m {r:R2} {b a:TE} {Q:VK} (h:b σ H fun x c=>a σ c fun y H2=>r x y H2 Q):tOp r b a σ H Q:=h
theorem axo {t:TE} {Q:Bool->Hp->Prop} (h:t σ H fun x H'=>∃ k,x=.bl k/\Q k H'):ali t σ H Q:=h
theorem a2n {k:Bool} {Q:Bool->Prop} (h:Q k):∃ a,V.bl k=.bl a/\Q a:=⟨k,rfl,h⟩
theorem a0e {t u:TT} {Q:Bool->Hp->Prop} (h:t σ H fun c a=>if c=true then u σ a Q else Q false a):tAnd t u σ H Q:=h
theorem afm {a:TE} {tr:TA} {Q:List V->Hp->Prop} (h:a σ H fun x b=>tr σ b fun xs H2=>Q (x :: xs) H2):aa5 a tr σ H Q:=h
theorem aes {Q:List V->Hp->Prop} (h:Q [] H):tNil σ H Q:=h
theorem ass {t:TA} {Q:VK} (h:t σ H fun xs a=>xs.length<=sizeLine/\∀ p,a p=none->Q (.ref p) (upd a p (.tup xs))):tTup t σ H Q:=h
theorem ast {t:TA} {Q:VK} (h:t σ H fun xs a=>xs.length<=sizeLine/\∀ p,a p=none->Q (.ref p) (upd a p (.lst xs))):tLst t σ H Q:=h
theorem a2o {r:List V->Hp->VK->Prop} {t:TA} {Q:VK} (h:t σ H fun vs a=>r vs a Q):tCB r t σ H Q:=h
theorem axp {sp:Sp} {E:XK} {t:TA} {Q:VK} (h:t σ H fun vs a=>sp vs a Q E):acj sp [] E t σ H Q:=by
 unfold acj
 simp only [aF2]
 exact h
theorem go_I {C:Int->Int->Prop} {g:Int->Int->V} {i j:Int} {Q:VK} (a:C i j) (h:Q (g i j) H):rI C g (.int i) (.int j) H Q:=⟨i,j,rfl,rfl,a,h⟩
theorem a2p {g:Int->Int->V} {i j:Int} {Q:VK} (h:Q (g i j) H):rI0 g (.int i) (.int j) H Q:=⟨i,j,rfl,rfl,h⟩
theorem asu {i j:Int} {Q:VK} (h:Q (.bl (decide (i=j))) H):rEq (.int i) (.int j) H Q:=by
 have e:decide (V.int i=V.int j)=decide (i=j):=by rw [agx];exact Bool.beq_eq_decide_eq i j
 exact ⟨rfl,by rw [e];exact h⟩
theorem a0f {i j:Int} {Q:VK} (h:Q (.bl (!decide (i=j))) H):rNe (.int i) (.int j) H Q:=by
 have e:decide (V.int i=V.int j)=decide (i=j):=by rw [agx];exact Bool.beq_eq_decide_eq i j
 exact ⟨rfl,by rw [e];exact h⟩
theorem a0g {a:Addr} {xs:List V} {i:Int} {v:V} {Q:VK} (ha:H a=some (.lst xs)) (b:atI xs i=some v) (h:Q v H):rIxL K (.ref a) (.int i) H Q:=⟨a,xs,i,v,rfl,rfl,SqL.of ha,b,h⟩
theorem a0h {a:Addr} {xs:List V} {i:Int} {v:V} {Q:VK} (ha:H a=some (.tup xs)) (b:atI xs i=some v) (h:Q v H):rIxT K (.ref a) (.int i) H Q:=⟨a,xs,i,v,rfl,rfl,SqT.of ha,b,h⟩
theorem aoz {a:Addr} {xs:List V} {k:Int} {j:Nat} {v:V} {Q:Hp->Prop} (ha:H a=some (.lst xs)) (b:ixN xs.length k=some j) (h:Q (upd H a (.lst (xs.set j v)))):aqv (.ref a) (.int k) v H Q:=⟨a,xs,k,j,rfl,rfl,ha,b,h⟩
theorem ae4 {a:Addr} {xs:List V} {y:V} {Q:VK} (ha:H a=some (.lst xs)) (b:xs.length < sizeLine) (h:Q .non (upd H a (.lst (xs ++ [y])))):ael (.ref a) [y] H Q:=⟨a,xs,y,rfl,rfl,ha,b,h⟩
theorem asv {a b:Addr} {xs c:List V} {Q:VK} (ha:H a=some (.lst xs)) (hb:H b=some (.lst c)) (d:xs.length+c.length<=sizeLine) (h:Q .non (upd H a (.lst (xs ++ c)))):ai9 (.ref a) [.ref b] H Q:=⟨a,b,xs,c,rfl,rfl,ha,hb,d,h⟩
theorem a0i {r:V->List V->Hp->VK->Prop} {to:TE} {t:TA} {Q:VK} (h:to σ H fun x a=>tyV K "list" x a/\t σ a fun xs H2=>r x xs H2 Q):tBM K "list" r to t σ H Q:=h
theorem a0j {a b:Addr} {xs c:List V} {Q:VK} (ha:H a=some (.lst xs)) (hb:H b=some (.lst c)) (d:xs.length+c.length<=sizeLine) (h:∀ p,H p=none->Q (.ref p) (upd H p (.lst (xs ++ c)))):rCat (.ref a) (.ref b) H Q:=⟨a,b,xs,c,rfl,rfl,ha,hb,d,h⟩
theorem ao0 {a:Addr} {xs:List V} {Q:VK} (ha:H a=some (.lst xs)) (h:Q (.int xs.length) H):rLen K [.ref a] H Q:=⟨a,xs,rfl,.inl (SqL.of ha),h⟩
theorem ao1 {i j:Int} {Q:VK} (h:Q (.int (if j > i then j else i)) H):alk [.int i,.int j] H Q:=⟨i,j,rfl,h⟩
theorem ao2 {i j:Int} {Q:VK} (h:Q (.int (if j < i then j else i)) H):alm [.int i,.int j] H Q:=⟨i,j,rfl,h⟩
theorem ao3 {k:Bool} {Q:VK} (h:Q (.int (if k then 1 else 0)) H):aln [.bl k] H Q:=.inr ⟨k,rfl,h⟩
theorem ajc {c:Prop} [Decidable c] {A B:Prop} (a:c) (h:A):if decide c=true then A else B:=by rw [aD8 a];exact iteT h
theorem ajd {c:Prop} [Decidable c] {A B:Prop} (a:¬ c) (h:B):if decide c=true then A else B:=by rw [aD7 a];exact iteF h
theorem adh {c:Prop} [Decidable c] {A B:Prop} (b:c->A) (a:¬ c->B):if decide c=true then A else B:=by
 by_cases hc:c
 ·exact ajc hc (b hc)
 ·exact ajd hc (a hc)
theorem axq {c:Prop} [Decidable c] {A B:Prop} (b:¬ c->A) (a:c->B):if (!decide c)=true then A else B:=by
 by_cases hc:c
 ·rw [aD8 hc];exact iteF (a hc)
 ·rw [aD7 hc];exact iteT (b hc)
theorem at0 {x:V} {xs:List V}:atI (x :: xs) 0=some x:=adr (j:=0) rfl
theorem at1 {x y:V} {xs:List V}:atI (x :: y :: xs) 1=some y:=adr (j:=1) rfl
theorem at2 {x y z:V} {xs:List V}:atI (x :: y :: z :: xs) 2=some z:=adr (j:=2) rfl
theorem ixN0 {n:Nat}:ixN (n+1) 0=some 0:=by unfold ixN;rw [aF7 (by decide),aF7 (by lia)];rfl
theorem ixN1 {n:Nat}:ixN (n+2) 1=some 1:=by unfold ixN;rw [aF7 (by decide),aF7 (by lia)];rfl
theorem ixN2 {n:Nat}:ixN (n+3) 2=some 2:=by unfold ixN;rw [aF7 (by decide),aF7 (by lia)];rfl
end
structure CallOk (P:Program) (w:World) (K:Frag) (mg:Str->Option Value) (base:Heap) (x:Str) (k:Nat) (ps:List Str) (sp:Sp) (f:Addr) (fd:FuncData):Prop where
 ok:FnOk P w K mg base CX0 k f fd ps sp
 mgx:mg x=some (.ref f)
 kp:keepIn K (.ref f)=true
 bd:Binds K fd ps []
def Can (P:Program) (w:World) (K:Frag) (mg:Str->Option Value) (base:Heap) (x:Str) (k:Nat) (ps:List Str) (sp:Sp):Prop:=∃ f fd,CallOk P w K mg base x k ps sp f fd
structure DefAt (K:Frag) (mg:Str->Option Value) (x:Str) (st:Stmt) (ps:List Str) (f:Addr) (fd:FuncData):Prop where
 fn:Fun K x x st f fd
 mgx:mg x=some (.ref f)
 bd:Binds K fd ps []
theorem DefAt.can {P:Program} {w:World} {K:Frag} {mg:Str->Option Value} {base:Heap} {x:Str} {st:Stmt} {k:Nat} {ps:List Str} {sp:Sp} {f:Addr} {fd:FuncData} (D:DefAt K mg x st ps f fd) (ok:FnOk P w K mg base CX0 k f fd ps sp):Can P w K mg base x k ps sp :=
 ⟨f,fd,ok,D.mgx,D.fn.kp,D.bd⟩
section
variable {X:Cx} {k j:Nat} {ps:List Str} {sp:Sp} {x:Str} {p pos:Pos} {e:Expr} {es:List Expr} {t:TA}
theorem aaf (F:Can X.prog X.w X.K X.mg X.base x k ps sp) (d:Room j X.A) (ha:PA X (e :: es) t) (h:k<=j:=by decide) (g:Gl X x:=by rfl) (a:(x == ("__debug__" : Str))=false:=by decide)
  (c:starEach (e :: es) X.env=(false,eval e X.env) :: starEach es X.env:=by rfl) (b:(backTo pos (starEach es X.env)).any (·.1)=false:=by rfl) :
  PE X (.Call (.Name x p) (e :: es) [] pos) (acj sp [] E0 t):=by
 obtain ⟨f,fd,C⟩:=F
 exact axd C.ok (d.mono h) g C.mgx C.kp C.bd .nil a2l ha a c b
end
theorem abe {X:Cx} {N:List Str} {sc:Scope} {src:List (Option Nat)} (d:sc.kind=.function) (h:sc.names.all (fun y=>y.2 != .cell)=true) (f:sc.names.all (fun y=>y.2 != .local || sc.names.lookup y.1 == some .local)=true)
  (g:sc.names.all (fun y=>y.2 != .free || X.env.kindOf y.1 == some .cell || X.env.kindOf y.1 == some .free)=true) (c:src.length=N.length)
  (l:(List.range src.length).all (fun i=>match src[i]? with | some (some j)=>(match N[i]?,X.N[j]? with | some x,some y=>x == y && sc.names.lookup x == some .free | _,_=>false) | _=>true)=true):LcOk X N sc src:=by
 refine ⟨d,fun y a e=>?_,fun y a e=>?_,fun y a e=>?_,c,fun i j e=>?_⟩
 ·have:=aF6.mp h y a
  rw [e] at this
  exact absurd this (by decide)
 ·have:=aF6.mp f y a
  rw [e] at this
  simpa using this
 ·have:=aF6.mp g y a
  rw [e] at this
  simpa using this
 ·have hi:i < src.length:=(aA1.mp e).1
  have:=aF6.mp l i (aB9.mpr hi)
  rw [e] at this
  dsimp only at this
  cases h7:N[i]? with
  | none=>rw [h7] at this;cases this
  | some x =>
   cases h8:X.N[j]? with
   | none=>rw [h7,h8] at this;cases this
   | some y =>
    rw [h7,h8] at this
    simp only [aH3] at this
    have b:x=y:=by simpa using this.1
    subst b
    exact ⟨x,rfl,rfl,by simpa using this.2⟩
section
variable {σ:St} {H:Hp} {D:Ends} {K:Frag}
def ForW (J:It) (g:TG) (tb:TS) (D:Ends) (σ:St) (H1:Hp):Prop:=∃ W:Nat->Nat->St->Hp->Prop,(∃ m,W 0 m σ H1)/\∀ i m σ H,W i m σ H ->
 (J.stop i H/\D.nx σ H)\/(J.go i H/\∃ N:St->Hp->Prop,(∀ σ' H',N σ' H'->∃ m',m' < m/\W (i+1) m' σ' H')/\∀ x H',J.yld i H x H'->g x σ H' fun σ2 H2=>tb { D with nx:=N,ct:=N,bk:=D.nx } σ2 H2)
theorem a0k {b:TI} {g:TG} {a:TS} (h:b σ H fun J c=>ForW J g a D σ c):tFor b g a D σ H:=h
def LcW (J:It) (g:TG) (tif:TT) (te:TE) (σ0:St) (Q:VK) (H1:Hp):Prop:=∀ acc,H1 acc=none->∃ W:LW,(∃ m,W 0 m [] σ0 (upd H1 acc (.lst [])))/\age J g tif te acc (fun _ H'=>Q (.ref acc) H') W
theorem a2q {src:List (Option Nat)} {b:TI} {g:TG} {a:TT} {te:TE} {Q:VK} (h:b σ H fun J c=>LcW J g a te (pick src σ) Q c):tLC src b g a te σ H Q:=h
def aww (R:It->Hp->Prop):List V->Hp->Prop:=fun vs H1=>∃ j:Int,vs=[.int j]/\-(2 ^ 62)<=j/\j < 2 ^ 62/\R (Itr 0 j.toNat) H1
theorem aux {a:TA} {R:It->Hp->Prop} (h:a σ H (aww R)):aqq a σ H R:=h
theorem ao4 {R:It->Hp->Prop} {j:Int} (b:0<=j) (a:j < 2 ^ 62) (h:R (Itr 0 j.toNat) H):aww R [.int j] H:=⟨j,rfl,by lia,a,h⟩
theorem a0l {a:Addr} {xs:List V} {i:Int} {v:V} {Q:VK} (ha:SqL K H a xs) (b:atI xs i=some v) (h:Q v H):rIxL K (.ref a) (.int i) H Q:=⟨a,xs,i,v,rfl,rfl,ha,b,h⟩
theorem ao5 {a:Addr} {xs:List V} {Q:VK} (ha:SqL K H a xs) (h:Q (.int xs.length) H):rLen K [.ref a] H Q:=⟨a,xs,rfl,.inl ha,h⟩
theorem a0m {a:Addr} {xs:List V} {R:Prop} (ha:H a=some (.lst xs)) (h:R):tyV K "list" (.ref a) H/\R:=⟨.inl ⟨rfl,_,SqL.of ha⟩,h⟩
theorem aic {Q:Bool->Hp->Prop} (h:Q true H):tYes σ H Q:=h
theorem auy {a:Addr} {xs:List V} {i:Int} {k:Nat} {y:V} {Q:VK} (ha:H a=some (.lst xs)) (c : -(2 ^ 63)<=i) (b:i < 2 ^ 63) (d:seqIndex? i xs.length=some k) (f:xs[k]?=some y) (h:Q y (upd H a (.lst (xs.eraseIdx k)))):al5 (.ref a) [.int i] H Q :=
 ⟨a,xs,i,k,y,rfl,rfl,ha,c,b,d,f,h⟩
end
end L2
namespace L2
open PySem
theorem ad7:bootBuiltins "len" = some (.builtin "len"):=by decide +kernel
theorem ach:bootBuiltins "max" = some (.builtin "max"):=by decide +kernel
theorem adi:bootBuiltins "min" = some (.builtin "min"):=by decide +kernel
theorem asw:bootBuiltins "sum" = some (.builtin "sum"):=by decide +kernel
theorem act:bootBuiltins "sorted" = some (.builtin "sorted"):=by decide +kernel
theorem aee:bootBuiltins "isinstance" = some (.builtin "isinstance"):=by decide +kernel
theorem ame:bootBuiltins "all" = some (.builtin "all"):=by decide +kernel
theorem a0n:bootBuiltins "any" = some (.builtin "any"):=by decide +kernel
theorem amf:bootBuiltins "int" = some (.type "int"):=by decide +kernel
theorem ao6:bootBuiltins "list" = some (.type "list"):=by decide +kernel
theorem ao7:bootBuiltins "dict" = some (.type "dict"):=by decide +kernel
theorem a0o:bootBuiltins "set" = some (.type "set"):=by decide +kernel
theorem amg:bootBuiltins "enumerate" = some (.type "enumerate"):=by decide +kernel
theorem axr:bootBuiltins "bool" = some (.type "bool"):=by decide +kernel
end L2
namespace TS
open PySem PyProof.Rows
def aje:Bool->Keyed->Array Keyed->Nat->Nat->Nat->StateT SortSt Sem (Option Nat):=sortPriv% PySem.Builtin.gallop
def auz:Array Keyed->Array Keyed->StateT SortSt Sem (Array Keyed):=sortPriv% PySem.Builtin.mergeLo
def au0:Array Keyed->Array Keyed->StateT SortSt Sem (Array Keyed):=sortPriv% PySem.Builtin.mergeHi
def amh:Nat->StateT SortSt Sem Bool:=sortPriv% PySem.Builtin.mergeAt
def axs:Nat->Nat->StateT SortSt Sem (Option Nat):=sortPriv% PySem.Builtin.countRun
def au1:Nat->Nat->Nat->StateT SortSt Sem Bool:=sortPriv% PySem.Builtin.binarySort
def a2r:StateT SortSt Sem Unit:=sortPriv% PySem.Builtin.sortRuns
structure Cmp (M:Model) (A:Around) (E:Value->Shared->Prop) (s:Shared) (κ:SortKind) (S:Keyed->Prop) (R:Keyed->Keyed->Bool):Prop where
 ask:∀ x y,S x->S y->∀ (Q:Option Bool->SortSt->Prop) (st:SortSt),kindOf st = κ->Q (some (R x y)) st->wpS M A E s (lt' x y) Q st
 asy:∀ x y,S x->S y->R x y=true->R y x=false
 tr:∀ x y z,S x->S y->S z->R y x=false->R z y=false->R z x=false
section
variable {M:Model} {A:Around} {E:Value->Shared->Prop} {s:Shared} {κ:SortKind} {S:Keyed->Prop} {R:Keyed->Keyed->Bool}
theorem aaw {arr:Array Keyed} {i:Nat} {x:Keyed} {Q:Keyed->SortSt->Prop} {st:SortSt} (a:arr[i]?=some x) (h:Q x st):wpS M A E s (elem' arr i) Q st:=by
 rw [elem'_eq,a]
 exact wpS_pure h
theorem ads {x:String} {Q:Unit->SortSt->Prop} {st:SortSt} (h:Q () st):wpS M A E s (liftM (PySem.rule x):StateT SortSt Sem Unit) Q st :=
 wpS_lift (wpAny_rule ⟨rfl,h⟩)
def bey (left:Bool) (key:Keyed) (arr:Array Keyed) (base i:Nat):StateT SortSt Sem (Option Bool):=do
 let x ← elem' arr (base+i)
 if left=true then lt' x key else do
  let r ← lt' key x
  pure (Option.map (fun b => !b) r)
theorem akb {left:Bool} {p:Keyed} {arr:Array Keyed} {base n a:Nat} {B:Nat->Bool}
  (hb:∀ i,i < n->∀ (Q:Option Bool->SortSt->Prop) (st:SortSt),kindOf st = κ->Q (some (B i)) st->wpS M A E s (bey left p arr base i) Q st)
  (mono:∀ i j,i < j->j < n->B j=true->B i=true) (hh:a < n) {Q:Option Nat->SortSt->Prop} {st:SortSt} (x:kindOf st = κ)
  (h:∀ k,k<=n->(∀ i,i < k->B i=true)->(∀ i,k<=i->i < n->B i=false)->Q (some k) st):wpS M A E s (aje left p arr base n a) Q st:=by
 have c:∀ i j,i < j->j < n->B i=false->B j=false:=fun i j y L hi=>by
  cases e:B j with
  | false=>rfl
  | true=>rw [mono i j y L e] at hi;cases hi
 -- the last loop
 have last:∀ (lo hi:Nat) (F:Option (Option Nat) × Nat × Nat->StateT SortSt Sem (Option Nat)),lo<=hi->hi<=n->(∀ i,i < lo->B i=true)->(∀ i,hi<=i->i < n->B i=false) ->
   (∀ lo hi,F (none,lo,hi)=pure (some hi)) ->
   wpS M A E s (forIn [:n] ((none,lo,hi):Option (Option Nat) × Nat × Nat) (fun (_:Nat) z=>if z.2.1 ≥ z.2.2 then pure (ForInStep.done (none,z.2.1,z.2.2)) else bey left p arr base (z.2.1+(z.2.2 - z.2.1) / 2) >>= fun r=>match r with
    | some more=>if more=true then pure (ForInStep.yield (none,z.2.1+(z.2.2 - z.2.1) / 2+1,z.2.2)) else pure (ForInStep.yield (none,z.2.1,z.2.1+(z.2.2 - z.2.1) / 2))
    | _=>pure (ForInStep.done (some none,z.2.1,z.2.2))) >>= F) Q st:=by
  intro lo hi F H I J K C
  refine wpS_bind (wpS_forRange (fun t z st'=>st'=st/\z.1=none/\z.2.1<=z.2.2/\z.2.2<=n/\z.2.2 - z.2.1+t<=n/\(∀ i,i < z.2.1->B i=true)/\(∀ i,z.2.2<=i->i < n->B i=false)) ?_ ?_ ⟨rfl,rfl,H,I,by dsimp only;lia,J,K⟩)
  ·rintro t ⟨o,l,u⟩ st' _ D ⟨rfl,e,q,d,b,g,w⟩
   dsimp only at e q d b g w ⊢
   subst e
   by_cases hlu:l ≥ u
   ·rw [aF7 hlu]
    have:l=u:=by lia
    subst this
    exact wpS_pure (by dsimp only;rw [C];exact wpS_pure (h l d g w))
   ·rw [aF8 hlu]
    have hm:l+(u - l) / 2 < u:=by lia
    refine wpS_bind (hb _ (by lia) _ _ x ?_)
    dsimp only
    cases e:B (l+(u - l) / 2) with
    | true =>
     rw [aF7 rfl]
     refine wpS_pure ⟨rfl,rfl,by dsimp only;lia,d,by dsimp only;lia,fun i hi=>?_,w⟩
     dsimp only at hi
     by_cases hi2:i=l+(u - l) / 2
     ·rw [hi2];exact e
     ·exact mono i _ (by lia) (by lia) e
    | false =>
     rw [aF8 (by simp)]
     refine wpS_pure ⟨rfl,rfl,by dsimp only;lia,by dsimp only;lia,by dsimp only;lia,g,fun i hi hn=>?_⟩
     dsimp only at hi
     by_cases hi2:i=l+(u - l) / 2
     ·rw [hi2];exact e
     ·exact c _ i (by lia) hn e
  ·rintro ⟨o,l,u⟩ st' ⟨rfl,e,q,d,b,g,w⟩
   dsimp only at e q d b g w ⊢
   subst e
   have : l = u := by have:n ≤ max 0 n := by lia
                      lia
   subst this
   rw [C]
   exact wpS_pure (h l d g w)
 refine wpS_bind (f:=fun G=>_) (m:=bey left p arr base a) (hb a hh _ st x ?_)
 dsimp only
 cases e0:B a with
 | true =>
  rw [aF7 rfl]
  refine wpS_bind ?_
  refine wpS_forRange (fun t (z:Option (Option Nat) × Nat × Nat) st'=>st'=st/\z.1=none/\z.2.1 < z.2.2/\a+z.2.1 < n/\B (a+z.2.1)=true/\t+1<=z.2.2) ?_ ?_ ⟨rfl,rfl,by decide,by dsimp only;lia,e0,Nat.le_refl _⟩
  ·rintro t ⟨o,l,u⟩ st' _ D ⟨rfl,e,q,d,b,g⟩
   dsimp only at e q d b g ⊢
   subst e
   by_cases hu:u ≥ n - a
   ·rw [aF7 hu]
    refine wpS_pure ?_
    dsimp only
    refine last _ _ _ (by lia) (by lia) (fun i hi=>?_) (fun i hi hn=>by lia) (fun _ _=>rfl)
    by_cases hi2:i=a+l
    ·rw [hi2];exact b
    ·exact mono i _ (by lia) d b
   ·rw [aF8 hu]
    refine wpS_bind (m:=bey left p arr base (a+u)) (hb _ (by lia) _ _ x ?_)
    dsimp only
    cases e1:B (a+u) with
    | true =>
     rw [aF8 (by decide)]
     exact wpS_pure ⟨rfl,rfl,by dsimp only;lia,by dsimp only;lia,e1,by dsimp only;lia⟩
    | false =>
     rw [aF7 (by decide)]
     refine wpS_pure ?_
     dsimp only
     refine last _ _ _ (by lia) (by lia) (fun i hi=>?_) (fun i hi hn=>?_) (fun _ _=>rfl)
     ·by_cases hi2:i=a+l
      ·rw [hi2];exact b
      ·exact mono i _ (by lia) d b
     ·by_cases hi2:i=a+u
      ·rw [hi2];exact e1
      ·exact c _ i (by lia) hn e1
  ·rintro ⟨o,l,u⟩ st' ⟨rfl,e,q,d,b,g⟩
   dsimp only at e q d b g ⊢
   subst e
   dsimp only
   refine last _ _ _ (by lia) (by lia) (fun i hi=>?_) (fun i hi hn=>by lia) (fun _ _=>rfl)
   by_cases hi2:i=a+l
   ·rw [hi2];exact b
   ·exact mono i _ (by lia) d b
 | false =>
  rw [aF8 (by decide)]
  refine wpS_bind ?_
  refine wpS_forRange (fun t (z:Option (Option Nat) × Nat × Nat) st'=>st'=st/\z.1=none/\z.2.1 < z.2.2/\z.2.1<=a/\B (a - z.2.1)=false/\t+1<=z.2.2) ?_ ?_ ⟨rfl,rfl,by decide,aG2 _,e0,aA6 _⟩
  ·rintro t ⟨o,l,u⟩ st' _ D ⟨rfl,e,q,d,b,g⟩
   dsimp only at e q d b g ⊢
   subst e
   have v:∀ i,a - l<=i->i < n->B i=false:=fun i hi hn=>by
    by_cases hi2:i=a - l
    ·rw [hi2];exact b
    ·exact c _ i (by lia) hn b
   by_cases hu:u ≥ a+1
   ·rw [aF7 hu]
    refine wpS_pure ?_
    dsimp only
    exact last _ _ _ (by lia) (by lia) (fun i hi=>by lia) v (fun _ _=>rfl)
   ·rw [aF8 hu]
    refine wpS_bind (m:=bey left p arr base (a - u)) (hb _ (by lia) _ _ x ?_)
    dsimp only
    cases e1:B (a - u) with
    | true =>
     rw [aF7 rfl]
     refine wpS_pure ?_
     dsimp only
     refine last _ _ _ (by lia) (by lia) (fun i hi=>?_) v (fun _ _=>rfl)
     by_cases hi2:i=a - u
     ·rw [hi2];exact e1
     ·exact mono i _ (by lia) (by lia) e1
    | false =>
     rw [aF8 (by decide)]
     exact wpS_pure ⟨rfl,rfl,by dsimp only;lia,by dsimp only;lia,e1,by dsimp only;lia⟩
  ·rintro ⟨o,l,u⟩ st' ⟨rfl,e,q,d,b,g⟩
   dsimp only at e q d b g ⊢
   subst e
   dsimp only
   refine last _ _ _ (by lia) (by lia) (fun i hi=>by lia) (fun i hi hn=>?_) (fun _ _=>rfl)
   by_cases hi2:i=a - l
   ·rw [hi2];exact b
   ·exact c _ i (by lia) hn b
end
def Srt (R:Keyed->Keyed->Bool) (l:List Keyed):Prop:=l.Pairwise fun x y=>R y x=false
structure Mid (R:Keyed->Keyed->Bool) (L out a b:List Keyed):Prop where
 perm:(out ++ a ++ b).Perm L
 so:Srt R out
 le:∀ x∈out,∀ y∈a ++ b,R y x=false
 sa:Srt R a
 sb:Srt R b
section
variable {R:Keyed->Keyed->Bool} {L out a b p:List Keyed}
theorem Mid.takeA (m:Mid R L out (p ++ a) b) (h:∀ x∈p,∀ y∈b,R y x=false):Mid R L (out ++ p) a b:=by
 have sp:=aC9.mp m.sa
 refine ⟨by have:=m.perm;rw [← aB4] at this;exact this,aC9.mpr ⟨m.so,sp.1,fun x d y c=>m.le x d y (aC7 _ (aC7 _ c))⟩,fun x d y c=>?_,sp.2.1,m.sb⟩
 rcases aA7.mp d with d | d
 ·refine m.le x d y ?_
  rcases aA7.mp c with c | c
  ·exact aC7 _ (aB3 _ c)
  ·exact aB3 _ c
 ·rcases aA7.mp c with c | c
  ·exact sp.2.2 x d y c
  ·exact h x d y c
theorem Mid.takeB (m:Mid R L out a (p ++ b)) (h:∀ x∈p,∀ y∈a,R y x=false):Mid R L (out ++ p) a b:=by
 have sp:=aC9.mp m.sb
 refine ⟨List.Perm.trans ?_ m.perm,aC9.mpr ⟨m.so,sp.1,fun x d y c=>m.le x d y (aB3 _ (aC7 _ c))⟩,fun x d y c=>?_,m.sa,sp.2.1⟩
 ·rw [← aB4 (out ++ a) p b]
  refine List.Perm.append_right b ?_
  rw [aB4,aB4]
  exact List.Perm.append_left out List.perm_append_comm
 ·rcases aA7.mp d with d | d
  ·refine m.le x d y ?_
   rcases aA7.mp c with c | c
   ·exact aC7 _ c
   ·exact aB3 _ (aB3 _ c)
  ·rcases aA7.mp c with c | c
   ·exact h x d y c
   ·exact sp.2.2 x d y c
theorem Mid.done (m:Mid R L out a b) (h:a=[]\/b=[]):(out ++ a ++ b).Perm L/\Srt R (out ++ a ++ b):=by
 refine ⟨m.perm,?_⟩
 rw [aB4]
 refine aC9.mpr ⟨m.so,?_,m.le⟩
 rcases h with h | h
 ·subst h;exact m.sb
 ·subst h;rw [aF2];exact m.sa
theorem Mid.last (m:Mid R L out a b) (h:∀ y∈b,∀ x∈a,R x y=false):(out ++ b ++ a).Perm L/\Srt R (out ++ b ++ a):=by
 refine ⟨List.Perm.trans ?_ m.perm,?_⟩
 ·rw [aB4,aB4]
  exact List.Perm.append_left out List.perm_append_comm
 ·rw [aB4]
  refine aC9.mpr ⟨m.so,aC9.mpr ⟨m.sb,m.sa,h⟩,fun x d y c=>m.le x d y ?_⟩
  rcases aA7.mp c with c | c
  ·exact aB3 _ c
  ·exact aC7 _ c
end
structure Eqv (st st':SortSt):Prop where
 k:kindOf st'=kindOf st
 a:arrOf st'=arrOf st
 p:pendingOf st'=pendingOf st
 f:failedOf st'=failedOf st
theorem Eqv.refl (st:SortSt):Eqv st st:=⟨rfl,rfl,rfl,rfl⟩
theorem Eqv.trans {a b c:SortSt} (h:Eqv a b) (g:Eqv b c):Eqv a c:=⟨g.k.trans h.k,g.a.trans h.a,g.p.trans h.p,g.f.trans h.f⟩
theorem ag1 (a:Array Keyed) (i:Nat):(a.extract i a.size).toList=a.toList.drop i:=by
 rw [Array.toList_extract];simp only [List.extract_eq_take_drop];exact aF3 (by simp)
theorem ajf (a:Array Keyed) (i k:Nat):(a.extract i (i+k)).toList=(a.toList.drop i).take k:=by
 rw [Array.toList_extract];simp [List.extract]
theorem abm {a:Array Keyed} {i:Nat} (h:i < a.size):a.toList.drop i=a[i] :: a.toList.drop (i+1):=by
 rw [List.drop_eq_getElem_cons (by simpa using h)];simp
section
variable {M:Model} {A:Around} {E:Value->Shared->Prop} {s:Shared} {κ:SortKind} {S:Keyed->Prop} {R:Keyed->Keyed->Bool}
theorem Cmp.irr {x:Keyed} (C:Cmp M A E s κ S R) (a:S x):R x x=false:=by
 cases e:R x x with
 | false=>rfl
 | true=>have:=C.asy x x a a e;rw [e] at this;cases this
theorem agf (C:Cmp M A E s κ S R) {a:Keyed} {arr:Array Keyed} {base n g:Nat} (f:S a) (L:∀ x∈arr.toList,S x) (hn:base+n<=arr.size) (hs:Srt R ((arr.toList.drop base).take n)) (hh:g < n)
  {Q:Option Nat->SortSt->Prop} {st:SortSt} (N:kindOf st = κ)
  (h:∀ k,k<=n->(∀ x∈(arr.toList.drop base).take k,R a x=false)->(∀ x∈((arr.toList.drop base).take n).drop k,R a x=true)->Q (some k) st) :
  wpS M A E s (aje false a arr base n g) Q st:=by
 have at':∀ i,i < n->∃ x,arr[base+i]?=some x/\S x/\((arr.toList.drop base).take n)[i]?=some x:=fun i hi=>by
  have p:base+i < arr.size:=by lia
  refine ⟨arr[base+i],aA4 p,L _ (by simp),?_⟩
  rw [aH7 hi,aI5]
  simp [p]
 have m:∀ i j x y,i < j->j < n->arr[base+i]?=some x->arr[base+j]?=some y->R y x=false:=fun i j x y l q ex I=>by
  obtain ⟨X,c,_,b⟩:=at' i (by lia)
  obtain ⟨U,F,_,z⟩:=at' j q
  rw [ex] at c;cases c
  rw [I] at F;cases F
  obtain ⟨K,b⟩:=aA1.mp b
  obtain ⟨O,z⟩:=aA1.mp z
  have:=aG9.mp hs i j K O l
  rw [b,z] at this
  exact this
 refine akb (κ:=κ) (B:=fun i=>match arr[base+i]? with | some x => !(R a x) | none=>false) (fun i hi W st' r D=>?_) (fun i j l q o=>?_) hh N fun k w G H=>h k w (fun x u=>?_) fun x u=>?_
 ·obtain ⟨x,c,v,_⟩:=at' i hi
  unfold bey
  refine wpS_bind (aaw c ?_)
  rw [aF8 (by decide)]
  refine wpS_bind (C.ask _ _ f v _ _ r ?_)
  refine wpS_pure ?_
  simp only [c] at D
  exact D
 ·obtain ⟨x,c,v,_⟩:=at' i (by lia)
  obtain ⟨y,b,J,_⟩:=at' j q
  simp only [c,b] at o ⊢
  have T:=m i j x y l q c b
  have P:R a y=false:=by simpa using o
  have:=C.tr x y a v J f T P
  simp [this]
 ·obtain ⟨i,hi,e⟩:=List.getElem_of_mem u
  have d:i < k:=by rw [aH2] at hi;lia
  obtain ⟨y,c,_,b⟩:=at' i (by lia)
  have hb:=G i d
  simp only [c] at hb
  have ex:x=y:=by
   have:((arr.toList.drop base).take k)[i]?=some x:=by rw [aA0 hi,e]
   rw [aH7 d] at this
   rw [aH7 (by lia)] at b
   rw [this] at b;exact aC6 b
  subst ex
  simpa using hb
 ·obtain ⟨i,hi,e⟩:=List.getElem_of_mem u
  have d:k+i < n:=by rw [aJ1,aH2] at hi;lia
  obtain ⟨y,c,_,b⟩:=at' (k+i) d
  have hb:=H (k+i) (by lia) d
  simp only [c] at hb
  have ex:x=y:=by
   have:(((arr.toList.drop base).take n).drop k)[i]?=some x:=by rw [aA0 hi,e]
   rw [aI5] at this
   rw [this] at b;exact aC6 b
  subst ex
  simpa using hb
theorem ahn (C:Cmp M A E s κ S R) {a:Keyed} {arr:Array Keyed} {base n g:Nat} (f:S a) (L:∀ x∈arr.toList,S x) (hn:base+n<=arr.size) (hs:Srt R ((arr.toList.drop base).take n)) (hh:g < n)
  {Q:Option Nat->SortSt->Prop} {st:SortSt} (N:kindOf st = κ)
  (h:∀ k,k<=n->(∀ x∈(arr.toList.drop base).take k,R x a=true)->(∀ x∈((arr.toList.drop base).take n).drop k,R x a=false)->Q (some k) st) :
  wpS M A E s (aje true a arr base n g) Q st:=by
 have at':∀ i,i < n->∃ x,arr[base+i]?=some x/\S x/\((arr.toList.drop base).take n)[i]?=some x:=fun i hi=>by
  have p:base+i < arr.size:=by lia
  refine ⟨arr[base+i],aA4 p,L _ (by simp),?_⟩
  rw [aH7 hi,aI5]
  simp [p]
 have o:∀ i j x y,i < j->j < n->arr[base+i]?=some x->arr[base+j]?=some y->R y x=false:=fun i j x y l q ex I=>by
  obtain ⟨W,c,_,b⟩:=at' i (by lia)
  obtain ⟨T,F,_,z⟩:=at' j q
  rw [ex] at c;cases c
  rw [I] at F;cases F
  obtain ⟨K,b⟩:=aA1.mp b
  obtain ⟨O,z⟩:=aA1.mp z
  have:=aG9.mp hs i j K O l
  rw [b,z] at this
  exact this
 refine akb (κ:=κ) (B:=fun i=>match arr[base+i]? with | some x=>R x a | none=>false) (fun i hi U st' r D=>?_) (fun i j l q m=>?_) hh N fun k w G H=>h k w (fun x u=>?_) fun x u=>?_
 ·obtain ⟨x,c,v,_⟩:=at' i hi
  unfold bey
  refine wpS_bind (aaw c ?_)
  rw [aF7 rfl]
  simp only [c] at D
  exact C.ask _ _ v f _ _ r D
 ·obtain ⟨x,c,v,_⟩:=at' i (by lia)
  obtain ⟨y,b,J,_⟩:=at' j q
  simp only [c,b] at m ⊢
  have P:=o i j x y l q c b
  cases e:R x a with
  | true=>rfl
  | false =>
   have:=C.tr a x y f v J e P
   rw [this] at m;cases m
 ·obtain ⟨i,hi,e⟩:=List.getElem_of_mem u
  have d:i < k:=by rw [aH2] at hi;lia
  obtain ⟨y,c,_,b⟩:=at' i (by lia)
  have hb:=G i d
  simp only [c] at hb
  have ex:x=y:=by
   have:((arr.toList.drop base).take k)[i]?=some x:=by rw [aA0 hi,e]
   rw [aH7 d] at this
   rw [aH7 (by lia)] at b
   rw [this] at b;exact aC6 b
  subst ex
  exact hb
 ·obtain ⟨i,hi,e⟩:=List.getElem_of_mem u
  have d:k+i < n:=by rw [aJ1,aH2] at hi;lia
  obtain ⟨y,c,_,b⟩:=at' (k+i) d
  have hb:=H (k+i) (by lia) d
  simp only [c] at hb
  have ex:x=y:=by
   have:(((arr.toList.drop base).take n).drop k)[i]?=some x:=by rw [aA0 hi,e]
   rw [aI5] at this
   rw [this] at b;exact aC6 b
  subst ex
  exact hb
end
section
variable {M:Model} {A:Around} {E:Value->Shared->Prop} {s:Shared} {κ:SortKind} {S:Keyed->Prop} {R:Keyed->Keyed->Bool}
structure Two (S:Keyed->Prop) (R:Keyed->Keyed->Bool) (a b:Array Keyed):Prop where
 ha:∀ x∈a.toList,S x
 hb:∀ x∈b.toList,S x
 sa:Srt R a.toList
 sb:Srt R b.toList
 a0:0 < a.size
 b0:0 < b.size
 first:∀ x∈a.toList,∀ y,b[0]?=some y->R x y=false
 last:∀ y∈b.toList,∀ x,a[a.size - 1]?=some x->R x y=false
def Fin2 (R:Keyed->Keyed->Bool) (a b m:Array Keyed):Prop:=m.toList.Perm (a.toList ++ b.toList)/\Srt R m.toList
structure Lo (S:Keyed->Prop) (R:Keyed->Keyed->Bool) (a b out:Array Keyed) (ia ib:Nat):Prop where
 mid:Mid R (a.toList ++ b.toList) out.toList (a.toList.drop ia) (b.toList.drop ib)
 ia:ia<=a.size
 ib:ib<=b.size
theorem Lo.len {a b out:Array Keyed} {ia ib:Nat} (l:Lo S R a b out ia ib):out.size+(a.size - ia)+(b.size - ib)=a.size+b.size:=by
 have:=l.mid.perm.length_eq
 simp at this
 lia
theorem Lo.doneA {a b out:Array Keyed} {ia ib:Nat} (l:Lo S R a b out ia ib) (h:ib=b.size\/ia=a.size):Fin2 R a b (out ++ a.extract ia ++ b.extract ib):=by
 have:=l.mid.done (by
  rcases h with h | h
  ·right;rw [h];simp
  ·left;rw [h];simp)
 unfold Fin2
 rw [aG8,aG8,ag1,ag1]
 exact this
theorem asx {a:Array Keyed} {i:Nat} (h:i+1=a.size):a.toList.drop i=[a[a.size - 1]'(by lia)]:=by
 have hi:i < a.size:=by lia
 rw [abm hi]
 have:i=a.size - 1:=by lia
 subst this
 have e:a.toList.drop (a.size - 1+1)=[]:=by
  apply List.drop_eq_nil_of_le
  simp;lia
 rw [e]
theorem Lo.lastA {a b out:Array Keyed} {ia ib:Nat} (T:Two S R a b) (l:Lo S R a b out ia ib) (h:ia+1=a.size):Fin2 R a b (out ++ b.extract ib ++ a.extract ia):=by
 have:=l.mid.last (by
  intro y d x c
  rw [asx h] at c
  have ex:x=a[a.size - 1]'(by lia):=by simpa using c
  refine T.last y (aC4 d) x ?_
  rw [ex]
  exact aA4 _)
 unfold Fin2
 rw [aG8,aG8,ag1,ag1]
 exact this
theorem aet {x:Keyed} {l:List Keyed} (C:Cmp M A E s κ S R) (h:Srt R (x :: l)) (b:S x):∀ y∈x :: l,R y x=false:=by
 intro y a
 rcases aA9.mp a with e | a
 ·rw [e];exact C.irr b
 ·exact (aI8.mp h).1 y a
theorem Lo.pushB {a b out:Array Keyed} {ia ib:Nat} (C:Cmp M A E s κ S R) (T:Two S R a b) (l:Lo S R a b out ia ib) (hb:ib < b.size) (h:∀ x∈a.toList.drop ia,R x b[ib]=false):Lo S R a b (out.push b[ib]) ia (ib+1):=by
 refine ⟨?_,l.ia,hb⟩
 have m:=l.mid
 rw [abm hb] at m
 rw [Array.toList_push]
 exact m.takeB (p:=[b[ib]]) (fun x c y d=>by
  have:x=b[ib]:=by simpa using c
  rw [this];exact h y d)
theorem Lo.pushA {a b out:Array Keyed} {ia ib:Nat} (l:Lo S R a b out ia ib) (ha:ia < a.size) (h:∀ y∈b.toList.drop ib,R y a[ia]=false):Lo S R a b (out.push a[ia]) (ia+1) ib:=by
 refine ⟨?_,ha,l.ib⟩
 have m:=l.mid
 rw [abm ha] at m
 rw [Array.toList_push]
 exact m.takeA (p:=[a[ia]]) (fun x c y d=>by
  have:x=a[ia]:=by simpa using c
  rw [this];exact h y d)
theorem Lo.runA {a b out:Array Keyed} {ia ib k:Nat} (l:Lo S R a b out ia ib) (d:ia+k<=a.size) (h:∀ x∈(a.toList.drop ia).take k,∀ y∈b.toList.drop ib,R y x=false):Lo S R a b (out ++ a.extract ia (ia+k)) (ia+k) ib:=by
 refine ⟨?_,d,l.ib⟩
 have m:=l.mid
 rw [← aC1 k (a.toList.drop ia)] at m
 rw [aG8,ajf]
 have c:=m.takeA h
 rw [List.drop_drop] at c
 exact c
theorem Lo.runB {a b out:Array Keyed} {ia ib k:Nat} (l:Lo S R a b out ia ib) (d:ib+k<=b.size) (h:∀ x∈(b.toList.drop ib).take k,∀ y∈a.toList.drop ia,R y x=false):Lo S R a b (out ++ b.extract ib (ib+k)) ia (ib+k):=by
 refine ⟨?_,l.ia,d⟩
 have m:=l.mid
 rw [← aC1 k (b.toList.drop ib)] at m
 rw [aG8,ajf]
 have c:=m.takeB h
 rw [List.drop_drop] at c
 exact c
theorem acu {l:List Keyed} {i:Nat} (h:Srt R l):Srt R (l.drop i):=List.Pairwise.sublist (List.drop_sublist i l) h
theorem jpn {α β:Type} {prog : β->StateT SortSt Sem α} {P : β->Prop} {Q : α->SortSt->Prop} {st:SortSt} {G:Prop} (use:(∀ m,P m->wpS M A E s (prog m) Q st)->G) (a:∀ m,P m->wpS M A E s (prog m) Q st):G:=use a
theorem jpn2 {α:Type} {prog:Array Keyed->Nat->StateT SortSt Sem α} {P:Array Keyed->Nat->Prop} {Q : α->SortSt->Prop} {st:SortSt} {G:Prop} (use:(∀ o i,P o i->wpS M A E s (prog o i) Q st)->G) (a:∀ o i,P o i->wpS M A E s (prog o i) Q st):G:=use a
section
variable {ρ β γ δ ε ζ η:Type}
@[elab_as_elim] theorem un5 {J : β->γ->δ->ε->Prop} {G:Option ρ × β × γ × δ × ε->Prop} (z:Option ρ × β × γ × δ × ε) (h:z.1=none/\J z.2.1 z.2.2.1 z.2.2.2.1 z.2.2.2.2) (k:∀ x y u v,J x y u v->G (none,x,y,u,v)):G z:=by
 have e:z=(none,z.2.1,z.2.2.1,z.2.2.2.1,z.2.2.2.2):=by rw [← h.1]
 rw [e];exact k _ _ _ _ h.2
@[elab_as_elim] theorem un6 {J : β->γ->δ->ε->ζ->Prop} {G:Option ρ × β × γ × δ × ε × ζ->Prop} (z:Option ρ × β × γ × δ × ε × ζ) (h:z.1=none/\J z.2.1 z.2.2.1 z.2.2.2.1 z.2.2.2.2.1 z.2.2.2.2.2) (k:∀ x y u v a,J x y u v a->G (none,x,y,u,v,a)):G z:=by
 have e:z=(none,z.2.1,z.2.2.1,z.2.2.2.1,z.2.2.2.2.1,z.2.2.2.2.2):=by rw [← h.1]
 rw [e];exact k _ _ _ _ _ h.2
@[elab_as_elim] theorem un7 {J : β->γ->δ->ε->ζ->η->Prop} {G:Option ρ × β × γ × δ × ε × ζ × η->Prop} (z:Option ρ × β × γ × δ × ε × ζ × η) (h:z.1=none/\J z.2.1 z.2.2.1 z.2.2.2.1 z.2.2.2.2.1 z.2.2.2.2.2.1 z.2.2.2.2.2.2) (k:∀ x y u v a b,J x y u v a b->G (none,x,y,u,v,a,b)):G z:=by
 have e:z=(none,z.2.1,z.2.2.1,z.2.2.2.1,z.2.2.2.2.1,z.2.2.2.2.2.1,z.2.2.2.2.2.2):=by rw [← h.1]
 rw [e];exact k _ _ _ _ _ _ h.2
@[elab_as_elim] theorem unR {κ:Type} {F : ρ->Prop} {J : κ->Prop} {G:Option ρ × κ->Prop} (z:Option ρ × κ) (h:(∃ r,z.1=some r/\F r)\/(z.1=none/\J z.2)) (k1:∀ r x,F r->G (some r,x)) (a:z.1=none/\J z.2->G z):G z:=by
 rcases h with ⟨r,e,b⟩ | h
 ·have e:z=(some r,z.2):=by rw [← e]
  rw [e];exact k1 _ _ b
 ·exact a h
end
theorem aap {c:Prop} [Decidable c] {α:Type} {a b:StateT SortSt Sem α} {Q : α->SortSt->Prop} {st:SortSt} (f:c->wpS M A E s a Q st) (d:¬ c->wpS M A E s b Q st):wpS M A E s (if c then a else b) Q st:=by
 by_cases h:c
 ·rw [aF7 h];exact f h
 ·rw [aF8 h];exact d h
theorem aqy (C:Cmp M A E s κ S R) {a b:Array Keyed} (T:Two S R a b) {Q:Array Keyed->SortSt->Prop} {st:SortSt} (hk:kindOf st = κ)
  (h:∀ m st',Eqv st st'->Fin2 R a b m->Q m st'):wpS M A E s (auz a b) Q st:=by
 have N:∀ i (h:i < a.size),S a[i]:=fun i h=>T.ha _ (by simp)
 have O:∀ i (h:i < b.size),S b[i]:=fun i h=>T.hb _ (by simp)
 have b0:=T.b0
 have a0:=T.a0
 refine wpS_bind (ads ?_)
 refine wpS_bind (aaw (x:=b[0]'b0) (aA4 b0) ?_)
 have l1:Lo S R a b #[b[0]'b0] 0 1:=by
  have l0:Lo S R a b #[] 0 0:=⟨⟨by simp,List.Pairwise.nil,fun x w=>by simp at w,T.sa,T.sb⟩,aG2 _,aG2 _⟩
  exact l0.pushB C T b0 fun x w=>T.first x (by simpa using w) _ (aA4 b0)
 refine aap (fun e1=>wpS_pure (h _ _ (Eqv.refl _) (l1.doneA (.inl (aG5.mp e1))))) (fun e1=>?_)
 refine aap (fun e2=>wpS_pure (h _ _ (Eqv.refl _) (l1.lastA T (aG5.mp e2)))) (fun e2=>?_)
 replace e1:1 ≠ b.size:=fun q=>e1 (aG5.mpr q)
 replace e2:0+1 ≠ a.size:=fun q=>e2 (aG5.mpr q)
 refine wpS_bind (wpS_get ?_)
 refine wpS_bind (wpS_mono (Q:=fun (z:Option (Array Keyed) × Array Keyed × Nat × Nat × Nat) st'=>Eqv st st'/\∃ r,z.1=some r/\Fin2 R a b r) ?_ ?_)
 ·refine wpS_forRange (fun t (z:Option (Array Keyed) × Array Keyed × Nat × Nat × Nat) st'=>Eqv st st'/\z.1=none/\Lo S R a b z.2.1 z.2.2.1 z.2.2.2.1/\z.2.2.1+1 < a.size/\z.2.2.2.1 < b.size/\t+1<=z.2.1.size) ?_ ?_ ⟨Eqv.refl _,rfl,l1,by dsimp only;lia,by dsimp only;lia,by simp⟩
  ·intro t z a7 _ ht n
   have q1:=n.1
   refine un5 (J:=fun out ia ib _=>Lo S R a b out ia ib/\ia+1 < a.size/\ib < b.size/\t+1<=out.size) z n.2 fun out ia ib mg v=>?_
   dsimp only
   refine wpS_bind (wpS_mono (Q:=fun (z:Option (Array Keyed) × Array Keyed × Nat × Nat × Nat × Nat) st'=>Eqv st st'/\((∃ r,z.1=some r/\Fin2 R a b r)\/(z.1=none/\Lo S R a b z.2.1 z.2.2.1 z.2.2.2.1/\z.2.2.1+1 < a.size/\z.2.2.2.1 < b.size/\t+2<=z.2.1.size))) ?_ ?_)
   ·refine wpS_forRange (fun i (z:Option (Array Keyed) × Array Keyed × Nat × Nat × Nat × Nat) st'=>Eqv st st'/\z.1=none/\Lo S R a b z.2.1 z.2.2.1 z.2.2.2.1/\z.2.2.1+1 < a.size/\z.2.2.2.1 < b.size/\t+1+min i 1<=z.2.1.size) ?_ ?_ ⟨q1,rfl,v.1,v.2.1,v.2.2.1,v.2.2.2⟩
    ·intro i z o _ hi n
     have q:=n.1
     refine un6 (J:=fun out ia ib _ _=>Lo S R a b out ia ib/\ia+1 < a.size/\ib < b.size/\t+1+min i 1<=out.size) z n.2 fun out ia ib ac bc v=>?_
     have l:=v.1
     have H:=v.2.1
     have d:=v.2.2.1
     have hsz:=v.2.2.2
     have g:ia < a.size:=Nat.lt_of_succ_lt H
     refine wpS_bind (aaw (x:=b[ib]) (aA4 d) ?_)
     refine wpS_bind (aaw (x:=a[ia]) (aA4 g) ?_)
     refine wpS_bind (C.ask _ _ (O ib d) (N ia g) _ _ (q.k.trans hk) ?_)
     dsimp only
     refine aap (fun er=>?_) (fun er=>?_)
     ·refine wpS_bind (aaw (x:=b[ib]) (aA4 d) ?_)
      have D:Lo S R a b (out.push b[ib]) ia (ib+1):=l.pushB C T d fun x w=>by
       rw [abm g] at w
       have hd:Srt R (a[ia] :: a.toList.drop (ia+1)):=by rw [← abm g];exact acu T.sa
       have sx:S x:=T.ha x (aC4 (i:=ia) (by rw [abm g];exact w))
       exact C.tr _ _ _ (O ib d) (N ia g) sx (C.asy _ _ (O ib d) (N ia g) er) (aet C hd (N ia g) x w)
      refine aap (fun F=>wpS_pure ⟨q,.inl ⟨_,rfl,D.doneA (.inl (aG5.mp F))⟩⟩) (fun F=>?_)
      have hf:ib+1 < b.size/\t+2<=(out.push b[ib]).size:=by
       have a1:ib+1 ≠ b.size:=fun q=>F (aG5.mpr q)
       rw [aI1];lia
      refine aap (fun _=>wpS_pure ⟨q,.inr ⟨rfl,D,H,hf⟩⟩) (fun _=>wpS_pure ⟨q,rfl,D,H,hf.1,aD0 (by lia) hf.2⟩)
     ·refine wpS_bind (aaw (x:=a[ia]) (aA4 g) ?_)
      have D:Lo S R a b (out.push a[ia]) (ia+1) ib:=l.pushA g fun y I=>by
       rw [abm d] at I
       have hd:Srt R (b[ib] :: b.toList.drop (ib+1)):=by rw [← abm d];exact acu T.sb
       have sy:S y:=T.hb y (aC4 (i:=ib) (by rw [abm d];exact I))
       exact C.tr _ _ _ (N ia g) (O ib d) sy (eq_false_of_ne_true er) (aet C hd (O ib d) y I)
      refine aap (fun F=>wpS_pure ⟨q,.inl ⟨_,rfl,D.lastA T (aG5.mp F)⟩⟩) (fun F=>?_)
      have hf:ia+1+1 < a.size/\ib < b.size/\t+2<=(out.push a[ia]).size:=by
       have a1:ia+1+1 ≠ a.size:=fun q=>F (aG5.mpr q)
       rw [aI1];lia
      refine aap (fun _=>wpS_pure ⟨q,.inr ⟨rfl,D,hf⟩⟩) (fun _=>wpS_pure ⟨q,rfl,D,hf.1,d,aD0 (by lia) hf.2.2⟩)
    ·exact fun z o n=>⟨n.1,.inr ⟨n.2.1,n.2.2.1,n.2.2.2.1,n.2.2.2.2.1,aD0 (by lia) n.2.2.2.2.2⟩⟩
   ·intro z o n
    have X:=n.1
    refine unR (J:=fun y:Array Keyed × Nat × Nat × Nat × Nat=>Lo S R a b y.1 y.2.1 y.2.2.1/\y.2.1+1 < a.size/\y.2.2.1 < b.size/\t+2<=y.1.size) z n.2 (fun r x Y=>wpS_pure ⟨X,r,rfl,Y⟩) fun hN=>?_
    refine un6 (J:=fun out ia ib _ _=>Lo S R a b out ia ib/\ia+1 < a.size/\ib < b.size/\t+2<=out.size) z hN fun out ia ib ac bc v=>?_
    dsimp only
    refine wpS_bind (ads ?_)
    refine wpS_bind (wpS_mono (Q:=fun (z:Option (Array Keyed) × Array Keyed × Nat × Nat × Nat × Nat × Nat) st'=>Eqv st st'/\((∃ r,z.1=some r/\Fin2 R a b r)\/(z.1=none/\Lo S R a b z.2.1 z.2.2.1 z.2.2.2.1/\z.2.2.1+1 < a.size/\z.2.2.2.1 < b.size/\t+2<=z.2.1.size))) ?_ ?_)
    ·refine wpS_forRange (fun i (z:Option (Array Keyed) × Array Keyed × Nat × Nat × Nat × Nat × Nat) st'=>Eqv st st'/\z.1=none/\Lo S R a b z.2.1 z.2.2.1 z.2.2.2.1/\z.2.2.1+1 < a.size/\z.2.2.2.1 < b.size/\t+2<=z.2.1.size) ?_ (fun z o n=>⟨n.1,.inr n.2⟩) ⟨X,rfl,v⟩
     intro i z o _ hi n
     have q:=n.1
     refine un7 (J:=fun out ia ib _ _ _=>Lo S R a b out ia ib/\ia+1 < a.size/\ib < b.size/\t+2<=out.size) z n.2 fun out ia ib mg ac bc v=>?_
     have l:=v.1
     have H:=v.2.1
     have d:=v.2.2.1
     have hsz:=v.2.2.2
     dsimp only
     refine' jpn (M:=M) (A:=A) (E:=E) (s:=s) (st:=o) (β:=Nat) (P:=fun _=>True) (prog:=?prog) (fun U=>?use) (fun b1 _=>?pf)
     case use =>
      refine aap (fun hm=>?_) (fun hm=>?_)
      ·generalize mg - 1=m
       exact U m trivial
      ·exact U mg trivial
     refine wpS_bind (wpS_mono (Q:=fun _ L=>Eqv o L) (wpS_modify ⟨rfl,rfl,rfl,rfl⟩) fun _ L K=>?_)
     replace K:=q.trans K
     refine wpS_bind (aaw (x:=b[ib]) (aA4 d) ?_)
     refine wpS_bind (agf C (O ib d) T.ha (by lia) (by rw [aF3 (by simp)];exact acu T.sa) (by lia) (K.k.trans hk) fun k a4 h1 h2=>?_)
     rw [aF3 (by simp),List.drop_drop] at h2
     dsimp only
     refine' jpn2 (M:=M) (A:=A) (E:=E) (s:=s) (st:=L) (P:=fun j c=>Lo S R a b j c ib/\c+1 < a.size/\(∀ x∈a.toList.drop c,R x b[ib]=false)/\t+2<=j.size) (prog:=?prog2) (fun U=>?use2) (fun j c h5=>?pf2)
     case use2 =>
      have u:∀ x∈a.toList.drop (ia+k),R x b[ib]=false:=fun x w=>C.asy _ _ (O ib d) (T.ha x (aC4 w)) (h2 x w)
      refine aap (fun k0=>?_) (fun k0=>?_)
      ·have D:Lo S R a b (out ++ a.extract ia (ia+k)) (ia+k) ib:=l.runA (by lia) fun x w y I=>by
        rw [abm d] at I
        have hd:Srt R (b[ib] :: b.toList.drop (ib+1)):=by rw [← abm d];exact acu T.sb
        have sy:S y:=T.hb y (aC4 (i:=ib) (by rw [abm d];exact I))
        exact C.tr _ _ _ (T.ha x (aC4 (aC0 w))) (O ib d) sy (h1 x w) (aet C hd (O ib d) y I)
       refine aap (fun F=>wpS_pure ⟨K,.inl ⟨_,rfl,D.lastA T (aG5.mp F)⟩⟩) (fun F=>?_)
       refine aap (fun e4=>wpS_pure ⟨K,.inl ⟨_,rfl,D.doneA (.inr (aG5.mp e4))⟩⟩) (fun e4=>?_)
       have W:Lo S R a b (out ++ a.extract ia (ia+k)) (ia+k) ib/\ia+k+1 < a.size/\(∀ x∈a.toList.drop (ia+k),R x b[ib]=false)/\t+2<=(out ++ a.extract ia (ia+k)).size:=by
        have a1:ia+k+1 ≠ a.size:=fun q=>F (aG5.mpr q)
        have a6:ia+k ≠ a.size:=fun q=>e4 (aG5.mpr q)
        exact ⟨D,by lia,u,by rw [Array.size_append];lia⟩
       revert W
       clear F e4 D u
       generalize out ++ a.extract ia (ia+k)=j
       generalize ia+k=c
       intro W
       exact U j c W
      ·have:k=0:=by lia
       rw [this] at u
       exact U out ia ⟨l,H,u,hsz⟩
     have l3:=h5.1
     have Z:=h5.2.1
     have a2:=h5.2.2.1
     have a3:=h5.2.2.2
     have f:c < a.size:=Nat.lt_of_succ_lt Z
     refine wpS_bind (aaw (x:=b[ib]) (aA4 d) ?_)
     have l4:=l3.pushB C T d a2
     refine aap (fun e5=>wpS_pure ⟨K,.inl ⟨_,rfl,l4.doneA (.inl (aG5.mp e5))⟩⟩) (fun e5=>?_)
     replace e5:ib+1 ≠ b.size:=fun q=>e5 (aG5.mpr q)
     refine wpS_bind (aaw (x:=a[c]) (aA4 f) ?_)
     refine wpS_bind (ahn C (N c f) T.hb (by lia) (by rw [aF3 (by simp)];exact acu T.sb) (by lia) (K.k.trans hk) fun G a8 h3 h4=>?_)
     rw [aF3 (by simp),List.drop_drop] at h4
     dsimp only
     refine' jpn2 (M:=M) (A:=A) (E:=E) (s:=s) (st:=L) (P:=fun p B=>Lo S R a b p c B/\B < b.size/\(∀ y∈b.toList.drop B,R y a[c]=false)/\t+2<=p.size) (prog:=?prog3) (fun U=>?use3) (fun p B h6=>?pf3)
     case use3 =>
      refine aap (fun k0=>?_) (fun k0=>?_)
      ·have hd:Srt R (a[c] :: a.toList.drop (c+1)):=by rw [← abm f];exact acu T.sa
       have l5:Lo S R a b (j.push b[ib] ++ b.extract (ib+1) (ib+1+G)) c (ib+1+G):=l4.runB (by lia) fun x w y I=>by
        rw [abm f] at I
        have sy:S y:=T.ha y (aC4 (i:=c) (by rw [abm f];exact I))
        have sx:S x:=T.hb x (aC4 (aC0 w))
        exact C.tr _ _ _ sx (N c f) sy (C.asy _ _ sx (N c f) (h3 x w)) (aet C hd (N c f) y I)
       refine aap (fun e6=>wpS_pure ⟨K,.inl ⟨_,rfl,l5.doneA (.inl (aG5.mp e6))⟩⟩) (fun e6=>?_)
       have W:Lo S R a b (j.push b[ib] ++ b.extract (ib+1) (ib+1+G)) c (ib+1+G)/\ib+1+G < b.size/\(∀ y∈b.toList.drop (ib+1+G),R y a[c]=false)/\t+2<=(j.push b[ib] ++ b.extract (ib+1) (ib+1+G)).size:=by
        have a5:ib+1+G ≠ b.size:=fun q=>e6 (aG5.mpr q)
        exact ⟨l5,by lia,h4,by rw [Array.size_append,aI1];lia⟩
       revert W
       clear e6 l5 hd
       generalize j.push b[ib] ++ b.extract (ib+1) (ib+1+G)=p
       generalize ib+1+G=B
       intro W
       exact U p B W
      ·have:G=0:=by lia
       rw [this] at h4
       exact U (j.push b[ib]) (ib+1) ⟨l4,by lia,h4,by rw [aI1];lia⟩
     refine wpS_bind (aaw (x:=a[c]) (aA4 f) ?_)
     have l7:=h6.1.pushA f h6.2.2.1
     refine aap (fun e7=>wpS_pure ⟨K,.inl ⟨_,rfl,l7.lastA T (aG5.mp e7)⟩⟩) (fun e7=>?_)
     have hf:c+1+1 < a.size/\B < b.size/\t+2<=(p.push a[c]).size:=by
      have a9:c+1+1 ≠ a.size:=fun q=>e7 (aG5.mpr q)
      have h7:=h6.2.2.2
      exact ⟨by lia,h6.2.1,by rw [aI1];lia⟩
     exact aap (fun _=>wpS_pure ⟨K,.inr ⟨rfl,l7,hf⟩⟩) (fun _=>wpS_pure ⟨K,rfl,l7,hf⟩)
    ·intro z o n
     have X:=n.1
     refine unR (J:=fun y:Array Keyed × Nat × Nat × Nat × Nat × Nat=>Lo S R a b y.1 y.2.1 y.2.2.1/\y.2.1+1 < a.size/\y.2.2.1 < b.size/\t+2<=y.1.size) z n.2 (fun r x Y=>wpS_pure ⟨X,r,rfl,Y⟩) fun hN=>?_
     refine un7 (J:=fun out ia ib _ _ _=>Lo S R a b out ia ib/\ia+1 < a.size/\ib < b.size/\t+2<=out.size) z hN fun out ia ib mg ac bc v=>?_
     dsimp only
     refine wpS_bind (wpS_modify ?_)
     exact wpS_pure ⟨X.trans ⟨rfl,rfl,rfl,rfl⟩,rfl,v⟩
  ·intro z o n
   exfalso
   have h1:=n.2.2.1.len
   have h2:=n.2.2.2
   have:a.size+b.size<=max 0 (a.size+b.size):=by lia
   lia
 ·intro z o n
  have X:=n.1
  exact unR (J:=fun _=>False) z (.inl n.2) (fun r x Y=>wpS_pure (h r o X Y)) fun hN=>hN.2.elim
end
structure MidH (R:Keyed->Keyed->Bool) (L a b tl:List Keyed):Prop where
 perm:(a ++ b ++ tl).Perm L
 so:Srt R tl
 le:∀ x∈a ++ b,∀ y∈tl,R y x=false
 sa:Srt R a
 sb:Srt R b
section
variable {R:Keyed->Keyed->Bool} {L tl a b p:List Keyed}
theorem MidH.takeA (m:MidH R L (a ++ p) b tl) (h:∀ x∈b,∀ y∈p,R y x=false):MidH R L a b (p ++ tl):=by
 have sp:=aC9.mp m.sa
 refine ⟨List.Perm.trans ?_ m.perm,aC9.mpr ⟨sp.2.1,m.so,fun x c y d=>m.le x (aC7 _ (aB3 _ c)) y d⟩,fun x c y d=>?_,sp.1,m.sb⟩
 ·rw [← aB4,aB4 a p b,aB4 a b p]
  exact List.Perm.append_right tl (List.Perm.append_left a List.perm_append_comm)
 ·rcases aA7.mp d with d | d
  ·rcases aA7.mp c with c | c
   ·exact sp.2.2 x c y d
   ·exact h x c y d
  ·refine m.le x ?_ y d
   rcases aA7.mp c with c | c
   ·exact aC7 _ (aC7 _ c)
   ·exact aB3 _ c
theorem MidH.takeB (m:MidH R L a (b ++ p) tl) (h:∀ x∈a,∀ y∈p,R y x=false):MidH R L a b (p ++ tl):=by
 have sp:=aC9.mp m.sb
 refine ⟨by have:=m.perm;simp only [aB4] at this ⊢;exact this,aC9.mpr ⟨sp.2.1,m.so,fun x c y d=>m.le x (aB3 _ (aB3 _ c)) y d⟩,fun x c y d=>?_,m.sa,sp.1⟩
 rcases aA7.mp d with d | d
 ·rcases aA7.mp c with c | c
  ·exact h x c y d
  ·exact sp.2.2 x c y d
 ·refine m.le x ?_ y d
  rcases aA7.mp c with c | c
  ·exact aC7 _ c
  ·exact aB3 _ (aC7 _ c)
theorem MidH.done (m:MidH R L a b tl) (h:a=[]\/b=[]):(a ++ b ++ tl).Perm L/\Srt R (a ++ b ++ tl):=by
 refine ⟨m.perm,aC9.mpr ⟨?_,m.so,m.le⟩⟩
 rcases h with h | h
 ·subst h;exact m.sb
 ·subst h;rw [aF2];exact m.sa
theorem MidH.first (m:MidH R L a b tl) (h:∀ y∈b,∀ x∈a,R x y=false):(b ++ a ++ tl).Perm L/\Srt R (b ++ a ++ tl):=by
 refine ⟨List.Perm.trans (List.Perm.append_right tl List.perm_append_comm) m.perm,aC9.mpr ⟨aC9.mpr ⟨m.sb,m.sa,h⟩,m.so,fun x c y d=>m.le x ?_ y d⟩⟩
 rcases aA7.mp c with c | c
 ·exact aB3 _ c
 ·exact aC7 _ c
end
theorem aci {a:Array Keyed} {i:Nat} (c:0 < i) (h:i<=a.size):a.toList.take i=a.toList.take (i - 1) ++ [a[i - 1]'(by lia)]:=by
 obtain ⟨j,rfl⟩:∃ j,i=j+1:=⟨i - 1,by lia⟩
 rw [List.take_succ]
 have b:j < a.size:=by lia
 simp [b]
theorem alo (a:Array Keyed) (k:Nat):(a.extract 0 k).toList=a.toList.take k:=by
 rw [Array.toList_extract];simp [List.extract]
theorem ami (a:Array Keyed) (k n:Nat):(a.extract k n).toList=(a.toList.take n).drop k:=by
 rw [Array.toList_extract];simp [List.extract,List.drop_take]
section
variable {M:Model} {A:Around} {E:Value->Shared->Prop} {s:Shared} {κ:SortKind} {S:Keyed->Prop} {R:Keyed->Keyed->Bool}
structure Hi (S:Keyed->Prop) (R:Keyed->Keyed->Bool) (a b out:Array Keyed) (na nb:Nat):Prop where
 mid:MidH R (a.toList ++ b.toList) (a.toList.take na) (b.toList.take nb) out.toList.reverse
 na:na<=a.size
 nb:nb<=b.size
theorem Hi.len {a b out:Array Keyed} {na nb:Nat} (l:Hi S R a b out na nb):out.size+na+nb=a.size+b.size:=by
 have:=l.mid.perm.length_eq
 have d:=l.na
 have c:=l.nb
 simp at this
 lia
theorem Hi.doneA {a b out:Array Keyed} {na nb:Nat} (l:Hi S R a b out na nb) (h:na=0\/nb=0):Fin2 R a b (a.extract 0 na ++ b.extract 0 nb ++ out.reverse):=by
 have:=l.mid.done (by
  rcases h with h | h
  ·left;rw [h];simp
  ·right;rw [h];simp)
 unfold Fin2
 rw [aG8,aG8,alo,alo,Array.toList_reverse]
 exact this
theorem Hi.firstB {a b out:Array Keyed} {na nb:Nat} (T:Two S R a b) (l:Hi S R a b out na nb) (h:nb=1):Fin2 R a b (b.extract 0 nb ++ a.extract 0 na ++ out.reverse):=by
 subst h
 have:=l.mid.first (by
  intro y c x d
  rw [aci (by decide) l.nb] at c
  have f:y=b[0]'T.b0:=by simpa using c
  exact T.first x (aC0 d) y (by rw [f];exact aA4 _))
 unfold Fin2
 rw [aG8,aG8,alo,alo,Array.toList_reverse]
 exact this
theorem aca {l:List Keyed} {i:Nat} (h:Srt R l):Srt R (l.take i):=List.Pairwise.sublist (List.take_sublist i l) h
theorem ad8 {x:Keyed} {l:List Keyed} (C:Cmp M A E s κ S R) (h:Srt R (l ++ [x])) (b:S x):∀ y∈l ++ [x],R x y=false:=by
 intro y a
 rcases aA7.mp a with a | a
 ·exact (aC9.mp h).2.2 y a x (by simp)
 ·have:y=x:=by simpa using a
  rw [this];exact C.irr b
theorem Hi.pushA {a b out:Array Keyed} {na nb:Nat} (l:Hi S R a b out na nb) (f:0 < na) (h:∀ x∈b.toList.take nb,R (a[na - 1]'(by have:=l.na;lia)) x=false):Hi S R a b (out.push (a[na - 1]'(by have:=l.na;lia))) (na - 1) nb:=by
 refine ⟨?_,by have:=l.na;lia,l.nb⟩
 have m:=l.mid
 rw [aci f l.na] at m
 rw [Array.toList_push,List.reverse_append]
 exact m.takeA (p:=[_]) (fun x c y d=>by
  rw [aC2.mp d];exact h x c)
theorem Hi.pushB {a b out:Array Keyed} {na nb:Nat} (l:Hi S R a b out na nb) (f:0 < nb) (h:∀ x∈a.toList.take na,R (b[nb - 1]'(by have:=l.nb;lia)) x=false):Hi S R a b (out.push (b[nb - 1]'(by have:=l.nb;lia))) na (nb - 1):=by
 refine ⟨?_,l.na,by have:=l.nb;lia⟩
 have m:=l.mid
 rw [aci f l.nb] at m
 rw [Array.toList_push,List.reverse_append]
 exact m.takeB (p:=[_]) (fun x c y d=>by
  rw [aC2.mp d];exact h x c)
theorem Hi.runA {a b out:Array Keyed} {na nb k:Nat} (l:Hi S R a b out na nb) (d:k<=na) (h:∀ x∈b.toList.take nb,∀ y∈(a.toList.take na).drop k,R y x=false):Hi S R a b (out ++ (a.extract k na).reverse) k nb:=by
 refine ⟨?_,by have:=l.na;lia,l.nb⟩
 have m:=l.mid
 rw [← aC1 k (a.toList.take na)] at m
 rw [aG8,Array.toList_reverse,ami,List.reverse_append,List.reverse_reverse]
 have c:=m.takeA h
 rw [List.take_take,Nat.min_eq_left d] at c
 exact c
theorem Hi.runB {a b out:Array Keyed} {na nb k:Nat} (l:Hi S R a b out na nb) (d:k<=nb) (h:∀ x∈a.toList.take na,∀ y∈(b.toList.take nb).drop k,R y x=false):Hi S R a b (out ++ (b.extract k nb).reverse) na k:=by
 refine ⟨?_,l.na,by have:=l.nb;lia⟩
 have m:=l.mid
 rw [← aC1 k (b.toList.take nb)] at m
 rw [aG8,Array.toList_reverse,ami,List.reverse_append,List.reverse_reverse]
 have c:=m.takeB h
 rw [List.take_take,Nat.min_eq_left d] at c
 exact c
theorem aqz (C:Cmp M A E s κ S R) {a b:Array Keyed} (T:Two S R a b) {Q:Array Keyed->SortSt->Prop} {st:SortSt} (hk:kindOf st = κ)
  (h:∀ m st',Eqv st st'->Fin2 R a b m->Q m st'):wpS M A E s (au0 a b) Q st:=by
 have K:∀ i (h:i < a.size),S a[i]:=fun i h=>T.ha _ (by simp)
 have L:∀ i (h:i < b.size),S b[i]:=fun i h=>T.hb _ (by simp)
 have b0:=T.b0
 have a0:=T.a0
 have la:a.size - 1 < a.size:=by lia
 refine wpS_bind (ads ?_)
 refine wpS_bind (aaw (x:=a[a.size - 1]'la) (aA4 la) ?_)
 have l1:Hi S R a b #[a[a.size - 1]'la] (a.size - 1) b.size:=by
  have l0:Hi S R a b #[] a.size b.size:=⟨⟨by simp [aF3],List.Pairwise.nil,fun x g y hy=>by simp at hy,aca T.sa,aca T.sb⟩,aA6 _,aA6 _⟩
  exact l0.pushA a0 fun x g=>T.last x (aC0 g) _ (aA4 la)
 refine aap (fun e1=>wpS_pure (h _ _ (Eqv.refl _) (l1.doneA (.inl (aG5.mp e1))))) (fun e1=>?_)
 refine aap (fun e2=>wpS_pure (h _ _ (Eqv.refl _) (l1.firstB T (aG5.mp e2)))) (fun e2=>?_)
 replace e1:a.size - 1 ≠ 0:=fun q=>e1 (aG5.mpr q)
 replace e2:b.size ≠ 1:=fun q=>e2 (aG5.mpr q)
 refine wpS_bind (wpS_get ?_)
 have a5:∀ {na nb:Nat} (H:0 < na) (N:na<=a.size) (X:0 < nb) (U:nb<=b.size),R (b[nb - 1]'(by lia)) (a[na - 1]'(by lia))=true->∀ x∈b.toList.take nb,R (a[na - 1]'(by lia)) x=false:=fun {na nb} H N X U er x g=>by
  have sx:S x:=T.hb x (aC0 g)
  have hs:Srt R (b.toList.take (nb - 1) ++ [b[nb - 1]'(by lia)]):=by rw [← aci X U];exact aca T.sb
  rw [aci X U] at g
  exact C.tr _ _ _ sx (L _ _) (K _ _) (ad8 C hs (L _ _) x g) (C.asy _ _ (L _ _) (K _ _) er)
 have a4:∀ {na nb:Nat} (H:0 < na) (N:na<=a.size) (X:0 < nb) (U:nb<=b.size),R (b[nb - 1]'(by lia)) (a[na - 1]'(by lia))=false->∀ x∈a.toList.take na,R (b[nb - 1]'(by lia)) x=false:=fun {na nb} H N X U er x g=>by
  have sx:S x:=T.ha x (aC0 g)
  have hs:Srt R (a.toList.take (na - 1) ++ [a[na - 1]'(by lia)]):=by rw [← aci H N];exact aca T.sa
  rw [aci H N] at g
  exact C.tr _ _ _ sx (K _ _) (L _ _) (ad8 C hs (K _ _) x g) er
 refine wpS_bind (wpS_mono (Q:=fun (z:Option (Array Keyed) × Nat × Nat × Array Keyed × Nat) st'=>Eqv st st'/\∃ r,z.1=some r/\Fin2 R a b r) ?_ ?_)
 ·refine wpS_forRange (fun t (z:Option (Array Keyed) × Nat × Nat × Array Keyed × Nat) st'=>Eqv st st'/\z.1=none/\Hi S R a b z.2.2.2.1 z.2.1 z.2.2.1/\0 < z.2.1/\1 < z.2.2.1/\t+1<=z.2.2.2.1.size) ?_ ?_ ⟨Eqv.refl _,rfl,l1,by dsimp only;lia,by dsimp only;lia,by simp⟩
  ·intro t z b6 _ ht f
   have q1:=f.1
   refine un5 (J:=fun na nb out _=>Hi S R a b out na nb/\0 < na/\1 < nb/\t+1<=out.size) z f.2 fun na nb out mg o=>?_
   dsimp only
   refine wpS_bind (wpS_mono (Q:=fun (z:Option (Array Keyed) × Nat × Nat × Array Keyed × Nat × Nat) st'=>Eqv st st'/\((∃ r,z.1=some r/\Fin2 R a b r)\/(z.1=none/\Hi S R a b z.2.2.2.1 z.2.1 z.2.2.1/\0 < z.2.1/\1 < z.2.2.1/\t+2<=z.2.2.2.1.size))) ?_ ?_)
   ·refine wpS_forRange (fun i (z:Option (Array Keyed) × Nat × Nat × Array Keyed × Nat × Nat) st'=>Eqv st st'/\z.1=none/\Hi S R a b z.2.2.2.1 z.2.1 z.2.2.1/\0 < z.2.1/\1 < z.2.2.1/\t+1+min i 1<=z.2.2.2.1.size) ?_ ?_ ⟨q1,rfl,o.1,o.2.1,o.2.2.1,o.2.2.2⟩
    ·intro i z j _ hi f
     have q:=f.1
     refine un6 (J:=fun na nb out _ _=>Hi S R a b out na nb/\0 < na/\1 < nb/\t+1+min i 1<=out.size) z f.2 fun na nb out ac bc o=>?_
     have l:=o.1
     have p:=o.2.1
     have a2:=o.2.2.1
     have hsz:=o.2.2.2
     have ia:na - 1 < a.size:=by have:=l.na;lia
     have ib:nb - 1 < b.size:=by have:=l.nb;lia
     refine wpS_bind (aaw (x:=b[nb - 1]) (aA4 ib) ?_)
     refine wpS_bind (aaw (x:=a[na - 1]) (aA4 ia) ?_)
     refine wpS_bind (C.ask _ _ (L _ ib) (K _ ia) _ _ (q.k.trans hk) ?_)
     dsimp only
     refine aap (fun er=>?_) (fun er=>?_)
     ·refine wpS_bind (aaw (x:=a[na - 1]) (aA4 ia) ?_)
      have D:=l.pushA p (a5 p l.na (by lia) l.nb er)
      refine aap (fun w=>wpS_pure ⟨q,.inl ⟨_,rfl,D.doneA (.inl (aG5.mp w))⟩⟩) (fun w=>?_)
      have hf:0 < na - 1/\1 < nb/\t+2<=(out.push a[na - 1]).size:=by
       have a3:na - 1 ≠ 0:=fun q=>w (aG5.mpr q)
       rw [aI1];lia
      exact aap (fun _=>wpS_pure ⟨q,.inr ⟨rfl,D,hf⟩⟩) (fun _=>wpS_pure ⟨q,rfl,D,hf.1,a2,aD0 (by lia) hf.2.2⟩)
     ·refine wpS_bind (aaw (x:=b[nb - 1]) (aA4 ib) ?_)
      have D:=l.pushB (by lia) (a4 p l.na (by lia) l.nb (eq_false_of_ne_true er))
      refine aap (fun w=>wpS_pure ⟨q,.inl ⟨_,rfl,D.firstB T (aG5.mp w)⟩⟩) (fun w=>?_)
      have hf:1 < nb - 1/\t+2<=(out.push b[nb - 1]).size:=by
       have a3:nb - 1 ≠ 1:=fun q=>w (aG5.mpr q)
       rw [aI1];lia
      exact aap (fun _=>wpS_pure ⟨q,.inr ⟨rfl,D,p,hf⟩⟩) (fun _=>wpS_pure ⟨q,rfl,D,p,hf.1,aD0 (by lia) hf.2⟩)
    ·exact fun z j f=>⟨f.1,.inr ⟨f.2.1,f.2.2.1,f.2.2.2.1,f.2.2.2.2.1,aD0 (by lia) f.2.2.2.2.2⟩⟩
   ·intro z j f
    have q2:=f.1
    refine unR (J:=fun y:Nat × Nat × Array Keyed × Nat × Nat=>Hi S R a b y.2.2.1 y.1 y.2.1/\0 < y.1/\1 < y.2.1/\t+2<=y.2.2.1.size) z f.2 (fun r x hr=>wpS_pure ⟨q2,r,rfl,hr⟩) fun hN=>?_
    refine un6 (J:=fun na nb out _ _=>Hi S R a b out na nb/\0 < na/\1 < nb/\t+2<=out.size) z hN fun na nb out ac bc o=>?_
    dsimp only
    refine wpS_bind (ads ?_)
    refine wpS_bind (wpS_mono (Q:=fun (z:Option (Array Keyed) × Nat × Nat × Array Keyed × Nat × Nat × Nat) st'=>Eqv st st'/\((∃ r,z.1=some r/\Fin2 R a b r)\/(z.1=none/\Hi S R a b z.2.2.2.1 z.2.1 z.2.2.1/\0 < z.2.1/\1 < z.2.2.1/\t+2<=z.2.2.2.1.size))) ?_ ?_)
    ·refine wpS_forRange (fun i (z:Option (Array Keyed) × Nat × Nat × Array Keyed × Nat × Nat × Nat) st'=>Eqv st st'/\z.1=none/\Hi S R a b z.2.2.2.1 z.2.1 z.2.2.1/\0 < z.2.1/\1 < z.2.2.1/\t+2<=z.2.2.2.1.size) ?_ (fun z j f=>⟨f.1,.inr f.2⟩) ⟨q2,rfl,o⟩
     intro i z j _ hi f
     have q:=f.1
     refine un7 (J:=fun na nb out _ _ _=>Hi S R a b out na nb/\0 < na/\1 < nb/\t+2<=out.size) z f.2 fun na nb out mg ac bc o=>?_
     have l:=o.1
     have p:=o.2.1
     have a2:=o.2.2.1
     have hsz:=o.2.2.2
     have b3:=l.na
     have O:=l.nb
     have ib:nb - 1 < b.size:=by lia
     dsimp only
     refine' jpn (M:=M) (A:=A) (E:=E) (s:=s) (st:=j) (β:=Nat) (P:=fun _=>True) (prog:=?prog) (fun Y=>?use) (fun b7 _=>?pf)
     case use =>
      refine aap (fun hm=>?_) (fun hm=>?_)
      ·generalize mg - 1=m
       exact Y m trivial
      ·exact Y mg trivial
     refine wpS_bind (wpS_mono (Q:=fun _ I=>Eqv j I) (wpS_modify ⟨rfl,rfl,rfl,rfl⟩) fun _ I G=>?_)
     replace G:=q.trans G
     refine wpS_bind (aaw (x:=b[nb - 1]) (aA4 ib) ?_)
     refine wpS_bind (agf C (L _ ib) T.ha (by lia) (by rw [List.drop_zero];exact aca T.sa) (by lia) (G.k.trans hk) fun k a6 H N=>?_)
     rw [List.drop_zero] at H N
     dsimp only
     generalize hac:na - k=ac2
     refine' jpn2 (M:=M) (A:=A) (E:=E) (s:=s) (st:=I) (P:=fun d c=>Hi S R a b d c nb/\0 < c/\(∀ x∈a.toList.take c,R b[nb - 1] x=false)/\t+2<=d.size) (prog:=?prog2) (fun Y=>?use2) (fun d c h5=>?pf2)
     case use2 =>
      refine aap (fun k0=>?_) (fun k0=>?_)
      ·have a7:Srt R (b.toList.take (nb - 1) ++ [b[nb - 1]]):=by rw [← aci (by lia) O];exact aca T.sb
       have D:Hi S R a b (out ++ (a.extract k na).reverse) k nb:=l.runA a6 fun x g y hy=>by
        have sx:S x:=T.hb x (aC0 g)
        have sy:S y:=T.ha y (aC0 (aC4 hy))
        rw [aci (by lia) O] at g
        exact C.tr _ _ _ sx (L _ ib) sy (ad8 C a7 (L _ ib) x g) (C.asy _ _ (L _ ib) sy (N y hy))
       refine aap (fun w=>wpS_pure ⟨G,.inl ⟨_,rfl,D.doneA (.inl (aG5.mp w))⟩⟩) (fun w=>?_)
       have Z:Hi S R a b (out ++ (a.extract k na).reverse) k nb/\0 < k/\(∀ x∈a.toList.take k,R b[nb - 1] x=false)/\t+2<=(out ++ (a.extract k na).reverse).size:=by
        have a3:k ≠ 0:=fun q=>w (aG5.mpr q)
        exact ⟨D,by lia,H,by rw [Array.size_append];lia⟩
       revert Z
       clear w D
       generalize out ++ (a.extract k na).reverse=d
       generalize k=c
       intro Z
       exact Y d c Z
      ·have:k=na:=by lia
       rw [this] at H
       exact Y out na ⟨l,p,H,hsz⟩
     have l3:=h5.1
     have F:=h5.2.1
     have b1:=h5.2.2.1
     have b4:=h5.2.2.2
     have B:=l3.na
     have ia:c - 1 < a.size:=by lia
     refine wpS_bind (aaw (x:=b[nb - 1]) (aA4 ib) ?_)
     have l4:=l3.pushB (by lia) b1
     refine aap (fun e5=>wpS_pure ⟨G,.inl ⟨_,rfl,l4.firstB T (aG5.mp e5)⟩⟩) (fun e5=>?_)
     replace e5:nb - 1 ≠ 1:=fun q=>e5 (aG5.mpr q)
     refine wpS_bind (aaw (x:=a[c - 1]) (aA4 ia) ?_)
     refine wpS_bind (ahn C (K _ ia) T.hb (by lia) (by rw [List.drop_zero];exact aca T.sb) (by lia) (G.k.trans hk) fun v a9 X U=>?_)
     rw [List.drop_zero] at X U
     dsimp only
     generalize hbc:nb - 1 - v=bc2
     refine' jpn2 (M:=M) (A:=A) (E:=E) (s:=s) (st:=I) (P:=fun n u=>Hi S R a b n c u/\1 < u/\(∀ x∈b.toList.take u,R a[c - 1] x=false)/\t+2<=n.size) (prog:=?prog3) (fun Y=>?use3) (fun n u h6=>?pf3)
     case use3 =>
      have a1:∀ x∈b.toList.take v,R a[c - 1] x=false:=fun x g=>C.asy _ _ (T.hb x (aC0 g)) (K _ ia) (X x g)
      refine aap (fun k0=>?_) (fun k0=>?_)
      ·have a8:Srt R (a.toList.take (c - 1) ++ [a[c - 1]]):=by rw [← aci F B];exact aca T.sa
       have l5:Hi S R a b (d.push b[nb - 1] ++ (b.extract v (nb - 1)).reverse) c v:=l4.runB a9 fun x g y hy=>by
        have sx:S x:=T.ha x (aC0 g)
        have sy:S y:=T.hb y (aC0 (aC4 hy))
        rw [aci F B] at g
        exact C.tr _ _ _ sx (K _ ia) sy (ad8 C a8 (K _ ia) x g) (U y hy)
       refine aap (fun e6=>wpS_pure ⟨G,.inl ⟨_,rfl,l5.firstB T (aG5.mp e6)⟩⟩) (fun e6=>?_)
       refine aap (fun W=>wpS_pure ⟨G,.inl ⟨_,rfl,l5.doneA (.inr (aG5.mp W))⟩⟩) (fun W=>?_)
       have Z:Hi S R a b (d.push b[nb - 1] ++ (b.extract v (nb - 1)).reverse) c v/\1 < v/\(∀ x∈b.toList.take v,R a[c - 1] x=false)/\t+2<=(d.push b[nb - 1] ++ (b.extract v (nb - 1)).reverse).size:=by
        have b5:v ≠ 1:=fun q=>e6 (aG5.mpr q)
        have b2:v ≠ 0:=fun q=>W (aG5.mpr q)
        exact ⟨l5,by lia,a1,by rw [Array.size_append,aI1];lia⟩
       revert Z
       clear e6 W l5
       generalize d.push b[nb - 1] ++ (b.extract v (nb - 1)).reverse=n
       generalize v=u
       intro Z
       exact Y n u Z
      ·have:v=nb - 1:=by lia
       rw [this] at a1
       exact Y (d.push b[nb - 1]) (nb - 1) ⟨l4,by lia,a1,by rw [aI1];lia⟩
     refine wpS_bind (aaw (x:=a[c - 1]) (aA4 ia) ?_)
     have l7:=h6.1.pushA F h6.2.2.1
     refine aap (fun W=>wpS_pure ⟨G,.inl ⟨_,rfl,l7.doneA (.inl (aG5.mp W))⟩⟩) (fun W=>?_)
     have hf:0 < c - 1/\1 < u/\t+2<=(n.push a[c - 1]).size:=by
      have b2:c - 1 ≠ 0:=fun q=>W (aG5.mpr q)
      have h7:=h6.2.2.2
      exact ⟨by lia,h6.2.1,by rw [aI1];lia⟩
     exact aap (fun _=>wpS_pure ⟨G,.inr ⟨rfl,l7,hf⟩⟩) (fun _=>wpS_pure ⟨G,rfl,l7,hf⟩)
    ·intro z j f
     have q2:=f.1
     refine unR (J:=fun y:Nat × Nat × Array Keyed × Nat × Nat × Nat=>Hi S R a b y.2.2.1 y.1 y.2.1/\0 < y.1/\1 < y.2.1/\t+2<=y.2.2.1.size) z f.2 (fun r x hr=>wpS_pure ⟨q2,r,rfl,hr⟩) fun hN=>?_
     refine un7 (J:=fun na nb out _ _ _=>Hi S R a b out na nb/\0 < na/\1 < nb/\t+2<=out.size) z hN fun na nb out mg ac bc o=>?_
     dsimp only
     refine wpS_bind (wpS_modify ?_)
     exact wpS_pure ⟨q2.trans ⟨rfl,rfl,rfl,rfl⟩,rfl,o⟩
  ·intro z j f
   exfalso
   have H:=f.2.2.1.len
   have N:=f.2.2.2
   have:a.size+b.size<=max 0 (a.size+b.size):=by lia
   lia
 ·intro z j f
  have q2:=f.1
  exact unR (J:=fun _=>False) z (.inl f.2) (fun r x hr=>wpS_pure (h r j q2 hr)) fun hN=>hN.2.elim
end
theorem akc (base:Nat):∀ (b v u w:List Keyed) (j:Nat) (xs:Array Keyed),xs.toList=u ++ v ++ w->v.length=b.length->u.length=base+j ->
  ((b.zipIdx j).foldl (fun a x=>match x with | (p,j)=>a.setIfInBounds (base+j) p) xs).toList=u ++ b ++ w
 | [],v,u,w,j,xs,h1,h2,h3=>by
  have:v=[]:=aH4 h2
  subst this
  exact h1
 | m :: b,v,u,w,j,xs,h1,h2,h3=>by
  cases v with
  | nil=>cases h2
  | cons y v =>
   rw [List.zipIdx_cons,List.foldl_cons]
   have c:=akc base b v (u ++ [m]) w (j+1) (xs.setIfInBounds (base+j) m) (by
    rw [Array.toList_setIfInBounds,h1,← h3]
    simp [List.set_append]) (by simpa using h2) (by simp [h3];lia)
   rw [c]
   simp
section
variable {M:Model} {A:Around} {E:Value->Shared->Prop} {s:Shared} {κ:SortKind} {S:Keyed->Prop} {R:Keyed->Keyed->Bool}
theorem axt {σ:Type} {st st' : σ} {Q:PUnit->σ->Prop} (h:Q ⟨⟩ st'):wpS M A E s (set st':StateT σ Sem PUnit) Q st:=by
 unfold wpS
 rw [StateT.run_set]
 exact aJ4 ⟨rfl,h⟩
theorem aq0 (C:Cmp M A E s κ S R) {st:SortSt} {i pw pw2:Nat} {pre a b g:List Keyed} (F:(arrOf st).toList=pre ++ a ++ b ++ g) (hS:∀ x∈(arrOf st).toList,S x)
  (a8:(pendingOf st)[i]?=some (pre.length,a.length,pw)) (a7:(pendingOf st)[i+1]?=some (pre.length+a.length,b.length,pw2)) (na:a ≠ []) (nb:b ≠ []) (U:Srt R a) (N:Srt R b) (hk:kindOf st = κ) (hf:failedOf st=none)
  {Q:Bool->SortSt->Prop}
  (h:∀ st' m,kindOf st' = κ->failedOf st'=none->pendingOf st'=((pendingOf st).setIfInBounds i (pre.length,a.length+b.length,pw)).eraseIdxIfInBounds (i+1)->(arrOf st').toList=pre ++ m ++ g->m.Perm (a ++ b)->Srt R m->Q true st') :
  wpS M A E s (amh i) Q st:=by
 have la:0 < a.length:=aG1.mpr na
 have lb:0 < b.length:=aG1.mpr nb
 have I:∀ x∈a,S x:=fun x c=>hS x (by rw [F];simp [c])
 have P:∀ x∈b,S x:=fun x c=>hS x (by rw [F];simp [c])
 have lx:(arrOf st).size=pre.length+a.length+b.length+g.length:=by
  have:=congrArg List.length F
  simp at this
  lia
 have w:((arrOf st).toList.drop pre.length).take a.length=a:=by rw [F];simp [aB4]
 have D:((arrOf st).toList.drop (pre.length+a.length)).take b.length=b:=by
  rw [show pre.length+a.length=(pre ++ a).length by simp,F,aB4 (pre ++ a),List.drop_left,List.take_left]
 refine wpS_bind (wpS_get ?_)
 rw [a8,a7]
 refine wpS_bind (wpS_mono (Q:=fun _ o=>kindOf o = κ/\failedOf o=none/\arrOf o=arrOf st/\pendingOf o=((pendingOf st).setIfInBounds i (pre.length,a.length+b.length,pw)).eraseIdxIfInBounds (i+1)) (axt ⟨hk,hf,rfl,rfl⟩) fun _ o ⟨k1,f1,a1,p1⟩=>?_)
 obtain ⟨b0,bt,eb⟩:∃ b0 bt,b=b0 :: bt:=by cases b with | nil=>exact absurd rfl nb | cons x r=>exact ⟨x,r,rfl⟩
 have a5:(arrOf st)[pre.length+a.length]?=some b0:=by
  rw [← aD6,F,eb]
  simp [List.getElem?_append]
 have v:S b0:=P b0 (by rw [eb];simp)
 have B:∀ y∈b,R y b0=false:=fun y d=>by rw [eb] at d N;exact aet C N v y d
 -- nothing is laid together: the two stand in order already
 have plain:(∀ x∈a,∀ y∈b,R y x=false)->∀ st',Eqv o st'->Q true st':=fun hc st' q=>by
  refine h st' (a ++ b) (q.k.trans k1) (q.f.trans f1) (q.p.trans p1) ?_ (List.Perm.refl _) (aC9.mpr ⟨U,N,hc⟩)
  rw [q.a,a1,F]
  simp [aB4]
 refine wpS_bind (aaw a5 ?_)
 refine wpS_bind (agf C v hS (by lia) (by rw [w];exact U) la k1 fun k a2 h1 h2=>?_)
 rw [w] at h2
 have G:∀ x∈a.take k,R b0 x=false:=fun x c=>h1 x (by
  have:((arrOf st).toList.drop pre.length).take k=a.take k:=by rw [← w,List.take_take,Nat.min_eq_left a2]
  rw [this];exact c)
 dsimp only
 refine aap (fun e=>?_) (fun e=>?_)
 ·have e':a.length - k=0:=by simpa using e
  refine wpS_pure (plain (fun x c y d=>?_) o (Eqv.refl _))
  have:a.take k=a:=aF3 (by lia)
  rw [this] at G
  exact C.tr x b0 y (I x c) v (P y d) (G x c) (B y d)
 ·have e':a.length - k ≠ 0:=by simpa using e
  -- the last of a
  have L:pre.length+k+(a.length - k) - 1=pre.length+(a.length - 1):=by lia
  have n:a.length - 1 < a.length:=by lia
  have a0:(arrOf st)[pre.length+k+(a.length - k) - 1]?=some (a[a.length - 1]'n):=by
   rw [← aD6,F,L]
   simp [List.getElem?_append,n,aB4]
  have Sl:S (a[a.length - 1]'n):=I _ (aF4 n)
  have u:a=a.take (a.length - 1) ++ [a[a.length - 1]'n]:=by
   have:=List.take_succ (l:=a) (i:=a.length - 1)
   rw [show a.length - 1+1=a.length by lia,aH0] at this
   simpa [n] using this
  have K:∀ x∈a,R (a[a.length - 1]'n) x=false:=fun x c=>by
   have hs:Srt R (a.take (a.length - 1) ++ [a[a.length - 1]'n]):=by rw [← u];exact U
   exact ad8 C hs Sl x (by rw [← u];exact c)
  refine wpS_bind (aaw a0 ?_)
  refine wpS_bind (ahn C Sl hS (by lia) (by rw [D];exact N) (by lia) k1 fun j a4 h3 h4=>?_)
  rw [D] at h4
  have W:((arrOf st).toList.drop (pre.length+a.length)).take j=b.take j:=by rw [← D,List.take_take,Nat.min_eq_left a4]
  rw [W] at h3
  dsimp only
  refine aap (fun e2=>?_) (fun e2=>?_)
  ·have Z:j=0:=by simpa using e2
   subst Z
   refine wpS_pure (plain (fun x c y d=>?_) o (Eqv.refl _))
   exact C.tr x _ y (I x c) Sl (P y d) (K x c) (h4 y (by simpa using d))
  ·have Z:j ≠ 0:=by simpa using e2
   have ex:((arrOf st).extract (pre.length+k) (pre.length+a.length)).toList=a.drop k:=by
    rw [ami,F]
    simp [aB4,List.take_append,List.drop_append]
   have O:((arrOf st).extract (pre.length+a.length) (pre.length+a.length+j)).toList=b.take j:=by
    rw [ajf,W]
   generalize hX:(arrOf st).extract (pre.length+k) (pre.length+a.length)=X at ex
   generalize hY:(arrOf st).extract (pre.length+a.length) (pre.length+a.length+j)=Y at O
   have sX:X.size=a.length - k:=by have:=congrArg List.length ex;simpa using this
   have sY:Y.size=j:=by have:=congrArg List.length O;simp at this;lia
   have T:Two S R X Y:=by
    refine ⟨fun x c=>I x (aC4 (by rw [← ex];exact c)),fun x c=>P x (aC0 (by rw [← O];exact c)),by rw [ex];exact acu U,by rw [O];exact aca N,by lia,by lia,fun x c y d=>?_,fun y d x c=>?_⟩
    ·rw [← aD6,O,eb] at d
     have:y=b0:=by
      obtain ⟨j',rfl⟩:∃ j',j=j'+1:=⟨j - 1,by lia⟩
      simpa using d.symm
     rw [this]
     rw [ex] at c
     exact C.asy _ _ v (I x (aC4 c)) (h2 x c)
    ·rw [← aD6,ex,sX] at c
     rw [aI5,show k+(a.length - k - 1)=a.length - 1 by lia,aA0 n] at c
     cases c
     rw [O] at d
     exact C.asy _ _ (P y (aC0 d)) Sl (h3 y d)
   have fin:∀ (m:Array Keyed) (st':SortSt),Eqv o st'->Fin2 R X Y m->wpS M A E s (do
     modify fun (z:SortSt)=>setArr z (List.foldl (fun a x=>match x with | (p,j)=>a.setIfInBounds (pre.length+k+j) p) (arrOf z) m.toList.zipIdx)
     let z ← get
     pure (failedOf z).isNone) Q st':=by
    intro m st' q ⟨H,ms⟩
    rw [ex,O] at H
    refine wpS_bind (wpS_modify ?_)
    refine wpS_bind (wpS_get ?_)
    refine wpS_pure ?_
    show Q (failedOf st').isNone _
    rw [q.f,f1]
    have lm:m.toList.length=(a.drop k).length+(b.take j).length:=by rw [H.length_eq,aB1]
    have J:∀ z∈m.toList,z∈a.drop k\/z∈b.take j:=fun z hz=>aA7.mp (H.mem_iff.mp hz)
    refine h _ (a.take k ++ m.toList ++ b.drop j) (q.k.trans k1) (q.f.trans f1) (q.p.trans p1) ?_ ?_ ?_
    ·show (List.foldl _ (arrOf st') m.toList.zipIdx).toList=_
     have base:(arrOf st').toList=(pre ++ a.take k) ++ (a.drop k ++ b.take j) ++ (b.drop j ++ g):=by
      rw [q.a,a1,F]
      have t1:=aC1 k a
      have t2:=aC1 j b
      calc pre ++ a ++ b ++ g=pre ++ (a.take k ++ a.drop k) ++ (b.take j ++ b.drop j) ++ g:=by rw [t1,t2]
       _=_:=by simp only [aB4]
     have:=akc (pre.length+k) m.toList (a.drop k ++ b.take j) (pre ++ a.take k) (b.drop j ++ g) 0 (arrOf st') base (by rw [aB1,lm]) (by rw [aB1,aH2];lia)
     rw [this]
     simp only [aB4]
    ·have t1:=aC1 k a
     have t2:=aC1 j b
     calc (a.take k ++ m.toList ++ b.drop j).Perm (a.take k ++ (a.drop k ++ b.take j) ++ b.drop j):=List.Perm.append_right _ (List.Perm.append_left _ H)
      _ = a ++ b:=by
       simp only [aB4]
       rw [t2,← aB4,t1]
    ·have a6:Srt R (a.take k ++ a.drop k):=by rw [aC1];exact U
     have a3:Srt R (b.take j ++ b.drop j):=by rw [aC1];exact N
     have ca:=(aC9.mp a6).2.2
     have cb:=(aC9.mp a3).2.2
     refine aC9.mpr ⟨aC9.mpr ⟨aca U,ms,fun x c y d=>?_⟩,acu N,fun x c y d=>?_⟩
     ·rcases J y d with d | d
      ·exact ca x c y d
      ·exact C.tr x b0 y (I x (aC0 c)) v (P y (aC0 d)) (G x c) (B y (aC0 d))
     ·have Sy:=P y (aC4 d)
      rcases aA7.mp c with c | c
      ·exact C.tr x b0 y (I x (aC0 c)) v Sy (G x c) (B y (aC4 d))
      ·rcases J x c with c | c
       ·exact C.tr x _ y (I x (aC4 c)) Sl Sy (K x (aC4 c)) (h4 y d)
       ·exact cb x c y d
   refine aap (fun e3=>?_) (fun e3=>?_)
   ·exact wpS_bind (aqy C T k1 fun m st' q fm=>fin m st' q fm)
   ·exact wpS_bind (aqz C T k1 fun m st' q fm=>fin m st' q fm)
end
def e (xs:Array Keyed) (k:Nat):Keyed:=(xs[k]?).getD (.none,.none)
theorem aid {xs:Array Keyed} {k:Nat} (h:k < xs.size):xs[k]?=some (e xs k):=by
 unfold e;rw [aA4 h];rfl
def Asc (R:Keyed->Keyed->Bool) (xs:Array Keyed) (l h:Nat):Prop:=∀ i j,l<=i->i<=j->j < h->R (e xs j) (e xs i)=false
def Des (R:Keyed->Keyed->Bool) (xs:Array Keyed) (l h:Nat):Prop:=∀ i j,l<=i->i<=j->j < h->R (e xs i) (e xs j)=false
structure Bs (κ:SortKind) (p0:Array (Nat × Nat × Nat)) (a0:Array Keyed) (lo:Nat) (st:SortSt):Prop where
 k:kindOf st = κ
 f:failedOf st=none
 p:pendingOf st=p0
 perm:(arrOf st).toList.Perm a0.toList
 pre:∀ k,k < lo->(arrOf st)[k]?=a0[k]?
theorem au2 {xs:Array Keyed} {src d:Nat} (hs:src < xs.size) (hd:d<=src) (k:Nat):e (bubble xs src d) k=if k=src - d then e xs src else if src - d < k/\k<=src then e xs (k - 1) else e xs k:=by
 unfold e
 rw [getElem?_bubble hs d hd]
 repeat' split
 all_goals rfl
theorem adc {xs:Array Keyed} {i j:Nat} (a:j<=xs.size) (k:Nat):e (mirror xs i j ((j - i) / 2)) k=if i<=k/\k < j then e xs (i+j - 1 - k) else e xs k:=by
 unfold e
 rw [getElem?_mirror_all a]
 split <;> rfl
section
variable {M:Model} {A:Around} {E:Value->Shared->Prop} {s:Shared} {κ:SortKind} {S:Keyed->Prop} {R:Keyed->Keyed->Bool} {p0:Array (Nat × Nat × Nat)} {a0:Array Keyed} {lo:Nat}
theorem Bs.size {st:SortSt} (B:Bs κ p0 a0 lo st):(arrOf st).size=a0.size:=by
 have:=B.perm.length_eq
 simpa using this
theorem Bs.sat {st:SortSt} (B:Bs κ p0 a0 lo st) (b:∀ x∈a0.toList,S x) {k:Nat} (a:k < a0.size):S (e (arrOf st) k):=by
 have h:=aid (xs:=arrOf st) (k:=k) (by rw [B.size];exact a)
 refine b _ (B.perm.mem_iff.mp ?_)
 rw [← aD6] at h
 exact aA2 h
theorem agg (C:Cmp M A E s κ S R) (a:∀ x∈a0.toList,S x) {st:SortSt} (B:Bs κ p0 a0 lo st) {i j:Nat} (hi:i < a0.size) (b:j < a0.size) {Q:Option Bool->SortSt->Prop} (h:Q (some (R (e (arrOf st) i) (e (arrOf st) j))) st) :
  wpS M A E s (ltAt' i j) Q st:=by
 rw [ltAt'_eq]
 refine wpS_bind (wpS_get ?_)
 refine wpS_bind (aaw (aid (by rw [B.size];exact hi)) ?_)
 refine wpS_bind (aaw (aid (by rw [B.size];exact b)) ?_)
 exact C.ask _ _ (B.sat a hi) (B.sat a b) _ _ B.k h
theorem au3 (C:Cmp M A E s κ S R) {xs:Array Keyed} {l h:Nat} (b:∀ k,k<=h->S (e xs k)) (f:l < h) (a:Asc R xs l h) (n:R (e xs h) (e xs (h - 1))=false):Asc R xs l (h+1):=by
 intro i j c d g
 by_cases hj:j=h
 ·subst hj
  by_cases hi:i=j
  ·subst hi;exact C.irr (b _ (aA6 _))
  ·exact C.tr _ (e xs (j - 1)) _ (b _ (by lia)) (b _ (by lia)) (b _ (by lia)) (a i (j - 1) c (by lia) (by lia)) n
 ·exact a i j c d (by lia)
theorem afw (C:Cmp M A E s κ S R) {xs:Array Keyed} {l h:Nat} (b:∀ k,k<=h->S (e xs k)) (f:l < h) (a:Des R xs l h) (n:R (e xs (h - 1)) (e xs h)=false):Des R xs l (h+1):=by
 intro i j c d g
 by_cases hj:j=h
 ·subst hj
  by_cases hi:i=j
  ·subst hi;exact C.irr (b _ (aA6 _))
  ·exact C.tr _ (e xs (j - 1)) _ (b _ (by lia)) (b _ (by lia)) (b _ (by lia)) n (a i (j - 1) c (by lia) (by lia))
 ·exact a i j c d (by lia)
theorem Bs.set {st:SortSt} (B:Bs κ p0 a0 lo st) {xs:Array Keyed} (b:xs.Perm (arrOf st)) (c:∀ k,k < lo->xs[k]?=(arrOf st)[k]?):Bs κ p0 a0 lo (setArr st xs) :=
 ⟨B.k,B.f,B.p,b.toList.trans B.perm,fun k a=>(c k a).trans (B.pre k a)⟩
theorem aq1 (C:Cmp M A E s κ S R) (y:∀ x∈a0.toList,S x) {st:SortSt} (B:Bs κ p0 a0 lo st) {n ok:Nat} (hn:lo+n<=a0.size) (hok:ok<=n) (N:1<=n) (hs:Asc R (arrOf st) lo (lo+ok)) {Q:Bool->SortSt->Prop}
  (h:∀ st',Bs κ p0 a0 lo st'->Asc R (arrOf st') lo (lo+n)->Q true st'):wpS M A E s (au1 lo n ok) Q st:=by
 refine wpS_bind (wpS_mono (Q:=fun (z:Option Bool × Unit) st'=>z.1=none/\Bs κ p0 a0 lo st'/\Asc R (arrOf st') lo (lo+n)) ?_ ?_)
 ·refine wpS_forRange (fun k (z:Option Bool × Unit) st'=>z.1=none/\Bs κ p0 a0 lo st'/\Asc R (arrOf st') lo (lo+k)) ?_ ?_ ⟨rfl,B,fun i j g m u=>?_⟩
  ·rintro k ⟨o,_⟩ b K J ⟨rfl,q,as⟩
   have d:∀ j,j < lo+n->S (e (arrOf b) j):=fun j D=>q.sat y (by lia)
   refine wpS_bind (wpS_mono (Q:=fun (z:Option Bool × Nat × Nat) st'=>st'=b/\z.1=none/\z.2.1<=k/\(∀ i,i < z.2.1->R (e (arrOf b) (lo+k)) (e (arrOf b) (lo+i))=false)/\(∀ i,z.2.1<=i->i < k->R (e (arrOf b) (lo+k)) (e (arrOf b) (lo+i))=true)) ?_ ?_)
   ·refine wpS_forRange (fun t (z:Option Bool × Nat × Nat) st'=>st'=b/\z.1=none/\z.2.1<=z.2.2/\z.2.2<=k/\z.2.2 - z.2.1+t<=k/\(∀ i,i < z.2.1->R (e (arrOf b) (lo+k)) (e (arrOf b) (lo+i))=false)/\(∀ i,z.2.2<=i->i < k->R (e (arrOf b) (lo+k)) (e (arrOf b) (lo+i))=true)) ?_ ?_
     ⟨rfl,rfl,Nat.zero_le _,Nat.le_refl _,by dsimp only;lia,fun i hi=>absurd hi (Nat.not_lt_zero _),fun i g m=>by dsimp only at g;lia⟩
    ·rintro t ⟨o,l,r⟩ a _ O ⟨rfl,c,g,m,u,p,f⟩
     dsimp only at c g m u p f ⊢
     subst c
     refine aap (fun v=>?_) (fun v=>?_)
     ·have:l=r:=by lia
      subst this
      exact wpS_pure ⟨rfl,rfl,m,p,f⟩
     ·have hm:(l+r) / 2 < r:=by lia
      have F:l<=(l+r) / 2:=by lia
      refine wpS_bind (agg C y q (by lia) (by lia) ?_)
      dsimp only
      cases er:R (e (arrOf a) (lo+k)) (e (arrOf a) (lo+(l+r) / 2)) with
      | true =>
       rw [aF7 rfl]
       refine wpS_pure ⟨rfl,rfl,F,by dsimp only;lia,by dsimp only;lia,p,fun i i1 w=>?_⟩
       dsimp only at i1
       cases e2:R (e (arrOf a) (lo+k)) (e (arrOf a) (lo+i)) with
       | true=>rfl
       | false =>
        have:=C.tr _ _ _ (d _ (by lia)) (d _ (by lia)) (d _ (by lia)) (as (lo+(l+r) / 2) (lo+i) (by lia) (by lia) (by lia)) e2
        rw [this] at er;cases er
      | false =>
       rw [aF8 (by decide)]
       refine wpS_pure ⟨rfl,rfl,by dsimp only;lia,m,by dsimp only;lia,fun i i1=>?_,f⟩
       dsimp only at i1
       exact C.tr _ _ _ (d _ (by lia)) (d _ (by lia)) (d _ (by lia)) (as (lo+i) (lo+(l+r) / 2) (by lia) (by lia) (by lia)) er
    ·rintro ⟨o,l,r⟩ a ⟨rfl,c,g,m,u,p,f⟩
     dsimp only at c g m u p f ⊢
     have : l = r := by have:k ≤ max 0 k := by lia
                        lia
     subst this
     exact ⟨rfl,c,m,p,f⟩
   ·rintro ⟨o,l,r⟩ a ⟨rfl,c,g,p,f⟩
    dsimp only at c g p f ⊢
    subst c
    dsimp only
    have hsz:lo+k < (arrOf a).size:=by rw [q.size];lia
    have hd:(lo+k) - (lo+l)=k - l:=by lia
    refine wpS_bind (wpS_modify ?_)
    have H:∀ j,e (bubble (arrOf a) (lo+k) (lo+k - (lo+l))) j=if j=lo+l then e (arrOf a) (lo+k) else if lo+l < j/\j<=lo+k then e (arrOf a) (j - 1) else e (arrOf a) j:=fun j=>by
     rw [au2 hsz (by lia),show lo+k - (lo+k - (lo+l))=lo+l by lia]
    refine wpS_pure ⟨rfl,q.set (bubble_perm _ _ _) (fun j D=>?_),fun i j i1 w I=>?_⟩
    ·show (bubble (arrOf a) (lo+k) (lo+k - (lo+l)))[j]?=_
     rw [getElem?_bubble hsz _ (by lia),aF8 (by lia),aF8 (by lia)]
    ·show R (e (bubble (arrOf a) (lo+k) (lo+k - (lo+l))) j) (e (bubble (arrOf a) (lo+k) (lo+k - (lo+l))) i)=false
     rw [H,H]
     have L:∀ j,j < lo+n->S (e (arrOf a) j):=d
     by_cases j1:j=lo+l
     ·rw [aF7 j1]
      by_cases i4:i=lo+l
      ·rw [aF7 i4];exact C.irr (d _ (by lia))
      ·rw [aF8 i4,aF8 (by lia)]
       have:=p (i - lo) (by lia)
       rw [show lo+(i - lo)=i by lia] at this
       exact this
     ·rw [aF8 j1]
      by_cases j2:lo+l < j/\j<=lo+k
      ·rw [aF7 j2]
       have G:=f (j - 1 - lo) (by lia) (by lia)
       rw [show lo+(j - 1 - lo)=j - 1 by lia] at G
       by_cases i4:i=lo+l
       ·rw [aF7 i4];exact C.asy _ _ (d _ (by lia)) (d _ (by lia)) G
       ·rw [aF8 i4]
        by_cases i5:lo+l < i/\i<=lo+k
        ·rw [aF7 i5];exact as (i - 1) (j - 1) (by lia) (by lia) (by lia)
        ·rw [aF8 i5];exact as i (j - 1) (by lia) (by lia) (by lia)
      ·rw [aF8 j2,aF8 (by lia),aF8 (by lia)]
       exact as i j (by lia) (by lia) (by lia)
  ·rintro ⟨o,_⟩ b ⟨c,q,as⟩
   exact ⟨c,q,fun i j i1 w I=>as i j i1 w (by lia)⟩
  ·by_cases D:j < lo+ok
   ·exact hs i j g m D
   ·have:i=j:=by lia
    subst this
    exact C.irr (B.sat y (by lia))
 ·rintro ⟨o,_⟩ b ⟨c,q,as⟩
  dsimp only at c ⊢
  subst c
  exact wpS_pure (h b q as)
end
def Eqb (R:Keyed->Keyed->Bool) (xs:Array Keyed) (l h:Nat):Prop:=∀ i j,l<=i->i < h->l<=j->j < h->R (e xs i) (e xs j)=false
section
variable {M:Model} {A:Around} {E:Value->Shared->Prop} {s:Shared} {κ:SortKind} {S:Keyed->Prop} {R:Keyed->Keyed->Bool} {p0:Array (Nat × Nat × Nat)} {a0:Array Keyed} {lo:Nat}
theorem ao8 {α:Type} {prog:StateT SortSt Sem α} {P:SortSt->Prop} {Q : α->SortSt->Prop} {G:Prop} (use:(∀ st,P st->wpS M A E s prog Q st)->G) (a:∀ st,P st->wpS M A E s prog Q st):G:=use a
theorem amj (C:Cmp M A E s κ S R) (f:∀ x∈a0.toList,S x) {st:SortSt} (B:Bs κ p0 a0 lo st) {a nrem:Nat} (i:1<=a) (g:a<=nrem) (hn:lo+nrem<=a0.size) (as:Asc R (arrOf st) lo (lo+a)) {Q:Option (Option Nat) × Nat->SortSt->Prop}
  (h:∀ n,a<=n->n<=nrem->Asc R (arrOf st) lo (lo+n)->(n < nrem->R (e (arrOf st) (lo+n)) (e (arrOf st) (lo+n - 1))=true)->Q (none,n) st) :
  wpS M A E s (forIn [a:nrem] ((none,a):Option (Option Nat) × Nat) (fun (_:Nat) z=>ltAt' (lo+z.2) (lo+z.2 - 1) >>= fun x=>match x with
   | some smaller=>if smaller=true then pure (ForInStep.done (none,z.2)) else pure (ForInStep.yield (none,z.2+1))
   | _=>pure (ForInStep.done (some none,z.2)))) Q st:=by
 refine wpS_forRange (fun t (z:Option (Option Nat) × Nat) st'=>st'=st/\z=(none,t)/\Asc R (arrOf st) lo (lo+t)) ?_ ?_ ⟨rfl,rfl,as⟩
 ·rintro t ⟨o,n⟩ c t1 j ⟨rfl,d,b⟩
  cases d
  dsimp only
  refine wpS_bind (agg C f B (by lia) (by lia) ?_)
  dsimp only
  cases er:R (e (arrOf c) (lo+t)) (e (arrOf c) (lo+t - 1)) with
  | true =>
   rw [aF7 rfl]
   exact wpS_pure (h t t1 (by lia) b fun _=>er)
  | false =>
   rw [aF8 (by decide)]
   exact wpS_pure ⟨rfl,rfl,au3 C (h:=lo+t) (fun k l=>B.sat f (by lia)) (by lia) b er⟩
 ·rintro ⟨o,n⟩ c ⟨rfl,d,b⟩
  cases d
  rw [show max a nrem=nrem by lia] at b ⊢
  exact h nrem g (aA6 _) b fun z=>absurd z (aG6 _)
theorem au4 (C:Cmp M A E s κ S R) {st:SortSt} (B:Bs κ p0 a0 lo st) {n:Nat} (hn:lo+n<=a0.size) (a:Des R (arrOf st) lo (lo+n)) :
  Bs κ p0 a0 lo (setArr st (mirror (arrOf st) lo (lo+n) ((lo+n - lo) / 2)))/\Asc R (mirror (arrOf st) lo (lo+n) ((lo+n - lo) / 2)) lo (lo+n):=by
 have hz:lo+n<=(arrOf st).size:=by rw [B.size];exact hn
 refine ⟨B.set (mirror_perm _ _ _ _) (fun k b=>by rw [getElem?_mirror_all hz,aF8 (by lia)]),fun i j d c f=>?_⟩
 rw [adc hz,adc hz,aF7 (by lia),aF7 (by lia)]
 exact a _ _ (by lia) (by lia) (by lia)
theorem ajg (C:Cmp M A E s κ S R) (b:∀ x∈a0.toList,S x) {st:SortSt} (B:Bs κ p0 a0 lo st) {l h m:Nat} (o:lo<=l) (hh:h<=a0.size) (hm:h<=m) (d:m<=a0.size) (a:Des R (arrOf st) lo m) (eq:Eqb R (arrOf st) l h) :
  Bs κ p0 a0 lo (setArr st (mirror (arrOf st) l h ((h - l) / 2)))/\Des R (mirror (arrOf st) l h ((h - l) / 2)) lo m:=by
 have hz:h<=(arrOf st).size:=by rw [B.size];exact hh
 refine ⟨B.set (mirror_perm _ _ _ _) (fun k c=>by rw [getElem?_mirror_all hz,aF8 (by lia)]),fun i j g n p=>?_⟩
 rw [adc hz,adc hz]
 have f:∀ k,k < m->S (e (arrOf st) k):=fun k c=>B.sat b (by lia)
 by_cases c1:l<=i/\i < h
 ·rw [aF7 c1]
  by_cases c2:l<=j/\j < h
  ·rw [aF7 c2]
   exact eq _ _ (by lia) (by lia) (by lia) (by lia)
  ·rw [aF8 c2]
   exact a _ _ (by lia) (by lia) (by lia)
 ·rw [aF8 c1]
  by_cases c2:l<=j/\j < h
  ·rw [aF7 c2]
   exact a _ _ (by lia) (by lia) (by lia)
  ·rw [aF8 c2]
   exact a _ _ (by lia) (by lia) (by lia)
theorem asz (C:Cmp M A E s κ S R) (p:∀ x∈a0.toList,S x) {st:SortSt} (B:Bs κ p0 a0 lo st) {nrem:Nat} (h1:1<=nrem) (hn:lo+nrem<=a0.size) {Q:Option Nat->SortSt->Prop}
  (h:∀ st' n,Bs κ p0 a0 lo st'->1<=n->n<=nrem->Asc R (arrOf st') lo (lo+n)->Q (some n) st'):wpS M A E s (axs lo nrem) Q st:=by
 refine wpS_bind (amj C p B (aA6 1) h1 hn (fun i j i1 r W=>?_) fun n n1 n2 as br=>?_)
 ·have:i=j:=by lia
  subst this
  exact C.irr (B.sat p (by lia))
 dsimp only
 refine aap (fun en=>wpS_pure (h st n B n1 n2 as)) (fun en=>?_)
 have a4:n ≠ nrem:=by simpa using en
 have X:n < nrem:=by lia
 have I:=br X
 refine ao8 (M:=M) (A:=A) (E:=E) (s:=s) (α:=Option Nat) (Q:=Q) (P:=fun v=>Bs κ p0 a0 lo v/\Des R (arrOf v) lo (lo+n)/\R (e (arrOf v) (lo+n)) (e (arrOf v) (lo+n - 1))=true) (prog:=?prog) (fun N=>?use) (fun v ⟨K,Y,T⟩=>?pf)
 case use =>
  refine aap (fun g1=>?_) (fun g1=>?_)
  ·refine wpS_bind (agg C p B (by lia) (by lia) ?_)
   dsimp only
   cases er:R (e (arrOf st) lo) (e (arrOf st) (lo+n - 1)) with
   | true=>rw [aF7 rfl];exact wpS_pure (h st n B n1 n2 as)
   | false =>
    rw [aF8 (by decide)]
    -- all of them are equal
    have c:∀ k,k < lo+n->S (e (arrOf st) k):=fun k J=>B.sat p (by lia)
    have all:Eqb R (arrOf st) lo (lo+n):=fun i j i1 r y w=>by
     -- j<=last<=first<=i
     have a1:=as j (lo+n - 1) y (by lia) (by lia)
     have a2:=as lo i (aA6 _) i1 r
     exact C.tr _ _ _ (c j w) (c lo (by lia)) (c i r) (C.tr _ _ _ (c j w) (c (lo+n - 1) (by lia)) (c lo (by lia)) a1 er) a2
    have Y:Des R (arrOf st) lo (lo+n):=fun i j i1 r W=>all i j i1 (by lia) (by lia) W
    have hz:lo+n<=(arrOf st).size:=by rw [B.size];lia
    obtain ⟨q,a⟩:=ajg C p B (aA6 lo) (show lo+n<=a0.size by lia) (aA6 _) (by lia) Y all
    refine wpS_bind (wpS_modify ?_)
    refine N _ ⟨q,a,?_⟩
    show R (e (mirror (arrOf st) lo (lo+n) ((lo+n - lo) / 2)) (lo+n)) (e (mirror (arrOf st) lo (lo+n) ((lo+n - lo) / 2)) (lo+n - 1))=true
    rw [adc hz,adc hz,aF8 (by lia),aF7 (by lia)]
    rw [show lo+(lo+n) - 1 - (lo+n - 1)=lo by lia]
    cases e2:R (e (arrOf st) (lo+n)) (e (arrOf st) lo) with
    | true=>rfl
    | false =>
     have:=C.tr _ _ _ (c (lo+n - 1) (by lia)) (c lo (by lia)) (B.sat p (show lo+n < a0.size by lia)) er e2
     rw [this] at I;cases I
  ·have:n=1:=by lia
   subst this
   refine N st ⟨B,fun i j i1 r W=>?_,I⟩
   have:i=j:=by lia
   subst this
   exact C.irr (B.sat p (by lia))
 case pf =>
  -- the falling part
  refine wpS_bind (ads ?_)
  refine wpS_bind (wpS_mono (Q:=fun (z:Option (Option Nat) × Nat × Nat) st'=>z.1=none/\Bs κ p0 a0 lo st'/\z.2.1<=nrem/\z.2.2+1<=z.2.1/\Des R (arrOf st') lo (lo+z.2.1)/\Eqb R (arrOf st') (lo+z.2.1 - (z.2.2+1)) (lo+z.2.1)) ?_ ?_)
  ·refine wpS_forRange (fun t (z:Option (Option Nat) × Nat × Nat) st'=>z.1=none/\z.2.1=t/\Bs κ p0 a0 lo st'/\z.2.2+1<=z.2.1/\Des R (arrOf st') lo (lo+z.2.1)/\Eqb R (arrOf st') (lo+z.2.1 - (z.2.2+1)) (lo+z.2.1)) ?_ ?_ ⟨rfl,rfl,K,by dsimp only;lia,?_,fun i j i1 r y w=>?_⟩
   ·rintro t ⟨o,m,b⟩ f t1 t2 ⟨D,O,q,G,a,d⟩
    dsimp only at D O G a d ⊢
    subst D O
    have c:∀ k,k < a0.size->S (e (arrOf f) k):=fun k J=>q.sat p J
    refine wpS_bind (agg C p q (by lia) (by lia) ?_)
    dsimp only
    cases er:R (e (arrOf f) (lo+m)) (e (arrOf f) (lo+m - 1)) with
    | true =>
     rw [aF7 rfl]
     refine aap (fun g=>?_) (fun g=>?_)
     ·have hz:lo+m<=(arrOf f).size:=by rw [q.size];lia
      obtain ⟨H,u⟩:=ajg C p q (l:=lo+m - (b+1)) (h:=lo+m) (by lia) (by lia) (aA6 _) (by lia) a d
      have L:∀ k,e (mirror (arrOf f) (lo+m - (b+1)) (lo+m) ((lo+m - (lo+m - (b+1))) / 2)) k=if lo+m - (b+1)<=k/\k < lo+m then e (arrOf f) (lo+m - (b+1)+(lo+m) - 1 - k) else e (arrOf f) k:=fun k=>adc hz k
      refine wpS_bind (wpS_modify ?_)
      refine wpS_pure ⟨rfl,rfl,H,by dsimp only;lia,?_,fun i j i1 r y w=>?_⟩
      ·show Des R (mirror (arrOf f) (lo+m - (b+1)) (lo+m) ((lo+m - (lo+m - (b+1))) / 2)) lo (lo+(m+1))
       refine afw C (h:=lo+m) (fun k J=>H.sat p (by lia)) (by lia) u ?_
       rw [L,L,aF7 (by lia),aF8 (by lia)]
       rw [show lo+m - (b+1)+(lo+m) - 1 - (lo+m - 1)=lo+m - (b+1) by lia]
       exact C.tr _ _ _ (c _ (by lia)) (c (lo+m - 1) (by lia)) (c _ (by lia)) (C.asy _ _ (c _ (by lia)) (c _ (by lia)) er) (a _ _ (by lia) (by lia) (by lia))
      ·dsimp only at i1 r y w
       have:i=j:=by lia
       subst this
       exact C.irr (H.sat p (by lia))
     ·have:b=0:=by lia
      subst this
      refine wpS_pure ⟨rfl,rfl,q,by dsimp only;lia,afw C (h:=lo+m) (fun k J=>c k (by lia)) (by lia) a (C.asy _ _ (c _ (by lia)) (c _ (by lia)) er),fun i j i1 r y w=>?_⟩
      dsimp only at i1 r y w
      have:i=j:=by lia
      subst this
      exact C.irr (c _ (by lia))
    | false =>
     rw [aF8 (by decide)]
     refine wpS_bind (agg C p q (by lia) (by lia) ?_)
     dsimp only
     cases er2:R (e (arrOf f) (lo+m - 1)) (e (arrOf f) (lo+m)) with
     | true =>
      rw [aF7 rfl]
      exact wpS_pure ⟨rfl,q,by dsimp only;lia,G,a,d⟩
     | false =>
      rw [aF8 (by decide)]
      refine wpS_pure ⟨rfl,rfl,q,by dsimp only;lia,afw C (h:=lo+m) (fun k J=>c k (by lia)) (by lia) a er2,fun i j i1 r y w=>?_⟩
      dsimp only at i1 r y w
      by_cases ci:i=lo+m
      ·by_cases cj:j=lo+m
       ·rw [ci,cj];exact C.irr (c _ (by lia))
       ·rw [ci]
        exact C.tr _ _ _ (c j (by lia)) (c (lo+m - 1) (by lia)) (c _ (by lia)) (d (lo+m - 1) j (by lia) (by lia) (by lia) (by lia)) er
      ·by_cases cj:j=lo+m
       ·rw [cj]
        exact C.tr _ _ _ (c _ (by lia)) (c (lo+m - 1) (by lia)) (c i (by lia)) er2 (d i (lo+m - 1) (by lia) (by lia) (by lia) (by lia))
       ·exact d i j (by lia) (by lia) (by lia) (by lia)
   ·rintro ⟨o,m,b⟩ f ⟨D,O,q,G,a,d⟩
    dsimp only at D O G a d ⊢
    exact ⟨D,q,by lia,G,a,d⟩
   ·exact afw C (h:=lo+n) (fun k J=>K.sat p (by lia)) (by lia) Y (C.asy _ _ (K.sat p (by lia)) (K.sat p (by lia)) T)
   ·dsimp only at i1 r y w
    have:i=j:=by lia
    subst this
    exact C.irr (K.sat p (by lia))
  ·rintro ⟨o,m,b⟩ f ⟨D,q,hm,G,a,d⟩
   dsimp only at D hm G a d ⊢
   subst D
   dsimp only
   refine ao8 (M:=M) (A:=A) (E:=E) (s:=s) (α:=Option Nat) (Q:=Q) (P:=fun F=>Bs κ p0 a0 lo F/\Des R (arrOf F) lo (lo+m)) (prog:=?prog2) (fun N=>?use2) (fun F ⟨H,u⟩=>?pf2)
   case use2 =>
    refine aap (fun g=>?_) (fun g=>?_)
    ·obtain ⟨H,u⟩:=ajg C p q (l:=lo+m - (b+1)) (h:=lo+m) (by lia) (by lia) (aA6 _) (by lia) a d
     refine wpS_bind (wpS_modify ?_)
     exact N _ ⟨H,u⟩
    ·exact N _ ⟨q,a⟩
   case pf2 =>
    obtain ⟨B5,Z⟩:=au4 C H (n:=m) (by lia) u
    refine wpS_bind (wpS_modify ?_)
    refine wpS_bind (amj C p B5 (by lia) hm hn Z fun n' a5 a3 U _=>?_)
    exact wpS_pure (h _ n' B5 (by lia) a3 U)
end
def flat (rs:List (List Keyed × Nat)):List Keyed:=(rs.map (·.1)).flatten
def pend:Nat->List (List Keyed × Nat)->List (Nat × Nat × Nat)
 | _,[]=>[]
 | k,(r,pw) :: t=>(k,r.length,pw) :: pend (k+r.length) t
theorem aho:flat []=[]:=rfl
theorem abu (r:List Keyed × Nat) (t:List (List Keyed × Nat)):flat (r :: t)=r.1 ++ flat t:=rfl
theorem abo (p q:List (List Keyed × Nat)):flat (p ++ q)=flat p ++ flat q:=by simp [flat]
theorem acb:∀ (k:Nat) (p q:List (List Keyed × Nat)),pend k (p ++ q)=pend k p ++ pend (k+(flat p).length) q
 | k,[],q=>by simp [pend,aho]
 | k,(r,pw) :: t,q=>by
  simp only [List.cons_append,pend,abu,aB1,List.cons.injEq,true_and]
  rw [acb (k+r.length) t q,Nat.add_assoc]
theorem adz:∀ (k:Nat) (p:List (List Keyed × Nat)),(pend k p).length=p.length
 | _,[]=>rfl
 | k,(r,pw) :: t=>by simp [pend,adz _ t]
section
variable {M:Model} {A:Around} {E:Value->Shared->Prop} {s:Shared} {κ:SortKind} {S:Keyed->Prop} {R:Keyed->Keyed->Bool} {a0:Array Keyed}
structure Rn (κ:SortKind) (R:Keyed->Keyed->Bool) (a0:Array Keyed) (rs:List (List Keyed × Nat)) (rest:List Keyed) (st:SortSt):Prop where
 k:kindOf st = κ
 f:failedOf st=none
 arr:(arrOf st).toList=flat rs ++ rest
 pn:(pendingOf st).toList=pend 0 rs
 ok:∀ r∈rs,r.1 ≠ []/\Srt R r.1
 perm:(arrOf st).toList.Perm a0.toList
theorem axu {α:Type} (a b:List α) (x c y : α):((a ++ x :: y :: b).set a.length c).eraseIdx (a.length+1)=a ++ c :: b:=by
 rw [List.set_append_right _ _ (aA6 _),aI9,List.set_cons_zero,List.eraseIdx_append_of_length_le (by lia)]
 rw [show a.length+1 - a.length=1 by lia]
 rfl
theorem aie (C:Cmp M A E s κ S R) (G:∀ x∈a0.toList,S x) {st:SortSt} {rs:List (List Keyed × Nat)} {rest:List Keyed} (N:Rn κ R a0 rs rest st) {i:Nat} (hi:i+1 < rs.length) {Q:Bool->SortSt->Prop}
  (h:∀ st' n,Rn κ R a0 n rest st'->n.length+1=rs.length->(flat n).length=(flat rs).length->Q true st'):wpS M A E s (amh i) Q st:=by
 obtain ⟨p,a,pw,b,pw2,q,e,I⟩:∃ p a pw b pw2 q,rs=p ++ (a,pw) :: (b,pw2) :: q/\p.length=i:=by
  have F:rs=rs.take i ++ rs.drop i:=(aC1 i rs).symm
  have hd:rs.drop i=rs[i] :: rs[i+1] :: rs.drop (i+2):=by
   rw [List.drop_eq_getElem_cons (by lia),List.drop_eq_getElem_cons hi]
  exact ⟨rs.take i,rs[i].1,rs[i].2,rs[i+1].1,rs[i+1].2,rs.drop (i+2),by rw [← hd];exact F,by simp;lia⟩
 subst I
 have d:=N.ok (a,pw) (by rw [e];simp)
 have j:=N.ok (b,pw2) (by rw [e];simp)
 have o:(pendingOf st).toList=pend 0 p ++ ((flat p).length,a.length,pw) :: ((flat p).length+a.length,b.length,pw2) :: pend ((flat p).length+a.length+b.length) q:=by
  rw [N.pn,e,acb];simp [pend]
 have c:(pend 0 p).length=p.length:=adz 0 p
 have g:(arrOf st).toList=flat p ++ a ++ b ++ (flat q ++ rest):=by
  rw [N.arr,e,abo,abu,abu];simp [aB4]
 refine aq0 C (i:=p.length) (pw:=pw) (pw2:=pw2) g (fun x y=>G x (N.perm.mem_iff.mp y)) ?_ ?_ d.1 j.1 d.2 j.2 N.k N.f fun st' m v B w u pm H=>?_
 ·rw [← aD6,o,aC8 (by lia),c,aI9];rfl
 ·rw [← aD6,o,aC8 (by lia),c,show p.length+1 - p.length=1 by lia];rfl
 ·refine h st' (p ++ (m,pw) :: q) ⟨v,B,?_,?_,fun r l=>?_,?_⟩ (by rw [e];simp;lia) ?_
  ·rw [u,abo,abu];simp [aB4]
  ·rw [w,Array.toList_eraseIdxIfInBounds,Array.toList_setIfInBounds,o,← c,axu,acb]
   simp [pend,pm.length_eq,Nat.add_assoc]
  ·rcases aA7.mp l with l | l
   ·exact N.ok r (by rw [e];simp [l])
   ·rcases aA9.mp l with rfl | l
    ·refine ⟨?_,H⟩
     intro z
     have:=pm.length_eq
     have D:m=[]:=z
     rw [D] at this
     have:=aG1.mpr d.1
     simp at *
     lia
    ·exact N.ok r (by rw [e];simp [l])
  ·rw [u]
   refine List.Perm.trans ?_ N.perm
   rw [g]
   have:(flat p ++ a ++ b ++ (flat q ++ rest))=flat p ++ (a ++ b) ++ (flat q ++ rest):=by simp [aB4]
   rw [this]
   exact (pm.append_left (flat p)).append_right _
  ·rw [e,abo,abo,abu,abu,abu]
   simp [pm.length_eq]
   lia
theorem Rn.run {rs:List (List Keyed × Nat)} {rest:List Keyed} {st st':SortSt} {n:Nat} (N:Rn κ R a0 rs rest st) (B:Bs κ (pendingOf st) (arrOf st) (flat rs).length st') (u:1<=n) (hn:(flat rs).length+n<=(arrOf st).size) (as:Asc R (arrOf st') (flat rs).length ((flat rs).length+n)) :
  ∃ r a,r.length=n/\r ≠ []/\Srt R r/\Rn κ R a0 rs (r ++ a) st':=by
 have hsz:=B.size
 have b:(arrOf st').toList.take (flat rs).length=flat rs:=by
  have o:(arrOf st').toList.take (flat rs).length=(arrOf st).toList.take (flat rs).length:=by
   apply aG4
   intro k
   rw [List.getElem?_take,List.getElem?_take]
   split
   ·rename_i d
    have:=B.pre k d
    simpa using this
   ·rfl
  rw [o,N.arr,List.take_left]
 refine ⟨((arrOf st').toList.drop (flat rs).length).take n,((arrOf st').toList.drop (flat rs).length).drop n,?_,?_,?_,B.k,B.f,?_,?_,N.ok,B.perm.trans N.perm⟩
 ·simp;lia
 ·intro z
  have:=congrArg List.length z
  simp at this
  lia
 ·unfold Srt
  rw [aG9]
  intro i j hi h l
  have c:j < n:=by simp at h;lia
  have get:∀ k,k < n->∀ (d:k < (((arrOf st').toList.drop (flat rs).length).take n).length),(((arrOf st').toList.drop (flat rs).length).take n)[k]=e (arrOf st') ((flat rs).length+k):=by
   intro k d m
   rw [List.getElem_take,List.getElem_drop]
   have q:=aid (xs:=arrOf st') (k:=(flat rs).length+k) (by lia)
   have s:(flat rs).length+k < (arrOf st').toList.length:=by simp;lia
   have g:(arrOf st').toList[(flat rs).length+k]?=some (e (arrOf st') ((flat rs).length+k)):=by simpa using q
   rw [aA0 s] at g
   exact aC6 g
  rw [get i (by lia) hi,get j c h]
  exact as _ _ (by lia) (by lia) (by lia)
 ·rw [aC1]
  conv=>lhs;rw [← aC1 (flat rs).length (arrOf st').toList,b]
 ·rw [B.p];exact N.pn
theorem Rn.bs {rs:List (List Keyed × Nat)} {rest:List Keyed} {st:SortSt} (N:Rn κ R a0 rs rest st):Bs κ (pendingOf st) (arrOf st) (flat rs).length st:=⟨N.k,N.f,rfl,List.Perm.refl _,fun _ _=>rfl⟩
theorem Rn.size {rs:List (List Keyed × Nat)} {rest:List Keyed} {st:SortSt} (N:Rn κ R a0 rs rest st):(arrOf st).size=a0.size:=by
 have:=N.perm.length_eq;simpa using this
theorem Rn.len {rs:List (List Keyed × Nat)} {rest:List Keyed} {st:SortSt} (N:Rn κ R a0 rs rest st):(flat rs).length+rest.length=a0.size:=by
 have:=congrArg List.length N.arr
 have a:=N.size
 simp at this
 lia
theorem au5 {rs:List (List Keyed × Nat)} (h:∀ r∈rs,r.1 ≠ []):rs.length<=(flat rs).length:=by
 induction rs with
 | nil=>simp [flat]
 | cons r t ih =>
  rw [abu,aB1,aE6]
  have:=ih fun q a=>h q (aB5 _ a)
  have:=aG1.mpr (h r aB8)
  lia
theorem amk {α:Type} (f : α->α):∀ (l:List α) (x : α),(l ++ [x]).modify l.length f=l ++ [f x]
 | [],x=>rfl
 | y :: l,x=>by
  show (y :: (l ++ [x])).modify (l.length+1) f=_
  rw [List.modify_succ_cons,amk f l x];rfl
theorem aoe {α:Type} (arr:Array α) (f : α->α) {l:List α} {x : α} (h:arr.toList=l ++ [x]):(arr.modify (arr.size - 1) f).toList=l ++ [f x]:=by
 have hs:arr.size=l.length+1:=by have:=congrArg List.length h;simpa using this
 rw [Array.toList_modify,h,hs,show l.length+1 - 1=l.length by lia]
 exact amk f l x
theorem axv {α:Type} (arr:Array α) {l:List α} {x : α} (h:arr.toList=l ++ [x]):arr.back?=some x:=by
 have hs:arr.size=l.length+1:=by have:=congrArg List.length h;simpa using this
 rw [Array.back?_eq_getElem?,← aD6,h,hs]
 simp
theorem ao9:∀ (rs:List (List Keyed × Nat)),rs ≠ []->∃ p x,rs=p ++ [x]
 | rs,h=>⟨rs.dropLast,rs.getLast h,(List.dropLast_concat_getLast h).symm⟩
theorem Rn.push {rs:List (List Keyed × Nat)} {r rest:List Keyed} {st st':SortSt} (N:Rn κ R a0 rs (r ++ rest) st) (c:r ≠ []) (hs:Srt R r) (k:kindOf st'=kindOf st) (f:failedOf st'=failedOf st) (a:arrOf st'=arrOf st)
  (p:pendingOf st'=(pendingOf st).push ((flat rs).length,r.length,0)):Rn κ R a0 (rs ++ [(r,0)]) rest st':=by
 refine ⟨k.trans N.k,f.trans N.f,?_,?_,fun q b=>?_,by rw [a];exact N.perm⟩
 ·rw [a,N.arr,abo];simp [flat,aB4]
 ·rw [p,Array.toList_push,N.pn,acb];simp [pend]
 ·rcases aA7.mp b with b | b
  ·exact N.ok q b
  ·have:q=(r,0):=by simpa using b
   subst this;exact ⟨c,hs⟩
theorem Rn.pow {rs:List (List Keyed × Nat)} {rest:List Keyed} {st st':SortSt} {pw:Nat} (N:Rn κ R a0 rs rest st) (hz:rs ≠ []) (k:kindOf st'=kindOf st) (f:failedOf st'=failedOf st) (a:arrOf st'=arrOf st)
  (p:pendingOf st'=(pendingOf st).modify ((pendingOf st).size - 1) fun x=>(x.1,x.2.1,pw)):∃ g,Rn κ R a0 g rest st'/\(flat g).length=(flat rs).length:=by
 obtain ⟨q,⟨b,d⟩,e⟩:=ao9 rs hz
 subst e
 have h:(pendingOf st).toList=pend 0 q ++ [((flat q).length,b.length,d)]:=by rw [N.pn,acb];simp [pend]
 refine ⟨q ++ [(b,pw)],⟨k.trans N.k,f.trans N.f,?_,?_,fun x c=>?_,by rw [a];exact N.perm⟩,by simp [abo,abu,aho]⟩
 ·rw [a,N.arr];simp [abo,abu,aho]
 ·rw [p,aoe _ _ h,acb];simp [pend]
 ·rcases aA7.mp c with c | c
  ·exact N.ok x (by simp [c])
  ·have:x=(b,pw):=by simpa using c
   subst this
   exact N.ok (b,d) (by simp)
theorem a0p {c:Prop} [Decidable c] {x y z:Nat} (b:x+1 < z) (a:y+1 < z):(if c then x else y)+1 < z:=by
 split
 ·exact b
 ·exact a
theorem Rn.powK {rs:List (List Keyed × Nat)} {rest:List Keyed} {st st':SortSt} {pw:Nat} {G:SortSt->Prop} (N:Rn κ R a0 rs rest st) (hz:rs ≠ []) (h:∀ b,Rn κ R a0 b rest st'->(flat b).length=(flat rs).length->G st') (k:kindOf st'=kindOf st) (f:failedOf st'=failedOf st) (a:arrOf st'=arrOf st)
  (p:pendingOf st'=(pendingOf st).modify ((pendingOf st).size - 1) fun x=>(x.1,x.2.1,pw)):G st':=by
 obtain ⟨b,c,d⟩:=N.pow hz k f a p
 exact h b c d
theorem axw (C:Cmp M A E s κ S R) (Z:∀ x∈a0.toList,S x) {st:SortSt} (h0:arrOf st=a0) (hk:kindOf st = κ) (hf:failedOf st=none) (hp:pendingOf st = #[]) {Q:Unit->SortSt->Prop}
  (h:∀ st',failedOf st'=none->(arrOf st').toList.Perm a0.toList->Srt R (arrOf st').toList->Q () st'):wpS M A E s a2r Q st:=by
 have o:(arrOf st).size=a0.size:=by rw [h0]
 refine wpS_bind (wpS_get ?_)
 dsimp only
 refine wpS_bind (wpS_mono (Q:=fun (c:Option Unit × Nat) u=>c.1=none/\∃ rs,Rn κ R a0 rs [] u) ?_ ?_)
 ·refine wpS_forRange (fun i (c:Option Unit × Nat) u=>c.1=none/\∃ rs rest,Rn κ R a0 rs rest u/\c.2=(flat rs).length/\i<=c.2) ?_ ?_ ⟨rfl,[],a0.toList,⟨hk,hf,by rw [h0];rfl,by rw [hp];rfl,fun r H=>(by cases H),by rw [h0]⟩,rfl,aA6 _⟩
  ·rintro i ⟨c1,lo⟩ u _ hi ⟨F,rs,rest,N,e2,D⟩
   dsimp only at F e2 D ⊢
   subst F e2
   have P:=N.len
   have b2:i < a0.size:=by rw [← o];exact hi
   refine aap (fun a1=>?_) (fun a2=>?_)
   ·have a8:a0.size<=(flat rs).length:=by rw [← o];exact a1
    refine wpS_pure ⟨rfl,rs,?_⟩
    have:rest=[]:=aH4 (by lia)
    subst this
    exact N
   ·have a9:(flat rs).length < a0.size:=by
     have:¬ (flat rs).length ≥ (arrOf st).size:=a2
     lia
    refine wpS_bind (asz C (fun x hx=>Z x (N.perm.mem_iff.mp hx)) N.bs (nrem:=(arrOf st).size - (flat rs).length) (by lia) (by rw [N.size];lia) fun b4 n B2 n1 n2 T=>?_)
    dsimp only
    have y:=N.size
    refine aap (fun l=>?g1) (fun l=>?g2)
    case' g1 =>
     refine wpS_bind (ads ?_)
     generalize hmr:min (_:Nat) _=nn
     refine wpS_bind (aq1 C (fun x hx=>Z x (N.perm.mem_iff.mp hx)) B2 (n:=nn) (ok:=n) ?_ ?_ ?_ T fun b1 B3 a4=>?_)
     ·have:nn<=(arrOf st).size - (flat rs).length:=by rw [← hmr];exact Nat.min_le_left _ _
      rw [y];lia
     ·rw [← hmr];exact Nat.le_min.mpr ⟨n2,aG7 l⟩
     ·have:n<=nn:=by rw [← hmr];exact Nat.le_min.mpr ⟨n2,aG7 l⟩
      lia
     rw [aF8 (by decide)]
     have U:1<=nn:=by
      have:n<=nn:=by rw [← hmr];exact Nat.le_min.mpr ⟨n2,aG7 l⟩
      lia
     have b0:nn<=(arrOf st).size - (flat rs).length:=by rw [← hmr];exact Nat.min_le_left _ _
     obtain ⟨r,g,H,B,J,W⟩:=N.run B3 U (by rw [y];lia) a4
     clear hmr
     subst H
    case' g2 =>
     obtain ⟨r,g,H,B,J,W⟩:=N.run B2 n1 (by rw [y];lia) T
     clear l
     subst H
    all_goals
     refine wpS_bind (wpS_get ?_)
     rcases Classical.em (rs=[]) with hz | hz
     ·have w:=W.pn
      rw [hz] at w
      have hb:=Array.back?_eq_none_iff.mpr (Array.toList_eq_nil_iff.mp w)
      rw [hb]
      dsimp only
      refine wpS_bind (wpS_modify (wpS_pure ⟨rfl,rs ++ [(r,0)],g,W.push B J rfl rfl rfl rfl,?_,?_⟩))
      ·rw [abo,aB1];simp [flat]
      ·have:=aG1.mpr B
       show i+1<=(flat rs).length+r.length
       lia
     ·obtain ⟨q,⟨b,L⟩,eq⟩:=ao9 rs hz
      have w:=W.pn
      rw [eq,acb,show pend (0+(flat q).length) [(b,L)]=[((flat q).length,b.length,L)] by simp [pend]] at w
      have hb:=axv _ w
      rw [hb]
      dsimp only
      refine wpS_bind (wpS_mono (Q:=fun (c:Option Unit × Unit) d=>c.1=none/\∃ a,Rn κ R a0 a (r ++ g) d/\a ≠ []/\(flat a).length=(flat rs).length) ?_ ?_)
      ·refine wpS_forRange (fun _ (c:Option Unit × Unit) d=>c.1=none/\∃ a,Rn κ R a0 a (r ++ g) d/\a ≠ []/\(flat a).length=(flat rs).length) ?_ (fun c d h4=>h4) ⟨rfl,rs,W,hz,rfl⟩
       rintro i4 ⟨X,u4⟩ d _ _ ⟨v,a,m,Y,p⟩
       dsimp only at v
       subst v
       refine wpS_bind (wpS_get ?_)
       have O:(pendingOf d).size=a.length:=by
        have:=congrArg List.length m.pn
        rw [adz] at this
        simpa using this
       by_cases K:(pendingOf d).size > 1
       ·rw [aF7 K]
        obtain ⟨x4,a6⟩:∃ x4,(pendingOf d)[(pendingOf d).size - 2]?=some x4:=⟨_,aA4 (by lia)⟩
        obtain ⟨y1,y2,y3⟩:=x4
        rw [a6]
        dsimp only
        refine aap (fun _=>wpS_pure ⟨rfl,a,m,Y,p⟩) (fun _=>?_)
        rw [O]
        refine wpS_bind (aie C Z m (i:=a.length - 2) (by lia) fun a5 I N5 l5 f5=>?_)
        rw [aF8 (by decide)]
        refine wpS_pure ⟨rfl,I,N5,?_,by lia⟩
        rintro rfl
        simp at l5
        lia
       ·rw [aF8 K]
        exact wpS_pure ⟨rfl,a,m,Y,p⟩
      ·rintro ⟨X,u4⟩ d ⟨v,a,m,Y,p⟩
       dsimp only at v ⊢
       subst v
       dsimp only
       refine wpS_bind (wpS_modify ?_)
       refine m.powK (G:=fun z=>wpS M A E s _ _ z) Y (fun a3 N6 l6=>?_) rfl rfl rfl rfl
       refine wpS_bind (wpS_modify (wpS_pure ⟨rfl,a3 ++ [(r,0)],g,N6.push B J rfl rfl rfl ?_,?_,?_⟩))
       ·rw [l6,p]
       ·rw [abo,aB1,l6,p];simp [flat]
       ·have:=aG1.mpr B
        show i+1<=(flat rs).length+r.length
        lia
  ·rintro ⟨c1,lo⟩ u ⟨F,rs,rest,N,e2,D⟩
   dsimp only at F e2 D ⊢
   refine ⟨F,rs,?_⟩
   have P:=N.len
   have a7:(arrOf st).size<=lo:=aD0 (Nat.le_max_right 0 _) D
   have:rest=[]:=aH4 (by rw [o] at a7;lia)
   subst this
   exact N
 ·rintro ⟨c1,lo⟩ u ⟨F,rs,N⟩
  dsimp only at F ⊢
  subst F
  dsimp only
  refine wpS_bind (wpS_mono (Q:=fun (c:Option Unit × Unit) d=>c.1=none/\∃ a,Rn κ R a0 a [] d/\a.length<=1) ?_ ?_)
  ·refine wpS_forRange (fun j (c:Option Unit × Unit) d=>c.1=none/\∃ a,Rn κ R a0 a [] d/\(a.length<=1\/a.length+j<=a0.size)) ?_ ?_ ⟨rfl,rs,N,.inr ?_⟩
   ·rintro j ⟨X,u4⟩ d _ _ ⟨v,a,m,p⟩
    dsimp only at v
    subst v
    refine wpS_bind (wpS_get ?_)
    have O:(pendingOf d).size=a.length:=by
     have:=congrArg List.length m.pn
     rw [adz] at this
     simpa using this
    refine aap (fun K=>wpS_pure ⟨rfl,a,m,?_⟩) (fun K=>?_)
    ·have:(pendingOf d).size<=1:=K
     lia
    ·have b3:¬ (pendingOf d).size<=1:=K
     refine wpS_bind (aie C Z m (i:=_) ?_ fun a5 I N5 l5 f5=>?_)
     ·refine a0p ?_ ?_
      ·show (pendingOf d).size - 2 - 1+1 < a.length
       lia
      ·show (pendingOf d).size - 2+1 < a.length
       lia
     rw [aF8 (by decide)]
     exact wpS_pure ⟨rfl,I,N5,by lia⟩
   ·rintro ⟨X,u4⟩ d ⟨v,a,m,p⟩
    refine ⟨v,a,m,?_⟩
    rcases p with p | p
    ·exact p
    ·have:(arrOf st).size<=max 0 (arrOf st).size:=Nat.le_max_right _ _
     have h3:a.length+max 0 (arrOf st).size<=a0.size:=p
     lia
   ·have:=au5 fun r H=>(N.ok r H).1
    have:=N.len
    lia
  ·rintro ⟨X,u4⟩ d ⟨v,a,m,p⟩
   dsimp only at v ⊢
   subst v
   dsimp only
   refine wpS_pure (h d m.f m.perm ?_)
   rw [m.arr]
   match a,p with
   | [],_=>exact List.Pairwise.nil
   | [x],_=>simpa [flat] using (m.ok x (by simp)).2
end
end TS
namespace L2
open PySem PySem.Spec PyProof.Rows
mutual
inductive Rep (H:Hp):V->PyData->Prop
 | non:Rep H .non .none
 | bl (b:Bool):Rep H (.bl b) (.bool b)
 | int (i:Int):Rep H (.int i) (.int i)
 | str (x:Str):Rep H (.str x) (.str x)
 | lst {a:Addr} {xs:List V} {ds:List PyData}:H a=some (.lst xs)->Reps H xs ds->Rep H (.ref a) (.list ds)
 | tup {a:Addr} {xs:List V} {ds:List PyData}:H a=some (.tup xs)->Reps H xs ds->Rep H (.ref a) (.tuple ds)
inductive Reps (H:Hp):List V->List PyData->Prop
 | nil:Reps H [] []
 | cons {v:V} {vs:List V} {d:PyData} {ds:List PyData}:Rep H v d->Reps H vs ds->Reps H (v :: vs) (d :: ds)
end
mutual
theorem Rep.same {H H':Hp} (s:Same H H'):∀ {v:V} {d:PyData},Rep H v d->Rep H' v d
 | _,_,.non => .non
 | _,_,.bl b => .bl b
 | _,_,.int i => .int i
 | _,_,.str x => .str x
 | _,_,.lst h r => .lst (s _ _ h) (Reps.same s r)
 | _,_,.tup h r => .tup (s _ _ h) (Reps.same s r)
theorem Reps.same {H H':Hp} (s:Same H H'):∀ {vs:List V} {ds:List PyData},Reps H vs ds->Reps H' vs ds
 | _,_,.nil => .nil
 | _,_,.cons r t => .cons (Rep.same s r) (Reps.same s t)
end
section
variable {X:Cx} {pins:List (Addr × Obj)} {σ:St} {H:Hp} {s:Shared}
mutual
theorem Rep.reads (I:Inv X pins σ H s):∀ {v:V} {d:PyData} {u:Value},Rep H v d->RelV v u->∃ as,Reads s.heap u d as
 | _,_,_,.non,r=>by cases r;exact ⟨_,.none⟩
 | _,_,_,.bl b,r=>by cases r;exact ⟨_,.bool b⟩
 | _,_,_,.int i,r=>by obtain ⟨t,rfl⟩:=r;exact ⟨_,.int i t⟩
 | _,_,_,.str x,r=>by obtain ⟨t,rfl⟩:=r;exact ⟨_,.str x t⟩
 | _,_,_,.lst (a:=a) (xs:=xs) h q,r=>by
  cases r
  obtain ⟨_,its,n,g,e⟩:=(show ObjOk X.prog X.w H s.heap a (.lst xs) from I.hok a _ h)
  obtain ⟨as,f⟩:=Reps.reads I q g
  exact ⟨_,.list e rfl rfl (by simpa using f)⟩
 | _,_,_,.tup (a:=a) (xs:=xs) h q,r=>by
  cases r
  obtain ⟨_,its,g,o,e,c,n,dd⟩:=(show ObjOk X.prog X.w H s.heap a (.tup xs) from I.hok a _ h)
  obtain ⟨as,f⟩:=Reps.reads I q g
  exact ⟨_,.tuple e c dd (by simpa using f)⟩
theorem Reps.reads (I:Inv X pins σ H s):∀ {vs:List V} {ds:List PyData} {us:List Value},Reps H vs ds->Vals vs us->∃ as,ReadsAll s.heap us ds as
 | _,_,_,.nil,.nil=>⟨_,.nil⟩
 | _,_,_,.cons r t,.cons q qs=>by
  obtain ⟨as,a⟩:=Rep.reads I r q
  obtain ⟨bs,rb⟩:=Reps.reads I t qs
  exact ⟨_,.cons a rb⟩
end
end
mutual
def aat:PyData->Bool
 | .none | .int _=>true
 | .list xs | .tuple xs=>plainDs xs
 | _=>false
def plainDs:List PyData->Bool
 | []=>true
 | x :: xs=>aat x && plainDs xs
end
mutual
theorem acv:∀ (d:PyData),aat d=true->d.canLay0=true
 | .none,_=>by simp [PyData.canLay0]
 | .int _,_=>by simp [PyData.canLay0]
 | .list xs,h=>by simp only [PyData.canLay0];exact plain_lays xs (by simpa [aat] using h)
 | .tuple xs,h=>by simp only [PyData.canLay0];exact plain_lays xs (by simpa [aat] using h)
 | .bool _,h=>by simp [aat] at h
 | .str _,h=>by simp [aat] at h
 | .dict _,h=>by simp [aat] at h
theorem plain_lays:∀ (ds:List PyData),plainDs ds=true->PyData.canLayAll0 ds=true
 | [],_=>by simp [PyData.canLayAll0]
 | x :: xs,h=>by
  have h':aat x=true/\plainDs xs=true:=by simpa [plainDs] using h
  simp only [PyData.canLayAll0,acv x h'.1,plain_lays xs h'.2,Bool.and_self]
end
mutual
theorem akd:∀ (d e:PyData),aat d=true->aat e=true->(PyData.eqv d e=true ↔ d=e)
 | .none,e,_,h=>by cases e <;> simp_all [aat,PyData.eqv]
 | .int i,e,_,h=>by cases e <;> simp_all [aat,PyData.eqv]
 | .list xs,e,g,h=>by
  cases e with
  | list ys=>simp only [PyData.eqv,PyData.list.injEq];exact eqvAll_plain xs ys (by simpa [aat] using g) (by simpa [aat] using h)
  | _=>simp_all [aat,PyData.eqv]
 | .tuple xs,e,g,h=>by
  cases e with
  | tuple ys=>simp only [PyData.eqv,PyData.tuple.injEq];exact eqvAll_plain xs ys (by simpa [aat] using g) (by simpa [aat] using h)
  | _=>simp_all [aat,PyData.eqv]
 | .bool _,_,h,_=>by simp [aat] at h
 | .str _,_,h,_=>by simp [aat] at h
 | .dict _,_,h,_=>by simp [aat] at h
theorem eqvAll_plain:∀ (ds es:List PyData),plainDs ds=true->plainDs es=true->(PyData.eqvAll ds es=true ↔ ds=es)
 | [],[],_,_=>by simp [PyData.eqvAll]
 | [],_ :: _,_,_=>by simp [PyData.eqvAll]
 | _ :: _,[],_,_=>by simp [PyData.eqvAll]
 | x :: xs,y :: ys,g,h=>by
  have g':aat x=true/\plainDs xs=true:=by simpa [plainDs] using g
  have h':aat y=true/\plainDs ys=true:=by simpa [plainDs] using h
  simp only [PyData.eqvAll,aH3,List.cons.injEq,akd x y g'.1 h'.1,eqvAll_plain xs ys g'.2 h'.2]
end
theorem ahg (ds:List PyData):plainDs ds=true ↔ ∀ d∈ds,aat d=true:=by
 induction ds with
 | nil=>simp [plainDs]
 | cons d ds ih=>simp [plainDs,ih]
def rNeD:R2:=fun x y H Q=>∃ d e,Rep H x d/\Rep H y e/\aat d=true/\aat e=true/\d.depth<=60/\Q (.bl (!PyData.eqv d e)) H
section
variable {X:Cx}
theorem as0 (i:X.A.units+64 < cLine):OpR X (compareOp .NotEq) rNeD:=by
 intro pins s σ H x y v u Q I c f h
 obtain ⟨d,e,b,re,hd,g,hz,q⟩:=h
 obtain ⟨as,a⟩:=b.reads I c
 obtain ⟨bs,rb⟩:=re.reads I f
 refine SeqAt.compareNe_reads a rb (acv _ hd) (acv _ g) ?_ ⟨.bl _,H,I,rfl,q⟩
 have:=Nat.min_le_left d.depth e.depth
 lia
def rInD (neg:Bool):R2:=fun x y H Q=>∃ d es,Rep H x d/\(Rep H y (.list es)\/Rep H y (.tuple es))/\aat d=true/\plainDs es=true/\d.depth<=60/\Q (.bl (if neg then !es.any (fun z=>PyData.eqv z d) else es.any (fun z=>PyData.eqv z d))) H
theorem a0q (i:X.A.units+64 < cLine):OpR X (compareOp .In) (rInD false):=by
 intro pins s σ H x y v u Q I g b h
 obtain ⟨d,es,f,re,hd,c,hz,q⟩:=h
 obtain ⟨as,a⟩:=f.reads I g
 have hm:=Nat.min_le_right (PyData.depthAll es) d.depth
 rcases re with re | re
 ·obtain ⟨bs,rb⟩:=re.reads I b
  exact SeqAt.in_list_reads rb a (plain_lays _ c) (acv _ hd) (by lia) ⟨.bl _,H,I,rfl,q⟩
 ·obtain ⟨bs,rb⟩:=re.reads I b
  exact SeqAt.in_tuple_reads rb a (plain_lays _ c) (acv _ hd) (by lia) ⟨.bl _,H,I,rfl,q⟩
theorem as4 (i:X.A.units+64 < cLine):OpR X (compareOp .NotIn) (rInD true):=by
 intro pins s σ H x y v u Q I g b h
 obtain ⟨d,es,f,re,hd,c,hz,q⟩:=h
 obtain ⟨as,a⟩:=f.reads I g
 have hm:=Nat.min_le_right (PyData.depthAll es) d.depth
 rcases re with re | re
 ·obtain ⟨bs,rb⟩:=re.reads I b
  exact SeqAt.notIn_list_reads rb a (plain_lays _ c) (acv _ hd) (by lia) ⟨.bl _,H,I,rfl,q⟩
 ·obtain ⟨bs,rb⟩:=re.reads I b
  exact SeqAt.notIn_tuple_reads rb a (plain_lays _ c) (acv _ hd) (by lia) ⟨.bl _,H,I,rfl,q⟩
def rIsi (K:Frag):List V->Hp->VK->Prop:=fun xs H Q=>∃ (x:V) (T:String) (t:Value) (b:Bool),xs=[x,.ty T]/\TyOf K H x t/\kitOne K t (.type T)=some b/\Q (.bl b) H
theorem ahp:aa3 X (.builtin "isinstance") (rIsi X.K):=by
 intro pins s σ H xs us Q I r h
 obtain ⟨x,T,t,b,rfl,ty,e,q⟩:=h
 obtain ⟨u,c,rfl,d,a⟩:=aqt r
 cases a
 exact ase I d ty e fun f=>⟨.bl b,H,I.tok _,rfl,q⟩
end
end L2
namespace HT
open PySem PyProof.Rows
section
open PySem.SeqAt
open PySem.AutoSeq1 (wpAny_loadPart')
open PySem.MeetsSeq PySem.MeetsSeq2 PySem.MeetsSeq3
end
section
variable {prog:Program} {w:World} {A:Around} {E:Value->Shared->Prop} {s:Shared}
end
end HT
namespace L2
open PySem PySem.Spec PyProof.Rows
section
variable {X:Cx}
def aml (K:Frag):List V->Hp->VK->Prop:=fun xs H Q=>∃ (a:Addr) (ns:List Int),xs=[.ref a]/\SqL K H a (ns.map V.int)/\ns.length < 64/\∀ (ns':List Int) (p:Addr),ns'.Perm ns->ns'.Pairwise (·<=·)->H p=none->Q (.ref p) (upd H p (.lst (ns'.map V.int)))
theorem aq2:aa3 X (.builtin "sorted") (aml X.K):=by
 intro pins s σ H xs us Q I r h
 obtain ⟨a,ns,rfl,ha,f,q⟩:=h
 obtain ⟨u,rfl,l⟩:=abx r
 cases l
 obtain ⟨its,p,m,hz⟩:=I.list ha
 have i1:IntsAre its.toArray.toList ns:=ab5 p
 have i:IntsAre its ns:=by simpa using i1
 refine sorted_ints (vs:=its) m.isList i (by rw [i.length];exact f) fun out d b1 g j=>?_
 obtain ⟨e,n⟩:=sortedAll_at s.heap its out
 have c:H (s.heap.objs.size+1)=none:=I.hok.fresh (Nat.le_succ _)
 refine ⟨.ref (s.heap.objs.size+1),_,I.laid (t':=s.toks) (o:=.lst (d.map V.int)) (fun b v q=>sortedAll_old q) (Nat.le_succ _) ?_,rfl,q d _ g j c⟩
 refine ⟨?_,out.toList,e,agc b1,by rw [n]⟩
 rw [aA3,g.length_eq]
 exact aG7 (ad6 (by lia))
end
end L2
namespace HT
open PySem PyProof.Rows
theorem ajh (val:Nat->Int):∀ k,argBest (fun i j=>decide (val i > val j)) k<=k/\∀ i,i<=k->val i<=val (argBest (fun i j=>decide (val i > val j)) k)
 | 0 => ⟨Nat.le_refl _, fun i hi => by have:i=0 := by lia
                                       subst this;exact Int.le_refl _⟩
 | k+1=>by
  obtain ⟨b,a⟩:=ajh val k
  unfold argBest
  by_cases hc:val (k+1) > val (argBest (fun i j=>decide (val i > val j)) k)
  ·rw [aF7 (aD8 hc)]
   refine ⟨aA6 _,fun i hi=>?_⟩
   by_cases e:i=k+1
   ·subst e;exact Int.le_refl _
   ·have:=a i (by lia)
    exact Int.le_trans this (Int.le_of_lt hc)
  ·rw [aF8 (by simpa using hc)]
   refine ⟨by lia,fun i hi=>?_⟩
   by_cases e:i=k+1
   ·subst e;lia
   ·exact a i (by lia)
theorem aji (val:Nat->Int):∀ k,argBest (fun i j=>decide (val i < val j)) k<=k/\∀ i,i<=k->val (argBest (fun i j=>decide (val i < val j)) k)<=val i
 | 0 => ⟨Nat.le_refl _, fun i hi => by have:i=0 := by lia
                                       subst this;exact Int.le_refl _⟩
 | k+1=>by
  obtain ⟨b,a⟩:=aji val k
  unfold argBest
  by_cases hc:val (k+1) < val (argBest (fun i j=>decide (val i < val j)) k)
  ·rw [aF7 (aD8 hc)]
   refine ⟨aA6 _,fun i hi=>?_⟩
   by_cases e:i=k+1
   ·subst e;exact Int.le_refl _
   ·have:=a i (by lia)
    exact Int.le_trans (Int.le_of_lt hc) this
  ·rw [aF8 (by simpa using hc)]
   refine ⟨by lia,fun i hi=>?_⟩
   by_cases e:i=k+1
   ·subst e;lia
   ·exact a i (by lia)
def val (ns:List Int) (i:Nat):Int:=(ns[i]?).getD 0
theorem adj {us:List Value} {ns:List Int} (hi:IntsAre us ns) (i:Nat) (v:Value) (h:us.toArray[i]?=some v):∃ t,v=.int (val ns i) t:=by
 induction hi generalizing i with
 | nil=>simp at h
 | cons n t r ih =>
  cases i with
  | zero=>simp at h;subst h;exact ⟨t,by simp [val]⟩
  | succ i =>
   obtain ⟨t',e⟩:=ih i (by simpa using h)
   exact ⟨t',by simpa [val] using e⟩
theorem ag2 {ns:List Int} {i:Nat} (h:i < ns.length):val ns i∈ns:=by
 unfold val
 rw [aA0 h]
 exact aF4 h
theorem aif {ns:List Int} {x:Int} (h:x∈ns):∃ i,i < ns.length/\val ns i=x:=by
 obtain ⟨i,hi,e⟩:=aH8.mp h
 exact ⟨i,hi,by unfold val;rw [aA0 hi];exact e⟩
section
variable {prog:Program} {w:World} {A:Around} {E:Value->Shared->Prop} {s:Shared}
theorem max_list {l:Addr} {us:List Value} {ns:List Int} {Q:Value->Shared->Prop} (hh:A.handled=none) (c:s.heap.IsList l us.toArray) (hi:IntsAre us ns) (f:ns ≠ [])
  (h:∀ m t h' d,m∈ns->(∀ x∈ns,x<=m)->(∀ b o,s.heap.get? b=some o->h'.get? b=some o)->Q (.int m t) { s with heap:=h',toks:=d }) :
  wpAny (model prog w) A (call (.builtin "max") [.ref l]) Q E s:=by
 have a:l < s.heap.objs.size:=by obtain ⟨_,e,_⟩:=c;exact aJ6 e
 have hz:us.length=ns.length:=hi.length
 have u:0 < ns.length:=aG1.mpr f
 refine call_max_walk (aK8 c ?_)
 refine ⟨_,[s.heap.objs.size,l],_,_,_,_,_,rfl,Walks.list (A:=A.in1) hh _ l (aB6 a) us.toArray,⟨⟨_,aJ7 _ rfl,rfl,rfl⟩,c.push _⟩,fun b hb=>?_,by simp;lia,CmpOf.ints_gt (val ns) (fun i v=>adj hi i v),fun v h' d j r=>?_⟩
 ·show b < (s.heap.push _).objs.size
  rw [aK5]
  rcases aA9.mp hb with rfl | hb
  ·exact aJ0 _
  ·rcases aA9.mp hb with rfl | hb
   ·exact aG0 a
   ·cases hb
 ·obtain ⟨t,e⟩:=adj hi _ _ j
  obtain ⟨b1,g⟩:=ajh (val ns) (us.toArray.size - 1)
  have hs:us.toArray.size=ns.length:=by simp [hz]
  rw [hs] at b1 g
  subst e
  refine h _ t h' d (ag2 (by rw [hs];lia)) (fun x p=>?_) fun b o e=>?_
  ·obtain ⟨i,n,e⟩:=aif p
   have:=g i (by lia)
   rw [e] at this
   rw [hs]
   exact this
  ·refine r b o (fun hm=>?_) (aJ5 _ e)
   rcases aA9.mp hm with q | hm
   ·exact absurd (q ▸ aJ6 e) (aG6 _)
   ·cases hm
theorem min_list {l:Addr} {us:List Value} {ns:List Int} {Q:Value->Shared->Prop} (hh:A.handled=none) (c:s.heap.IsList l us.toArray) (hi:IntsAre us ns) (f:ns ≠ [])
  (h:∀ m t h' d,m∈ns->(∀ x∈ns,m<=x)->(∀ b o,s.heap.get? b=some o->h'.get? b=some o)->Q (.int m t) { s with heap:=h',toks:=d }) :
  wpAny (model prog w) A (call (.builtin "min") [.ref l]) Q E s:=by
 have a:l < s.heap.objs.size:=by obtain ⟨_,e,_⟩:=c;exact aJ6 e
 have hz:us.length=ns.length:=hi.length
 have u:0 < ns.length:=aG1.mpr f
 refine call_min_walk (aK8 c ?_)
 refine ⟨_,[s.heap.objs.size,l],_,_,_,_,_,rfl,Walks.list (A:=A.in1) hh _ l (aB6 a) us.toArray,⟨⟨_,aJ7 _ rfl,rfl,rfl⟩,c.push _⟩,fun b hb=>?_,by simp;lia,CmpOf.ints_lt (val ns) (fun i v=>adj hi i v),fun v h' d j r=>?_⟩
 ·show b < (s.heap.push _).objs.size
  rw [aK5]
  rcases aA9.mp hb with rfl | hb
  ·exact aJ0 _
  ·rcases aA9.mp hb with rfl | hb
   ·exact aG0 a
   ·cases hb
 ·obtain ⟨t,e⟩:=adj hi _ _ j
  obtain ⟨b1,g⟩:=aji (val ns) (us.toArray.size - 1)
  have hs:us.toArray.size=ns.length:=by simp [hz]
  rw [hs] at b1 g
  subst e
  refine h _ t h' d (ag2 (by rw [hs];lia)) (fun x p=>?_) fun b o e=>?_
  ·obtain ⟨i,n,e⟩:=aif p
   have:=g i (by lia)
   rw [e] at this
   rw [hs]
   exact this
  ·refine r b o (fun hm=>?_) (aJ5 _ e)
   rcases aA9.mp hm with q | hm
   ·exact absurd (q ▸ aJ6 e) (aG6 _)
   ·cases hm
theorem max_tup {l:Addr} {us:List Value} {ns:List Int} {Q:Value->Shared->Prop} (hh:A.handled=none) (f:s.heap.IsTuple l us.toArray) (hi:IntsAre us ns) (g:ns ≠ [])
  (h:∀ m t h' d,m∈ns->(∀ x∈ns,x<=m)->(∀ b o,s.heap.get? b=some o->h'.get? b=some o)->Q (.int m t) { s with heap:=h',toks:=d }) :
  wpAny (model prog w) A.in1 (pyIter (.ref l)) (fun it a=>∃ I fp p n P St bt,it=.ref I/\Walks prog w A.in1 I fp p n P St/\St 0 a.heap/\(∀ b∈fp,b < a.heap.objs.size)/\0 < n/\CmpOf prog w A.in1 .Gt P bt /\
   ∀ v h' d,P (argBest bt (n - 1)) v->(∀ b o,b ∉ p->a.heap.get? b=some o->h'.get? b=some o)->Q v { a with heap:=h',toks:=d }) E s:=by
 have c:l < s.heap.objs.size:=by obtain ⟨_,e,_⟩:=f;exact aJ6 e
 have hz:us.length=ns.length:=hi.length
 have B:0 < ns.length:=aG1.mpr g
 refine wpAny_pyIter_tuple f ?_
 refine ⟨_,[s.heap.objs.size,l],[_],_,_,_,_,rfl,Walks.tuple (A:=A.in1) hh _ l (aB6 c) us.toArray,⟨⟨_,aJ7 _ rfl,rfl,rfl⟩,f.push _⟩,fun b hb=>?_,by simp;lia,CmpOf.ints_gt (val ns) (fun i v=>adj hi i v),fun v h' d q z=>?_⟩
 ·show b < (s.heap.push _).objs.size
  rw [aK5]
  rcases aA9.mp hb with rfl | hb
  ·exact aJ0 _
  ·rcases aA9.mp hb with rfl | hb
   ·exact aG0 c
   ·cases hb
 ·obtain ⟨t,e⟩:=adj hi _ _ q
  obtain ⟨b1,j⟩:=ajh (val ns) (us.toArray.size - 1)
  have hs:us.toArray.size=ns.length:=by simp [hz]
  rw [hs] at b1 j
  subst e
  refine h _ t h' d (ag2 (by rw [hs];lia)) (fun x u=>?_) fun b o e=>?_
  ·obtain ⟨i,r,e⟩:=aif u
   have:=j i (by lia)
   rw [e] at this
   rw [hs]
   exact this
  ·refine z b o (fun hm=>?_) (aJ5 _ e)
   rcases aA9.mp hm with y | hm
   ·exact absurd (y ▸ aJ6 e) (aG6 _)
   ·cases hm
theorem min_tup {l:Addr} {us:List Value} {ns:List Int} {Q:Value->Shared->Prop} (hh:A.handled=none) (f:s.heap.IsTuple l us.toArray) (hi:IntsAre us ns) (g:ns ≠ [])
  (h:∀ m t h' d,m∈ns->(∀ x∈ns,m<=x)->(∀ b o,s.heap.get? b=some o->h'.get? b=some o)->Q (.int m t) { s with heap:=h',toks:=d }) :
  wpAny (model prog w) A.in1 (pyIter (.ref l)) (fun it a=>∃ I fp p n P St bt,it=.ref I/\Walks prog w A.in1 I fp p n P St/\St 0 a.heap/\(∀ b∈fp,b < a.heap.objs.size)/\0 < n/\CmpOf prog w A.in1 .Lt P bt /\
   ∀ v h' d,P (argBest bt (n - 1)) v->(∀ b o,b ∉ p->a.heap.get? b=some o->h'.get? b=some o)->Q v { a with heap:=h',toks:=d }) E s:=by
 have c:l < s.heap.objs.size:=by obtain ⟨_,e,_⟩:=f;exact aJ6 e
 have hz:us.length=ns.length:=hi.length
 have B:0 < ns.length:=aG1.mpr g
 refine wpAny_pyIter_tuple f ?_
 refine ⟨_,[s.heap.objs.size,l],[_],_,_,_,_,rfl,Walks.tuple (A:=A.in1) hh _ l (aB6 c) us.toArray,⟨⟨_,aJ7 _ rfl,rfl,rfl⟩,f.push _⟩,fun b hb=>?_,by simp;lia,CmpOf.ints_lt (val ns) (fun i v=>adj hi i v),fun v h' d q z=>?_⟩
 ·show b < (s.heap.push _).objs.size
  rw [aK5]
  rcases aA9.mp hb with rfl | hb
  ·exact aJ0 _
  ·rcases aA9.mp hb with rfl | hb
   ·exact aG0 c
   ·cases hb
 ·obtain ⟨t,e⟩:=adj hi _ _ q
  obtain ⟨b1,j⟩:=aji (val ns) (us.toArray.size - 1)
  have hs:us.toArray.size=ns.length:=by simp [hz]
  rw [hs] at b1 j
  subst e
  refine h _ t h' d (ag2 (by rw [hs];lia)) (fun x u=>?_) fun b o e=>?_
  ·obtain ⟨i,r,e⟩:=aif u
   have:=j i (by lia)
   rw [e] at this
   rw [hs]
   exact this
  ·refine z b o (fun hm=>?_) (aJ5 _ e)
   rcases aA9.mp hm with y | hm
   ·exact absurd (y ▸ aJ6 e) (aG6 _)
   ·cases hm
end
end HT
namespace L2
open PySem PySem.Spec PyProof.Rows
section
variable {X:Cx}
def adb (ns:List Int) (m:Int):Prop:=m∈ns/\∀ x∈ns,x<=m
def aig (ns:List Int) (m:Int):Prop:=m∈ns/\∀ x∈ns,m<=x
def ae5 (K:Frag):List V->Hp->VK->Prop:=fun xs H Q=>∃ (a:Addr) (ns:List Int),xs=[.ref a]/\(SqL K H a (ns.map V.int)\/SqT K H a (ns.map V.int))/\ns ≠ []/\∀ m,adb ns m->Q (.int m) H
def aih (K:Frag):List V->Hp->VK->Prop:=fun xs H Q=>∃ (a:Addr) (ns:List Int),xs=[.ref a]/\(SqL K H a (ns.map V.int)\/SqT K H a (ns.map V.int))/\ns ≠ []/\∀ m,aig ns m->Q (.int m) H
theorem adf (i:X.calm=true):aa3 X (.builtin "max") (ae5 X.K):=by
 intro pins s σ H xs us Q I r h
 obtain ⟨a,ns,rfl,ha,b,q⟩:=h
 obtain ⟨u,rfl,j⟩:=abx r
 cases j
 rcases ha with ha | ha
 ·obtain ⟨its,g,f,_⟩:=I.list ha
  have i1:IntsAre its.toArray.toList ns:=ab5 g
  exact HT.max_list (I.ok.hd i) f.isList (by simpa using i1) b fun m t h' l c d kp=>⟨.int m,H,I.kept kp,⟨_,rfl⟩,q m ⟨c,d⟩⟩
 ·obtain ⟨its,g,f,_⟩:=I.tuple ha
  have i1:IntsAre its.toArray.toList ns:=ab5 g
  refine call_max_walk (HT.max_tup (I.ok.hd i) f (by simpa using i1) b fun m t h' l c d kp=>⟨.int m,H,I.kept kp,⟨_,rfl⟩,q m ⟨c,d⟩⟩)
theorem ake (i:X.calm=true):aa3 X (.builtin "min") (aih X.K):=by
 intro pins s σ H xs us Q I r h
 obtain ⟨a,ns,rfl,ha,b,q⟩:=h
 obtain ⟨u,rfl,j⟩:=abx r
 cases j
 rcases ha with ha | ha
 ·obtain ⟨its,g,f,_⟩:=I.list ha
  have i1:IntsAre its.toArray.toList ns:=ab5 g
  exact HT.min_list (I.ok.hd i) f.isList (by simpa using i1) b fun m t h' l c d kp=>⟨.int m,H,I.kept kp,⟨_,rfl⟩,q m ⟨c,d⟩⟩
 ·obtain ⟨its,g,f,_⟩:=I.tuple ha
  have i1:IntsAre its.toArray.toList ns:=ab5 g
  refine call_min_walk (HT.min_tup (I.ok.hd i) f (by simpa using i1) b fun m t h' l c d kp=>⟨.int m,H,I.kept kp,⟨_,rfl⟩,q m ⟨c,d⟩⟩)
end
def tTru (K:Frag) (ta:TE):TT:=fun σ H Q=>ta σ H fun x H'=>∃ k,TruV K x H' k/\Q k H'
def rIsN:R2:=fun x y H Q=>y=.non/\Q (.bl (decide (x=.non))) H
section
variable {X:Cx} {a:Expr} {ta:TE}
theorem a0r (ha:PE X a ta) (b:∀ whole,isTrue a X.env whole=(do let v ← whole;standAt a.pos;holding [v] (truthy v)):=by intro _;rfl):PT X a (tTru X.K ta):=aup ha b
def ab6 (K:Frag):R2:=fun x y H Q=>rIxL K x y H Q\/rIxT K x y H Q
theorem aaq:IxR X (ab6 X.K):=ix_list.or az6
theorem axx {i j n:Int} {c b:Nat} {d p2 pos:Pos} (h:i ^ j.toNat=n) (a:CPow i j):PE X (.BinOp (.Constant (.int i) c d) .Pow (.Constant (.int j) b p2) pos) (tC (.int n)):=by
 intro pins s σ H Q I q
 subst h
 exact aav az2 aae aae pins s σ H Q I ⟨i,j,rfl,rfl,a,q⟩
theorem axy:OpR X (compareOp .Is) rIsN:=az3
end
section
variable {σ:St} {H:Hp} {D:Ends} {K:Frag}
theorem afx {a:Addr} {xs:List V} {i:Int} {v:V} {Q:VK} (ha:H a=some (.lst xs)) (b:atI xs i=some v) (h:Q v H):ab6 K (.ref a) (.int i) H Q:=.inl (a0g ha b h)
theorem au6 {a:Addr} {xs:List V} {i:Int} {v:V} {Q:VK} (ha:H a=some (.tup xs)) (b:atI xs i=some v) (h:Q v H):ab6 K (.ref a) (.int i) H Q:=.inr (a0h ha b h)
theorem au7 {a:Addr} {xs:List V} {i:Int} {v:V} {Q:VK} (ha:SqL K H a xs) (b:atI xs i=some v) (h:Q v H):ab6 K (.ref a) (.int i) H Q:=.inl (a0l ha b h)
theorem aco {A B:Prop} (h:A):if true=true then A else B:=by rw [aF7 rfl];exact h
theorem adk {A B:Prop} (h:B):if false=true then A else B:=by rw [aF8 aB0];exact h
theorem apa {A B:Prop} (h:B):if (!true)=true then A else B:=by rw [aF8 (by decide)];exact h
theorem apb {A B:Prop} (h:A):if (!false)=true then A else B:=by rw [aF7 (by decide)];exact h
theorem au8 {c:Prop} [Decidable c] {A B:Prop} (a:c) (h:B):if (!decide c)=true then A else B:=by rw [aD8 a];exact apa h
theorem au9 {c:Prop} [Decidable c] {A B:Prop} (a:¬ c) (h:A):if (!decide c)=true then A else B:=by rw [aD7 a];exact apb h
theorem ahq {K:Frag}:kitOne K (.type "NoneType") (.type "int")=some false:=by first | rfl | decide
theorem ahc {K:Frag}:kitOne K (.type "NoneType") (.type "bool")=some false:=by first | rfl | decide
theorem agh {K:Frag}:kitOne K (.type "NoneType") (.type "tuple")=some false:=by first | rfl | decide
theorem ahd {K:Frag}:kitOne K (.type "NoneType") (.type "list")=some false:=by first | rfl | decide
theorem ahr {K:Frag}:kitOne K (.type "NoneType") (.type "str")=some false:=by first | rfl | decide
theorem ahe {K:Frag}:kitOne K (.type "NoneType") (.type "dict")=some false:=by first | rfl | decide
theorem amm {K:Frag}:kitOne K (.type "bool") (.type "int")=some true:=by first | rfl | decide
theorem akz {K:Frag}:kitOne K (.type "bool") (.type "bool")=some true:=by first | rfl | decide
theorem ajj {K:Frag}:kitOne K (.type "bool") (.type "tuple")=some false:=by first | rfl | decide
theorem ak0 {K:Frag}:kitOne K (.type "bool") (.type "list")=some false:=by first | rfl | decide
theorem amn {K:Frag}:kitOne K (.type "bool") (.type "str")=some false:=by first | rfl | decide
theorem ak1 {K:Frag}:kitOne K (.type "bool") (.type "dict")=some false:=by first | rfl | decide
theorem aof {K:Frag}:kitOne K (.type "int") (.type "int")=some true:=by first | rfl | decide
theorem amo {K:Frag}:kitOne K (.type "int") (.type "bool")=some false:=by first | rfl | decide
theorem ak2 {K:Frag}:kitOne K (.type "int") (.type "tuple")=some false:=by first | rfl | decide
theorem amp {K:Frag}:kitOne K (.type "int") (.type "list")=some false:=by first | rfl | decide
theorem aog {K:Frag}:kitOne K (.type "int") (.type "str")=some false:=by first | rfl | decide
theorem amq {K:Frag}:kitOne K (.type "int") (.type "dict")=some false:=by first | rfl | decide
theorem aoh {K:Frag}:kitOne K (.type "str") (.type "int")=some false:=by first | rfl | decide
theorem amr {K:Frag}:kitOne K (.type "str") (.type "bool")=some false:=by first | rfl | decide
theorem ak3 {K:Frag}:kitOne K (.type "str") (.type "tuple")=some false:=by first | rfl | decide
theorem ams {K:Frag}:kitOne K (.type "str") (.type "list")=some false:=by first | rfl | decide
theorem aoi {K:Frag}:kitOne K (.type "str") (.type "str")=some true:=by first | rfl | decide
theorem amt {K:Frag}:kitOne K (.type "str") (.type "dict")=some false:=by first | rfl | decide
theorem amu {K:Frag}:kitOne K (.type "list") (.type "int")=some false:=by first | rfl | decide
theorem ak4 {K:Frag}:kitOne K (.type "list") (.type "bool")=some false:=by first | rfl | decide
theorem ajk {K:Frag}:kitOne K (.type "list") (.type "tuple")=some false:=by first | rfl | decide
theorem ak5 {K:Frag}:kitOne K (.type "list") (.type "list")=some true:=by first | rfl | decide
theorem amv {K:Frag}:kitOne K (.type "list") (.type "str")=some false:=by first | rfl | decide
theorem ak6 {K:Frag}:kitOne K (.type "list") (.type "dict")=some false:=by first | rfl | decide
theorem ak7 {K:Frag}:kitOne K (.type "tuple") (.type "int")=some false:=by first | rfl | decide
theorem ajl {K:Frag}:kitOne K (.type "tuple") (.type "bool")=some false:=by first | rfl | decide
theorem aii {K:Frag}:kitOne K (.type "tuple") (.type "tuple")=some true:=by first | rfl | decide
theorem ajm {K:Frag}:kitOne K (.type "tuple") (.type "list")=some false:=by first | rfl | decide
theorem ak8 {K:Frag}:kitOne K (.type "tuple") (.type "str")=some false:=by first | rfl | decide
theorem ajn {K:Frag}:kitOne K (.type "tuple") (.type "dict")=some false:=by first | rfl | decide
theorem amw {K:Frag}:kitOne K (.type "dict") (.type "int")=some false:=by first | rfl | decide
theorem ak9 {K:Frag}:kitOne K (.type "dict") (.type "bool")=some false:=by first | rfl | decide
theorem ajo {K:Frag}:kitOne K (.type "dict") (.type "tuple")=some false:=by first | rfl | decide
theorem ala {K:Frag}:kitOne K (.type "dict") (.type "list")=some false:=by first | rfl | decide
theorem amx {K:Frag}:kitOne K (.type "dict") (.type "str")=some false:=by first | rfl | decide
theorem alb {K:Frag}:kitOne K (.type "dict") (.type "dict")=some true:=by first | rfl | decide
end
end L2
namespace L2
open PySem
section
variable {σ:St} {H:Hp} {K:Frag}
theorem abg {p:Addr} {o:HO} (a:H p=none):Same H (upd H p o):=fun b u e=>by rw [aad (aai e a)];exact e
theorem Same.at {H H':Hp} {b:Addr} {o:HO} (s:Same H H') (h:H b=some o):H' b=some o:=s b o h
end
section
variable {σ:St} {H:Hp} {K:Frag}
abbrev NewL (Q:VK):List V->Hp->Prop:=fun xs H1=>xs.length<=sizeLine/\∀ p,H1 p=none->Q (.ref p) (upd H1 p (.lst xs))
theorem axz {t:TA} {Q:VK} (h:t σ H (NewL Q)):tLst t σ H Q:=h
end
end L2
namespace Gr
inductive Walk (T:Int->Int->Prop) (u:Int):Nat->Int->Prop
 | refl:Walk T u 0 u
 | step {k:Nat} {v w:Int}:Walk T u k v->T v w->Walk T u (k+1) w
def Dist (T:Int->Int->Prop) (u v:Int) (d:Nat):Prop:=Walk T u d v/\∀ k,Walk T u k v->d<=k
theorem Dist.uniq {T:Int->Int->Prop} {u v:Int} {d e:Nat} (h:Dist T u v d) (g:Dist T u v e):d=e:=Nat.le_antisymm (h.2 _ g.1) (g.2 _ h.1)
theorem Dist.self (T:Int->Int->Prop) (u:Int):Dist T u u 0:=⟨.refl,fun _ _=>aG2 _⟩
theorem Dist.of_walk {T:Int->Int->Prop} {u v:Int} {k:Nat} (h:Walk T u k v):∃ d,d<=k/\Dist T u v d:=by
 induction k using Nat.strongRecOn with
 | ind k ih =>
  by_cases hx:∃ j,j < k/\Walk T u j v
  ·obtain ⟨j,a,w⟩:=hx
   obtain ⟨d,hd,e⟩:=ih j a w
   exact ⟨d,by lia,e⟩
  ·refine ⟨k,aA6 _,h,fun j w=>?_⟩
   by_cases a:j < k
   ·exact absurd ⟨j,a,w⟩ hx
   ·lia
theorem Dist.pred {T:Int->Int->Prop} {u w:Int} {d:Nat} (h:Dist T u w (d+1)):∃ v,T v w/\Dist T u v d:=by
 obtain ⟨b,hm⟩:=h
 cases b with
 | step hv ht =>
  rename_i v
  refine ⟨v,ht,hv,fun k a=>?_⟩
  have:=hm (k+1) (.step a ht)
  lia
theorem Dist.next {T:Int->Int->Prop} {u v w:Int} {d:Nat} (h:Dist T u v d) (t:T v w):∃ e,e<=d+1/\Dist T u w e:=Dist.of_walk (.step h.1 t)
structure Bfs (T:Int->Int->Prop) (a:Int) (line:List Int) (ds:List Nat) (at_:Nat):Prop where
 len:ds.length=line.length
 fst:line[0]?=some a
 nd:line.Nodup
 le:at_<=line.length
 dist:∀ (i:Nat) v d,line[i]?=some v->ds[i]?=some d->Dist T a v d
 mono:∀ (i j:Nat) d e,i<=j->ds[i]?=some d->ds[j]?=some e->d<=e
 near:∀ (i j:Nat) d e,at_<=i->ds[i]?=some d->ds[j]?=some e->e<=d+1
 done:∀ (i:Nat) v w,i < at_->line[i]?=some v->T v w->w∈line
end Gr
namespace L2
open PySem PySem.Spec PyProof.Rows
section
variable {σ:St} {H:Hp} {D:Ends} {K:Frag}
end
end L2
namespace L2
open PySem
end L2
namespace HT
open PySem PyProof.Rows
theorem aij (ns:List Int):∀ k,k<=ns.length->preSum (val ns) k=(ns.take k).sum
 | 0,_=>by simp [preSum]
 | k+1,h=>by
  have a:=aij ns k (by lia)
  have e:ns.take (k+1)=ns.take k ++ [ns[k]]:=by rw [aH6,aA0 (by lia)];rfl
  rw [e,List.sum_append]
  unfold preSum
  rw [a]
  unfold val
  rw [aA0 (by lia)]
  simp
section
variable {prog:Program} {w:World} {A:Around} {E:Value->Shared->Prop} {s:Shared}
theorem sum_list {l:Addr} {us:List Value} {ns:List Int} {Q:Value->Shared->Prop} (hh:A.handled=none) (c:s.heap.IsList l us.toArray) (hi:IntsAre us ns)
  (h:∀ t h' d,(∀ b o,s.heap.get? b=some o->h'.get? b=some o)->Q (.int ns.sum t) { s with heap:=h',toks:=d }) :
  wpAny (model prog w) A (call (.builtin "sum") [.ref l]) Q E s:=by
 have a:l < s.heap.objs.size:=by obtain ⟨_,e,_⟩:=c;exact aJ6 e
 have hz:us.length=ns.length:=hi.length
 refine call_sum_walkG (aK8 c ?_)
 refine ⟨_,[s.heap.objs.size,l],_,_,_,_,val ns,rfl,Walks.list (A:=A.in1) hh _ l (aB6 a) us.toArray,⟨⟨_,aJ7 _ rfl,rfl,rfl⟩,c.push _⟩,fun b hb=>?_,fun i v=>adj hi i v,fun h' d t' g=>?_⟩
 ·show b < (s.heap.push _).objs.size
  rw [aK5]
  rcases aA9.mp hb with rfl | hb
  ·exact aJ0 _
  ·rcases aA9.mp hb with rfl | hb
   ·exact aG0 a
   ·cases hb
 ·have hs:us.toArray.size=ns.length:=by simp [hz]
  rw [hs,aij ns _ (aA6 _),aH0]
  refine h t' h' d fun b o e=>?_
  refine g b o (fun hm=>?_) (aJ5 _ e)
  rcases aA9.mp hm with f | hm
  ·exact absurd (f ▸ aJ6 e) (aG6 _)
  ·cases hm
end
end HT
namespace L2
open PySem PySem.Spec PyProof.Rows
section
variable {X:Cx}
def aq3 (K:Frag):List V->Hp->VK->Prop:=fun xs H Q=>∃ (a:Addr) (ns:List Int),xs=[.ref a]/\SqL K H a (ns.map V.int)/\Q (.int ns.sum) H
theorem akf (b:X.calm=true):aa3 X (.builtin "sum") (aq3 X.K):=by
 intro pins s σ H xs us Q I r h
 obtain ⟨a,ns,rfl,ha,q⟩:=h
 obtain ⟨u,rfl,c⟩:=abx r
 cases c
 obtain ⟨its,f,d,_⟩:=I.list ha
 have i1:IntsAre its.toArray.toList ns:=ab5 f
 exact HT.sum_list (I.ok.hd b) d.isList (by simpa using i1) fun t h' g kp=>⟨.int _,H,I.kept kp,⟨_,rfl⟩,q⟩
end
section
variable {X:Cx} {pins:List (Addr × Obj)} {σ:St} {H:Hp} {s:Shared} {A:Around} {E:Value->Shared->Prop} {Q:Value->Shared->Prop} {b:Bool}
end
section
variable {X:Cx}
end
end L2
namespace HT
open PySem PyProof.Rows L2
def LtAt (A:Around) (s:Shared) (y x:Value) (b:Bool):Prop :=
 ∀ (prog:Program) (w:World) (E:Value->Shared->Prop) (Q:Value->Shared->Prop),Q (.bool b) s->wpAny (model prog w) A (richCompare .Lt y x) Q E s
section
open PySem.SeqAt
open PySem.AutoSeq1 (wpAny_loadPart')
open PySem.MeetsSeq PySem.MeetsSeq2 PySem.MeetsSeq3
inductive Its (A:Around) (s:Shared):List Value->List Value->Bool->Prop
 | nn:Its A s [] [] false
 | nc {x:Value} {ys:List Value}:Its A s [] (x :: ys) true
 | cn {x:Value} {xs:List Value}:Its A s (x :: xs) [] false
 | eq {x y:Value} {xs ys:List Value} {b:Bool}:EqAt A s x y true->Its A s xs ys b->Its A s (x :: xs) (y :: ys) b
 | ne {x y:Value} {xs ys:List Value} {b:Bool}:EqAt A s x y false->LtAt A s x y b->Its A s (x :: xs) (y :: ys) b
end
section
variable {A:Around} {s:Shared}
end
end HT
namespace L2
open PySem PySem.Spec PyProof.Rows
section
variable {X:Cx}
end
end L2
namespace L2
open PySem
end L2
namespace TS
open PySem PyProof.Rows HT
theorem apc:∀ x y:List Int,HT.lexLt x y=true->HT.lexLt y x=false
 | [],[],h=>by simp [HT.lexLt] at h
 | [],_ :: _,_=>rfl
 | _ :: _,[],h=>by simp [HT.lexLt] at h
 | a :: x,b :: y,h=>by
  rw [aft] at h ⊢
  by_cases e:a=b
  ·subst e
   rw [aF7 rfl] at h ⊢
   exact apc x y h
  ·rw [aF8 e] at h
   rw [aF8 (fun z=>e z.symm)]
   have:=of_decide_eq_true h
   exact aD7 (by lia)
theorem as6:∀ x y z:List Int,HT.lexLt y x=false->HT.lexLt z y=false->HT.lexLt z x=false
 | _,[],[],h,_=>h
 | [],[],_ :: _,_,_=>rfl
 | _ :: _,[],_ :: _,h,_=>by simp [HT.lexLt] at h
 | _,_ :: _,[],_,h=>by simp [HT.lexLt] at h
 | [],_ :: _,_ :: _,_,_=>rfl
 | a :: x,b :: y,c :: z,h,g=>by
  rw [aft] at h g ⊢
  by_cases e:b=a
  ·subst e
   rw [aF7 rfl] at h
   by_cases e2:c=b
   ·subst e2
    rw [aF7 rfl] at g ⊢
    exact as6 x y z h g
   ·rw [aF8 e2] at g ⊢
    exact g
  ·rw [aF8 e] at h
   have h':=of_decide_eq_false h
   by_cases e2:c=b
   ·subst e2
    rw [aF8 e]
    exact h
   ·rw [aF8 e2] at g
    have g':=of_decide_eq_false g
    rw [aF8 (by lia)]
    exact aD7 (by lia)
def TI (h:Heap) (a:Addr) (ns:List Int):Prop:=∃ o xs n,h.get? a=some o/\o.cls=.type "tuple"/\o.data=.seq xs n/\IntsAre xs.toList ns
def kfV (kf:Addr->List Int):Value->List Int
 | .ref a=>kf a
 | _=>[]
section
variable {prog:Program} {w:World} {A:Around} {E:Value->Shared->Prop} {s:Shared}
theorem ahh {fin:Bool} {Q:Bool->Shared->Prop}:∀ {xs ys:List Value} {ns c:List Int} (i:Nat),IntsAre xs ns->IntsAre ys c->(ns.length < c.length->fin=true)->(c.length<=ns.length->fin=false)->Q (HT.lexLt ns c) s ->
  PySem.W.KatLex prog w A true fin Q (xs.zip ys) i s
 | _,_,_,_,i,.nil,.nil,_,h2,q=>by
  rw [h2 (aA6 _)];exact q
 | _,_,_,_,i,.nil,.cons b u r,h1,_,q=>by
  rw [h1 (by simp)];exact q
 | _,_,_,_,i,.cons a t r,.nil,_,h2,q=>by
  rw [List.zip_nil_right,h2 (by simp)];exact q
 | _,_,_,_,i,.cons a t r,.cons b u r2,h1,h2,q=>by
  rw [List.zip_cons_cons]
  refine PySem.W.kat_cons (SeqAt.EqAt.int_int a t b u prog w _ _ ?_)
  rw [aft] at q
  by_cases e:a=b
  ·subst e
   rw [aF7 rfl] at q
   rw [show (a == a)=true by simp]
   exact PySem.W.kat_yes (ahh (i+1) r r2 (fun z=>h1 (by simpa using z)) (fun z=>h2 (by simpa using z)) q)
  ·rw [aF8 e] at q
   rw [show (a == b)=false by simpa using e]
   refine PySem.W.kat_no ?_
   by_cases hi:i=0
   ·subst hi
    exact oneLt_int q
   ·rw [show (true && i == 0)=false by simpa using hi]
    exact PySem.W.kat_one _ _ (PyProof.Rows.lt_int q)
def tS (h:Heap) (kf:Addr->List Int) (x:Keyed):Prop:=x.1=x.2/\∃ a,x.1=.ref a/\TI h a (kf a)
def tR (kf:Addr->List Int) (x y:Keyed):Bool:=HT.lexLt (kfV kf x.1) (kfV kf y.1)
theorem cmp_tups (h:Addr->List Int):Cmp (model prog w) A E s (tuples' true) (tS s.heap h) (tR h):=by
 refine ⟨fun x y m u Q st B q=>?_,fun x y _ _=>apc _ _,fun x y z _ _ _=>as6 _ _ _⟩
 obtain ⟨I,D⟩:=x
 obtain ⟨G,J⟩:=y
 obtain ⟨_,a,i,o,xs,n,r,F,v,g⟩:=m
 obtain ⟨_,b,j,o',ys,C,l,H,p,f⟩:=u
 dsimp only at i j
 subst i j
 rw [lt'_eq]
 refine wpS_bind (wpS_get ?_)
 rw [B]
 refine wpS_bind (wpS_lift (wpAny_attempt (PySem.W.kat_lt r v l p (ahh 0 g f (fun z=>?_) (fun z=>?_) ⟨rfl,?_⟩))))
 ·have c:=g.length;have d:=f.length
  simp at c d
  exact aD8 (by lia)
 ·have c:=g.length;have d:=f.length
  simp at c d
  exact aD7 (by lia)
 ·exact wpS_pure q
theorem aq4 {vs:List Value} {ps:List Keyed} (h:ps.Perm (vs.zip vs)):(∀ p∈ps,p.1=p.2/\p.1∈vs)/\(ps.map (·.2)).Perm vs:=by
 refine ⟨fun p a=>mem_zip_self (h.mem_iff.mp a),?_⟩
 have b:=h.map (fun p=>p.2)
 have e:(vs.zip vs).map (fun p=>p.2)=vs:=List.map_snd_zip (aA6 _)
 rwa [e] at b
theorem list_sort_any {a:Addr} {vs:List Value} {n:Nat} {P:PySem.Fin->Shared->Prop} (j:s.heap.get? a=some (seqObj "list" vs.toArray n)) (c:vs.length<=sizeLine)
  (l:2<=vs.length->∀ h',(∀ b o,b ≠ a->s.heap.get? b=some o->h'.get? b=some o)->∃ κ S R,(∀ (Q:SortKind->Shared->Prop),Q κ { s with heap:=h' }->wpAny (model prog w) A (keyKind' vs.toArray) Q E { s with heap:=h' })/\Cmp (model prog w) A E { s with heap:=h' } κ S R/\(∀ v∈vs,S (v,v)) /\
   ∀ out:List Value,out.Perm vs->out.Pairwise (fun x y=>R (y,y) (x,x)=false)->P (.done (.ret .none)) { s with heap:=sortedHeap s.heap a vs out.toArray })
  (D:vs.length < 2->P (.done (.ret .none)) { s with heap:=sortedHeap s.heap a vs vs.toArray }) :
  wpAny (model prog w) A (Builtin.«list.sort» ⟨[.ref a],[]⟩) P E s:=by
 rw [list_sort_plain]
 have ha:a < s.heap.objs.size:=aJ6 j
 refine aJ3 (listItems_at j rfl ?_)
 refine aJ3 (listUpdate_at j rfl ?_ (by rw [aB2];exact c) (aG2 _))
 obtain ⟨r,f⟩:∃ r,(s.heap.update a (Obj.mapSeq fun _ => #[])).get? a=some (seqObj "list" #[] r):=⟨_,get?_update_seq j (fun _ => #[])⟩
 refine aJ3 (seqEpoch_at f rfl ?_)
 refine aJ3 (wpAny_newTuple ?_ (by show vs.length<=_;exact c))
 refine aJ3 (wpAny_newList ?_ (aG2 _))
 refine aJ9 ?_
 have d:(((s.heap.update a (Obj.mapSeq fun _ => #[])).push (seqObj "tuple" vs.toArray 0)).push (seqObj "list" #[] 0)).get? a=some (seqObj "list" #[] r):=by
  rw [Heap.get?_push_ne _ _ _ (by rw [size_push',Heap.size_update];exact aB6 (aG0 ha)),Heap.get?_push_ne _ _ _ (by rw [Heap.size_update];exact aB6 ha)]
  exact f
 show wpAny (model prog w) A _ P E { s with heap:=((s.heap.update a (Obj.mapSeq fun _ => #[])).push (seqObj "tuple" vs.toArray 0)).push (seqObj "list" #[] 0) }
 dsimp only
 have hsz:vs.toArray.size=vs.length:=by simp
 have kp:∀ b o,b ≠ a->s.heap.get? b=some o->(((s.heap.update a (Obj.mapSeq fun _ => #[])).push (seqObj "tuple" vs.toArray 0)).push (seqObj "list" #[] 0)).get? b=some o:=fun b o hb e=>by
  refine aJ5 _ (aJ5 _ ?_)
  rw [Heap.get?_update_ne _ _ _ _ hb];exact e
 by_cases h2:vs.toArray.size < 2
 ·rw [aF7 h2,aF7 h2]
  refine aJ3 (aJ4 ?_)
  rw [StateT.run_pure]
  refine aJ3 (aJ4 ?_)
  dsimp only
  have p:(arrOf (SortSt.mk' general' (vs.toArray.zip vs.toArray) #[] 7 none)).map (·.2)=vs.toArray:=by
   show (vs.toArray.zip vs.toArray).map (·.2)=vs.toArray
   apply Array.toList_inj.mp
   rw [Array.toList_map,Array.toList_zip]
   exact List.map_snd_zip (aA6 _)
  rw [p]
  refine aJ3 (seqEpoch_at d rfl ?_)
  refine aJ3 (listUpdate_at d rfl ?_ (aG2 _) (by rw [aB2];exact Nat.le_succ_of_le c))
  simp only [bne_self_eq_false,Bool.false_eq_true,if_false]
  exact aJ4 (D (by lia))
 ·rw [aF8 h2,aF8 h2]
  obtain ⟨κ,S,R,J,C,I,g⟩:=l (by lia) _ kp
  refine aJ3 (J _ ?_)
  refine aJ3 (aK2 (axw C (a0:=vs.toArray.zip vs.toArray) (st:=SortSt.mk' κ (vs.toArray.zip vs.toArray) #[] 7 none) (Q:=fun _ st'=>failedOf st'=none/\(arrOf st').toList.Perm (vs.zip vs)/\Srt R (arrOf st').toList) (fun x m=>?_) rfl rfl rfl rfl fun st' G z s'=>⟨G,by simpa using z,s'⟩) ?_ fun _ _ e=>e)
  ·have:x∈vs.zip vs:=by simpa using m
   obtain ⟨h,i⟩:=mem_zip_self this
   obtain ⟨K,F⟩:=x
   dsimp only at h i
   subst h
   exact I _ i
  rintro ⟨⟨⟩,st'⟩ s' ⟨rfl,hf,L,hs⟩
  dsimp only
  obtain ⟨h,i⟩:=aq4 L
  have p:(arrOf st').map (·.2)=(((arrOf st').toList.map (·.2)).toArray):=by
   apply Array.toList_inj.mp
   simp
  rw [p]
  have q:((arrOf st').toList.map (·.2)).length=vs.length:=i.length_eq
  refine aJ3 (seqEpoch_at d rfl ?_)
  refine aJ3 (listUpdate_at d rfl ?_ (aG2 _) (by rw [aB2,q];exact Nat.le_succ_of_le c))
  rw [hf]
  simp only [bne_self_eq_false,Bool.false_eq_true,if_false]
  refine aJ4 (g _ i ?_)
  rw [aG3]
  refine aI2 ?_ hs
  intro x y m H B
  have ex:=(h x m).1
  have u:=(h y H).1
  obtain ⟨K,F⟩:=x
  obtain ⟨M,N⟩:=y
  dsimp only at ex u
  subst ex u
  exact B
theorem sorted_any {l:Addr} {vs:List Value} {Q:Value->Shared->Prop} (j:s.heap.IsList l vs.toArray) (c:vs.length<=sizeLine)
  (g:2<=vs.length->∀ h',(∀ b o,s.heap.get? b=some o->h'.get? b=some o)->∃ κ S R,(∀ (Q:SortKind->Shared->Prop),Q κ { s with heap:=h' }->wpAny (model prog w) A.in1.in1 (keyKind' vs.toArray) Q E { s with heap:=h' })/\Cmp (model prog w) A.in1.in1 E { s with heap:=h' } κ S R/\(∀ v∈vs,S (v,v)) /\
   ∀ out:List Value,out.Perm vs->out.Pairwise (fun x y=>R (y,y) (x,x)=false)->Q (.ref (s.heap.objs.size+1)) { s with heap:=sortedAll s.heap vs out.toArray })
  (i:vs.length < 2->Q (.ref (s.heap.objs.size+1)) { s with heap:=sortedAll s.heap vs vs.toArray }) :
  wpAny (model prog w) A (call (.builtin "sorted") [.ref l]) Q E s:=by
 refine Calls.call_function_entry kind_sorted plain_sorted entry_sorted (args_sorted1 _) ?_
 unfold Builtin.«sorted»
 refine aJ3 (m:=checkCount "sorted" 1 1 _) (aJ4 ?_)
 refine aJ3 (collect_list j ?_ c)
 refine aJ3 (wpAny_newList ?_ c)
 have hsz:((s.heap.push (seqObj "list" #[] 0)).update s.heap.objs.size (Obj.mapSeq (· ++ vs.toArray))).objs.size=s.heap.objs.size+1:=by
  rw [Heap.size_update,size_push']
 have d:(((s.heap.push (seqObj "list" #[] 0)).update s.heap.objs.size (Obj.mapSeq (· ++ vs.toArray))).push (seqObj "list" vs.toArray 0)).get? (s.heap.objs.size+1)=some (seqObj "list" vs.toArray 0):=by
  rw [← hsz];exact aJ7 _ rfl
 have keep:∀ b o,s.heap.get? b=some o->(((s.heap.push (seqObj "list" #[] 0)).update s.heap.objs.size (Obj.mapSeq (· ++ vs.toArray))).push (seqObj "list" vs.toArray 0)).get? b=some o:=fun b o q=>by
  have a:b < s.heap.objs.size:=aJ6 q
  rw [Heap.get?_push_ne _ _ _ (by rw [hsz];exact aB6 (aG0 a)),Heap.get?_update_ne _ _ _ _ (aB6 a),Heap.get?_push_ne _ _ _ (aB6 a)]
  exact q
 show wpAny _ _ _ _ _ { s with heap:=((s.heap.push (seqObj "list" #[] 0)).update s.heap.objs.size (Obj.mapSeq (· ++ vs.toArray))).push (seqObj "list" vs.toArray 0) }
 rw [hsz]
 refine aJ3 (aJ9 (aK6 slot_list_sort ⟨_,d,rfl⟩ entry_list_sort ?body (args_list_sort _)))
 case body =>
  refine list_sort_any (s:={ s with heap:=((s.heap.push (seqObj "list" #[] 0)).update s.heap.objs.size (Obj.mapSeq (· ++ vs.toArray))).push (seqObj "list" vs.toArray 0) }) d c (fun h h' kp=>?_) fun a=>?_
  ·obtain ⟨κ,S,R,u,C,r,f⟩:=g h h' fun b o e=>kp b o (aB6 (aG0 (aJ6 e))) (keep b o e)
   exact ⟨κ,S,R,u,C,r,fun out n p=>⟨_,rfl,aJ4 ⟨_,rfl,f out n p⟩⟩⟩
  ·exact ⟨_,rfl,aJ4 ⟨_,rfl,i a⟩⟩
end
end TS
namespace L2
open PySem PySem.Spec PyProof.Rows
def toI:V->Int
 | .int i=>i
 | _=>0
def kH (H:Hp):V->List Int
 | .ref t=>match H t with
  | some (.tup xs)=>xs.map toI
  | _=>[]
 | _=>[]
theorem ax0 (ns:List Int):(ns.map V.int).map toI=ns:=by
 rw [aE0]
 have:(toI ∘ V.int)=id:=by funext i;rfl
 rw [this,List.map_id]
theorem ag3 {H:Hp} {t:Addr} {ns:List Int} (h:H t=some (.tup (ns.map V.int))):kH H (.ref t)=ns:=by
 simp only [kH,h];exact ax0 ns
def TupI (H:Hp) (v:V):Prop:=∃ t ns,v=.ref t/\H t=some (.tup (ns.map V.int))/\ns ≠ []
def aby:Value->V
 | .ref a => .ref a
 | _ => .non
theorem ae6:∀ {us:List Value},(∀ u∈us,∃ a,u=.ref a)->Vals (us.map aby) us
 | [],_ => .nil
 | u :: us,h=>by
  obtain ⟨a,e⟩:=h u aB8
  subst e
  exact .cons rfl (ae6 fun v b=>h v (aB5 _ b))
theorem agi {H:Hp}:∀ {vs:List V} {us:List Value},Vals vs us->(∀ v∈vs,TupI H v)->(∀ u∈us,∃ a,u=.ref a)/\us.map aby=vs
 | _,_,.nil,_=>⟨fun u g=>(by cases g),rfl⟩
 | v :: vs,u :: us,.cons r t,h=>by
  obtain ⟨a,ns,rfl,_,_⟩:=h v aB8
  cases r
  obtain ⟨d,c⟩:=agi t fun v f=>h v (aB5 _ f)
  refine ⟨fun x b=>?_,by rw [aD1,c];rfl⟩
  rcases aA9.mp b with rfl | b
  ·exact ⟨_,rfl⟩
  ·exact d x b
section
variable {X:Cx}
def aik (K:Frag):List V->Hp->VK->Prop:=fun xs H Q=>∃ (a:Addr) (vs:List V),xs=[.ref a]/\SqL K H a vs/\(∀ v∈vs,TupI H v) /\
 ∀ (vs':List V) (p:Addr),vs'.Perm vs->vs'.Pairwise (fun x y=>HT.lexLt (kH H y) (kH H x)=false)->H p=none->Q (.ref p) (upd H p (.lst vs'))
theorem afy {H:Hp} {pins:List (Addr × Obj)} {σ:St} {s:Shared} (I:Inv X pins σ H s) {h':Heap} (kp:∀ b o,s.heap.get? b=some o->h'.get? b=some o):∀ {vs:List V} {us:List Value},Vals vs us->(∀ v∈vs,TupI H v) ->
  (∃ fs,PySem.W.KatTups h' us fs/\fs.length=us.length/\∀ f∈fs,∃ i t,f=.int i t)/\∀ u∈us,∃ a,u=.ref a/\TS.TI h' a (kH H (.ref a))
 | _,_,.nil,_=>⟨⟨[],trivial,rfl,fun f hf=>by cases hf⟩,fun u C=>by cases C⟩
 | v :: vs,u :: us,.cons r t,h=>by
  obtain ⟨a,ns,rfl,e,l⟩:=h v aB8
  cases r
  obtain ⟨⟨fs,k1,y,A⟩,B⟩:=afy I kp t fun v z=>h v (aB5 _ z)
  obtain ⟨_,its,F,o,p,m,n,q⟩:=(show ObjOk X.prog X.w H s.heap a (.tup (ns.map V.int)) from I.hok a _ e)
  have hi:IntsAre its ns:=by simpa using (ab5 F:IntsAre its.toArray.toList ns)
  have E:TS.TI h' a (kH H (.ref a)):=⟨o,its.toArray,n,kp _ _ p,m,q,by rw [ag3 e];simpa using hi⟩
  obtain ⟨f,hf,i,d,D⟩:∃ f,its.toArray[0]?=some f/\∃ i t,f=.int i t:=by
   cases hi with
   | nil=>exact absurd rfl l
   | cons i d _=>exact ⟨_,by simp,i,d,rfl⟩
  refine ⟨⟨f :: fs,PySem.W.KatTups.cons (kp _ _ p) m q hf k1,by simp [y],fun g j=>?_⟩,fun x c=>?_⟩
  ·rcases aA9.mp j with rfl | j
   ·exact ⟨i,d,D⟩
   ·exact A g j
  ·rcases aA9.mp c with rfl | c
   ·exact ⟨a,rfl,E⟩
   ·exact B x c
theorem ahs {α:Type} {R : α->α->Prop}:∀ {l:List α},l.length < 2->l.Pairwise R
 | [],_=>List.Pairwise.nil
 | [_],_=>List.pairwise_singleton _ _
 | _ :: _ :: _,h=>absurd h (by simp)
theorem ail:aa3 X (.builtin "sorted") (aik X.K):=by
 intro pins s σ H xs us Q I r h
 obtain ⟨a,vs,rfl,ha,n,q⟩:=h
 obtain ⟨u,rfl,w⟩:=abx r
 cases w
 obtain ⟨its,l,B,hz⟩:=I.list ha
 obtain ⟨b1,C⟩:=agi l n
 have c:its.length<=sizeLine:=by rw [← l.length];exact hz
 have d:H (s.heap.objs.size+1)=none:=I.hok.fresh (Nat.le_succ _)
 have fin:∀ out:List Value,out.Perm its->(out.map aby).Pairwise (fun x y=>HT.lexLt (kH H y) (kH H x)=false)->EP X pins σ Q (.ref (s.heap.objs.size+1)) { s with heap:=sortedAll s.heap its out.toArray }:=by
  intro out f hs
  obtain ⟨e,J⟩:=sortedAll_at s.heap its out.toArray
  have g:Vals (out.map aby) out:=ae6 fun u F=>b1 u (f.mem_iff.mp F)
  refine ⟨.ref (s.heap.objs.size+1),_,I.laid (t':=s.toks) (o:=.lst (out.map aby)) (fun b S q=>sortedAll_old q) (Nat.le_succ _) ?_,rfl,q _ _ ?_ hs d⟩
  ·refine ⟨by rw [aA3,f.length_eq];exact c,out,e,g,by rw [J]⟩
  ·rw [← C];exact f.map aby
 refine TS.sorted_any B.isList c (fun M h' kp=>?_) fun j=>?_
 ·obtain ⟨⟨fs,k1,N,D⟩,E⟩:=afy I kp l n
  have m:(Value.type "int" != Value.type "tuple")=true:=by rfl
  refine ⟨tuples' true,TS.tS h' (fun a=>kH H (.ref a)),TS.tR (fun a=>kH H (.ref a)),fun P z=>?_,TS.cmp_tups (s:={ s with heap:=h' }) (fun a=>kH H (.ref a)),fun v g=>?_,fun out f hs=>fin out f ?_⟩
  ·refine PySem.W.kat_kind (T:=.type "int") (s:={ s with heap:=h' }) k1 (by lia) (fun v g=>?_) (by rfl) ?_
   ·obtain ⟨i,t,rfl⟩:=D v g
    exact .now
   ·rw [m];exact z
  ·obtain ⟨a,e,L⟩:=E v g
   exact ⟨rfl,a,e,L⟩
  ·rw [aG3]
   refine aI2 ?_ hs
   intro x y A G p
   obtain ⟨R,rfl⟩:=b1 x (f.mem_iff.mp A)
   obtain ⟨O,rfl⟩:=b1 y (f.mem_iff.mp G)
   exact p
 ·refine fin its (List.Perm.refl _) ?_
  exact ahs (by rw [aA3];exact j)
end
end L2
namespace HT
open PySem PySem.Spec PyProof.Rows L2
section
variable {prog:Program} {w:World} {A:Around} {kw:List (Str × Value)} {R:Result->Shared->Prop} {I S:Addr} {fp wr:List Addr} {n:Nat} {P:Nat->Value->Prop} {St:Nat->Heap->Prop} {Hd:Heap->Prop}
end
section
variable {prog:Program} {w:World} {A:Around} {E:Value->Shared->Prop} {s:Shared}
end
end HT
namespace L2
open PySem PySem.Spec PyProof.Rows
section
variable {X:Cx} {x:Str} {p pos kpos:Pos} {e en:Expr} {t:TA}
end
end L2
namespace HT
open PySem PySem.Spec PyProof.Rows
section
variable {prog:Program} {w:World} {A:Around} {E:Value->Shared->Prop} {s:Shared}
end
end HT
namespace L2
open PySem PySem.Spec PyProof.Rows
section
variable {X:Cx}
end
end L2
namespace VL
open PySem PySem.Spec L2
def kD:Key->PyData
 | .inl i => .int i
 | .inr x => .str x
mutual
inductive Rp (G:Hp):V->PyData->Prop
 | non:Rp G .non .none
 | bl (b:Bool):Rp G (.bl b) (.bool b)
 | int (i:Int):Rp G (.int i) (.int i)
 | str (x:Str):Rp G (.str x) (.str x)
 | lst {a:Addr} {xs:List V} {ds:List PyData}:G a=some (.lst xs)->Rps G xs ds->Rp G (.ref a) (.list ds)
 | tup {a:Addr} {xs:List V} {ds:List PyData}:G a=some (.tup xs)->Rps G xs ds->Rp G (.ref a) (.tuple ds)
 | dk {a:Addr} {kvs:List (Key × V)} {es:List (Key × PyData)} {ds:List (PyData × PyData)}:G a=some (.dK kvs)->RpK G kvs es->ds=es.map (fun p=>(kD p.1,p.2))->Rp G (.ref a) (.dict ds)
 | dt {a:Addr} {kvs:List (List Key × V)} {es:List (List Key × PyData)} {ds:List (PyData × PyData)}:G a=some (.dT kvs)->RpT G kvs es->ds=es.map (fun p=>(.tuple (p.1.map kD),p.2))->Rp G (.ref a) (.dict ds)
inductive Rps (G:Hp):List V->List PyData->Prop
 | nil:Rps G [] []
 | cons {v:V} {vs:List V} {d:PyData} {ds:List PyData}:Rp G v d->Rps G vs ds->Rps G (v :: vs) (d :: ds)
inductive RpK (G:Hp):List (Key × V)->List (Key × PyData)->Prop
 | nil:RpK G [] []
 | cons {k:Key} {v:V} {d:PyData} {r:List (Key × V)} {s:List (Key × PyData)}:Rp G v d->RpK G r s->RpK G ((k,v) :: r) ((k,d) :: s)
inductive RpT (G:Hp):List (List Key × V)->List (List Key × PyData)->Prop
 | nil:RpT G [] []
 | cons {k:List Key} {v:V} {d:PyData} {r:List (List Key × V)} {s:List (List Key × PyData)}:Rp G v d->RpT G r s->RpT G ((k,v) :: r) ((k,d) :: s)
end
mutual
theorem Rp.same {G G':Hp} (s:Same G G'):∀ {v:V} {d:PyData},Rp G v d->Rp G' v d
 | _,_,.non => .non
 | _,_,.bl b => .bl b
 | _,_,.int i => .int i
 | _,_,.str x => .str x
 | _,_,.lst h r => .lst (s _ _ h) (Rps.same s r)
 | _,_,.tup h r => .tup (s _ _ h) (Rps.same s r)
 | _,_,.dk h r e => .dk (s _ _ h) (RpK.same s r) e
 | _,_,.dt h r e => .dt (s _ _ h) (RpT.same s r) e
theorem Rps.same {G G':Hp} (s:Same G G'):∀ {vs:List V} {ds:List PyData},Rps G vs ds->Rps G' vs ds
 | _,_,.nil => .nil
 | _,_,.cons r t => .cons (Rp.same s r) (Rps.same s t)
theorem RpK.same {G G':Hp} (s:Same G G'):∀ {vs:List (Key × V)} {ds:List (Key × PyData)},RpK G vs ds->RpK G' vs ds
 | _,_,.nil => .nil
 | _,_,.cons r t => .cons (Rp.same s r) (RpK.same s t)
theorem RpT.same {G G':Hp} (s:Same G G'):∀ {vs:List (List Key × V)} {ds:List (List Key × PyData)},RpT G vs ds->RpT G' vs ds
 | _,_,.nil => .nil
 | _,_,.cons r t => .cons (Rp.same s r) (RpT.same s t)
end
theorem Rps.length {G:Hp}:∀ {vs:List V} {ds:List PyData},Rps G vs ds->vs.length=ds.length
 | _,_,.nil=>rfl
 | _,_,.cons _ t=>by simp [Rps.length t]
theorem Rps.get {G:Hp}:∀ {vs:List V} {ds:List PyData} {i:Nat} {d:PyData},Rps G vs ds->ds[i]?=some d->∃ v,vs[i]?=some v/\Rp G v d
 | _,_,_,_,.nil,e=>by simp at e
 | _,_,0,_,.cons r _,e=>by simp at e;subst e;exact ⟨_,rfl,r⟩
 | _,_,i+1,d,.cons _ t,e=>by
  obtain ⟨u,b,a⟩:=Rps.get (i:=i) (d:=d) t (by simpa using e)
  exact ⟨u,by simpa using b,a⟩
theorem Rps.append {G:Hp}:∀ {vs a:List V} {ds es:List PyData},Rps G vs ds->Rps G a es->Rps G (vs ++ a) (ds ++ es)
 | _,_,_,_,.nil,s=>s
 | _,_,_,_,.cons r t,s => .cons r (Rps.append t s)
theorem Rps.set {G:Hp} {v:V} {d:PyData} (h:Rp G v d):∀ {vs:List V} {ds:List PyData} (i:Nat),Rps G vs ds->Rps G (vs.set i v) (ds.set i d)
 | _,_,_,.nil => .nil
 | _,_,0,.cons _ t => .cons h t
 | _,_,i+1,.cons r t => .cons r (Rps.set h i t)
theorem Rps.rep {G:Hp} {vs:List V} {ds:List PyData} (h:Rps G vs ds):∀ (k:Nat),Rps G (List.replicate k vs).flatten (List.replicate k ds).flatten
 | 0 => .nil
 | k+1=>by
  rw [aH5,aH5,List.flatten_cons,List.flatten_cons]
  exact h.append (Rps.rep h k)
theorem Rps.ints {G:Hp}:∀ (ns:List Int),Rps G (ns.map V.int) (ns.map PyData.int)
 | [] => .nil
 | n :: ns => .cons (.int n) (Rps.ints ns)
theorem Rps.ints_inv {G:Hp}:∀ {ns:List Int} {vs:List V},Rps G vs (ns.map PyData.int)->vs=ns.map V.int
 | [],_,.nil=>rfl
 | n :: ns,_,.cons r t=>by
  cases r
  rw [Rps.ints_inv t];rfl
mutual
theorem Rp.rep {G:Hp}:∀ {v:V} {d:PyData},Rp G v d->aat d=true->Rep G v d
 | _,_,.non,_ => .non
 | _,_,.bl b,_ => .bl b
 | _,_,.int i,_ => .int i
 | _,_,.str x,_ => .str x
 | _,_,.lst h r,p => .lst h (Rps.reps r (by simpa [aat] using p))
 | _,_,.tup h r,p => .tup h (Rps.reps r (by simpa [aat] using p))
 | _,_,.dk h r e,p=>by simp [aat] at p
 | _,_,.dt h r e,p=>by simp [aat] at p
theorem Rps.reps {G:Hp}:∀ {vs:List V} {ds:List PyData},Rps G vs ds->plainDs ds=true->Reps G vs ds
 | _,_,.nil,_ => .nil
 | _,_,.cons r t,p=>by
  simp only [plainDs,aH3] at p
  exact .cons (Rp.rep r p.1) (Rps.reps t p.2)
end
structure Own where
 P:Hp->Hp->V->(Addr->Prop)->Prop
 mono:∀ {G H G' H':Hp} {v:V} {F:Addr->Prop},P G H v F->Same G G'->(∀ a o,F a->H a=some o->H' a=some o)->P G' H' v F
 dom:∀ {G H:Hp} {v:V} {F:Addr->Prop},P G H v F->∀ a,F a->∃ o,H a=some o
inductive Sl where
 | st (d:PyData) | own (A:Own) | io (A:Own) | scr (ns:List Int)
abbrev En:=List (Option Sl)
structure Bs where
 K:Frag
 G:Hp
 H:Hp
 R:Hp
 S:St
 F:Nat->Addr->Prop
def SlOk (B:Bs) (G H:Hp) (i:Nat) (v:V) (F:Addr->Prop):Sl->Prop
 | .st d=>Rp G v d/\∀ a,¬ F a
 | .own A=>A.P G H v F/\∀ a,F a->B.H a=none
 | .io A=>A.P G H v F/\(∀ a,F a->B.F i a\/B.H a=none)/\B.S[i]?=some (some v)
 | .scr ns=>(∃ a,v=.ref a/\SqL B.K G a (ns.map V.int))/\∀ a,¬ F a
def FT (G H:Hp):Prop:=∀ (a:Addr) (ks:List Key),H a=some (.tup (ks.map kV))->G a=some (.tup (ks.map kV))
structure VI (B:Bs) (G H:Hp) (σ:St) (env:En) (F:Nat->Addr->Prop):Prop where
 gh:Same G H
 g0:Same B.G G
 gn:∀ a o,G a=some o->B.G a=some o\/B.H a=none
 rs:Same B.R H
 rb:Same B.R B.H
 bh:∀ a o,B.H a=some o->∃ o',H a=some o'
 fg:∀ i a,F i a->G a=none
 fr:∀ i a,F i a->B.R a=none
 fd:∀ i j a,F i a->F j a->i=j
 fo:∀ i a,F i a->∃ o,H a=some o
 sl:∀ i s,env[i]?=some (some s)->∃ v,σ[i]?=some (some v)/\SlOk B G H i v (F i) s
 ln : σ.length=env.length
 ft:FT G H
def RsOk (G H:Hp) (v:V) (F:Addr->Prop):Sl->Prop
 | .st d=>Rp G v d/\∀ a,¬ F a
 | .own A=>A.P G H v F
 | _=>False
structure RsX (B:Bs) (G H:Hp) (v:V) (Fv:Addr->Prop) (s:Sl) (F:Nat->Addr->Prop):Prop where
 ok:RsOk G H v Fv s
 fb:∀ a,Fv a->B.H a=none
 fg:∀ a,Fv a->G a=none
 fo:∀ a,Fv a->∃ o,H a=some o
 fd:∀ j a,Fv a->¬ F j a
structure Out (G H:Hp) (v:V) (G' H':Hp) (s:Sl) (Fv:Addr->Prop):Prop where
 gg:Same G G'
 gh:Same G' H'
 hh:Same H H'
 gn:∀ a o,G' a=some o->G a=some o\/H a=none
 fn:∀ a,Fv a->H a=none
 fg:∀ a,Fv a->G' a=none
 fo:∀ a,Fv a->∃ o,H' a=some o
 ok:RsOk G' H' v Fv s
 ft:FT G H->FT G' H'
theorem SlOk.mono {B:Bs} {G H G' H':Hp} {i:Nat} {v:V} {F:Addr->Prop} {s:Sl} (h:SlOk B G H i v F s) (g:Same G G') (hh:∀ a o,F a->H a=some o->H' a=some o):SlOk B G' H' i v F s:=by
 cases s with
 | st d=>exact ⟨h.1.same g,h.2⟩
 | own A=>exact ⟨A.mono h.1 g hh,h.2⟩
 | io A=>exact ⟨A.mono h.1 g hh,h.2⟩
 | scr ns =>
  obtain ⟨⟨a,e,q⟩,n⟩:=h
  exact ⟨⟨a,e,g.seq q⟩,n⟩
section
variable {B:Bs} {G H G' H':Hp} {σ:St} {env:En} {F:Nat->Addr->Prop} {v:V} {s:Sl} {Fv:Addr->Prop}
theorem VI.no_r (I:VI B G H σ env F) {a:Addr} (h:H a=none):B.R a=none:=by
 cases e:B.R a with
 | none=>rfl
 | some o=>rw [I.rs a o e] at h;cases h
theorem VI.no_b (I:VI B G H σ env F) {a:Addr} (h:H a=none):B.H a=none:=by
 cases e:B.H a with
 | none=>rfl
 | some o=>obtain ⟨o',b⟩:=I.bh a o e;rw [b] at h;cases h
theorem VI.no_g (I:VI B G H σ env F) {a:Addr} (h:H a=none):G a=none:=by
 cases e:G a with
 | none=>rfl
 | some o=>rw [I.gh a o e] at h;cases h
theorem VI.no_f (I:VI B G H σ env F) {a:Addr} (h:H a=none) (i:Nat):¬ F i a:=fun z=>by
 obtain ⟨o,e⟩:=I.fo i a z;rw [e] at h;cases h
theorem VI.grow (I:VI B G H σ env F) (gg:Same G G') (gh:Same G' H') (hh:Same H H') (gn:∀ a o,G' a=some o->G a=some o\/H a=none) (ft:FT G' H'):VI B G' H' σ env F where
 gh:=gh
 g0:=I.g0.trans gg
 gn:=fun a o e=>by
  rcases gn a o e with e | e
  ·exact I.gn a o e
  ·exact .inr (I.no_b e)
 rs:=I.rs.trans hh
 rb:=I.rb
 bh:=fun a o e=>by obtain ⟨o',b⟩:=I.bh a o e;exact ⟨o',hh _ _ b⟩
 fg:=fun i a z=>by
  cases e:G' a with
  | none=>rfl
  | some o =>
   rcases gn a o e with e | e
   ·rw [I.fg i a z] at e;cases e
   ·exact absurd z (I.no_f e i)
 fr:=I.fr
 fd:=I.fd
 fo:=fun i a z=>by obtain ⟨o,e⟩:=I.fo i a z;exact ⟨o,hh _ _ e⟩
 sl:=fun i s e=>by
  obtain ⟨v,d,c⟩:=I.sl i s e
  exact ⟨v,d,c.mono gg fun a o _ q=>hh _ _ q⟩
 ln:=I.ln
 ft:=ft
theorem VI.out (I:VI B G H σ env F) (o:Out G H v G' H' s Fv):VI B G' H' σ env F/\RsX B G' H' v Fv s F :=
 ⟨I.grow o.gg o.gh o.hh o.gn (o.ft I.ft),o.ok,fun a z=>I.no_b (o.fn a z),o.fg,o.fo,fun j a z y=>I.no_f (o.fn a z) j y⟩
theorem VI.b_r (I:VI B G H σ env F) {a:Addr} (h:B.H a=none):B.R a=none:=by
 cases e:B.R a with
 | none=>rfl
 | some o=>rw [I.rb a o e] at h;cases h
def putF (F:Nat->Addr->Prop) (i:Nat) (Fv:Addr->Prop):Nat->Addr->Prop:=fun j a=>if j=i then Fv a else F j a
theorem putF_same {i:Nat} {a:Addr}:putF F i Fv i a ↔ Fv a:=by unfold putF;rw [aF7 rfl]
theorem afn {i:Nat}:putF F i Fv i=Fv:=by funext a;unfold putF;rw [aF7 rfl]
theorem abf {i j:Nat} (h:j ≠ i):putF F i Fv j=F j:=by funext a;unfold putF;rw [aF8 h]
theorem VI.slot (I:VI B G H σ env F) (i:Nat) (o:Option V) (os:Option Sl) (fg:∀ a,Fv a->G a=none) (fr:∀ a,Fv a->B.R a=none) (fo:∀ a,Fv a->∃ o,H a=some o) (fd:∀ j a,j ≠ i->Fv a->¬ F j a)
  (ok:∀ s,os=some s->∃ v,o=some v/\SlOk B G H i v Fv s):VI B G H (σ.set i o) (env.set i os) (putF F i Fv) where
 gh:=I.gh
 g0:=I.g0
 gn:=I.gn
 rs:=I.rs
 rb:=I.rb
 bh:=I.bh
 fg:=fun j a z=>by
  by_cases h:j=i
  ·subst h;exact fg a (putF_same.mp z)
  ·rw [abf h] at z;exact I.fg j a z
 fr:=fun j a z=>by
  by_cases h:j=i
  ·subst h;exact fr a (putF_same.mp z)
  ·rw [abf h] at z;exact I.fr j a z
 fd:=fun j k a y z=>by
  by_cases h:j=i
  ·by_cases g:k=i
   ·rw [h,g]
   ·subst h;rw [abf g] at z;exact absurd z (fd k a g (putF_same.mp y))
  ·by_cases g:k=i
   ·subst g;rw [abf h] at y;exact absurd y (fd j a h (putF_same.mp z))
   ·rw [abf h] at y;rw [abf g] at z;exact I.fd j k a y z
 fo:=fun j a z=>by
  by_cases h:j=i
  ·subst h;exact fo a (putF_same.mp z)
  ·rw [abf h] at z;exact I.fo j a z
 sl:=fun j t e=>by
  by_cases h:j=i
  ·subst h
   rw [aD2,aF7 rfl] at e
   by_cases hl:j < env.length
   ·rw [aF7 hl] at e
    obtain ⟨v,b,q⟩:=ok t (aC6 e)
    refine ⟨v,by rw [aD2,aF7 rfl,aF7 (by rw [I.ln];exact hl),b],?_⟩
    rw [afn];exact q
   ·rw [aF8 hl] at e;cases e
  ·rw [aD2,aF8 (fun z=>h z.symm)] at e
   obtain ⟨v,b,q⟩:=I.sl j t e
   refine ⟨v,by rw [aD2,aF8 (fun z=>h z.symm)];exact b,?_⟩
   rw [abf h];exact q
 ln:=by simp [I.ln]
 ft:=I.ft
theorem VI.store (I:VI B G H σ env F) (r:RsX B G H v Fv s F) (i:Nat):VI B G H (σ.set i (some v)) (env.set i (some s)) (putF F i Fv):=by
 refine I.slot i (some v) (some s) r.fg (fun a z=>I.b_r (r.fb a z)) r.fo (fun j a _ z=>r.fd j a z) fun t e=>?_
 cases e
 refine ⟨v,rfl,?_⟩
 have:=r.ok
 cases s with
 | st d=>exact this
 | own A=>exact ⟨this,r.fb⟩
 | io A=>exact this.elim
 | scr ns=>exact this.elim
theorem VI.drop (I:VI B G H σ env F) (i:Nat):VI B G H σ (env.set i none) (putF F i fun _=>False):=by
 have:=I.slot (Fv:=fun _=>False) i ((σ[i]?).getD none) none (fun a z=>z.elim) (fun a z=>z.elim) (fun a z=>z.elim) (fun j a _ z=>z.elim) (fun s e=>by cases e)
 rwa [show σ.set i ((σ[i]?).getD none) = σ from ?_] at this
 apply aG4
 intro j
 rw [aD2]
 by_cases h:i=j
 ·subst h
  rw [aF7 rfl]
  by_cases hl:i < σ.length
  ·rw [aF7 hl,aA0 hl];rfl
  ·rw [aF8 hl,aF9.mpr (by lia)]
 ·rw [aF8 h]
theorem VI.change {A:Own} (I:VI B G H σ env F) (i:Nat) {H2:Hp} {F2:Addr->Prop} {os os':Sl} (e:env[i]?=some (some os)) (g : σ[i]?=some (some v))
  (keep:∀ a o,¬ F i a->H a=some o->H2 a=some o) (m:∀ a o,H a=some o->∃ o',H2 a=some o') (c:∀ a,F2 a->(F i a\/H a=none)/\∃ o,H2 a=some o) (n:A.P G H2 v F2) (O:FT G H2)
  (hs:(os'=.own A/\∃ f,os=.own f)\/(os'=.io A/\∃ f,os=.io f)):VI B G H2 σ (env.set i (some os')) (putF F i F2):=by
 obtain ⟨Q,d,q⟩:=I.sl i os e
 rw [g] at d;cases d
 have l:∀ j a,j ≠ i->F j a->¬ F i a:=fun j a b y z=>b (I.fd j i a y z)
 have M:∀ a,F2 a->G a=none:=fun a z=>by
  rcases (c a z).1 with y | y
  ·exact I.fg i a y
  ·exact I.no_g y
 have J:VI B G H2 σ (env.set i none) (putF F i fun _=>False):=by
  have D:=I.drop i
  refine ⟨fun a o x=>keep a o (fun z=>by rw [I.fg i a z] at x;cases x) (I.gh a o x),D.g0,D.gn,fun a o x=>keep a o (fun z=>by rw [I.fr i a z] at x;cases x) (I.rs a o x),D.rb,fun a o x=>?_,D.fg,D.fr,D.fd,fun j a z=>?_,fun j s x=>?_,D.ln,O⟩
  ·obtain ⟨o',C⟩:=I.bh a o x
   exact m a o' C
  ·obtain ⟨o,x⟩:=D.fo j a z
   exact m a o x
  ·obtain ⟨u,r,w⟩:=D.sl j s x
   refine ⟨u,r,w.mono (Same.refl G) fun a o z y=>?_⟩
   by_cases b:j=i
   ·subst b;exact (putF_same.mp z).elim
   ·rw [abf b] at z
    exact keep a o (l j a b z) y
 have p:=J.slot (Fv:=F2) i (some v) (some os') M (fun a z=>by
   rcases (c a z).1 with y | y
   ·exact I.fr i a y
   ·exact I.no_r y) (fun a z=>(c a z).2) (fun j a b z y=>by
   rw [abf b] at y
   rcases (c a z).1 with x | x
   ·exact l j a b y x
   ·exact I.no_f x j y) fun t N=>by
   cases N
   refine ⟨v,rfl,?_⟩
   rcases hs with ⟨rfl,f,rfl⟩ | ⟨rfl,f,rfl⟩
   ·refine ⟨n,fun a z=>?_⟩
    rcases (c a z).1 with y | y
    ·exact q.2 a y
    ·exact I.no_b y
   ·refine ⟨n,fun a z=>?_,q.2.2⟩
    rcases (c a z).1 with y | y
    ·exact q.2.1 a y
    ·exact .inr (I.no_b y)
 have K : σ.set i (some v) = σ:=by
  apply aG4
  intro j
  rw [aD2]
  by_cases h:i=j
  ·subst h
   rw [aF7 rfl,g,aF7 (aA1.mp g).1]
  ·rw [aF8 h]
 have E:(env.set i none).set i (some os')=env.set i (some os'):=by simp
 have L:putF (putF F i fun _=>False) i F2=putF F i F2:=by
  funext j a
  by_cases h:j=i
  ·subst h;rw [afn,afn]
  ·rw [abf h,abf h,abf h]
 rw [K,E,L] at p
 exact p
end
open Classical in
def jn (G H:Hp) (F:Addr->Prop):Hp:=fun a=>if F a then H a else G a
theorem aei {G H:Hp} {F:Addr->Prop} {a:Addr} (h:F a):jn G H F a=H a:=aF7 h
theorem alp {G H:Hp} {F:Addr->Prop} {a:Addr} (h:¬ F a):jn G H F a=G a:=aF8 h
theorem abv {G H:Hp} {F:Addr->Prop} (h:∀ a,F a->G a=none):Same G (jn G H F):=fun a o e=>by
 rw [alp (fun z=>by rw [h a z] at e;cases e)];exact e
theorem a2s {G H:Hp} {F:Addr->Prop} (h:Same G H):Same (jn G H F) H:=fun a o e=>by
 by_cases z:F a
 ·rw [aei z] at e;exact e
 ·rw [alp z] at e;exact h a o e
def Frz (A:Own) (d:PyData):Prop:=∀ (G H:Hp) (v:V) (F:Addr->Prop),A.P G H v F->(∀ a,F a->G a=none)->Same G H->Rp (jn G H F) v d
def FQ:Sl->(PyData->Prop)->Prop
 | .st d,R=>R d
 | .own A,R=>∃ d,Frz A d/\R d
 | _,_=>False
def OL (ds:List PyData):Own where
 P:=fun G H v F=>∃ a vs,v=.ref a/\H a=some (.lst vs)/\Rps G vs ds/\∀ b,F b ↔ b=a
 mono:=fun ⟨a,vs,e,h,r,f⟩ g hh=>⟨a,vs,e,hh a _ ((f a).mpr rfl) h,r.same g,f⟩
 dom:=fun ⟨a,vs,e,h,r,f⟩ b z=>by rw [(f b).mp z];exact ⟨_,h⟩
def OD (es:List (Key × PyData)):Own where
 P:=fun G H v F=>∃ a kvs,v=.ref a/\H a=some (.dK kvs)/\RpK G kvs es/\∀ b,F b ↔ b=a
 mono:=fun ⟨a,vs,e,h,r,f⟩ g hh=>⟨a,vs,e,hh a _ ((f a).mpr rfl) h,r.same g,f⟩
 dom:=fun ⟨a,vs,e,h,r,f⟩ b z=>by rw [(f b).mp z];exact ⟨_,h⟩
def OT (es:List (List Key × PyData)):Own where
 P:=fun G H v F=>∃ a kvs,v=.ref a/\H a=some (.dT kvs)/\RpT G kvs es/\∀ b,F b ↔ b=a
 mono:=fun ⟨a,vs,e,h,r,f⟩ g hh=>⟨a,vs,e,hh a _ ((f a).mpr rfl) h,r.same g,f⟩
 dom:=fun ⟨a,vs,e,h,r,f⟩ b z=>by rw [(f b).mp z];exact ⟨_,h⟩
theorem acw {ds:List PyData}:Frz (OL ds) (.list ds):=fun G H v F ⟨a,vs,e,h,r,f⟩ n g=>by
 subst e
 exact .lst (by rw [aei ((f a).mpr rfl)];exact h) (r.same (abv n))
theorem a0s {es:List (Key × PyData)}:Frz (OD es) (.dict (es.map fun p=>(kD p.1,p.2))):=fun G H v F ⟨a,vs,e,h,r,f⟩ n g=>by
 subst e
 exact .dk (by rw [aei ((f a).mpr rfl)];exact h) (r.same (abv n)) rfl
theorem a2t {d:PyData} {R:PyData->Prop} (h:R d):FQ (.st d) R:=h
theorem acf {ds:List PyData} {R:PyData->Prop} (h:R (.list ds)):FQ (.own (OL ds)) R:=⟨_,acw,h⟩
section
variable {B:Bs} {G H G' H':Hp} {σ:St} {env:En} {F:Nat->Addr->Prop} {v:V} {s:Sl} {Fv:Addr->Prop}
theorem VI.freeze (I:VI B G H σ env F) (fb:∀ a,Fv a->B.H a=none) (fd:∀ j a,Fv a->¬ F j a) (fg:∀ a,Fv a->G a=none):VI B (jn G H Fv) H σ env F where
 gh:=a2s I.gh
 g0:=I.g0.trans (abv fg)
 gn:=fun a o e=>by
  by_cases z:Fv a
  ·exact .inr (fb a z)
  ·rw [alp z] at e;exact I.gn a o e
 rs:=I.rs
 rb:=I.rb
 bh:=I.bh
 fg:=fun i a z=>by
  rw [alp (fun y=>fd i a y z)];exact I.fg i a z
 fr:=I.fr
 fd:=I.fd
 fo:=I.fo
 sl:=fun i s e=>by
  obtain ⟨v,c,b⟩:=I.sl i s e
  exact ⟨v,c,b.mono (abv fg) fun a o _ q=>q⟩
 ln:=I.ln
 ft:=fun a ks e=>abv fg _ _ (I.ft a ks e)
theorem VI.frz {A:Own} {d:PyData} {i:Nat} (I:VI B G H σ env F) (e:env[i]?=some (some (.own A))) (f:Frz A d) :
  ∃ v,σ[i]?=some (some v)/\Rp (jn G H (F i)) v d/\Same G (jn G H (F i))/\VI B (jn G H (F i)) H σ (env.set i (some (.st d))) (putF F i fun _=>False):=by
 obtain ⟨v,b,q⟩:=I.sl i _ e
 have c:=f G H v (F i) q.1 (I.fg i) I.gh
 refine ⟨v,b,c,abv (I.fg i),?_⟩
 have D:=(I.drop i).freeze (Fv:=F i) q.2 (fun j a z y=>by
  by_cases h:j=i
  ·subst h;exact (putF_same.mp y).elim
  ·rw [abf h] at y;exact h (I.fd j i a y z)) (I.fg i)
 have J:=D.slot (Fv:=fun _=>False) i (some v) (some (.st d)) (fun a z=>z.elim) (fun a z=>z.elim) (fun a z=>z.elim) (fun j a _ z=>z.elim) (fun t m=>by cases m;exact ⟨v,rfl,c,fun a z=>z⟩)
 have g : σ.set i (some v) = σ:=by
  apply aG4
  intro j
  rw [aD2]
  by_cases h:i=j
  ·subst h
   rw [aF7 rfl,b,aF7 (aA1.mp b).1]
  ·rw [aF8 h]
 have l:putF (putF F i fun _=>False) i (fun _=>False)=putF F i fun _=>False:=by
  funext j a
  by_cases h:j=i
  ·subst h;rw [afn,afn]
  ·rw [abf h,abf h]
 rw [g,l,List.set_set] at J
 exact J
theorem Out.refl {d:PyData} (g:Same G H) (r:Rp G v d):Out G H v G H (.st d) (fun _=>False):=⟨Same.refl _,g,Same.refl _,fun a o e => .inl e,fun a z=>z.elim,fun a z=>z.elim,fun a z=>z.elim,⟨r,fun a z=>z⟩,fun t=>t⟩
theorem ax1 {p:Addr} {o:HO} (g:Same G H) (h:H p=none):Same (upd G p o) (upd H p o):=fun a u e=>by
 by_cases z:a=p
 ·subst z;rw [aag] at e ⊢;exact e
 ·rw [aad z] at e ⊢;exact g a u e
theorem aa2 {p:Addr} (g:Same G H) (h:H p=none):G p=none:=by
 cases e:G p with
 | none=>rfl
 | some o=>rw [g p o e] at h;cases h
theorem Out.newT {p:Addr} {xs:List V} {ds:List PyData} (g:Same G H) (h:H p=none) (r:Rps G xs ds):Out G H (.ref p) (upd G p (.tup xs)) (upd H p (.tup xs)) (.st (.tuple ds)) (fun _=>False) where
 gg:=abg (aa2 g h)
 gh:=ax1 g h
 hh:=abg h
 gn:=fun a o e=>by
  by_cases z:a=p
  ·subst z;exact .inr h
  ·rw [aad z] at e;exact .inl e
 fn:=fun a z=>z.elim
 fg:=fun a z=>z.elim
 fo:=fun a z=>z.elim
 ok:=⟨.tup aag (r.same (abg (aa2 g h))),fun a z=>z⟩
 ft:=fun t a ks e=>by
  by_cases z:a=p
  ·subst z;rw [aag] at e ⊢;exact e
  ·rw [aad z] at e ⊢;exact t a ks e
theorem Out.newO {p:Addr} {o:HO} {A:Own} (g:Same G H) (h:H p=none) (b:∀ xs,o ≠ .tup xs) (r:A.P G (upd H p o) (.ref p) (· = p)):Out G H (.ref p) G (upd H p o) (.own A) (· = p) where
 gg:=Same.refl _
 gh:=g.trans (abg h)
 hh:=abg h
 gn:=fun a o e => .inl e
 fn:=fun a z=>by rw [z];exact h
 fg:=fun a z=>by rw [z];exact aa2 g h
 fo:=fun a z=>by rw [z];exact ⟨_,aag⟩
 ok:=r
 ft:=fun t a ks e=>by
  by_cases z:a=p
  ·subst z;rw [aag] at e;exact absurd (aC6 e) (b _)
  ·rw [aad z] at e;exact t a ks e
theorem Out.newL {p:Addr} {xs:List V} {ds:List PyData} (g:Same G H) (h:H p=none) (r:Rps G xs ds):Out G H (.ref p) G (upd H p (.lst xs)) (.own (OL ds)) (· = p) :=
 .newO g h (fun _ z=>nomatch z) ⟨p,xs,rfl,aag,r,fun b=>Iff.rfl⟩
theorem Out.newD {p:Addr} {xs:List (Key × V)} {ds:List (Key × PyData)} (g:Same G H) (h:H p=none) (r:RpK G xs ds):Out G H (.ref p) G (upd H p (.dK xs)) (.own (OD ds)) (· = p) :=
 .newO g h (fun _ z=>nomatch z) ⟨p,xs,rfl,aag,r,fun b=>Iff.rfl⟩
theorem Out.newDT {p:Addr} {xs:List (List Key × V)} {ds:List (List Key × PyData)} (g:Same G H) (h:H p=none) (r:RpT G xs ds):Out G H (.ref p) G (upd H p (.dT xs)) (.own (OT ds)) (· = p) :=
 .newO g h (fun _ z=>nomatch z) ⟨p,xs,rfl,aag,r,fun b=>Iff.rfl⟩
end
def EvO (B:Bs) (te:TE) (env:En) (Q':Sl->En->Prop):Prop:=∀ (σ:St) (G H:Hp) (F:Nat->Addr->Prop) (Q:VK),VI B G H σ env F ->
 (∀ v G' H' F' Fv s env',VI B G' H' σ env' F'->Same G G'->RsX B G' H' v Fv s F'->Q' s env'->Q v H')->te σ H Q
def Ev (B:Bs) (te:TE) (env:En) (Q':PyData->En->Prop):Prop:=∀ (σ:St) (G H:Hp) (F:Nat->Addr->Prop) (Q:VK),VI B G H σ env F ->
 (∀ v G' H' F' d env',VI B G' H' σ env' F'->Same G G'->Rp G' v d->Q' d env'->Q v H')->te σ H Q
def EvT (B:Bs) (tt:TT) (env:En) (Q':Bool->En->Prop):Prop:=∀ (σ:St) (G H:Hp) (F:Nat->Addr->Prop) (Q:Bool->Hp->Prop),VI B G H σ env F ->
 (∀ b G' H' F' env',VI B G' H' σ env' F'->Same G G'->Q' b env'->Q b H')->tt σ H Q
def EvA (B:Bs) (ta:TA) (env:En) (Q':List PyData->En->Prop):Prop:=∀ (σ:St) (G H:Hp) (F:Nat->Addr->Prop) (Q:List V->Hp->Prop),VI B G H σ env F ->
 (∀ vs G' H' F' ds env',VI B G' H' σ env' F'->Same G G'->Rps G' vs ds->Q' ds env'->Q vs H')->ta σ H Q
structure ItOk (G:Hp) (J:It) (ds:List PyData):Prop where
 go:∀ i G' H',Same G G'->Same G' H'->i < ds.length->J.go i H'
 stop:∀ i G' H',Same G G'->Same G' H'->i=ds.length->J.stop i H'
 yld:∀ i G' H' x H'' d,Same G G'->Same G' H'->FT G' H'->ds[i]?=some d->J.yld i H' x H''->∃ G'',Out G' H' x G'' H'' (.st d) (fun _=>False)
def EvI (B:Bs) (ti:TI) (env:En) (Q':List PyData->En->Prop):Prop:=∀ (σ:St) (G H:Hp) (F:Nat->Addr->Prop) (R:It->Hp->Prop),VI B G H σ env F ->
 (∀ J G' H' F' ds env',VI B G' H' σ env' F'->Same G G'->ItOk G' J ds->Q' ds env'->R J H')->ti σ H R
def EvG (B:Bs) (g:TG) (s:Sl) (env:En) (Q':En->Prop):Prop:=∀ (σ:St) (G H:Hp) (F:Nat->Addr->Prop) (v:V) (Fv:Addr->Prop) (Q:St->Hp->Prop),VI B G H σ env F->RsX B G H v Fv s F ->
 (∀ σ' G' H' F' env',VI B G' H' σ' env' F'->Same G G'->Q' env'->Q σ' H')->g v σ H Q
def EvGs (B:Bs) (g:TGs) (ds:List PyData) (env:En) (Q':En->Prop):Prop:=∀ (σ:St) (G H:Hp) (F:Nat->Addr->Prop) (vs:List V) (Q:St->Hp->Prop),VI B G H σ env F->Rps G vs ds ->
 (∀ σ' G' H' F' env',VI B G' H' σ' env' F'->Same G G'->Q' env'->Q σ' H')->g vs σ H Q
structure VEnds where
 nx:En->Prop
 rt:Sl->En->Prop
 bk:En->Prop:=fun _=>False
 ct:En->Prop:=fun _=>False
structure RelE (B:Bs) (G:Hp) (D:Ends) (D':VEnds):Prop where
 nx:∀ σ G' H F env,VI B G' H σ env F->Same G G'->D'.nx env->D.nx σ H
 rt:∀ σ G' H F env v Fv s,VI B G' H σ env F->Same G G'->RsX B G' H v Fv s F->D'.rt s env->D.rt v H
 bk:∀ σ G' H F env,VI B G' H σ env F->Same G G'->D'.bk env->D.bk σ H
 ct:∀ σ G' H F env,VI B G' H σ env F->Same G G'->D'.ct env->D.ct σ H
def EvS (B:Bs) (ts:TS) (D':VEnds) (env:En):Prop:=∀ (σ:St) (G H:Hp) (F:Nat->Addr->Prop) (D:Ends),VI B G H σ env F->RelE B G D D'->ts D σ H
theorem RelE.later {B:Bs} {G G':Hp} {D:Ends} {D':VEnds} (r:RelE B G D D') (g:Same G G'):RelE B G' D D' :=
 ⟨fun σ a H F env I q=>r.nx σ a H F env I (g.trans q),fun σ a H F env v Fv s I q=>r.rt σ a H F env v Fv s I (g.trans q),fun σ a H F env I q=>r.bk σ a H F env I (g.trans q),fun σ a H F env I q=>r.ct σ a H F env I (g.trans q)⟩
section
variable {B:Bs} {env:En} {Q':PyData->En->Prop} {QO:Sl->En->Prop} {QT:Bool->En->Prop} {QA:List PyData->En->Prop} {te ta tb:TE}
theorem ad9 {G H:Hp} {v:V} {d:PyData} {F:Nat->Addr->Prop} (r:Rp G v d):RsX B G H v (fun _=>False) (.st d) F:=⟨⟨r,fun a z=>z⟩,fun a z=>z.elim,fun a z=>z.elim,fun a z=>z.elim,fun j a z=>z.elim⟩
theorem abc (h:Ev B te env fun d e=>QO (.st d) e):EvO B te env QO:=fun σ G H F Q I k =>
 h σ G H F Q I fun v G' H' F' d a b g r q=>k v G' H' F' _ (.st d) a b g (ad9 r) q
theorem abh (h:EvO B te env fun s e=>FQ s fun d=>Q' d e):Ev B te env Q':=fun σ G H F Q I k =>
 h σ G H F Q I fun v G' H' F' Fv s a b g r q=>by
  cases s with
  | st d=>exact k v G' H' F' d a b g r.ok.1 q
  | own A =>
   obtain ⟨d,f,q⟩:=q
   exact k v _ H' F' d a (b.freeze r.fb r.fd r.fg) (g.trans (abv r.fg)) (f G' H' v Fv r.ok r.fg b.gh) q
  | io A=>exact q.elim
  | scr ns=>exact q.elim
theorem a0t {i:Nat} {d:PyData} (e:env[i]?=some (some (.st d))) (q:Q' d env):Ev B (tVar i) env Q':=fun σ G H F Q I k=>by
 obtain ⟨v,a,r⟩:=I.sl i _ e
 exact ⟨v,a,k v G H F d env I (Same.refl _) r.1 q⟩
theorem ax2 {i:Nat} {A:Own} {d:PyData} (e:env[i]?=some (some (.own A))) (f:Frz A d) (q:Q' d (env.set i (some (.st d)))):Ev B (tVar i) env Q':=fun σ G H F Q I k=>by
 obtain ⟨v,a,r,g,J⟩:=I.frz e f
 exact ⟨v,a,k v _ H _ d _ J g r q⟩
theorem ava {i:Nat} {A:Own} (e:env[i]?=some (some (.own A))) (q:QO (.own A) (env.set i none)):EvO B (tVar i) env QO:=fun σ G H F Q I k=>by
 obtain ⟨v,b,r⟩:=I.sl i _ e
 refine ⟨v,b,k v G H _ (F i) (.own A) _ (I.drop i) (Same.refl _) ⟨r.1,r.2,I.fg i,I.fo i,fun j a z y=>?_⟩ q⟩
 by_cases h:j=i
 ·subst h;exact putF_same.mp y
 ·rw [abf h] at y;exact h (I.fd j i a y z)
theorem a0u {i:Int} (q:Q' (.int i) env):Ev B (tC (.int i)) env Q':=fun σ G H F Q I k=>k _ G H F _ env I (Same.refl _) (.int i) q
theorem a2u {b:Bool} (q:Q' (.bool b) env):Ev B (tC (.bl b)) env Q':=fun σ G H F Q I k=>k _ G H F _ env I (Same.refl _) (.bl b) q
theorem a0v (q:Q' .none env):Ev B (tC .non) env Q':=fun σ G H F Q I k=>k _ G H F _ env I (Same.refl _) .non q
def Op2 (r:R2) (x y:PyData) (R:Sl->Prop):Prop:=∀ (G H:Hp) (vx vy:V) (Q:VK),Same G H->Rp G vx x->Rp G vy y->(∀ v G' H' s Fv,Out G H v G' H' s Fv->R s->Q v H')->r vx vy H Q
def Op1 (r:V->Hp->VK->Prop) (x:PyData) (R:Sl->Prop):Prop:=∀ (G H:Hp) (vx:V) (Q:VK),Same G H->Rp G vx x->(∀ v G' H' s Fv,Out G H v G' H' s Fv->R s->Q v H')->r vx H Q
def OpA (r:List V->Hp->VK->Prop) (ds:List PyData) (R:Sl->Prop):Prop:=∀ (G H:Hp) (vs:List V) (Q:VK),Same G H->Rps G vs ds->(∀ v G' H' s Fv,Out G H v G' H' s Fv->R s->Q v H')->r vs H Q
theorem amz {r:R2} (h:Ev B ta env fun x c=>Ev B tb c fun y a=>Op2 r x y fun s=>QO s a):EvO B (tOp r ta tb) env QO:=fun σ G H F Q I k =>
 h σ G H F _ I fun l f m z x c A g u n=>n σ f m z _ A fun i j H2 F2 y a b d q p =>
  p j H2 l i Q b.gh (u.same d) q fun v C H3 s Fv o w=>k v C H3 F2 Fv s a (b.out o).1 (g.trans (d.trans o.gg)) (b.out o).2 w
theorem awx {r:R2} (h:Ev B ta env fun x b=>Ev B tb b fun y a=>Op2 r x y fun s=>FQ s fun d=>Q' d a):Ev B (tOp r ta tb) env Q':=abh (amz h)
theorem a0w {r:V->Hp->VK->Prop} (h:Ev B ta env fun x a=>Op1 r x fun s=>QO s a):EvO B (tUn r ta) env QO:=fun σ G H F Q I k =>
 h σ G H F _ I fun f c g l x a b d j i=>i c g f Q b.gh j fun v m H3 s Fv o n=>k v m H3 l Fv s a (b.out o).1 (d.trans o.gg) (b.out o).2 n
theorem a2v {r:V->Hp->VK->Prop} (h:Ev B ta env fun x a=>Op1 r x fun s=>FQ s fun d=>Q' d a):Ev B (tUn r ta) env Q':=abh (a0w h)
theorem ax3 (q:QA [] env):EvA B tNil env QA:=fun σ G H F Q I k=>k [] G H F [] env I (Same.refl _) .nil q
theorem am0 {tr:TA} (h:Ev B ta env fun x b=>EvA B tr b fun xs a=>QA (x :: xs) a):EvA B (aa5 ta tr) env QA:=fun σ G H F Q I k =>
 h σ G H F _ I fun r d j p x b q f o l=>l σ d j p _ q fun vs g H2 F2 ds a i c n m=>k _ g H2 F2 _ a i (f.trans c) (.cons (o.same c) n) m
theorem a0x {r:List V->Hp->VK->Prop} {t:TA} (h:EvA B t env fun ds a=>OpA r ds fun s=>QO s a):EvO B (tCB r t) env QO:=fun σ G H F Q I k =>
 h σ G H F _ I fun vs c f j ds a b d i g=>g c f vs Q b.gh i fun v l H3 s Fv o m=>k v l H3 j Fv s a (b.out o).1 (d.trans o.gg) (b.out o).2 m
theorem a2w {r:List V->Hp->VK->Prop} {t:TA} (h:EvA B t env fun ds a=>OpA r ds fun s=>FQ s fun d=>Q' d a):Ev B (tCB r t) env Q':=abh (a0x h)
theorem apd {t:TA} (h:EvA B t env fun ds a=>ds.length<=1000/\QO (.st (.tuple ds)) a):EvO B (tTup t) env QO:=fun σ G H F Q I k =>
 h σ G H F _ I fun vs j l g ds a b f d c=>⟨by rw [d.length];exact aG7 (ad6 c.1),fun p i=>by
  have o:=Out.newT b.gh i d
  exact k _ _ _ g _ _ a (b.out o).1 (f.trans o.gg) (b.out o).2 c.2⟩
theorem a0y {t:TA} (h:EvA B t env fun ds a=>ds.length<=1000/\Q' (.tuple ds) a):Ev B (tTup t) env Q':=abh (apd h)
theorem ape {t:TA} (h:EvA B t env fun ds a=>ds.length<=1000/\QO (.own (OL ds)) a):EvO B (tLst t) env QO:=fun σ G H F Q I k =>
 h σ G H F _ I fun vs j l g ds a b f d c=>⟨by rw [d.length];exact aG7 (ad6 c.1),fun p i=>by
  have o:=Out.newL b.gh i d
  exact k _ _ _ g _ _ a (b.out o).1 (f.trans o.gg) (b.out o).2 c.2⟩
theorem a0z {t:TA} (h:EvA B t env fun ds a=>ds.length<=1000/\Q' (.list ds) a):Ev B (tLst t) env Q':=abh (ape fun σ G H F Q I k=>h σ G H F Q I fun vs G' H' F' ds a b g r q=>k vs G' H' F' ds a b g r ⟨q.1,acf q.2⟩)
theorem am1 (h:Ev B te env fun x a=>∃ b,x=.bool b/\QT b a):EvT B (ali te) env QT:=fun σ G H F Q I k =>
 h σ G H F _ I fun v c f j x a l d i g=>by
  obtain ⟨b,e,q⟩:=g
  subst e
  cases i
  exact ⟨b,rfl,k b c f j a l d q⟩
theorem a2x (h:Ev B te env fun x a=>∃ b,x=.bool b/\QT b a):EvT B (tB te) env QT:=am1 h
theorem x_bl {b:Bool} {R:Bool->Prop} (h:R b):∃ c,PyData.bool b=.bool c/\R c:=⟨b,rfl,h⟩
theorem ax4 {t u:TT} (h:EvT B t env fun c a=>if c=true then EvT B u a QT else QT false a):EvT B (tAnd t u) env QT:=fun σ G H F Q I k =>
 h σ G H F _ I fun b d g i a j f q=>by
  cases b with
  | true=>rw [aF7 rfl] at q ⊢;exact q σ d g i Q j fun c l H2 F2 m n p o=>k c l H2 F2 m n (f.trans p) o
  | false=>rw [aF8 aB0] at q ⊢;exact k false d g i a j f q
theorem a00 {t u:TT} (h:EvT B t env fun c a=>if c=true then QT true a else EvT B u a QT):EvT B (tOr t u) env QT:=fun σ G H F Q I k =>
 h σ G H F _ I fun b d g i a j f q=>by
  cases b with
  | false=>rw [aF8 aB0] at q ⊢;exact q σ d g i Q j fun c l H2 F2 m n p o=>k c l H2 F2 m n (f.trans p) o
  | true=>rw [aF7 rfl] at q ⊢;exact k true d g i a j f q
theorem ax5 {t:TT} (h:EvT B t env fun c a=>QT (!c) a):EvT B (tNot t) env QT:=fun σ G H F Q I k =>
 h σ G H F _ I fun b d i f a g j q=>k (!b) d i f a g j q
theorem afo (q:QT true env):EvT B tYes env QT:=fun σ G H F Q I k=>k true G H F env I (Same.refl _) q
def TruD:PyData->Bool->Prop
 | .bool b,k=>k=b
 | .list ds,k=>k = !ds.isEmpty
 | _,_=>False
theorem ax6 {K:Frag} (h:Ev B te env fun x a=>∃ b,TruD x b/\QT b a):EvT B (tTru K te) env QT:=fun σ G H F Q I k =>
 h σ G H F _ I fun v f i j x a d g n m=>by
  obtain ⟨b,e,q⟩:=m
  cases n with
  | bl c=>cases e;exact ⟨_,rfl,k _ f i j a d g q⟩
  | lst ha rs =>
   refine ⟨b,.inl ⟨_,SqL.of (d.gh _ _ ha),?_⟩,k _ f i j a d g q⟩
   have l:b = !_:=e
   rw [l]
   cases rs <;> rfl
  | _=>exact e.elim
theorem ax7 (h:Ev B ta env fun x a=>∃ b,x=.bool b/\if b=true then Ev B tb a Q' else Q' (.bool false) a):Ev B (aqk ta tb) env Q':=fun σ G H F Q I k =>
 h σ G H F _ I fun v c g i x a j f u o=>by
  obtain ⟨b,e,q⟩:=o
  subst e
  cases u
  refine ⟨b,rfl,?_⟩
  cases b with
  | true=>rw [aF7 rfl] at q ⊢;exact q σ c g i Q j fun v l H2 F2 d m n r s p=>k v l H2 F2 d m n (f.trans r) s p
  | false=>rw [aF8 aB0] at q ⊢;exact k _ c g i _ a j f (.bl false) q
theorem ax8 (h:Ev B ta env fun x a=>∃ b,x=.bool b/\Q' (.bool (!b)) a):Ev B (aql ta) env Q':=fun σ G H F Q I k =>
 h σ G H F _ I fun v c f j x a l d i g=>by
  obtain ⟨b,e,q⟩:=g
  subst e
  cases i
  exact ⟨b,rfl,k _ c f j _ a l d (.bl _) q⟩
theorem avb {r E:R2} {O:TE} (h:Ev B ta env fun x L=>Ev B tb L fun y a=>Op2 r x y fun s=>∃ b,s=.st (.bool b)/\if b=true then Ev B O a fun z e3=>Op2 E y z fun s'=>FQ s' fun d=>Q' d e3 else Q' (.bool false) a):Ev B (ah1 r E ta tb O) env Q':=fun σ G H F Q I k =>
 h σ G H F _ I fun Z U H1 F1 x L I1 w r1 q1=>q1 σ U H1 F1 _ I1 fun C Y H2 F2 y a D m R q2 =>
  q2 Y H2 Z C _ D.gh (r1.same m) R fun v S H3 s Fv o z_=>by
   obtain ⟨b,es,g⟩:=z_
   have u:=(D.out o).1
   have n:=o.ok
   subst es
   obtain ⟨n,_⟩:=n
   cases n
   refine ⟨b,rfl,?_⟩
   cases b with
   | false=>rw [aF8 aB0] at g ⊢;exact k _ S H3 F2 _ a u (w.trans (m.trans o.gg)) (.bl _) g
   | true =>
    rw [aF7 rfl] at g ⊢
    refine g σ S H3 F2 _ u fun v3 X H4 K z T M N r4 q4=>q4 X H4 C v3 Q M.gh (R.same (o.gg.trans N)) r4 fun j P l W p i c=>?_
    have J:=M.out i
    have gg:=w.trans (m.trans (o.gg.trans (N.trans i.gg)))
    cases W with
    | st d=>exact k j P l K d T J.1 gg i.ok.1 c
    | own A =>
     obtain ⟨d,f,q⟩:=c
     exact k j _ l K d T (J.1.freeze J.2.fb J.2.fd J.2.fg) (gg.trans (abv J.2.fg)) (f P l j p J.2.ok J.2.fg J.1.gh) q
    | io A=>exact c.elim
    | scr ns=>exact c.elim
end
section
variable {B:Bs} {env:En} {D':VEnds} {t u tb:TS} {te:TE} {g:TG} {c:TT} {QE:En->Prop}
theorem ax9 (h:EvS B t { D' with nx:=fun e=>EvS B u D' e } env):EvS B (tSeq t u) D' env:=fun σ G H F D I r =>
 h σ G H F { D with nx:=u D } I ⟨fun σ G' H F env a g q=>q σ G' H F D a (r.later g),r.rt,r.bk,r.ct⟩
theorem avc (h:D'.nx env):EvS B aqm D' env:=fun σ G H F D I r=>r.nx σ G H F env I (Same.refl _) h
theorem aya (h:EvO B te env fun s e=>EvG B g s e D'.nx):EvS B (tAsg te g) D' env:=fun σ G H F D I r =>
 h σ G H F _ I fun v b j p Fv s u q c o l=>l σ b j p v Fv D.nx q o fun a d H2 F2 f i n m=>r.nx a d H2 F2 f i (c.trans n) m
theorem aa9 {i:Nat} {s:Sl} (h:QE (env.set i (some s))):EvG B (aa4 i) s env QE:=fun σ G H F v Fv Q I x k=>k _ G H _ _ (I.store x i) (Same.refl _) h
theorem am2 (h:QE env):EvGs B gNil [] env QE:=fun σ G H F vs Q I x k=>by cases x;exact ⟨rfl,k σ G H F env I (Same.refl _) h⟩
theorem agj {gs:TGs} {d:PyData} {ds:List PyData} (h:EvG B g (.st d) env fun e=>EvGs B gs ds e QE):EvGs B (ae0 g gs) (d :: ds) env QE:=fun σ G H F vs Q I x k=>by
 cases x with
 | cons r rs =>
  refine ⟨_,_,rfl,h σ G H F _ _ _ I (ad9 r) fun b f m q u s c n=>n b f m q _ Q s (rs.same c) fun a i H2 F2 j l p o=>k a i H2 F2 j l (c.trans p) o⟩
theorem apf {K:Frag} {n:Nat} {gs:TGs} {ds:List PyData} (a:ds.length=n) (h:EvGs B gs ds env QE):EvG B (gTup K n gs) (.st (.tuple ds)) env QE:=fun σ G H F v Fv Q I x k=>by
 obtain ⟨r,_⟩:=x.ok
 cases r with
 | tup ha rs=>exact ⟨_,_,rfl,SqT.of (I.gh _ _ ha),by rw [rs.length,a],h σ G H F _ Q I rs k⟩
theorem apg (h:EvO B te env fun s e=>D'.rt s e):EvS B (tRet te) D' env:=fun σ G H F D I r =>
 h σ G H F _ I fun v a c i Fv s f j b g d=>r.rt σ a c i f v Fv s j b g d
theorem am3 (h:EvO B te env fun _ e=>D'.nx e):EvS B (aqn te) D' env:=fun σ G H F D I r =>
 h σ G H F _ I fun v a c g Fv s f i b j d=>r.nx σ a c g f i b d
theorem a01 (h:EvT B c env fun b e=>if b=true then EvS B t D' e else EvS B u D' e):EvS B (tIfS c t u) D' env:=fun σ G H F D I r =>
 h σ G H F _ I fun b a g d j f i q=>by
  cases b with
  | true=>rw [aF7 rfl] at q ⊢;exact q σ a g d D f (r.later i)
  | false=>rw [aF8 aB0] at q ⊢;exact q σ a g d D f (r.later i)
def ForV (B:Bs) (g:TG) (tb:TS) (D':VEnds) (ds:List PyData) (e1:En):Prop:=∃ J:Nat->En->Prop,J 0 e1/\(∀ i d e,ds[i]?=some d->J i e->EvG B g (.st d) e fun e2=>EvS B tb { D' with nx:=J (i+1),ct:=J (i+1),bk:=D'.nx } e2)/\∀ e,J ds.length e->D'.nx e
theorem ayb {N:TI} (h:EvI B N env fun ds C=>ForV B g tb D' ds C):EvS B (tFor N g tb) D' env:=fun σ G H F D I r =>
 h σ G H F _ I fun J v H1 F1 ds C I1 z it W=>by
  obtain ⟨K,T,R,U⟩:=W
  refine ⟨fun i m σ H=>m=ds.length - i/\i<=ds.length/\∃ c F2 n,VI B c H σ n F2/\Same v c/\K i n,⟨ds.length,by simp,aG2 _,v,F1,C,I1,Same.refl _,T⟩,?_⟩
  rintro i m σ H ⟨rfl,hi,c,F2,n,p,s,M⟩
  by_cases hlt:i < ds.length
  ·refine .inr ⟨it.go i c H s p.gh hlt,fun σ H=>∃ u S O,VI B u H σ O S/\Same v u/\K (i+1) O,fun a0 H' h'=>⟨ds.length - (i+1),by lia,rfl,hlt,h'⟩,fun x H' y=>?_⟩
   obtain ⟨u,o⟩:=it.yld i c H x H' _ s p.gh p.ft (aA0 hlt) y
   have L:=p.out o
   refine R i _ n (aA0 hlt) M σ u H' F2 x _ _ L.1 L.2 fun w Q H4 X e4 Z g4 q4=>?_
   have gg:=s.trans (o.gg.trans g4)
   refine q4 w Q H4 X _ Z ⟨fun a l q f j d b A=>⟨l,f,j,d,gg.trans b,A⟩,fun a l q f j Y E P d b=>r.rt a l q f j Y E P d (z.trans (gg.trans b)),fun a l q f j d b=>r.nx a l q f j d (z.trans (gg.trans b)),fun a l q f j d b A=>⟨l,f,j,d,gg.trans b,A⟩⟩
  ·have e:i=ds.length:=by lia
   subst e
   exact .inl ⟨it.stop _ c H s p.gh rfl,r.nx σ c H F2 n p (z.trans s) (U n M)⟩
theorem akg (J:Nat->En->Prop) (v:∃ m,J m env) (h:∀ m e,J m e->EvT B c e fun b C=>if b=true then EvS B tb { D' with nx:=fun f=>∃ d,d < m/\J d f,ct:=fun f=>∃ d,d < m/\J d f,bk:=D'.nx } C else D'.nx C):EvS B (ar4 c tb) D' env:=fun σ G H F D I r=>by
 obtain ⟨W,v⟩:=v
 refine ⟨fun m σ H=>∃ q F2 f,VI B q H σ f F2/\Same G q/\J m f,⟨W,G,F,env,I,Same.refl _,v⟩,?_⟩
 rintro m σ H ⟨q,F2,f,M,U,L⟩
 refine h m f L σ q H F2 _ M fun b E H3 A S z N s=>?_
 have gg:=U.trans N
 cases b with
 | false=>rw [aF8 aB0] at s ⊢;exact r.nx σ E H3 A S z gg s
 | true =>
  rw [aF7 rfl] at s ⊢
  refine ⟨fun σ H=>∃ p x u,VI B p H σ u x/\Same G p/\∃ d,d < m/\J d u,fun T H' ⟨p,x,u,Q,R,d,hm,O⟩=>⟨d,hm,p,x,u,Q,R,O⟩,?_⟩
  exact s σ E H3 A _ z ⟨fun a n o j l i g w=>⟨n,j,l,i,gg.trans g,w⟩,fun a n o j l P y K i g=>r.rt a n o j l P y K i (gg.trans g),fun a n o j l i g=>r.nx a n o j l i (gg.trans g),fun a n o j l i g w=>⟨n,j,l,i,gg.trans g,w⟩⟩
variable {QI:List PyData->En->Prop}
theorem avd {K:Frag} (h:Ev B te env fun d e=>∃ ds,d=.list ds/\QI ds e):EvI B (aqp K te) env QI:=fun σ G H F R I k =>
 h σ G H F _ I fun v c l s d o b j r m=>by
  obtain ⟨ds,q,n⟩:=m
  subst q
  cases r with
  | @lst a vs ds ha rs =>
   refine ⟨a,rfl,⟨vs,SqL.of (b.gh _ _ ha)⟩,k _ c l s ds o b j ⟨fun i G' H' g h hi=>?_,fun i G' H' g h hi=>?_,fun i G' H' x H'' d g h ft hd y=>?_⟩ n⟩
   ·have:i < vs.length:=by rw [rs.length];exact hi
    exact ⟨vs,vs[i],SqL.of (h _ _ (g _ _ ha)),aA0 this⟩
   ·exact ⟨vs,SqL.of (h _ _ (g _ _ ha)),by rw [rs.length];exact Nat.le_of_eq hi.symm⟩
   ·obtain ⟨e,y⟩:=y
    subst e
    obtain ⟨v,f,p⟩:=rs.get hd
    have:=y vs (SqL.of (h _ _ (g _ _ ha)))
    rw [f] at this
    cases this
    exact ⟨G',Out.refl h (p.same g)⟩
theorem a02 {ds:List PyData} {R:List PyData->Prop} (h:R ds):∃ xs,PyData.list ds=.list xs/\R xs:=⟨ds,rfl,h⟩
def rngD (lo:Int) (n:Nat):List PyData:=(List.range n).map fun (i:Nat) => .int (lo+(i:Int))
theorem ada {lo:Int} {n:Nat}:(rngD lo n).length=n:=by simp [rngD]
theorem am4 {lo:Int} {n i:Nat} {d:PyData} (h:(rngD lo n)[i]?=some d):i < n/\d=.int (lo+(i:Int)):=by
 unfold rngD at h
 rw [aA5] at h
 have hi:i < n:=by
  have:=(aA1 (l:=(List.range n).map fun (i:Nat)=>PyData.int (lo+(i:Int)))).mp (by rw [aA5];exact h)
  obtain ⟨q,_⟩:=this
  simpa using q
 rw [aA0 (by simpa using hi)] at h
 simp at h
 exact ⟨hi,h.symm⟩
theorem as7 {G:Hp} {lo:Int} {n:Nat}:ItOk G (Itr lo n) (rngD lo n):=by
 refine ⟨fun i G' H' g h hi=>?_,fun i G' H' g h hi=>?_,fun i G' H' x H'' d g h ft hd y=>?_⟩
 ·rw [ada] at hi;exact hi
 ·rw [ada] at hi;exact Nat.le_of_eq hi.symm
 ·obtain ⟨e,y⟩:=y
  subst e y
  rw [(am4 hd).2]
  exact ⟨G',Out.refl h (.int _)⟩
def alq (ds:List PyData) (R:List PyData->Prop):Prop:=∃ j:Int,ds=[.int j]/\-(2 ^ 62)<=j/\j < 2 ^ 62/\R (rngD 0 j.toNat)
def alr (ds:List PyData) (R:List PyData->Prop):Prop:=∃ i j:Int,ds=[.int i,.int j]/\(-(2 ^ 62)<=i/\i < 2 ^ 62/\-(2 ^ 62)<=j/\j < 2 ^ 62)/\R (rngD i (j - i).toNat)
theorem ave {a:TA} (h:EvA B a env fun ds e=>alq ds fun xs=>QI xs e):EvI B (aqq a) env QI:=fun σ G H F R I k =>
 h σ G H F _ I fun vs b d o ds l p c n g=>by
  obtain ⟨j,m,b1,f,i⟩:=g
  subst m
  obtain rfl:vs=[V.int j]:=Rps.ints_inv (ns:=[j]) n
  exact ⟨j,rfl,b1,f,k _ b d o _ l p c as7 i⟩
theorem avf {a:TA} (h:EvA B a env fun ds e=>alr ds fun xs=>QI xs e):EvI B (awq a) env QI:=fun σ G H F R I k =>
 h σ G H F _ I fun vs b d o ds l p c n f=>by
  obtain ⟨i,j,m,b1,g⟩:=f
  subst m
  obtain rfl:vs=[V.int i,V.int j]:=Rps.ints_inv (ns:=[i,j]) n
  exact ⟨i,j,rfl,b1,k _ b d o _ l p c as7 g⟩
theorem a03 {j:Int} {R:List PyData->Prop} (b : -4611686018427387904<=j) (a:j < 4611686018427387904) (h:R (rngD 0 j.toNat)):alq [.int j] R:=⟨j,rfl,by lia,by lia,h⟩
theorem a04 {a b:Int} {R:List PyData->Prop} (c : -4611686018427387904<=a/\a < 4611686018427387904/\-4611686018427387904<=b/\b < 4611686018427387904) (h:R (rngD a (b - a).toNat)):alr [.int a,.int b] R:=⟨a,b,rfl,by lia,h⟩
theorem acm {lo:Int} {n:Nat} (J:Nat->En->Prop) (b:J 0 env) (hs:∀ i e,i < n->J i e->EvG B g (.st (.int (lo+(i:Int)))) e fun a=>EvS B tb { D' with nx:=J (i+1),ct:=J (i+1),bk:=D'.nx } a) (hd:∀ e,J n e->D'.nx e):ForV B g tb D' (rngD lo n) env :=
 ⟨J,b,fun i d e h j=>by obtain ⟨hi,rfl⟩:=am4 h;exact hs i e hi j,fun e j=>hd e (by rw [ada] at j;exact j)⟩
theorem ade {α:Type} {f : α->PyData} {xs:List α} (J:Nat->En->Prop) (b:J 0 env) (hs:∀ i x e,xs[i]?=some x->J i e->EvG B g (.st (f x)) e fun a=>EvS B tb { D' with nx:=J (i+1),ct:=J (i+1),bk:=D'.nx } a) (hd:∀ e,J xs.length e->D'.nx e):ForV B g tb D' (xs.map f) env :=
 ⟨J,b,fun i d e h j=>by
  rw [aA5] at h
  cases hx:xs[i]? with
  | none=>rw [hx] at h;cases h
  | some x=>rw [hx] at h;cases h;exact hs i x e hx j,fun e j=>hd e (by rw [aA3] at j;exact j)⟩
end
theorem am5 {B:Bs} {a b:TS} {D':VEnds} {env:En} (h:∀ c:TS,c=b->EvS B a { D' with nx:=fun e=>EvS B c D' e } env):EvS B (tSeq a b) D' env:=ax9 (h b rfl)
theorem aph {B:Bs} {c b:TS} {D':VEnds} {env:En} (e:c=b) (h:EvS B b D' env):EvS B c D' env:=by rw [e];exact h
theorem big {n:Nat} (h:n<=1000000):n < sizeLine:=aE4 h (by decide)
section
variable {B B1:Bs} {G H G' H':Hp} {σ σI:St} {env envI:En} {F F':Nat->Addr->Prop} {v:V} {s:Sl} {Fv:Addr->Prop} {inv:Nat->Option Nat}
open Classical in
def acq (H:Hp) (F:Nat->Addr->Prop) (inv:Nat->Option Nat):Hp:=fun a=>if ∃ i j,inv i=some j/\F i a then none else H a
theorem afz {i j:Nat} {a:Addr} (h:inv i=some j) (f:F i a):acq H F inv a=none:=aF7 ⟨i,j,h,f⟩
theorem aht {a:Addr} (h:∀ i j,inv i=some j->¬ F i a):acq H F inv a=H a:=aF8 fun ⟨i,j,x,y⟩=>h i j x y
theorem adl:Same (acq H F inv) H:=fun a o e=>by
 unfold acq at e
 split at e
 ·cases e
 ·exact e
theorem VI.enter (I:VI B G H σ env F) (inj:∀ i b j,inv i=some j->inv b=some j->i=b) (ln : σI.length=envI.length)
  (sl:∀ j s,envI[j]?=some (some s)->∃ v,σI[j]?=some (some v)/\((∃ d,s=.st d/\Rp G v d/\∀ i,inv i ≠ some j)\/(∃ ns a,s=.scr ns/\v=.ref a/\SqL B.K G a (ns.map V.int)/\∀ i,inv i ≠ some j) ∨
   ∃ i A,inv i=some j/\s=.io A/\σ[i]?=some (some v)/\(env[i]?=some (some (.own A))\/env[i]?=some (some (.io A))))) :
  VI ⟨B.K,G,H,acq H F inv,σI,fun j a=>∃ i,inv i=some j/\F i a⟩ G H σI envI (fun j a=>∃ i,inv i=some j/\F i a) where
 gh:=I.gh
 g0:=Same.refl _
 gn:=fun a o e => .inl e
 rs:=adl
 rb:=adl
 bh:=fun a o e=>⟨o,e⟩
 fg:=fun j a ⟨i,_,z⟩=>I.fg i a z
 fr:=fun j a ⟨i,h,z⟩=>afz h z
 fd:=fun j k a ⟨i,h,z⟩ ⟨b,h',m⟩=>by
  have:=I.fd i b a z m
  subst this
  rw [h] at h';cases h';rfl
 fo:=fun j a ⟨i,h,z⟩=>I.fo i a z
 sl:=fun j s e=>by
  obtain ⟨v,l,q⟩:=sl j s e
  refine ⟨v,l,?_⟩
  rcases q with ⟨d,rfl,r,n⟩ | ⟨ns,a,rfl,rfl,q,n⟩ | ⟨i,A,hi,rfl,hs,f⟩
  ·exact ⟨r,fun a ⟨i,h,_⟩=>n i h⟩
  ·exact ⟨⟨a,rfl,q⟩,fun a ⟨i,h,_⟩=>n i h⟩
  ·refine ⟨?_,fun a z => .inl z,l⟩
   have p:(fun a=>∃ b,inv b=some j/\F b a)=F i:=by
    funext a
    exact propext ⟨fun ⟨b,h,z⟩=>by rw [inj i b j hi h];exact z,fun z=>⟨i,hi,z⟩⟩
   show A.P G H v (fun a=>∃ b,inv b=some j/\F b a)
   rw [p]
   rcases f with f | f
   ·obtain ⟨u,c,g⟩:=I.sl i _ f
    rw [hs] at c;cases c;exact g.1
   ·obtain ⟨u,c,g⟩:=I.sl i _ f
    rw [hs] at c;cases c;exact g.1
 ln:=ln
 ft:=I.ft
theorem VI.leave (I:VI B G H σ env F) (inj:∀ i m j,inv i=some j->inv m=some j->i=m) (r:B1.G=G) (h:B1.H=H) (K:∀ a o,H a=some o->(∀ i j,inv i=some j->¬ F i a)->B1.R a=some o)
  (D:∀ i j,inv i=some j->∀ a,B1.F j a->F i a) (L:∀ i j,inv i=some j->B1.S[j]? = σ[i]?) (J:VI B1 G' H' σI envI F') (io:∀ i j,inv i=some j->∃ A',envI[j]?=some (some (.io A'))) {env2:En} (N:env2.length=env.length)
  (C:∀ i s,env2[i]?=some (some s)->(inv i=none/\env[i]?=some (some s))\/∃ j A A',inv i=some j/\envI[j]?=some (some (.io A'))/\((env[i]?=some (some (.own A))/\s=.own A')\/(env[i]?=some (some (.io A))/\s=.io A'))) :
  VI B G' H' σ env2 (fun i a=>match inv i with | some j=>F' j a | none=>F i a):=by
 have f:∀ a o,G' a=some o->G a=some o\/H a=none:=fun a o e=>by
  have:=J.gn a o e
  rw [r,h] at this;exact this
 have fi:∀ i j a,inv i=some j->F' j a->F i a\/H a=none:=fun i j a hi z=>by
  obtain ⟨A',e⟩:=io i j hi
  obtain ⟨v,_,q⟩:=J.sl j _ e
  rcases q.2.1 a z with y | y
  ·exact .inl (D i j hi a y)
  ·rw [h] at y;exact .inr y
 have kp:∀ a o,H a=some o->(∀ i j,inv i=some j->¬ F i a)->H' a=some o:=fun a o e n=>J.rs a o (K a o e n)
 refine ⟨J.gh,I.g0.trans (r ▸ J.g0),fun a o e=>?_,fun a o e=>?_,I.rb,fun a o e=>?_,fun i a z=>?_,fun i a z=>?_,fun i k a y z=>?_,fun i a z=>?_,fun i t e=>?_,by rw [N];exact I.ln,J.ft⟩
 ·rcases f a o e with e | e
  ·exact I.gn a o e
  ·exact .inr (I.no_b e)
 ·refine kp a o (I.rs a o e) fun i j _ z=>?_
  rw [I.fr i a z] at e;cases e
 ·obtain ⟨O,g⟩:=I.bh a o e
  exact J.bh a O (by rw [h];exact g)
 ·cases hi:inv i with
  | some j=>rw [hi] at z;exact J.fg j a z
  | none =>
   rw [hi] at z
   cases e:G' a with
   | none=>rfl
   | some o =>
    rcases f a o e with e | e
    ·rw [I.fg i a z] at e;cases e
    ·exact absurd z (I.no_f e i)
 ·cases hi:inv i with
  | some j =>
   rw [hi] at z
   rcases fi i j a hi z with y | y
   ·exact I.fr i a y
   ·exact I.no_r y
  | none=>rw [hi] at z;exact I.fr i a z
 ·cases hi:inv i with
  | some j =>
   rw [hi] at y
   cases hk:inv k with
   | some l =>
    rw [hk] at z
    have:=J.fd j l a y z
    subst this
    exact inj i k j hi hk
   | none =>
    rw [hk] at z
    rcases fi i j a hi y with x | x
    ·exact I.fd i k a x z
    ·exact absurd z (I.no_f x k)
  | none =>
   rw [hi] at y
   cases hk:inv k with
   | some l =>
    rw [hk] at z
    rcases fi k l a hk z with x | x
    ·exact I.fd i k a y x
    ·exact absurd y (I.no_f x i)
   | none=>rw [hk] at z;exact I.fd i k a y z
 ·cases hi:inv i with
  | some j=>rw [hi] at z;exact J.fo j a z
  | none =>
   rw [hi] at z
   obtain ⟨o,e⟩:=I.fo i a z
   exact J.bh a o (by rw [h];exact e)
 ·rcases C i t e with ⟨hi,g⟩ | ⟨j,A,A',hi,g,d⟩
  ·obtain ⟨v,u,q⟩:=I.sl i t g
   refine ⟨v,u,?_⟩
   simp only [hi]
   refine q.mono (r ▸ J.g0) fun a o z y=>kp a o y fun m j' c E=>?_
   have:=I.fd i m a z E
   subst this
   rw [hi] at c;cases c
  ·obtain ⟨v,u,q⟩:=J.sl j _ g
   have w : σ[i]?=some (some v):=by rw [← L i j hi];exact q.2.2
   refine ⟨v,w,?_⟩
   simp only [hi]
   rcases d with ⟨d,rfl⟩ | ⟨d,rfl⟩
   ·obtain ⟨M,_,p⟩:=I.sl i _ d
    refine ⟨q.1,fun a z=>?_⟩
    rcases fi i j a hi z with y | y
    ·exact p.2 a y
    ·exact I.no_b y
   ·obtain ⟨M,b,p⟩:=I.sl i _ d
    rw [w] at b;cases b
    refine ⟨q.1,fun a z=>?_,p.2.2⟩
    rcases fi i j a hi z with y | y
    ·exact p.2.1 a y
    ·exact .inr (I.no_b y)
theorem RsX.leave (I:VI B G H σ env F) (b:B1.H=H) (r:RsX B1 G' H' v Fv s F'):RsX B G' H' v Fv s (fun i a=>match inv i with | some j=>F' j a | none=>F i a):=by
 have hn:∀ a,Fv a->H a=none:=fun a z=>b ▸ r.fb a z
 refine ⟨r.ok,fun a z=>I.no_b (hn a z),r.fg,r.fo,fun i a z y=>?_⟩
 cases hi:inv i with
 | some j=>rw [hi] at y;exact r.fd j a z y
 | none=>rw [hi] at y;exact I.no_f (hn a z) i y
end
abbrev VP:=List Sl->(Sl->Prop)->Prop
abbrev VIo:=Own->List Sl->(Own->Sl->Prop)->Prop
def noF:Nat->Addr->Prop:=fun _ _=>False
def bsP (K:Frag) (G H:Hp) (vs:List V):Bs:=⟨K,G,H,H,vs.map some,noF⟩
def awy (K:Frag) (G:Hp):V->Sl->Prop
 | v,.st d=>Rp G v d
 | v,.scr ns=>∃ a,v=.ref a/\SqL K G a (ns.map V.int)
 | _,_=>False
inductive ArgsOk (K:Frag) (G:Hp):List V->List Sl->Prop
 | nil:ArgsOk K G [] []
 | cons {v:V} {s:Sl} {vs:List V} {ss:List Sl}:awy K G v s->ArgsOk K G vs ss->ArgsOk K G (v :: vs) (s :: ss)
theorem ArgsOk.length {K:Frag} {G:Hp}:∀ {vs:List V} {ss:List Sl},ArgsOk K G vs ss->vs.length=ss.length
 | _,_,.nil=>rfl
 | _,_,.cons _ t=>by simp [ArgsOk.length t]
theorem ArgsOk.get {K:Frag} {G:Hp}:∀ {vs:List V} {ss:List Sl} {i:Nat} {s:Sl},ArgsOk K G vs ss->ss[i]?=some s->∃ v,vs[i]?=some v/\awy K G v s
 | _,_,_,_,.nil,e=>by simp at e
 | _,_,0,_,.cons r _,e=>by simp at e;subst e;exact ⟨_,rfl,r⟩
 | _,_,i+1,s,.cons _ t,e=>by
  obtain ⟨u,b,a⟩:=ArgsOk.get (i:=i) (s:=s) t (by simpa using e)
  exact ⟨u,by simpa using b,a⟩
theorem ArgsOk.of {K:Frag} {G:Hp}:∀ {vs:List V} {ds:List PyData},Rps G vs ds->ArgsOk K G vs (ds.map Sl.st)
 | _,_,.nil => .nil
 | _,_,.cons r t => .cons r (ArgsOk.of t)
theorem api {α:Type} {xs:List α} {n i:Nat} {s : α} (e:(xs.map some ++ List.replicate n none)[i]?=some (some s)):xs[i]?=some s:=by
 by_cases h:i < xs.length
 ·rw [aC3 (by simpa using h),aA5] at e
  rw [aA0 h] at e ⊢
  simpa using e
 ·rw [aC8 (by simpa using h),aH9] at e
  split at e <;> cases e
theorem apj {α:Type} {xs:List α} {n i:Nat} {s : α} (e:xs[i]?=some s):(xs.map some ++ List.replicate n none)[i]?=some (some s):=by
 have h:i < xs.length:=(aA1.mp e).1
 rw [aC3 (by simpa using h),aA5,e];rfl
def spP (K:Frag) (f:VP):Sp:=fun vs H Q _=>∃ G ss Q',Same G H/\FT G H/\ArgsOk K G vs ss/\f ss Q'/\∀ s,Q' s->∀ v G' H' Fv,Out G H v G' H' s Fv->Q v H'
structure OutI (G H R:Hp) (F0:Addr->Prop) (v0:V) (A':Own) (s:Sl) (v:V) (G' H':Hp) (F' Fv:Addr->Prop):Prop where
 gg:Same G G'
 gh:Same G' H'
 ft:FT G' H'
 gn:∀ a o,G' a=some o->G a=some o\/H a=none
 rs:Same R H'
 bh:∀ a o,H a=some o->∃ o',H' a=some o'
 ap:A'.P G' H' v0 F'
 fi:∀ a,F' a->F0 a\/H a=none
 fg:∀ a,F' a->G' a=none
 ok:RsOk G' H' v Fv s
 fv:∀ a,Fv a->H a=none/\G' a=none/\(∃ o,H' a=some o)/\¬ F' a
def spI (K:Frag) (f:VIo):Sp:=fun vs H Q _=>∃ v0 vr G R A ss F0 Q',vs=v0 :: vr/\Same G H/\FT G H/\Same R H/\A.P G H v0 F0/\(∀ a,F0 a->G a=none)/\(∀ a,F0 a->R a=none)/\ArgsOk K G vr ss /\
 f A ss Q'/\∀ A' s,Q' A' s->∀ v G' H' F' Fv,OutI G H R F0 v0 A' s v G' H' F' Fv->Q v H'
theorem abi {K:Frag} {f:VP} {l:TS} {N:List Str} {vs:List V} {H:Hp} {Q:VK} {E:XK} (h:spP K f vs H Q E)
  (hb:∀ ss b,f ss b->∀ B,B.K=K->EvS B l { nx:=fun _=>b (.st .none),rt:=fun s _=>b s } (ss.map some ++ List.replicate (N.length - ss.length) none)):l { nx:=fun _ H'=>Q .non H',rt:=Q } (L2.start N vs) H:=by
 obtain ⟨G,ss,b,gh,ft,c,hf,m⟩:=h
 have fin:∀ {σ G' H' F env v Fv s},VI (bsP K G H vs) G' H' σ env F->RsX (bsP K G H vs) G' H' v Fv s F->Out G H v G' H' s Fv:=fun I r =>
  ⟨I.g0,I.gh,I.rs,I.gn,r.fb,r.fg,r.fo,r.ok,fun _=>I.ft⟩
 refine hb ss _ hf (bsP K G H vs) rfl (L2.start N vs) G H noF _ ?_ ⟨fun σ G' H' F env I g q=>m _ q _ _ _ _ (fin I (ad9 .non)),fun σ G' H' F env v Fv s I g r q=>m _ q v G' H' Fv (fin I r),fun _ _ _ _ _ _ _ q=>q,fun _ _ _ _ _ _ _ q=>q⟩
 refine ⟨gh,Same.refl _,fun a o e => .inl e,Same.refl _,Same.refl _,fun a o e=>⟨o,e⟩,fun i a z=>z.elim,fun i a z=>z.elim,fun i j a z=>z.elim,fun i a z=>z.elim,fun i s e=>?_,?_,ft⟩
 ·obtain ⟨v,n,q⟩:=c.get (api e)
  refine ⟨v,by unfold L2.start;exact apj n,?_⟩
  cases s with
  | st d=>exact ⟨q,fun a z=>z⟩
  | scr ns=>exact ⟨q,fun a z=>z⟩
  | own A=>exact q.elim
  | io A=>exact q.elim
 ·unfold L2.start;simp [c.length]
theorem als {K:Frag} {f:VIo} {u:TS} {N:List Str} {vs:List V} {H:Hp} {Q:VK} {E:XK} (h:spI K f vs H Q E)
  (hb:∀ A ss c,f A ss c->∀ B,B.K=K->EvS B u { nx:=fun e=>∃ A',e[0]?=some (some (.io A'))/\c A' (.st .none),rt:=fun s e=>∃ A',e[0]?=some (some (.io A'))/\c A' s } (some (.io A) :: (ss.map some ++ List.replicate (N.length - (ss.length+1)) none))):u { nx:=fun _ H'=>Q .non H',rt:=Q } (L2.start N vs) H:=by
 obtain ⟨v0,b,G,R,A,ss,F0,c,rfl,gh,ft,n,ap,fg,fr,l,hf,D⟩:=h
 have O:(v0 :: b).length=ss.length+1:=by simp [l.length]
 refine hb A ss _ hf ⟨K,G,H,R,(v0 :: b).map some,fun i a=>i=0/\F0 a⟩ rfl (L2.start N (v0 :: b)) G H (fun i a=>i=0/\F0 a) _ ?_ ?_
 ·refine ⟨gh,Same.refl _,fun a o e => .inl e,n,n,fun a o e=>⟨o,e⟩,fun i a z=>fg a z.2,fun i a z=>fr a z.2,fun i j a z y=>by rw [z.1,y.1],fun i a z=>A.dom ap a z.2,fun i s e=>?_,?_,ft⟩
  ·cases i with
   | zero =>
    simp at e
    subst e
    refine ⟨v0,rfl,?_,fun a z => .inl z,rfl⟩
    have:(fun a=>0=0/\F0 a)=F0:=by funext a;simp
    rw [this];exact ap
   | succ i =>
    have C:(ss.map some ++ List.replicate (N.length - (ss.length+1)) none)[i]?=some (some s):=by simpa using e
    obtain ⟨v,x,q⟩:=l.get (api C)
    refine ⟨v,?_,?_⟩
    ·unfold L2.start;exact apj (by simpa using x)
    ·cases s with
     | st d=>exact ⟨q,fun a z=>by cases z.1⟩
     | scr ns=>exact ⟨q,fun a z=>by cases z.1⟩
     | own A=>exact q.elim
     | io A=>exact q.elim
  ·unfold L2.start;simp [l.length]
 ·have fin:∀ σ G' H' F env v Fv s,VI ⟨K,G,H,R,(v0 :: b).map some,fun i a=>i=0/\F0 a⟩ G' H' σ env F->RsX ⟨K,G,H,R,(v0 :: b).map some,fun i a=>i=0/\F0 a⟩ G' H' v Fv s F->(∃ A',env[0]?=some (some (.io A'))/\c A' s)->Q v H':=by
   intro σ G' H' F env v Fv s I r ⟨A',e,q⟩
   obtain ⟨p,w,J,L,M⟩:=I.sl 0 _ e
   have:p=v0:=by
    have m:((v0 :: b).map some)[0]?=some (some p):=M
    simpa using m.symm
   subst this
   exact D A' s q v G' H' (F 0) Fv ⟨I.g0,I.gh,I.ft,I.gn,I.rs,I.bh,J,fun a z=>by
    rcases L a z with y | y
    ·exact .inl y.2
    ·exact .inr y,I.fg 0,r.ok,fun a z=>⟨r.fb a z,r.fg a z,r.fo a z,r.fd 0 a z⟩⟩
  refine ⟨fun σ G' H' F env I g q=>fin σ G' H' F env .non _ (.st .none) I (ad9 .non) q,fun σ G' H' F env v Fv s I g r q=>fin σ G' H' F env v Fv s I r q,fun _ _ _ _ _ _ _ q=>q,fun _ _ _ _ _ _ _ q=>q⟩
section
variable {B:Bs} {env:En} {Q':PyData->En->Prop} {QO:Sl->En->Prop} {K:Frag} {E:XK}
theorem akh {f:VP} {t:TA} (h:EvA B t env fun ds b=>f (ds.map Sl.st) fun s=>QO s b):EvO B (acj (spP K f) [] E t) env QO:=fun σ G H F Q I k=>by
 unfold acj
 simp only [aF2]
 exact h σ G H F _ I fun vs c l j ds b a d i g=>⟨c,_,_,a.gh,a.ft,ArgsOk.of i,g,fun s q v G' H' Fv o=>k v G' H' j Fv s b (a.out o).1 (d.trans o.gg) (a.out o).2 q⟩
theorem avg {f:VP} {t:TA} (h:EvA B t env fun ds a=>f (ds.map Sl.st) fun s=>FQ s fun d=>Q' d a):Ev B (acj (spP K f) [] E t) env Q':=abh (akh h)
theorem as8 {f:VP} {t:TA} {i:Nat} {ns:List Int} (e:env[i]?=some (some (.scr ns))) (g:B.K=K) (h:EvA B t env fun ds c=>f (.scr ns :: ds.map Sl.st) fun s=>QO s c):EvO B (acj (spP K f) [] E (aa5 (tVar i) t)) env QO:=fun σ G H F Q I k=>by
 subst g
 unfold acj
 simp only [aF2]
 obtain ⟨v0,l,⟨a,n,p⟩,_⟩:=I.sl i _ e
 refine ⟨v0,l,h σ G H F _ I fun vs j w u ds c b d r m=>⟨j,_,_,b.gh,b.ft,.cons (s:=.scr ns) ⟨a,n,d.seq p⟩ (ArgsOk.of r),m,fun s q v G' H' Fv o=>k v G' H' u Fv s c (b.out o).1 (d.trans o.gg) (b.out o).2 q⟩⟩
def reS:Sl->Own->Sl
 | .io _,A => .io A
 | _,A => .own A
theorem aki {f:VIo} {t:TA} {i:Nat} (S:∃ s,env[i]?=some (some s)) (h:EvA B t env fun ds D=>∃ r A,D[i]?=some (some r)/\(r=.own A\/r=.io A)/\f A (ds.map Sl.st) fun A' s=>QO s (D.set i (some (reS r A')))):EvO B (acj (spI K f) [] E (aa5 (tVar i) t)) env QO:=fun σ G H F Q I k=>by
 unfold acj
 simp only [aF2]
 obtain ⟨s,e⟩:=S
 obtain ⟨v0,O,_⟩:=I.sl i _ e
 refine ⟨v0,O,h σ G H F _ I fun vs M p m ds D w R U ⟨r,A,N,hs,T⟩=>?_⟩
 obtain ⟨W,C,q⟩:=w.sl i _ N
 rw [O] at C;cases C
 have ap:A.P M p v0 (m i):=by
  rcases hs with rfl | rfl
  ·exact q.1
  ·exact q.1
 let inv:Nat->Option Nat:=fun j=>if j=i then some 0 else none
 have d:inv i=some 0:=aF7 rfl
 have g:∀ j,j ≠ i->inv j=none:=fun j h=>aF8 h
 have c:∀ j l,inv j=some l->j=i/\l=0:=fun j l h=>by
  by_cases hj:j=i
  ·subst hj;rw [d] at h;cases h;exact ⟨rfl,rfl⟩
  ·rw [g j hj] at h;cases h
 refine ⟨v0,vs,M,acq p m inv,A,_,m i,_,rfl,w.gh,w.ft,adl,ap,w.fg i,fun a z=>afz d z,ArgsOk.of U,T,fun A' s q v G' H' F' Fv o=>?_⟩
 have hi:i < D.length:=(aA1.mp N).1
 have J:VI ⟨K,M,p,acq p m inv,[some v0],fun j a=>j=0/\m i a⟩ G' H' [some v0] [some (.io A')] (fun j a=>j=0/\F' a):=by
  refine ⟨o.gh,o.gg,o.gn,o.rs,adl,o.bh,fun j a z=>o.fg a z.2,fun j a z=>?_,fun j l a y z=>by rw [y.1,z.1],fun j a z=>A'.dom o.ap a z.2,fun j s e=>?_,rfl,o.ft⟩
  ·rcases o.fi a z.2 with y | y
   ·exact afz d y
   ·cases e:acq p m inv a with
    | none=>exact e
    | some u=>rw [adl a u e] at y;cases y
  ·cases j with
   | zero =>
    simp at e
    subst e
    refine ⟨v0,rfl,?_,fun a z=>?_,rfl⟩
    ·have:(fun a=>0=0/\F' a)=F':=by funext a;simp
     rw [this];exact o.ap
    ·rcases o.fi a z.2 with y | y
     ·exact .inl ⟨rfl,y⟩
     ·exact .inr y
   | succ j=>simp at e
 have L:=w.leave (inv:=inv) (env2:=D.set i (some (reS r A'))) (fun a b j ha hb=>by rw [(c a j ha).1,(c b j hb).1]) rfl rfl (fun a u e n=>by show acq p m inv a=_;rw [aht n];exact e)
  (fun a j ha x z=>by rw [(c a j ha).1];exact z.2) (fun a j ha=>by rw [(c a j ha).1,(c a j ha).2,O];rfl) J (fun a j ha=>⟨A',by rw [(c a j ha).2];rfl⟩) (by simp) fun j s' e=>by
   by_cases hj:j=i
   ·subst hj
    rw [aD2,aF7 rfl,aF7 hi] at e
    cases e
    refine .inr ⟨0,A,A',d,rfl,?_⟩
    rcases hs with rfl | rfl
    ·exact .inl ⟨N,rfl⟩
    ·exact .inr ⟨N,rfl⟩
   ·rw [aD2,aF8 (fun z=>hj z.symm)] at e
    exact .inl ⟨g j hj,e⟩
 have X:RsX ⟨K,M,p,acq p m inv,[some v0],fun j a=>j=0/\m i a⟩ G' H' v Fv s (fun j a=>j=0/\F' a):=⟨o.ok,fun a z=>(o.fv a z).1,fun a z=>(o.fv a z).2.1,fun a z=>(o.fv a z).2.2.1,fun j a z y=>(o.fv a z).2.2.2 y.2⟩
 exact k v G' H' _ Fv s _ L (R.trans o.gg) (X.leave (inv:=inv) w rfl) q
end
def aim:Option Sl->Option Sl
 | some (.own A)=>some (.io A)
 | s=>s
def aas (src:List (Option Nat)) (env:En):En:=src.map fun o=>match o with | some j=>aim ((env[j]?).getD none) | none=>none
def isIo:Option Sl->Bool
 | some (.io _)=>true
 | _=>false
def idxE (i:Nat):List (Option Nat)->Nat->Option Nat
 | [],_=>none
 | o :: r,k=>if o=some i then some k else idxE i r (k+1)
def ag4 (src:List (Option Nat)) (e:En) (i:Nat) (s:Option Sl):Option Sl :=
 match s with
 | some (.own A)=>(match idxE i src 0 with | some j=>(match e[j]? with | some (some (.io A'))=>some (.own A') | _=>none) | none=>some (.own A))
 | some (.io A)=>(match idxE i src 0 with | some j=>(match e[j]? with | some (some (.io A'))=>some (.io A') | _=>none) | none=>some (.io A))
 | s=>s
def afp (src:List (Option Nat)) (e:En):Nat->En->En
 | _,[]=>[]
 | k,s :: r=>ag4 src e k s :: afp src e (k+1) r
def ain (src:List (Option Nat)) (e1 e:En):En:=afp src e 0 e1
theorem af0 (src:List (Option Nat)) (e:En):∀ (k:Nat) (l:En) (i:Nat),(afp src e k l)[i]?=(l[i]?).map (ag4 src e (k+i))
 | _,[],i=>by simp [afp]
 | k,s :: r,0=>by simp [afp]
 | k,s :: r,i+1=>by
  have:=af0 src e (k+1) r i
  simp only [afp,aI3,this]
  rw [show k+1+i=k+(i+1) by lia]
theorem ae7 {i:Nat}:∀ {src:List (Option Nat)} {k j:Nat},idxE i src k=some j->k<=j/\src[j - k]?=some (some i)
 | [],_,_,h=>by cases h
 | o :: r,k,j,h=>by
  unfold idxE at h
  by_cases e:o=some i
  ·rw [aF7 e] at h;cases h
   exact ⟨aA6 _,by simp [e]⟩
  ·rw [aF8 e] at h
   obtain ⟨b,a⟩:=ae7 h
   refine ⟨by lia,?_⟩
   rw [show j - k=(j - (k+1))+1 by lia]
   simpa using a
theorem akj {i:Nat}:∀ {src:List (Option Nat)} {k:Nat},idxE i src k=none->∀ j:Nat,src[j]? ≠ some (some i)
 | [],_,_,j=>by simp
 | o :: r,k,h,j=>by
  unfold idxE at h
  by_cases e:o=some i
  ·rw [aF7 e] at h;cases h
  ·rw [aF8 e] at h
   cases j with
   | zero=>simpa using e
   | succ j=>simpa using akj h j
theorem am6:∀ (src:List (Option Nat)),(src.filterMap id).Nodup->∀ j j' i:Nat,src[j]?=some (some i)->src[j']?=some (some i)->j=j'
 | [],_,j,_,_,h,_=>by simp at h
 | none :: r,h,j,j',i,h1,h2=>by
  cases j with
  | zero=>simp at h1
  | succ j =>
   cases j' with
   | zero=>simp at h2
   | succ j'=>rw [am6 r (by simpa using h) j j' i (by simpa using h1) (by simpa using h2)]
 | some x :: r,h,j,j',i,h1,h2=>by
  have h':=aI7.mp (show (x :: r.filterMap id).Nodup by simpa using h)
  have b:∀ k,r[k]?=some (some x)->False:=fun k c=>h'.1 (List.mem_filterMap.mpr ⟨some x,aA2 c,rfl⟩)
  cases j with
  | zero =>
   have a:x=i:=by simpa using h1
   subst a
   cases j' with
   | zero=>rfl
   | succ j'=>exact (b j' (by simpa using h2)).elim
  | succ j =>
   cases j' with
   | zero =>
    have a:x=i:=by simpa using h2
    subst a
    exact (b j (by simpa using h1)).elim
   | succ j'=>rw [am6 r h'.2 j j' i (by simpa using h1) (by simpa using h2)]
def ag5:Option Sl->Bool
 | some (.own _)=>true
 | _=>false
def ioLe:En->En->Prop
 | a :: r,b :: s=>(isIo a=isIo b/\ag5 b=false)/\ioLe r s
 | [],[]=>True
 | _,_=>False
theorem am7 {x:Option Sl} (h:isIo x=true):∃ A,x=some (.io A):=by
 cases x with
 | none=>simp [isIo] at h
 | some y =>
  cases y with
  | io A=>exact ⟨A,rfl⟩
  | _=>simp [isIo] at h
theorem ioLe.get:∀ {a b:En} {j:Nat} {x:Option Sl},ioLe a b->a[j]?=some x->isIo x=true->∃ A,b[j]?=some (some (.io A))
 | [],_,_,_,_,e,_=>by simp at e
 | x :: r,[],_,_,h,_,_=>h.elim
 | x :: r,y :: s,0,z,h,e,p=>by
  simp at e;subst e
  have:=h.1.1
  rw [p] at this
  obtain ⟨A,q⟩:=am7 this.symm
  exact ⟨A,by simp [q]⟩
 | x :: r,y :: s,j+1,z,h,e,p=>by
  obtain ⟨A,q⟩:=ioLe.get (j:=j) h.2 (by simpa using e) p
  exact ⟨A,by simpa using q⟩
theorem ioLe.got:∀ {a b:En} {j:Nat} {x:Option Sl},ioLe a b->b[j]?=some x->(isIo x=true->∃ A,a[j]?=some (some (.io A)))/\ag5 x=false
 | [],[],_,_,_,e=>by simp at e
 | [],_ :: _,_,_,h,e=>h.elim
 | x :: r,[],_,_,h,_=>h.elim
 | x :: r,y :: s,0,z,h,e=>by
  simp at e;subst e
  refine ⟨fun p=>?_,h.1.2⟩
  have:=h.1.1
  rw [p] at this
  obtain ⟨A,q⟩:=am7 this
  exact ⟨A,by simp [q]⟩
 | x :: r,y :: s,j+1,z,h,e=>by
  obtain ⟨p,q⟩:=ioLe.got (j:=j) (x:=z) h.2 (by simpa using e)
  exact ⟨fun t=>by obtain ⟨A,u⟩:=p t;exact ⟨A,by simpa using u⟩,q⟩
section
variable {B:Bs} {G H:Hp} {σ:St} {env:En} {F:Nat->Addr->Prop}
theorem VI.aside (I:VI B G H σ env F) {p:Addr} {o:HO} (b:∀ xs,o ≠ .tup xs) (d:G p=none) (hf:∀ j,¬ F j p) (hb:B.H p=none):VI B G (upd H p o) σ env F where
 gh:=fun a u e=>by rw [aad (aai e d)];exact I.gh a u e
 g0:=I.g0
 gn:=I.gn
 rs:=fun a u e=>by rw [aad (aai e (I.b_r hb))];exact I.rs a u e
 rb:=I.rb
 bh:=fun a u e=>by rw [aad (aai e hb)];exact I.bh a u e
 fg:=I.fg
 fr:=I.fr
 fd:=I.fd
 fo:=fun j a z=>by rw [aad (fun e:a=p=>hf j (e ▸ z))];exact I.fo j a z
 sl:=fun i s e=>by
  obtain ⟨v,c,q⟩:=I.sl i s e
  exact ⟨v,c,q.mono (Same.refl _) fun a u z y=>by rw [aad (fun e:a=p=>hf i (e ▸ z))];exact y⟩
 ln:=I.ln
 ft:=fun a ks e=>by
  by_cases z:a=p
  ·subst z;rw [aag] at e;exact absurd (aC6 e) (b _)
  ·rw [aad z] at e;exact I.ft a ks e
def LcV (K:Frag) (src:List (Option Nat)) (g:TG) (tif:TT) (te:TE) (ds:List PyData) (e1:En) (R:List PyData->En->Prop):Prop:=∃ J:Nat->List PyData->En->Prop,J 0 [] (aas src e1)/\(∀ i ys e,J i ys e->ioLe (aas src e1) e) /\
 (∀ i d ys e,ds[i]?=some d->J i ys e->∀ B':Bs,B'.K=K->EvG B' g (.st d) e fun e2=>EvT B' tif e2 fun b e3=>if b=true then Ev B' te e3 fun y e4=>ys.length<=999999/\J (i+1) (ys ++ [y]) e4 else J (i+1) ys e3)/\∀ ys e,J ds.length ys e->R ys (ain src e1 e)
theorem agk {src:List (Option Nat)} {j:Nat} {s:Sl} (h:(aas src env)[j]?=some (some s)):∃ i t,src[j]?=some (some i)/\env[i]?=some (some t)/\aim (some t)=some s:=by
 unfold aas at h
 rw [aA5] at h
 cases e:src[j]? with
 | none=>rw [e] at h;cases h
 | some o =>
  rw [e] at h
  cases o with
  | none=>cases h
  | some i =>
   simp only [aI4,Option.some.injEq] at h
   cases e2:env[i]? with
   | none=>rw [e2] at h;cases h
   | some o2 =>
    rw [e2] at h
    cases o2 with
    | none=>cases h
    | some t=>exact ⟨i,t,rfl,e2,h⟩
theorem am8 {src:List (Option Nat)} {i j:Nat} {v:V} (h:src[j]?=some (some i)) (a : σ[i]?=some (some v)):(pick src σ)[j]?=some (some v):=by
 unfold pick
 rw [aA5,h]
 simp [a]
theorem as9 {src:List (Option Nat)} {wi:TI} {g:TG} {b3:TT} {te:TE} {QO:Sl->En->Prop} (nd:(src.filterMap id).Nodup) (h:EvI B wi env fun ds W=>LcV B.K src g b3 te ds W fun ys X=>QO (.own (OL ys)) X):EvO B (tLC src wi g b3 te) env QO:=fun σ G H F Q I k=>by
 refine h σ G H F _ I fun J G1 H1 F1 ds W I1 g1 it ⟨Jv,j0,a6,js,jd⟩ p T=>?_
 let M:Nat->Bool:=fun i=>match W[i]? with | some (some (.own _))=>true | some (some (.io _))=>true | _=>false
 let inv:Nat->Option Nat:=fun i=>if M i=true then idxE i src 0 else none
 have D:∀ i j,inv i=some j->src[j]?=some (some i)/\M i=true:=fun i j hi=>by
  by_cases hm:M i=true
  ·have f:idxE i src 0=some j:=by simpa [inv,hm] using hi
   have:=(ae7 f).2
   exact ⟨by simpa using this,hm⟩
  ·simp [inv,hm] at hi
 have a2:∀ i j,src[j]?=some (some i)->M i=true->inv i=some j:=fun i j hs hm=>by
  have e0:inv i=idxE i src 0:=by simp [inv,hm]
  cases e:idxE i src 0 with
  | none=>exact absurd hs (akj e j)
  | some j' =>
   have:=(ae7 e).2
   rw [e0,e,am6 src nd j j' i hs (by simpa using this)]
 have inj:∀ i c j,inv i=some j->inv c=some j->i=c:=fun i c j Y C=>by
  have a:=(D i j Y).1
  rw [(D c j C).1] at a
  simpa using a.symm
 have b0:∀ i,M i=true->∃ A,W[i]?=some (some (.own A))\/W[i]?=some (some (.io A)):=fun i hm=>by
  cases e:W[i]? with
  | none=>simp [M,e] at hm
  | some o =>
   cases o with
   | none=>simp [M,e] at hm
   | some s =>
    cases s with
    | own A=>exact ⟨A,.inl rfl⟩
    | io A=>exact ⟨A,.inr rfl⟩
    | st d=>simp [M,e] at hm
    | scr ns=>simp [M,e] at hm
 have b2:∀ i ys e,Jv i ys e->∀ c j,inv c=some j->∃ A,e[j]?=some (some (.io A)):=fun i ys e hj c j hi=>by
  obtain ⟨hs,hm⟩:=D c j hi
  obtain ⟨A,N⟩:=b0 c hm
  refine (a6 i ys e hj).get (x:=some (.io A)) ?_ rfl
  unfold aas
  rw [aA5,hs]
  rcases N with N | N <;> simp [N,aim]
 -- between two turns
 let Wv:Nat->List V->St->Hp->Prop:=fun i ys σI H=>∃ G2 F2 e env2 yd,VI B G2 H σ env2 F2/\Same G1 G2/\H p=some (.lst ys)/\Rps G2 ys yd/\G2 p=none/\(∀ j,¬ F2 j p)/\Jv i yd e/\σI.length=e.length/\env2.length=W.length /\
  (∀ j s,e[j]?=some (some s)->∃ v,σI[j]?=some (some v)/\((∃ d,s=.st d/\Rp G2 v d/\∀ i,inv i ≠ some j)\/(∃ ns a,s=.scr ns/\v=.ref a/\SqL B.K G2 a (ns.map V.int)/\∀ i,inv i ≠ some j) ∨
   ∃ i A,inv i=some j/\s=.io A/\σ[i]?=some (some v)/\(env2[i]?=some (some (.own A))\/env2[i]?=some (some (.io A))))) /\
  (∀ i,inv i=none->env2[i]?=W[i]?)/\(∀ i j,inv i=some j->∃ A0 A,e[j]?=some (some (.io A))/\((W[i]?=some (some (.own A0))/\env2[i]?=some (some (.own A)))\/(W[i]?=some (some (.io A0))/\env2[i]?=some (some (.io A)))))
 have hb:B.H p=none:=I1.no_b T
 refine ⟨fun i m ys σI H=>m=ds.length - i/\i<=ds.length/\Wv i ys σI H,⟨ds.length,by simp,aG2 _,?_⟩,?_⟩
 ·refine ⟨G1,F1,aas src W,W,[],I1.aside (fun _ z=>nomatch z) (I1.no_g T) (I1.no_f T) hb,Same.refl _,aag,.nil,I1.no_g T,I1.no_f T,j0,by simp [pick,aas],rfl,fun j s e=>?_,fun _ _=>rfl,fun i j hi=>?_⟩
  ·obtain ⟨i,t,hs,ht,hp⟩:=agk e
   obtain ⟨v,hv,q⟩:=I1.sl i t ht
   refine ⟨v,am8 hs hv,?_⟩
   cases t with
   | st d =>
    cases hp
    refine .inl ⟨d,rfl,q.1,fun c f=>?_⟩
    have a:=(D c j f).1
    rw [hs] at a
    have:i=c:=by simpa using a
    subst this
    have:=(D i j f).2
    simp [M,ht] at this
   | scr ns =>
    cases hp
    obtain ⟨⟨a,ea,sq⟩,_⟩:=q
    refine .inr (.inl ⟨ns,a,rfl,ea,sq,fun c f=>?_⟩)
    have a:=(D c j f).1
    rw [hs] at a
    have:i=c:=by simpa using a
    subst this
    have:=(D i j f).2
    simp [M,ht] at this
   | own A=>cases hp;exact .inr (.inr ⟨i,A,a2 i j hs (by simp [M,ht]),rfl,hv,.inl ht⟩)
   | io A=>cases hp;exact .inr (.inr ⟨i,A,a2 i j hs (by simp [M,ht]),rfl,hv,.inr ht⟩)
  ·obtain ⟨hs,hm⟩:=D i j hi
   obtain ⟨A,N⟩:=b0 i hm
   refine ⟨A,A,?_,?_⟩
   ·unfold aas
    rw [aA5,hs]
    rcases N with N | N <;> simp [N,aim]
   ·rcases N with N | N
    ·exact .inl ⟨N,N⟩
    ·exact .inr ⟨N,N⟩
 ·rintro i m ys σI H2 ⟨rfl,hi,G2,F2,e,env2,yd,I2,g2,a1,ry,ga,fa,jv,ln,c1,sl,un,mv⟩
  refine ⟨a1,?_⟩
  by_cases hlt:i < ds.length
  ·refine .inr ⟨it.go i G2 H2 g2 I2.gh hlt,Wv (i+1),fun Z c2 H' hw=>⟨ds.length - (i+1),by lia,rfl,hlt,hw⟩,fun x H3 y=>?_⟩
   obtain ⟨G3,o⟩:=it.yld i G2 H2 x H3 _ g2 I2.gh I2.ft (aA0 hlt) y
   obtain ⟨I3,X3⟩:=I2.out o
   have a9:=o.hh _ _ a1
   have a8:=fa
   have b5:G3 p=none:=by
    cases e':G3 p with
    | none=>rfl
    | some u =>
     rcases o.gn p u e' with q | q
     ·rw [ga] at q;cases q
     ·rw [a1] at q;cases q
   have b7:∀ j s,e[j]?=some (some s)->∃ v,σI[j]?=some (some v)/\((∃ d,s=.st d/\Rp G3 v d/\∀ i,inv i ≠ some j)\/(∃ ns a,s=.scr ns/\v=.ref a/\SqL B.K G3 a (ns.map V.int)/\∀ i,inv i ≠ some j) ∨
     ∃ i A,inv i=some j/\s=.io A/\σ[i]?=some (some v)/\(env2[i]?=some (some (.own A))\/env2[i]?=some (some (.io A)))):=fun j s es=>by
    obtain ⟨v,hv,q⟩:=sl j s es
    refine ⟨v,hv,?_⟩
    rcases q with ⟨d,a7,r,n⟩ | ⟨ns,a,a7,b9,r,n⟩ | q
    ·exact .inl ⟨d,a7,r.same o.gg,n⟩
    ·exact .inr (.inl ⟨ns,a,a7,b9,o.gg.seq r,n⟩)
    ·exact .inr (.inr q)
   have E3:=I3.enter (inv:=inv) (σI:=σI) (envI:=e) inj ln b7
   -- back from the turn
   have fin:∀ (R:St) (G4 H4:Hp) (F4:Nat->Addr->Prop) (e4:En) (a3:List PyData) (Z:List V) (o4:HO),VI ⟨B.K,G3,H3,acq H3 F2 inv,σI,fun j a=>∃ i,inv i=some j/\F2 i a⟩ G4 H4 R e4 F4->Jv (i+1) a3 e4->Rps G4 Z a3 ->
     Wv (i+1) Z R (upd H4 p (.lst Z))/\H4 p=some (.lst ys):=by
    intro R G4 H4 F4 e4 a3 Z o4 I4 j4 r4
    have a4:=b2 (i+1) a3 e4 j4
    have c0:H4 p=some (.lst ys):=I4.rs p _ (by show acq H3 F2 inv p=_;rw [aht (fun c _ _=>a8 c)];exact a9)
    have b1:G4 p=none:=by
     cases e':G4 p with
     | none=>rfl
     | some u =>
      rcases I4.gn p u e' with q | q
      ·change G3 p=_ at q;rw [b5] at q;cases q
      ·change H3 p=_ at q;rw [a9] at q;cases q
    -- the slots of the outer frame
    let E:En:=(List.range env2.length).map fun c=>match inv c with
     | some j=>(match env2[c]?,e4[j]? with | some (some (.own _)),some (some (.io A))=>some (.own A) | some (some (.io _)),some (some (.io A))=>some (.io A) | _,_=>none)
     | none=>(env2[c]?).getD none
    have P:∀ c,c < env2.length->E[c]?=some (match inv c with
     | some j=>(match env2[c]?,e4[j]? with | some (some (.own _)),some (some (.io A))=>some (.own A) | some (some (.io _)),some (some (.io A))=>some (.io A) | _,_=>none)
     | none=>(env2[c]?).getD none):=fun c hl=>by
     simp only [E,aA5]
     rw [aA0 (by simpa using hl)]
     simp
    have L:=I3.leave (inv:=inv) (env2:=E) inj rfl rfl (fun a u q n=>by show acq H3 F2 inv a=_;rw [aht n];exact q) (fun c j f a z=>by obtain ⟨U,Y,C⟩:=z;rw [inj c U j f Y];exact C)
     (fun c j f=>by
      obtain ⟨A0,A,Y,C⟩:=mv c j f
      obtain ⟨v,hv,q⟩:=sl j _ Y
      rcases q with ⟨d,q,_⟩ | ⟨ns,a,q,_⟩ | ⟨U,b8,q1,q2,q3,_⟩
      ·cases q
      ·cases q
      ·rw [inj c U j f q1]
       show σI[j]?=_
       rw [hv,q3]) I4 a4 (by simp [E]) (fun c s es=>by
      have hl:c < env2.length:=by
       have:=(aA1.mp es).1
       simpa [E] using this
      rw [P c hl] at es
      cases f:inv c with
      | none =>
       refine .inl ⟨rfl,?_⟩
       rw [f] at es
       simp only [Option.some.injEq] at es
       cases q:env2[c]? with
       | none=>rw [q] at es;cases es
       | some u=>rw [q] at es;simp at es;rw [es]
      | some j =>
       rw [f] at es
       obtain ⟨A',S⟩:=a4 c j f
       obtain ⟨A0,A,Y,C⟩:=mv c j f
       simp only [S] at es
       rcases C with ⟨_,C⟩ | ⟨_,C⟩
       ·rw [C] at es
        simp only [Option.some.injEq] at es
        exact .inr ⟨j,A,A',rfl,S,.inl ⟨C,es.symm⟩⟩
       ·rw [C] at es
        simp only [Option.some.injEq] at es
        exact .inr ⟨j,A,A',rfl,S,.inr ⟨C,es.symm⟩⟩)
    have b4:∀ j,¬ (match inv j with | some j=>F4 j p | none=>F2 j p):=fun j z=>by
     cases hj:inv j with
     | none=>rw [hj] at z;exact a8 j z
     | some l =>
      rw [hj] at z
      obtain ⟨A',S⟩:=a4 j l hj
      obtain ⟨v,_,q⟩:=I4.sl l _ S
      rcases q.2.1 p z with ⟨U,_,q⟩ | q
      ·exact a8 U q
      ·change H3 p=_ at q;rw [a9] at q;cases q
    refine ⟨⟨G4,_,e4,E,a3,L.aside (fun _ z=>nomatch z) b1 b4 hb,g2.trans (o.gg.trans I4.g0),aag,r4,b1,b4,j4,I4.ln,by simp [E,c1],fun j s es=>?_,fun c f=>?_,fun c j f=>?_⟩,c0⟩
    ·obtain ⟨v,hv,q⟩:=I4.sl j s es
     refine ⟨v,hv,?_⟩
     have a0:(∀ A,s ≠ .io A)->∀ c,inv c ≠ some j:=fun hn c f=>by
      obtain ⟨A,N⟩:=a4 c j f
      rw [es] at N
      exact hn A (by simpa using N)
     cases s with
     | st d=>exact .inl ⟨d,rfl,q.1,a0 (by intro A z;cases z)⟩
     | scr ns =>
      obtain ⟨⟨a,ea,sq⟩,_⟩:=q
      exact .inr (.inl ⟨ns,a,rfl,ea,sq,a0 (by intro A z;cases z)⟩)
     | own A =>
      have:=((a6 _ _ _ j4).got es).2
      simp [ag5] at this
     | io A =>
      obtain ⟨A0,h0⟩:=((a6 _ _ _ j4).got es).1 rfl
      obtain ⟨c,t,hs,ht,hp⟩:=agk h0
      have hm:M c=true:=by
       cases t with
       | own A=>simp [M,ht]
       | io A=>simp [M,ht]
       | st d=>cases hp
       | scr ns=>cases hp
      have f:=a2 c j hs hm
      obtain ⟨B0,A1,Y,C⟩:=mv c j f
      have hl:c < env2.length:=by
       rcases C with ⟨_,C⟩ | ⟨_,C⟩ <;> exact (aA1.mp C).1
      refine .inr (.inr ⟨c,A,f,rfl,?_,?_⟩)
      ·have hS : σI[j]?=some (some v):=q.2.2
       obtain ⟨v',b6,q'⟩:=sl j _ Y
       rcases q' with ⟨d,q',_⟩ | ⟨ns,a,q',_⟩ | ⟨U,b8,q1,q2,q3,_⟩
       ·cases q'
       ·cases q'
       ·rw [inj c U j f q1,q3,← b6,hS]
      ·rw [P c hl,f]
       simp only [es]
       rcases C with ⟨_,C⟩ | ⟨_,C⟩
       ·rw [C];exact .inl rfl
       ·rw [C];exact .inr rfl
    ·by_cases hl:c < env2.length
     ·rw [P c hl,f]
      simp only
      rw [← un c f]
      rw [aA0 hl];rfl
     ·rw [aF9.mpr (by simp [E];lia),← un c f,aF9.mpr (by lia)]
    ·obtain ⟨A',S⟩:=a4 c j f
     obtain ⟨A0,A,Y,C⟩:=mv c j f
     have hl:c < env2.length:=by
      rcases C with ⟨_,C⟩ | ⟨_,C⟩ <;> exact (aA1.mp C).1
     refine ⟨A0,A',S,?_⟩
     rw [P c hl,f]
     simp only [S]
     rcases C with ⟨h3,C⟩ | ⟨h3,C⟩
     ·rw [C];exact .inl ⟨h3,rfl⟩
     ·rw [C];exact .inr ⟨h3,rfl⟩
   have hd:ds[i]?=some ds[i]:=aA0 hlt
   refine js i _ yd e hd jv ⟨B.K,G3,H3,acq H3 F2 inv,σI,fun j a=>∃ i,inv i=some j/\F2 i a⟩ rfl σI G3 H3 _ x _ _ E3 (ad9 o.ok.1) fun R G4 H4 F4 e4 I4 g4 q4=>?_
   refine q4 R G4 H4 F4 _ I4 fun b G5 H5 F5 e5 I5 g5 q5=>?_
   cases b with
   | false =>
    rw [aF8 aB0] at q5 ⊢
    obtain ⟨w,ac⟩:=fin R G5 H5 F5 e5 yd ys (.lst ys) I5 q5 (ry.same (o.gg.trans (g4.trans g5)))
    have:upd H5 p (.lst ys)=H5:=by
     funext b
     unfold upd
     split
     ·rename_i hb';rw [hb'];exact ac.symm
     ·rfl
    rw [this] at w
    exact w
   | true =>
    rw [aF7 rfl] at q5 ⊢
    refine q5 R G5 H5 F5 _ I5 fun y G6 H6 F6 d6 e6 I6 g6 r6 q6=>?_
    obtain ⟨w,ac⟩:=fin R G6 H6 F6 e6 (yd ++ [d6]) (ys ++ [y]) (.lst ys) I6 q6.2 ((ry.same (o.gg.trans (g4.trans (g5.trans g6)))).append (.cons r6 .nil))
    exact ⟨ac,by rw [ry.length];exact big (by have:=q6.1;lia),w⟩
  ·have ei:i=ds.length:=by lia
   subst ei
   refine .inl ⟨it.stop _ G2 H2 g2 I2.gh rfl,?_⟩
   have q:=jd yd e jv
   have eb:ain src W e=env2:=by
    apply aG4
    intro c
    unfold ain
    rw [af0,Nat.zero_add]
    have O:M c=false->env2[c]?=W[c]?:=fun hm=>un c (by simp [inv,hm])
    cases X:W[c]? with
    | none =>
     rw [O (by simp [M,X]),X];rfl
    | some o =>
     cases o with
     | none=>rw [O (by simp [M,X]),X];rfl
     | some t =>
      have a5:∀ A,(t=.own A\/t=.io A)->M c=true:=fun A h=>by rcases h with rfl | rfl <;> simp [M,X]
      cases t with
      | st d=>rw [O (by simp [M,X]),X];rfl
      | scr ns=>rw [O (by simp [M,X]),X];rfl
      | own A =>
       have hm:=a5 A (.inl rfl)
       simp only [aI4,ag4]
       cases e3:idxE c src 0 with
       | none =>
        have:inv c=none:=by simp [inv,e3]
        rw [un c this,X]
       | some j =>
        have f:inv c=some j:=by simp [inv,hm,e3]
        obtain ⟨A0,A1,Y,C⟩:=mv c j f
        simp only [Y]
        rcases C with ⟨h3,C⟩ | ⟨h3,C⟩
        ·rw [C]
        ·rw [X] at h3;cases h3
      | io A =>
       have hm:=a5 A (.inr rfl)
       simp only [aI4,ag4]
       cases e3:idxE c src 0 with
       | none =>
        have:inv c=none:=by simp [inv,e3]
        rw [un c this,X]
       | some j =>
        have f:inv c=some j:=by simp [inv,hm,e3]
        obtain ⟨A0,A1,Y,C⟩:=mv c j f
        simp only [Y]
        rcases C with ⟨h3,C⟩ | ⟨h3,C⟩
        ·rw [X] at h3;cases h3
        ·rw [C]
   rw [eb] at q
   refine k (.ref p) G2 H2 F2 (· = p) (.own (OL yd)) env2 I2 (g1.trans g2) ⟨⟨p,ys,rfl,a1,ry,fun b=>Iff.rfl⟩,fun a z=>by rw [z];exact hb,fun a z=>by rw [z];exact ga,fun a z=>by rw [z];exact ⟨_,a1⟩,fun j a z=>by rw [z];exact fa j⟩ q
end
def noIo (e:En):Bool:=e.all fun s => !isIo s
theorem avh {e:En} {j:Nat} {x:Option Sl} (h:noIo e=true) (a:e[j]?=some x):isIo x=false:=by
 have:=aF6.mp h x (aA2 a)
 simpa using this
theorem ajp {src:List (Option Nat)} {b e:En} (h:noIo (aas src b)=true):ain src b e=b:=by
 apply aG4
 intro i
 unfold ain
 rw [af0,Nat.zero_add]
 cases e2:b[i]? with
 | none=>rfl
 | some o =>
  have a:∀ A,(o=some (.own A)\/o=some (.io A))->idxE i src 0=none:=fun A c=>by
   cases e3:idxE i src 0 with
   | none=>rfl
   | some j =>
    have hs:=(ae7 e3).2
    have:(aas src b)[j]?=some (some (.io A)):=by
     unfold aas
     rw [aA5,show src[j]?=some (some i) by simpa using hs]
     rcases c with rfl | rfl <;> simp [e2,aim]
    have:=avh h this
    simp [isIo] at this
  cases o with
  | none=>rfl
  | some t =>
   cases t with
   | st d=>rfl
   | scr ns=>rfl
   | own A=>simp only [aI4,ag4,a A (.inl rfl)]
   | io A=>simp only [aI4,ag4,a A (.inr rfl)]
def stO:Option PyData->Option Sl:=Option.map Sl.st
theorem isIo_stO {o:Option PyData}:isIo (stO o)=false:=by cases o <;> rfl
theorem ae8 {o:Option PyData}:ag5 (stO o)=false:=by cases o <;> rfl
theorem afc {src:List (Option Nat)} {a:En}:∀ x∈aas src a,ag5 x=false:=by
 intro x b
 unfold aas at b
 obtain ⟨o,_,rfl⟩:=aB7.mp b
 cases o with
 | none=>rfl
 | some j =>
  dsimp only
  cases (a[j]?).getD none with
  | none=>rfl
  | some t=>cases t <;> rfl
theorem ae9:∀ {e:En},(∀ x∈e,ag5 x=false)->ioLe e e
 | [],_=>True.intro
 | x :: r,h=>⟨⟨rfl,h x aB8⟩,ae9 fun y a=>h y (aB5 _ a)⟩
section
variable {B:Bs} {env:En} {g:TG} {tif:TT} {te:TE} {K:Frag} {src:List (Option Nat)} {ds:List PyData} {e1:En} {R:List PyData->En->Prop}
theorem avi (f:PyData->PyData) (p:PyData->Bool) (l:noIo (aas src e1)=true) (C:ds.length<=999999)
  (h:∀ d∈ds,∀ a:Bs,a.K=K->EvT a tif (some (.st d) :: aas src e1) fun b m=>b=p d/\m=some (.st d) :: aas src e1/\(b=true->Ev a te (some (.st d) :: aas src e1) fun y n=>y=f d/\n=some (.st d) :: aas src e1))
  (z:R ((ds.filter p).map f) e1):LcV K (none :: src) (aa4 0) tif te ds e1 R:=by
 have c:noIo (aas (none :: src) e1)=true:=by
  show ((none :: aas src e1).all fun s => !isIo s)=true
  rw [List.all_cons]
  exact (aH3 _ _).mpr ⟨rfl,l⟩
 refine ⟨fun i ys e=>ys=((ds.take i).filter p).map f/\∃ o,e=stO o :: aas src e1,⟨by simp,none,rfl⟩,?_,?_,?_⟩
 ·rintro i ys e ⟨_,o,rfl⟩
  exact ⟨⟨isIo_stO.symm,ae8⟩,ae9 afc⟩
 ·rintro i d ys e hd ⟨rfl,o,rfl⟩ a r
  have hi:i < ds.length:=(aA1.mp hd).1
  have q:ds.take (i+1)=ds.take i ++ [d]:=by rw [aH6,hd];rfl
  refine aa9 ?_
  show EvT a tif (some (.st d) :: aas src e1) _
  intro σ G H F Q I k
  refine h d (aA2 hd) a r σ G H F Q I fun b G' H' F' m j g' ⟨hb,A,u⟩=>k b G' H' F' m j g' ?_
  subst A
  by_cases hp:b=true
  ·rw [aF7 hp]
   intro σ G H F Q I k
   refine u hp σ G H F Q I fun v G' H' F' d' n j g' w ⟨x,g⟩=>k v G' H' F' d' n j g' w ?_
   subst x g
   refine ⟨?_,?_,some d,rfl⟩
   ·have:=List.length_filter_le p (ds.take i)
    simp only [aA3]
    have B:(ds.take i).length<=i:=by simp;lia
    lia
   ·rw [q,List.filter_append,aE5]
    have:p d=true:=by rw [← hb];exact hp
    simp [this]
  ·rw [aF8 hp]
   refine ⟨?_,some d,rfl⟩
   rw [q,List.filter_append,aE5]
   have:p d=false:=by rw [← hb];simpa using hp
   simp [this]
 ·rintro ys e ⟨rfl,o,rfl⟩
  rw [ajp c,aH0]
  exact z
theorem aio {α:Type} (xs:List α):xs.filter (fun _=>true)=xs:=by simp
theorem ayc (f:PyData->PyData) (b:noIo (aas src e1)=true) (g:ds.length<=999999)
  (h:∀ d∈ds,∀ a:Bs,a.K=K->Ev a te (some (.st d) :: aas src e1) fun y i=>y=f d/\i=some (.st d) :: aas src e1)
  (c:R (ds.map f) e1):LcV K (none :: src) (aa4 0) tYes te ds e1 R :=
 avi f (fun _=>true) b g (fun d hd a j=>afo ⟨rfl,rfl,fun _=>h d hd a j⟩) (by rw [aio];exact c)
theorem am9 {u:Frag} {α:Type} {xs:List α} {fa fb : α->PyData} (f : α->PyData) (p : α->Bool) (l:noIo (aas src e1)=true) (E:xs.length<=999999)
  (h:∀ x∈xs,∀ a:Bs,a.K=K->EvT a tif (some (.st (fa x)) :: some (.st (fb x)) :: aas src e1) fun b m=>b=p x/\m=some (.st (fa x)) :: some (.st (fb x)) :: aas src e1/\(b=true->Ev a te (some (.st (fa x)) :: some (.st (fb x)) :: aas src e1) fun y n=>y=f x/\n=some (.st (fa x)) :: some (.st (fb x)) :: aas src e1))
  (B:R ((xs.filter p).map f) e1):LcV K (none :: none :: src) (gTup u 2 (ae0 (aa4 0) (ae0 (aa4 1) gNil))) tif te (xs.map fun x => .tuple [fa x,fb x]) e1 R:=by
 have c:noIo (aas (none :: none :: src) e1)=true:=by
  show ((none :: none :: aas src e1).all fun s => !isIo s)=true
  rw [List.all_cons,List.all_cons]
  exact (aH3 _ _).mpr ⟨rfl,(aH3 _ _).mpr ⟨rfl,l⟩⟩
 refine ⟨fun i ys e=>ys=((xs.take i).filter p).map f/\∃ o o',e=stO o :: stO o' :: aas src e1,⟨by simp,none,none,rfl⟩,?_,?_,?_⟩
 ·rintro i ys e ⟨_,o,o',rfl⟩
  exact ⟨⟨isIo_stO.symm,ae8⟩,⟨isIo_stO.symm,ae8⟩,ae9 afc⟩
 ·rintro i d ys e hd ⟨rfl,o,o',rfl⟩ a r
  rw [aA5] at hd
  cases hx:xs[i]? with
  | none=>rw [hx] at hd;cases hd
  | some x =>
   rw [hx] at hd
   cases hd
   have hi:i < xs.length:=(aA1.mp hx).1
   have q:xs.take (i+1)=xs.take i ++ [x]:=by rw [aH6,hx];rfl
   refine apf rfl (agj (aa9 (agj (aa9 (am2 ?_)))))
   show EvT a tif (some (.st (fa x)) :: some (.st (fb x)) :: aas src e1) _
   intro σ G H F Q I k
   refine h x (aA2 hx) a r σ G H F Q I fun b G' H' F' m j g' ⟨hb,C,w⟩=>k b G' H' F' m j g' ?_
   subst C
   by_cases hp:b=true
   ·rw [aF7 hp]
    intro σ G H F Q I k
    refine w hp σ G H F Q I fun v G' H' F' d' n j g' z ⟨A,g⟩=>k v G' H' F' d' n j g' z ?_
    subst A g
    refine ⟨?_,?_,some _,some _,rfl⟩
    ·have:=List.length_filter_le p (xs.take i)
     simp only [aA3]
     have D:(xs.take i).length<=i:=by simp;lia
     lia
    ·rw [q,List.filter_append,aE5]
     have:p x=true:=by rw [← hb];exact hp
     simp [this]
   ·rw [aF8 hp]
    refine ⟨?_,some _,some _,rfl⟩
    rw [q,List.filter_append,aE5]
    have:p x=false:=by rw [← hb];simpa using hp
    simp [this]
 ·rintro ys e ⟨rfl,o,o',rfl⟩
  rw [ajp c]
  simpa using B
end
section
variable {R:Sl->Prop}
theorem ayd {g:Int->Int->Int} {i j:Int} (h:R (.st (.int (g i j)))):Op2 (rI0 fun i j => .int (g i j)) (.int i) (.int j) R:=fun G H d c Q gh b a k=>by
 cases b;cases a
 exact ⟨i,j,rfl,rfl,k _ _ _ _ _ (Out.refl gh (.int _)) h⟩
theorem aye {g:Int->Int->Bool} {i j:Int} (h:R (.st (.bool (g i j)))):Op2 (rI0 fun i j => .bl (g i j)) (.int i) (.int j) R:=fun G H d c Q gh b a k=>by
 cases b;cases a
 exact ⟨i,j,rfl,rfl,k _ _ _ _ _ (Out.refl gh (.bl _)) h⟩
theorem a05 {C:Int->Int->Prop} {g:Int->Int->Int} {i j:Int} (b:C i j) (h:R (.st (.int (g i j)))):Op2 (rI C fun i j => .int (g i j)) (.int i) (.int j) R:=fun G H f d Q gh c a k=>by
 cases c;cases a
 exact ⟨i,j,rfl,rfl,b,k _ _ _ _ _ (Out.refl gh (.int _)) h⟩
theorem a06 {g:Int->Int} {i:Int} (h:R (.st (.int (g i)))):Op1 (rU fun i => .int (g i)) (.int i) R:=fun G H b Q gh a k=>by
 cases a
 exact ⟨i,rfl,k _ _ _ _ _ (Out.refl gh (.int _)) h⟩
theorem ayf {i j:Int} (h:R (.st (.bool (decide (i=j))))):Op2 rEq (.int i) (.int j) R:=fun G H d c Q gh b a k=>by
 cases b;cases a
 exact asu (k _ _ _ _ _ (Out.refl gh (.bl _)) h)
theorem ayg {i j:Int} (h:R (.st (.bool (!decide (i=j))))):Op2 rNe (.int i) (.int j) R:=fun G H d c Q gh b a k=>by
 cases b;cases a
 exact a0f (k _ _ _ _ _ (Out.refl gh (.bl _)) h)
theorem ayh (i j:Bool):decide (V.bl i=V.bl j)=decide (i=j):=by cases i <;> cases j <;> rfl
theorem ayi {i j:Bool} (h:R (.st (.bool (!decide (i=j))))):Op2 rNe (.bool i) (.bool j) R:=fun G H d c Q gh b a k=>by
 cases b;cases a
 refine ⟨rfl,?_⟩
 rw [ayh]
 exact k _ _ _ _ _ (Out.refl gh (.bl _)) h
theorem apk {x y:PyData} (b:aat x=true) (a:aat y=true) (hd:x.depth<=60) (h:R (.st (.bool (!PyData.eqv x y)))):Op2 rNeD x y R:=fun G H g f Q gh d c k =>
 ⟨x,y,(d.rep b).same gh,(c.rep a).same gh,b,a,hd,k _ _ _ _ _ (Out.refl gh (.bl _)) h⟩
theorem apl {a:Bool} {x:PyData} {es:List PyData} (c:aat x=true) (b:plainDs es=true) (hd:x.depth<=60) (h:R (.st (.bool (if a then !es.any (fun z=>PyData.eqv z x) else es.any (fun z=>PyData.eqv z x))))):Op2 (rInD a) x (.list es) R:=fun G H i g Q gh f d k =>
 ⟨x,es,(f.rep c).same gh,.inl ((d.rep (by simpa [aat] using b)).same gh),c,b,hd,k _ _ _ _ _ (Out.refl gh (.bl _)) h⟩
theorem Rps.at {G:Hp} {vs:List V} {ds:List PyData} {i:Int} {d:PyData} (r:Rps G vs ds) (h:atI ds i=some d):∃ v,atI vs i=some v/\Rp G v d:=by
 unfold atI at h ⊢
 rw [r.length]
 cases e:ixN ds.length i with
 | none=>rw [e] at h;cases h
 | some j =>
  rw [e] at h
  exact r.get h
theorem ayj {K:Frag} {ds:List PyData} {i:Int} {d:PyData} (hd:atI ds i=some d) (h:R (.st d)):Op2 (ab6 K) (.list ds) (.int i) R:=fun G H j g Q gh c a k=>by
 cases a
 cases c with
 | lst ha rs =>
  obtain ⟨v,f,b⟩:=rs.at hd
  exact afx (gh _ _ ha) f (k _ _ _ _ _ (Out.refl gh b) h)
theorem ayk {K:Frag} {ds:List PyData} {i:Int} {d:PyData} (hd:atI ds i=some d) (h:R (.st d)):Op2 (ab6 K) (.tuple ds) (.int i) R:=fun G H j g Q gh c a k=>by
 cases a
 cases c with
 | tup ha rs =>
  obtain ⟨v,f,b⟩:=rs.at hd
  exact au6 (gh _ _ ha) f (k _ _ _ _ _ (Out.refl gh b) h)
def isNone:PyData->Bool
 | .none=>true
 | _=>false
theorem ayl {G:Hp} {v:V} {x:PyData} (r:Rp G v x):decide (v=.non)=isNone x:=by cases r <;> rfl
theorem aym {x:PyData} (h:R (.st (.bool (isNone x)))):Op2 rIsN x .none R:=fun G H d c Q gh b a k=>by
 cases a
 refine ⟨rfl,?_⟩
 rw [ayl b]
 exact k _ _ _ _ _ (Out.refl gh (.bl _)) h
theorem ayn {xs ys:List PyData} (d:xs.length+ys.length<=1000000) (h:R (.own (OL (xs ++ ys)))):Op2 rCat (.list xs) (.list ys) R:=fun G H g f Q gh b a k=>by
 cases b with
 | lst ha ra =>
  cases a with
  | lst hb rb =>
   refine a0j (gh _ _ ha) (gh _ _ hb) ?_ fun p c=>k _ _ _ _ _ (Out.newL gh c (ra.append rb)) h
   rw [ra.length,rb.length];exact aG7 (big d)
theorem apm {xs:List PyData} {n:Int} (b : -(2 ^ 63)<=n) (c:n < 2 ^ 63) (g:xs.length * n.toNat<=1000000) (h:R (.own (OL (List.replicate n.toNat xs).flatten))):Op2 rRep (.list xs) (.int n) R:=fun G H i j Q gh d a k=>by
 cases a
 cases d with
 | lst ha ra =>
  refine ⟨_,n,_,rfl,rfl,gh _ _ ha,b,c,?_,fun p f=>k _ _ _ _ _ (Out.newL gh f (ra.rep _)) h⟩
  rw [ra.length];exact aG7 (big g)
theorem avj {K:Frag} {xs:List PyData} (h:R (.st (.int xs.length))):OpA (rLen K) [.list xs] R:=fun G H vs Q gh rs k=>by
 cases rs with
 | cons r t =>
  cases t
  cases r with
  | lst ha ra =>
   refine ao0 (gh _ _ ha) ?_
   rw [ra.length]
   exact k _ _ _ _ _ (Out.refl gh (.int _)) h
theorem avk {i j:Int} (h:R (.st (.int (if j > i then j else i)))):OpA alk [.int i,.int j] R:=fun G H vs Q gh rs k=>by
 obtain rfl:vs=[V.int i,V.int j]:=Rps.ints_inv (ns:=[i,j]) rs
 exact ao1 (k _ _ _ _ _ (Out.refl gh (.int _)) h)
theorem avl {i j:Int} (h:R (.st (.int (if j < i then j else i)))):OpA alm [.int i,.int j] R:=fun G H vs Q gh rs k=>by
 obtain rfl:vs=[V.int i,V.int j]:=Rps.ints_inv (ns:=[i,j]) rs
 exact ao2 (k _ _ _ _ _ (Out.refl gh (.int _)) h)
theorem avm {b:Bool} (h:R (.st (.int (if b then 1 else 0)))):OpA aln [.bool b] R:=fun G H vs Q gh rs k=>by
 cases rs with
 | cons r t =>
  cases t;cases r
  exact ao3 (k _ _ _ _ _ (Out.refl gh (.int _)) h)
theorem aeu {K:Frag} {ns:List Int} (a:ns ≠ []) (h:∀ m,adb ns m->R (.st (.int m))):OpA (ae5 K) [.list (ns.map .int)] R:=fun G H vs Q gh rs k=>by
 cases rs with
 | cons r t =>
  cases t
  cases r with
  | lst ha ra =>
   have:=Rps.ints_inv ra
   subst this
   exact ⟨_,ns,rfl,.inl (SqL.of (gh _ _ ha)),a,fun m hm=>k _ _ _ _ _ (Out.refl gh (.int _)) (h m hm)⟩
theorem avn {K:Frag} {ns:List Int} (a:ns ≠ []) (h:∀ m,aig ns m->R (.st (.int m))):OpA (aih K) [.list (ns.map .int)] R:=fun G H vs Q gh rs k=>by
 cases rs with
 | cons r t =>
  cases t
  cases r with
  | lst ha ra =>
   have:=Rps.ints_inv ra
   subst this
   exact ⟨_,ns,rfl,.inl (SqL.of (gh _ _ ha)),a,fun m hm=>k _ _ _ _ _ (Out.refl gh (.int _)) (h m hm)⟩
theorem avo {K:Frag} {ns:List Int} {ds:List PyData} (e:ds=ns.map .int) (a:ns ≠ []) (h:∀ m,adb ns m->R (.st (.int m))):OpA (ae5 K) [.tuple ds] R:=fun G H vs Q gh rs k=>by
 subst e
 cases rs with
 | cons r t =>
  cases t
  cases r with
  | tup ha ra =>
   have:=Rps.ints_inv ra
   subst this
   exact ⟨_,ns,rfl,.inr (SqT.of (gh _ _ ha)),a,fun m hm=>k _ _ _ _ _ (Out.refl gh (.int _)) (h m hm)⟩
theorem avp {K:Frag} {ns:List Int} {ds:List PyData} (e:ds=ns.map .int) (a:ns ≠ []) (h:∀ m,aig ns m->R (.st (.int m))):OpA (aih K) [.tuple ds] R:=fun G H vs Q gh rs k=>by
 subst e
 cases rs with
 | cons r t =>
  cases t
  cases r with
  | tup ha ra =>
   have:=Rps.ints_inv ra
   subst this
   exact ⟨_,ns,rfl,.inr (SqT.of (gh _ _ ha)),a,fun m hm=>k _ _ _ _ _ (Out.refl gh (.int _)) (h m hm)⟩
theorem apn {K:Frag} {ns:List Int} {ds:List PyData} (e:ds=ns.map .int) (h:R (.st (.int ns.sum))):OpA (aq3 K) [.list ds] R:=fun G H vs Q gh rs k=>by
 subst e
 cases rs with
 | cons r t =>
  cases t
  cases r with
  | lst ha ra =>
   have:=Rps.ints_inv ra
   subst this
   exact ⟨_,ns,rfl,SqL.of (gh _ _ ha),k _ _ _ _ _ (Out.refl gh (.int _)) h⟩
end
section
variable {B:Bs} {env:En} {QO:Sl->En->Prop} {Q':PyData->En->Prop} {te tl th:TE} {K:Frag}
end
def Has (env:En) (i:Nat) (A:Own):Prop:=env[i]?=some (some (.own A))\/env[i]?=some (some (.io A))
section
variable {B:Bs} {env:En} {QO:Sl->En->Prop} {Q':PyData->En->Prop} {QT:Bool->En->Prop} {QE:En->Prop} {te ta tb tk:TE} {K:Frag} {i:Nat}
theorem VI.has {G H:Hp} {σ:St} {F:Nat->Addr->Prop} {A:Own} (I:VI B G H σ env F) (h:Has env i A):∃ v,σ[i]?=some (some v)/\A.P G H v (F i):=by
 rcases h with h | h
 ·obtain ⟨v,a,q⟩:=I.sl i _ h;exact ⟨v,a,q.1⟩
 ·obtain ⟨v,a,q⟩:=I.sl i _ h;exact ⟨v,a,q.1⟩
theorem a07 {l:List PyData} (s:Has env i (OL l)) (h:Ev B tb env fun y c=>∃ ds k d,Has c i (OL ds)/\y=.int k/\atI ds k=some d/\Q' d c):Ev B (tOp (ab6 K) (tVar i) tb) env Q':=fun σ G H F Q I k=>by
 obtain ⟨v,m,_⟩:=I.has s
 refine ⟨v,m,h σ G H F _ I fun u p H2 F2 y c n A C ⟨ds,j,d,x,r,f,q⟩=>?_⟩
 subst r
 cases C
 obtain ⟨D,b,a,vs,z,ha,rs,_⟩:=n.has x
 rw [m] at b;cases b
 subst z
 obtain ⟨w,o,g⟩:=rs.at f
 exact afx ha o (k w p H2 F2 d c n A g q)
theorem VI.upd1 {G H:Hp} {σ:St} {F:Nat->Addr->Prop} {s:Sl} {A A':Own} {a:Addr} {o:HO} (I:VI B G H σ env F) (e:env[i]?=some (some s)) (hs:s=.own A\/s=.io A) (f : σ[i]?=some (some (.ref a))) (hf:∀ b,F i b ↔ b=a) (g:A'.P G (upd H a o) (.ref a) (· = a)) (d:∀ xs,o ≠ .tup xs:=by intro _ z;cases z) :
  VI B G (upd H a o) σ (env.set i (some (reS s A'))) (putF F i (· = a)):=by
 refine I.change (A:=A') i e f (fun b u hb c=>by rw [aad (fun z=>hb ((hf b).mpr z))];exact c) (fun b u c=>?_) (fun b z=>⟨.inl ((hf b).mpr z),by rw [z];exact ⟨_,aag⟩⟩) g (fun b ks e=>?_) ?_
 ·by_cases z:b=a
  ·rw [z];exact ⟨_,aag⟩
  ·rw [aad z];exact ⟨u,c⟩
 ·by_cases z:b=a
  ·subst z;rw [aag] at e;exact absurd (aC6 e) (d _)
  ·rw [aad z] at e;exact I.ft b ks e
 ·rcases hs with rfl | rfl
  ·exact .inl ⟨rfl,A,rfl⟩
  ·exact .inr ⟨rfl,A,rfl⟩
theorem ata {l:List PyData} (r:Has env i (OL l)) (h:Ev B te env fun y f=>∃ s ds,f[i]?=some (some s)/\(s=.own (OL ds)\/s=.io (OL ds))/\ds.length<=999999/\Q' .none (f.set i (some (reS s (OL (ds ++ [y])))))):Ev B (tBM K "list" ael (tVar i) (aa5 te tNil)) env Q':=fun σ G H F Q I k=>by
 obtain ⟨v,g,a,vs,x,ha,rs,_⟩:=I.has r
 subst x
 refine ⟨_,g,.inl ⟨rfl,_,SqL.of ha⟩,h σ G H F _ I fun u p H2 F2 y f n z A ⟨s,ds,es,hs,D,q⟩=>?_⟩
 have w:Has f i (OL ds):=by rcases hs with rfl | rfl;exact .inl es;exact .inr es
 obtain ⟨E,c,C,o,m,j,d,hf⟩:=n.has w
 rw [g] at c;cases c;cases m
 refine ae4 j (by rw [d.length];exact big (by lia)) ?_
 exact k _ p _ _ _ _ (n.upd1 (A':=OL (ds ++ [y])) es hs g hf ⟨a,_,rfl,aag,d.append (.cons A .nil),fun b=>Iff.rfl⟩) z .non q
theorem aq5 {a:List PyData} (l:Has env i (OL a)) (h:Ev B te env fun y b=>∃ ds,b[i]?=some (some (.own (OL ds)))/\ds.length<=999999/\Q' .none (b.set i (some (.own (OL (ds ++ [y])))))):Ev B (tBM K "list" ael (tVar i) (aa5 te tNil)) env Q' :=
 ata l fun σ G H F Q I k=>h σ G H F Q I fun v G' H' F' d e j g r ⟨ds,c,f,q⟩=>k v G' H' F' d e j g r ⟨_,ds,c,.inl rfl,f,q⟩
theorem aq6 {m:List PyData} (s:Has env i (OL m)) (h:Ev B te env fun y j=>∃ ds ys,y=.list ys/\j[i]?=some (some (.own (OL ds)))/\ds.length+ys.length<=1000000/\Q' .none (j.set i (some (.own (OL (ds ++ ys)))))):Ev B (tBM K "list" ai9 (tVar i) (aa5 te tNil)) env Q':=fun σ G H F Q I k=>by
 obtain ⟨v,f,a,vs,x,ha,rs,_⟩:=I.has s
 subst x
 refine ⟨_,f,.inl ⟨rfl,_,SqL.of ha⟩,h σ G H F _ I fun u p H2 F2 y j l z A ⟨ds,ys,r,es,w,q⟩=>?_⟩
 subst r
 cases A with
 | lst hb rb =>
  obtain ⟨D,c,C,o,n,g,d,hf⟩:=l.has (.inl es)
  rw [f] at c;cases c;cases n
  refine asv g (l.gh _ _ hb) (by rw [d.length,rb.length];exact aG7 (big w)) ?_
  exact k _ p _ _ _ _ (l.upd1 (A':=OL (ds ++ ys)) es (.inl rfl) f hf ⟨a,_,rfl,aag,d.append rb,fun b=>Iff.rfl⟩) z .non q
theorem avq {d:PyData} {o:List PyData} (C:Has env i (OL o)) (h:Ev B tk env fun y g=>∃ s ds k j,y=.int k/\g[i]?=some (some s)/\(s=.own (OL ds)\/s=.io (OL ds))/\ixN ds.length k=some j/\QE (g.set i (some (reS s (OL (ds.set j d)))))):EvG B (gSub (tVar i) tk aqv) (.st d) env QE:=fun σ G H F v Fv Q I x k=>by
 obtain ⟨L,_⟩:=x.ok
 obtain ⟨N,l,a,vs,J,ha,rs,_⟩:=I.has C
 subst J
 refine ⟨_,l,h σ G H F _ I fun u A H2 F2 y g r w M ⟨s,ds,n,j,D,es,hs,K,q⟩=>?_⟩
 subst D
 cases M
 have E:Has g i (OL ds):=by rcases hs with rfl | rfl;exact .inl es;exact .inr es
 obtain ⟨P,c,O,z,p,m,f,hf⟩:=r.has E
 rw [l] at c;cases c;cases p
 refine aoz m (by rw [f.length];exact K) ?_
 exact k _ A _ _ _ (r.upd1 (A':=OL (ds.set j d)) es hs l hf ⟨a,_,rfl,aag,f.set (L.same w) j,fun b=>Iff.rfl⟩) w q
theorem apo {t:TS} {D':VEnds} {A:Own} {d:PyData} (i:Nat) (e:env[i]?=some (some (.own A))) (f:Frz A d) (h:EvS B t D' (env.set i (some (.st d)))):EvS B t D' env:=fun σ G H F D I r=>by
 obtain ⟨v,a,b,g,J⟩:=I.frz e f
 exact h σ _ H _ D J (r.later g)
end
def tyD:PyData->String
 | .none => "NoneType" | .bool _ => "bool" | .int _ => "int" | .str _ => "str" | .list _ => "list" | .tuple _ => "tuple" | .dict _ => "dict"
def afq (T:String):Prop:=T = "int"\/T = "bool"\/T = "tuple"\/T = "list"\/T = "str"\/T = "dict"
def isiD (T:String) (d:PyData):Bool:=tyD d == T || (T == "int" && tyD d == "bool")
theorem a2y {K:Frag} {H:Hp} {v:V} {d:PyData} (r:Rp H v d):TyOf K H v (.type (tyD d)):=by
 cases r with
 | non=>exact .non
 | bl b=>exact .bl b
 | int i=>exact .int i
 | str x=>exact .str x
 | lst h _=>exact .lst h
 | tup h _=>exact .tup h
 | dk h _ _=>exact .dK h
 | dt h _ _=>exact .dT h
theorem a2z {K:Frag} {T:String} (h:afq T) (d:PyData):kitOne K (.type (tyD d)) (.type T)=some (isiD T d):=by
 rcases h with rfl | rfl | rfl | rfl | rfl | rfl
 ·cases d with
  | none=>exact ahq
  | bool _=>exact amm
  | int _=>exact aof
  | str _=>exact aoh
  | list _=>exact amu
  | tuple _=>exact ak7
  | dict _=>exact amw
 ·cases d with
  | none=>exact ahc
  | bool _=>exact akz
  | int _=>exact amo
  | str _=>exact amr
  | list _=>exact ak4
  | tuple _=>exact ajl
  | dict _=>exact ak9
 ·cases d with
  | none=>exact agh
  | bool _=>exact ajj
  | int _=>exact ak2
  | str _=>exact ak3
  | list _=>exact ajk
  | tuple _=>exact aii
  | dict _=>exact ajo
 ·cases d with
  | none=>exact ahd
  | bool _=>exact ak0
  | int _=>exact amp
  | str _=>exact ams
  | list _=>exact ak5
  | tuple _=>exact ajm
  | dict _=>exact ala
 ·cases d with
  | none=>exact ahr
  | bool _=>exact amn
  | int _=>exact aog
  | str _=>exact aoi
  | list _=>exact amv
  | tuple _=>exact ak8
  | dict _=>exact amx
 ·cases d with
  | none=>exact ahe
  | bool _=>exact ak1
  | int _=>exact amq
  | str _=>exact amt
  | list _=>exact ak6
  | tuple _=>exact ajn
  | dict _=>exact alb
section
variable {B:Bs} {env:En} {QO:Sl->En->Prop} {Q':PyData->En->Prop} {QT:Bool->En->Prop} {QE:En->Prop} {te ta tb tk:TE} {K:Frag} {i:Nat}
theorem a08 {T:String} (j:afq T) (h:Ev B te env fun d e=>Q' (.bool (isiD T d)) e):Ev B (tCB (rIsi K) (aa5 te (aa5 (tC (.ty T)) tNil))) env Q':=fun σ G H F Q I k =>
 h σ G H F _ I fun v b f m d i a c l g=>⟨v,T,_,_,rfl,a2y (l.same a.gh),a2z j d,k _ b f m _ i a c (.bl _) g⟩
theorem a09:afq "int":=.inl rfl
theorem ayo:afq "bool":=.inr (.inl rfl)
theorem ayp:afq "list":=.inr (.inr (.inr (.inl rfl)))
theorem avr {A:Own} {D':VEnds} (e:env[i]?=some (some (.own A))) (q:D'.rt (.own A) (env.set i none)):EvS B (tRet (tVar i)) D' env:=apg (ava e q)
theorem a20 {n m:Nat} {P:Prop} (h:n<=m) (q:P):n<=m/\P:=⟨h,q⟩
theorem a1c {ds:List PyData} {a:En} {R:List PyData->Prop} (e:a[i]?=some (some (.own (OL ds)))) (b:ds.length<=999999) (q:R ds):∃ ds,a[i]?=some (some (.own (OL ds)))/\ds.length<=999999/\R ds:=⟨ds,e,b,q⟩
theorem a21 {ds:List PyData} {d:PyData} {k:Int} {b:En} {R:PyData->Prop} (c:Has b i (OL ds)) (h:atI ds k=some d) (q:R d):∃ ds a d,Has b i (OL ds)/\PyData.int k=.int a/\atI ds a=some d/\R d:=⟨ds,k,d,c,rfl,h,q⟩
theorem aq7 {ds:List PyData} {k:Int} {j:Nat} {b:En} {R:Sl->List PyData->Nat->Prop} (e:b[i]?=some (some (.own (OL ds)))) (c:ixN ds.length k=some j) (q:R (.own (OL ds)) ds j):∃ s ds a j,PyData.int k=.int a/\b[i]?=some (some s)/\(s=.own (OL ds)\/s=.io (OL ds))/\ixN ds.length a=some j/\R s ds j:=⟨_,ds,k,j,rfl,e,.inl rfl,c,q⟩
theorem x_rt {A:Own} {a:En} {R:Own->Prop} (e:a[0]?=some (some (.io A))) (q:R A):∃ A',a[0]?=some (some (.io A'))/\R A':=⟨A,e,q⟩
theorem x_st {b:Bool} {R:Bool->Prop} (h:R b):∃ c,Sl.st (.bool b)=.st (.bool c)/\R c:=⟨b,rfl,h⟩
theorem avs {ds:List PyData} {R:Bool->Prop} (h:R (!ds.isEmpty)):∃ k,TruD (.list ds) k/\R k:=⟨_,rfl,h⟩
theorem lenP {f:VP} {n:Nat} {vs:List V} {H:Hp} {Q:VK} {E:XK} (h:spP K f vs H Q E) (hf:∀ ss a,f ss a->ss.length=n):vs.length=n:=by
 obtain ⟨G,ss,a,_,_,b,q,_⟩:=h
 rw [b.length];exact hf ss a q
theorem lenI {f:VIo} {n:Nat} {vs:List V} {H:Hp} {Q:VK} {E:XK} (h:spI K f vs H Q E) (hf:∀ A ss a,f A ss a->ss.length+1=n):vs.length=n:=by
 obtain ⟨v0,c,G,R,A,ss,F0,a,rfl,_,_,_,_,_,_,b,q,_⟩:=h
 rw [aE6,b.length];exact hf A ss a q
theorem aip {f:VIo} {t:TA} {E:XK} {A:Own} (d:env[i]?=some (some (.io A))) (h:EvA B t env fun ds a=>a[i]?=some (some (.io A))/\f A (ds.map Sl.st) fun A' s=>QO s (a.set i (some (.io A')))):EvO B (acj (spI K f) [] E (aa5 (tVar i) t)) env QO :=
 aki ⟨_,d⟩ fun σ G H F Q I k=>h σ G H F Q I fun vs G' H' F' ds a c g r ⟨b,q⟩=>k vs G' H' F' ds a c g r ⟨_,A,b,.inr rfl,q⟩
theorem aiq {f:VIo} {t:TA} {E:XK} {A:Own} (d:env[i]?=some (some (.own A))) (h:EvA B t env fun ds a=>a[i]?=some (some (.own A))/\f A (ds.map Sl.st) fun A' s=>QO s (a.set i (some (.own A')))):EvO B (acj (spI K f) [] E (aa5 (tVar i) t)) env QO :=
 aki ⟨_,d⟩ fun σ G H F Q I k=>h σ G H F Q I fun vs G' H' F' ds a c g r ⟨b,q⟩=>k vs G' H' F' ds a c g r ⟨_,A,b,.inl rfl,q⟩
theorem akk {f:VIo} {t:TA} {E:XK} {A:Own} (b:env[i]?=some (some (.io A))) (h:EvA B t env fun ds a=>a[i]?=some (some (.io A))/\f A (ds.map Sl.st) fun A' s=>FQ s fun d=>Q' d (a.set i (some (.io A')))):Ev B (acj (spI K f) [] E (aa5 (tVar i) t)) env Q':=abh (aip b h)
theorem atb {f:VIo} {t:TA} {E:XK} {A:Own} (b:env[i]?=some (some (.own A))) (h:EvA B t env fun ds a=>a[i]?=some (some (.own A))/\f A (ds.map Sl.st) fun A' s=>FQ s fun d=>Q' d (a.set i (some (.own A')))):Ev B (acj (spI K f) [] E (aa5 (tVar i) t)) env Q':=abh (aiq b h)
theorem a22 {P Q:Prop} (h:P) (q:Q):P/\Q:=⟨h,q⟩
theorem a23 {src:List (Option Nat)} {j:TI} {g:TG} {f:TT} (nd:(src.filterMap id).Nodup) (h:EvI B j env fun ds i=>LcV B.K src g f te ds i fun ys n=>Q' (.list ys) n):Ev B (tLC src j g f te) env Q':=abh (as9 nd fun σ G H F R I k=>h σ G H F R I fun J G' H' F' ds i m g' it ⟨l,a,b,c,d⟩=>k J G' H' F' ds i m g' it ⟨l,a,b,c,fun ys e q=>acf (d ys e q)⟩)
end
end VL
namespace VL
open PySem L2
section
variable {B:Bs} {QE:En->Prop} {Q':PyData->En->Prop} {s:Sl} {r:En} {A:Own} {d:PyData} {x0 x1 x2 x3 x4 x5 x6 x7 x8 x9 x10 x11 x12 x13 x14 x15 x16 x17 x18 x19 x20 x21 x22 x23 x24 x25:Option Sl}
theorem a1d (h:QE (x0 :: some s :: r)):EvG B (aa4 1) s (x0 :: x1 :: r) QE:=aa9 h
theorem a1e (h:QE (x0 :: x1 :: some s :: r)):EvG B (aa4 2) s (x0 :: x1 :: x2 :: r) QE:=aa9 h
theorem a1f (h:QE (x0 :: x1 :: x2 :: some s :: r)):EvG B (aa4 3) s (x0 :: x1 :: x2 :: x3 :: r) QE:=aa9 h
theorem a1g (h:QE (x0 :: x1 :: x2 :: x3 :: some s :: r)):EvG B (aa4 4) s (x0 :: x1 :: x2 :: x3 :: x4 :: r) QE:=aa9 h
theorem a1h (h:QE (x0 :: x1 :: x2 :: x3 :: x4 :: some s :: r)):EvG B (aa4 5) s (x0 :: x1 :: x2 :: x3 :: x4 :: x5 :: r) QE:=aa9 h
theorem a1i (h:QE (x0 :: x1 :: x2 :: x3 :: x4 :: x5 :: some s :: r)):EvG B (aa4 6) s (x0 :: x1 :: x2 :: x3 :: x4 :: x5 :: x6 :: r) QE:=aa9 h
theorem a1j (h:QE (x0 :: x1 :: x2 :: x3 :: x4 :: x5 :: x6 :: some s :: r)):EvG B (aa4 7) s (x0 :: x1 :: x2 :: x3 :: x4 :: x5 :: x6 :: x7 :: r) QE:=aa9 h
theorem a1k (h:QE (x0 :: x1 :: x2 :: x3 :: x4 :: x5 :: x6 :: x7 :: some s :: r)):EvG B (aa4 8) s (x0 :: x1 :: x2 :: x3 :: x4 :: x5 :: x6 :: x7 :: x8 :: r) QE:=aa9 h
theorem a1l (h:QE (x0 :: x1 :: x2 :: x3 :: x4 :: x5 :: x6 :: x7 :: x8 :: some s :: r)):EvG B (aa4 9) s (x0 :: x1 :: x2 :: x3 :: x4 :: x5 :: x6 :: x7 :: x8 :: x9 :: r) QE:=aa9 h
theorem ayq (h:QE (x0 :: x1 :: x2 :: x3 :: x4 :: x5 :: x6 :: x7 :: x8 :: x9 :: some s :: r)):EvG B (aa4 10) s (x0 :: x1 :: x2 :: x3 :: x4 :: x5 :: x6 :: x7 :: x8 :: x9 :: x10 :: r) QE:=aa9 h
end
end VL
namespace Gr
structure Ring (T:Int->Int->Prop) (a:Int) (k:Nat) (far:Int->Option Nat) (edge:List Int):Prop where
 lab:∀ v d,far v=some d ↔ (Dist T a v d/\d<=k)
 edg:∀ v,v∈edge ↔ Dist T a v k
structure Mid (T:Int->Int->Prop) (k:Nat) (far0:Int->Option Nat) (edge:List Int) (done:Int->Prop) (far:Int->Option Nat) (beyond:List Int):Prop where
 old:∀ v d,far0 v=some d->far v=some d
 new:∀ v,v∈beyond ↔ (far0 v=none/\far v ≠ none)
 val:∀ v d,far0 v=none->far v=some d->d=k+1/\∃ u,u∈edge/\T u v
 dn:∀ u w,done u->T u w->far w ≠ none
def label (far:Int->Option Nat) (w:Int) (d:Nat):Int->Option Nat:=fun v=>if v=w then some d else far v
theorem label_same {far:Int->Option Nat} {w:Int} {d:Nat}:label far w d w=some d:=aF7 rfl
theorem label_ne {far:Int->Option Nat} {w v:Int} {d:Nat} (h:v ≠ w):label far w d v=far v:=aF8 h
variable {T:Int->Int->Prop} {a:Int} {k:Nat} {far0 far:Int->Option Nat} {edge beyond:List Int} {done:Int->Prop}
theorem Ring.start:Ring T a 0 (label (fun _=>none) a 0) [a]:=by
 refine ⟨fun v d=>?_,fun v=>?_⟩
 ·by_cases h:v=a
  ·subst h
   rw [label_same]
   constructor
   ·intro e;cases e;exact ⟨Dist.self T v,aA6 _⟩
   ·rintro ⟨h,_⟩;rw [h.uniq (Dist.self T v)]
  ·rw [label_ne h]
   constructor
   ·intro e;cases e
   ·rintro ⟨b,c⟩
    have:d=0:=by lia
    subst this
    cases b.1
    exact absurd rfl h
 ·simp only [aC2]
  constructor
  ·rintro rfl;exact Dist.self T v
  ·intro h;cases h.1;rfl
theorem Mid.start:Mid T k far0 edge (fun _=>False) far0 [] :=
 ⟨fun v d h=>h,fun v=>⟨fun h=>by simp at h,fun h=>absurd h.1 h.2⟩,fun v d h g=>(by rw [h] at g;cases g),fun u w h=>h.elim⟩
theorem Mid.add (m:Mid T k far0 edge done far beyond) {u w:Int} (f:u∈edge) (t:T u w) (a:far w=none):Mid T k far0 edge done (label far w (k+1)) (beyond ++ [w]):=by
 have b:far0 w=none:=by
  cases e:far0 w with
  | none=>rfl
  | some d=>rw [m.old w d e] at a;cases a
 refine ⟨fun v d h=>?_,fun v=>?_,fun v d h g=>?_,fun x y c i=>?_⟩
 ·rw [label_ne (by rintro rfl;rw [b] at h;cases h)];exact m.old v d h
 ·by_cases hv:v=w
  ·subst hv
   simp [label_same,b]
  ·rw [label_ne hv]
   simp only [aA7,aC2,hv,or_false]
   exact m.new v
 ·by_cases hv:v=w
  ·subst hv
   rw [label_same] at g
   cases g
   exact ⟨rfl,u,f,t⟩
  ·rw [label_ne hv] at g
   exact m.val v d h g
 ·by_cases hv:y=w
  ·subst hv;rw [label_same];simp
  ·rw [label_ne hv];exact m.dn x y c i
theorem Mid.did (m:Mid T k far0 edge done far beyond) {u:Int} (h:∀ w,T u w->far w ≠ none):Mid T k far0 edge (fun x=>done x\/x=u) far beyond :=
 ⟨m.old,m.new,m.val,fun x w a t=>by rcases a with a | rfl;exact m.dn x w a t;exact h w t⟩
theorem Mid.imp {a:Int->Prop} (m:Mid T k far0 edge done far beyond) (h:∀ u,a u->done u):Mid T k far0 edge a far beyond :=
 ⟨m.old,m.new,m.val,fun x w b t=>m.dn x w (h x b) t⟩
theorem Ring.next (r:Ring T a k far0 edge) (m:Mid T k far0 edge done far beyond) (hd:∀ u∈edge,done u):Ring T a (k+1) far beyond:=by
 have g:∀ v,far0 v=none->far v ≠ none->Dist T a v (k+1):=fun v f b=>by
  cases e:far v with
  | none=>exact absurd e b
  | some d =>
   obtain ⟨rfl,u,l,t⟩:=m.val v d f e
   obtain ⟨j,p,h⟩:=((r.edg u).mp l).next t
   by_cases i:j<=k
   ·rw [(r.lab v j).mpr ⟨h,i⟩] at f;cases f
   ·have:j=k+1:=by lia
    rw [← this];exact h
 have c:∀ v,Dist T a v (k+1)->far0 v=none/\far v ≠ none:=fun v h=>by
  refine ⟨?_,?_⟩
  ·cases e:far0 v with
   | none=>rfl
   | some d =>
    obtain ⟨b,n⟩:=(r.lab v d).mp e
    have:=b.uniq h
    lia
  ·obtain ⟨u,t,l⟩:=h.pred
   exact m.dn u v (hd u ((r.edg u).mpr l)) t
 refine ⟨fun v d=>?_,fun v=>⟨fun h=>?_,fun h=>(m.new v).mpr (c v h)⟩⟩
 ·constructor
  ·intro e
   cases e0:far0 v with
   | some d0 =>
    rw [m.old v d0 e0] at e
    cases e
    obtain ⟨b,n⟩:=(r.lab v d).mp e0
    exact ⟨b,by lia⟩
   | none =>
    have i:=(m.val v d e0 e).1
    subst i
    exact ⟨g v e0 (by rw [e];simp),aA6 _⟩
  ·rintro ⟨h,i⟩
   by_cases hd':d<=k
   ·exact m.old v d ((r.lab v d).mpr ⟨h,hd'⟩)
   ·have o:d=k+1:=by lia
    subst o
    obtain ⟨f,b⟩:=c v h
    cases e:far v with
    | none=>exact absurd e b
    | some d=>rw [(m.val v d f e).1]
 ·obtain ⟨f,b⟩:=(m.new v).mp h
  exact g v f b
theorem Dist.down {v:Int}:∀ {d:Nat},Dist T a v d->∀ j,j<=d->∃ u,Dist T a u j
 | 0,h,j,hj=>⟨v,by rw [show j=0 by lia];exact h⟩
 | d+1,h,j,hj=>by
  by_cases e:j=d+1
  ·rw [e];exact ⟨v,h⟩
  ·obtain ⟨u,_,b⟩:=h.pred
   exact Dist.down b j (by lia)
def farO (T:Int->Int->Prop) (a v:Int):Option Nat:=open Classical in if h:∃ d,Dist T a v d then some (Classical.choose h) else none
theorem farO_some {v:Int} {d:Nat}:farO T a v=some d ↔ Dist T a v d:=by
 unfold farO
 constructor
 ·intro h
  split at h
  ·rename_i b
   cases h
   exact Classical.choose_spec b
  ·cases h
 ·intro h
  have b:∃ d,Dist T a v d:=⟨d,h⟩
  rw [dif_pos b,(Classical.choose_spec b).uniq h]
theorem farO_none {v:Int}:farO T a v=none ↔ ∀ d,¬ Dist T a v d:=by
 constructor
 ·intro h d hd
  rw [farO_some.mpr hd] at h;cases h
 ·intro h
  cases e:farO T a v with
  | none=>rfl
  | some d=>exact absurd (farO_some.mp e) (h d)
theorem apq {v:Int} {o:Option Nat} (h:∀ d,o=some d ↔ Dist T a v d):o=farO T a v:=by
 cases o with
 | some d=>exact (farO_some.mpr ((h d).mp rfl)).symm
 | none=>exact (farO_none.mpr fun d hd=>by cases (h d).mpr hd).symm
theorem Ring.fin (r:Ring T a k far0 []) (v:Int):far0 v=farO T a v:=by
 refine apq fun d=>?_
 rw [r.lab]
 refine ⟨fun h=>h.1,fun h=>⟨h,?_⟩⟩
 apply aD5
 intro c
 obtain ⟨u,b⟩:=h.down k (by lia)
 have:=(r.edg u).mpr b
 simp at this
theorem Walk.app {u v w:Int} {i j:Nat} (h:Walk T u i v) (g:Walk T v j w):Walk T u (i+j) w:=by
 induction g with
 | refl=>exact h
 | step _ t ih=>exact .step ih t
theorem Walk.rev (hs:∀ u v,T u v->T v u) {u v:Int} {i:Nat} (h:Walk T u i v):Walk T v i u:=by
 induction h with
 | refl=>exact .refl
 | @step j x y _ t ih =>
  have:=(Walk.step (T:=T) (u:=y) .refl (hs _ _ t)).app ih
  rw [Nat.add_comm] at this
  exact this
theorem Dist.rev (hs:∀ u v,T u v->T v u) {u v:Int} {d:Nat} (h:Dist T u v d):Dist T v u d:=⟨h.1.rev hs,fun k w=>h.2 k (w.rev hs)⟩
theorem farO_comm (hs:∀ u v,T u v->T v u) (u v:Int):farO T u v=farO T v u:=apq fun d=>by
 rw [farO_some];exact ⟨fun h=>h.rev hs,fun h=>h.rev hs⟩
theorem farO_self:farO T a a=some 0:=farO_some.mpr (Dist.self T a)
end Gr
namespace VL
open PySem PySem.Spec L2
theorem nodup_ix {α:Type} {xs:List α} (h:xs.Nodup) {i j:Nat} (hi:i < xs.length) (a:j < xs.length) (e:xs[i]=xs[j]):i=j:=by
 have p:=aG9.mp h
 rcases Nat.lt_trichotomy i j with q | q | q
 ·exact absurd e (p i j hi a q)
 ·exact q
 ·exact absurd e.symm (p j i a hi q)
def OLL (dss:List (List PyData)):Own where
 P:=fun G H v F=>∃ (a:Addr) (as:List Addr),v=.ref a/\H a=some (.lst (as.map V.ref))/\as.Nodup/\a ∉ as/\as.length=dss.length/\(∀ (i:Nat) b ds,as[i]?=some b->dss[i]?=some ds->∃ vs,H b=some (.lst vs)/\Rps G vs ds)/\∀ b,F b ↔ b=a\/b∈as
 mono:=fun ⟨a,as,e,h,n1,n2,l,r,f⟩ g hh=>⟨a,as,e,hh a _ ((f a).mpr (.inl rfl)) h,n1,n2,l,fun i b ds hb hd=>by
  obtain ⟨vs,h1,h2⟩:=r i b ds hb hd
  exact ⟨vs,hh b _ ((f b).mpr (.inr (aA2 hb))) h1,h2.same g⟩,f⟩
 dom:=fun ⟨a,as,e,h,n1,n2,l,r,f⟩ b z=>by
  rcases (f b).mp z with rfl | z
  ·exact ⟨_,h⟩
  ·obtain ⟨i,hi,e⟩:=aH8.mp z
   have hb:as[i]?=some b:=by rw [aA0 hi,e]
   obtain ⟨vs,h1,_⟩:=r i b _ hb (aA0 (by rw [← l];exact hi))
   exact ⟨_,h1⟩
theorem ana {G:Hp}:∀ {vs:List V} {ds:List PyData},vs.length=ds.length->(∀ (i:Nat) v d,vs[i]?=some v->ds[i]?=some d->Rp G v d)->Rps G vs ds
 | [],[],_,_ => .nil
 | [],_ :: _,h,_=>by simp at h
 | _ :: _,[],h,_=>by simp at h
 | v :: vs,d :: ds,h,k => .cons (k 0 v d rfl rfl) (ana (by simpa using h) fun i v d b a=>k (i+1) v d (by simpa using b) (by simpa using a))
theorem ag6 {c:List (List PyData)}:Frz (OLL c) (.list (c.map .list)):=fun G H v F ⟨a,as,e,h,q,p,l,r,f⟩ n g=>by
 subst e
 refine .lst (by rw [aei ((f a).mpr (.inl rfl))];exact h) (ana (by simp [l]) fun i u d j hd=>?_)
 rw [aA5] at j hd
 cases hb:as[i]? with
 | none=>rw [hb] at j;cases j
 | some b =>
  cases hds:c[i]? with
  | none=>rw [hds] at hd;cases hd
  | some ds =>
   rw [hb] at j;rw [hds] at hd
   cases j;cases hd
   obtain ⟨vs,m,o⟩:=r i b ds hb hds
   exact .lst (by rw [aei ((f b).mpr (.inr (aA2 hb)))];exact m) (o.same (abv n))
section
variable {B:Bs} {env:En} {QO:Sl->En->Prop} {Q':PyData->En->Prop} {D':VEnds} {K:Frag} {i:Nat}
theorem a1m {a:List (List PyData)} {R:PyData->Prop} (h:R (.list (a.map .list))):FQ (.own (OLL a)) R:=⟨_,ag6,h⟩
theorem ayr {src:List (Option Nat)} {wi:TI} {j:Nat} (h:EvI B wi env fun ds R=>ds.length<=1000000/\QO (.own (OLL (List.replicate ds.length []))) R):EvO B (tLC src wi (aa4 j) tYes (tLst tNil)) env QO:=fun σ G H F Q I k=>by
 refine h σ G H F _ I fun J X M F1 ds R s g1 it ⟨a0,q⟩ c d=>?_
 let W:Nat->List V->Hp->Prop:=fun n ys H=>∃ (as:List Addr) (g:Hp),ys=as.map V.ref/\as.length=n/\as.Nodup/\c ∉ as/\(∀ b∈as,M b=none/\g b=none/\H b=some (.lst []))/\H c=some (.lst ys)/\g c=none/\Same X g/\Same g H/\Same M H/\(∀ a o,g a=some o->X a=some o\/M a=none)/\FT g H
 refine ⟨fun n m ys σI H=>m=ds.length - n/\n<=ds.length/\W n ys H,⟨ds.length,by simp,aG2 _,[],X,rfl,rfl,List.nodup_nil,by simp,fun b hb=>by simp at hb,aag,s.no_g d,Same.refl _,s.gh.trans (abg d),abg d,fun a o e => .inl e,fun a ks e=>?_⟩,?_⟩
 ·by_cases z:a=c
  ·subst z;rw [aag] at e;cases e
  ·rw [aad z] at e;exact s.ft a ks e
 rintro n m ys σI H2 ⟨rfl,hn,as,g,rfl,N,nd,na,all,f,T,A,r,l,K,v⟩
 refine ⟨f,?_⟩
 by_cases hlt:n < ds.length
 ·refine .inr ⟨it.go n g H2 A r hlt,fun D S H'=>W (n+1) D H',fun D S H' hw=>⟨ds.length - (n+1),by lia,rfl,hlt,hw⟩,fun x H3 y=>?_⟩
  obtain ⟨L,o⟩:=it.yld n g H2 x H3 _ A r v (aA0 hlt) y
  refine ag0 (aic (aco (ast (aes ⟨by decide,fun p C=>?_⟩))))
  have n2:H2 p=none:=aa2 o.hh C
  have n1:M p=none:=aa2 l n2
  have O:p ≠ c:=(aai (o.hh _ _ f) C).symm
  have E:p ∉ as:=fun z=>by
   have:=o.hh _ _ (all p z).2.2
   rw [this] at C;cases C
  refine ⟨by rw [aad O.symm];exact o.hh _ _ f,by rw [aA3,N];exact big (by lia),as ++ [p],L,by simp,by simp [N],?_,?_,fun b hb=>?_,aag,?_,A.trans o.gg,fun a u e=>?_,fun a u e=>?_,fun a u e=>?_,fun a ks e=>?_⟩
  ·rw [aE9]
   exact ⟨nd,by simp,fun x hx y Z=>by simp at Z;subst Z;intro e;subst e;exact E hx⟩
  ·intro z
   rcases aA7.mp z with z | z
   ·exact na z
   ·exact O (aC2.mp z).symm
  ·have gb:∀ b,g b=none->(∃ u,H2 b=some u)->L b=none:=fun b Y z_=>by
    obtain ⟨u,P⟩:=z_
    cases e:L b with
    | none=>rfl
    | some w =>
     rcases o.gn b w e with e | e
     ·rw [Y] at e;cases e
     ·rw [P] at e;cases e
   rcases aA7.mp hb with hb | hb
   ·obtain ⟨Y,P,h3⟩:=all b hb
    refine ⟨Y,gb b P ⟨_,h3⟩,?_⟩
    rw [aad (fun z:b=c=>na (by rw [← z];exact hb)),aad (fun z:b=p=>E (by rw [← z];exact hb))]
    exact o.hh _ _ h3
   ·have e:b=p:=by simpa using hb
    subst e
    exact ⟨n1,aa2 o.gh C,by rw [aad O,aag]⟩
  ·cases e:L c with
   | none=>rfl
   | some w =>
    rcases o.gn c w e with e | e
    ·rw [T] at e;cases e
    ·rw [f] at e;cases e
  ·have ap:a ≠ p:=aai (o.gh a u e) C
   have U:a ≠ c:=by
    rintro rfl
    rcases o.gn _ u e with e | e
    ·rw [T] at e;cases e
    ·rw [f] at e;cases e
   rw [aad U,aad ap];exact o.gh a u e
  ·have ap:a ≠ p:=aai e n1
   have U:a ≠ c:=aai e d
   rw [aad U,aad ap];exact o.hh _ _ (l a u e)
  ·rcases o.gn a u e with e | e
   ·exact K a u e
   ·exact .inr (aa2 l e)
  ·by_cases z:a=c
   ·subst z;rw [aag] at e;cases e
   ·rw [aad z] at e
    by_cases y:a=p
    ·subst y;rw [aag] at e;cases e
    ·rw [aad y] at e;exact o.ft v a ks e
 ·have e:n=ds.length:=by lia
  subst e
  refine .inl ⟨it.stop _ g H2 A r rfl,?_⟩
  have I2:=s.grow A r l K v
  refine k (.ref c) g H2 F1 (fun b=>b=c\/b∈as) (.own (OLL (List.replicate ds.length []))) R I2 (g1.trans A) ⟨⟨c,as,rfl,f,nd,na,by simp [N],fun i b a1 hb hd=>?_,fun b=>Iff.rfl⟩,fun b z=>?_,fun b z=>?_,fun b z=>?_,fun j b z y=>?_⟩ q
  ·rw [aH9] at hd
   split at hd
   ·cases hd;exact ⟨[],(all b (aA2 hb)).2.2,.nil⟩
   ·cases hd
  ·rcases z with rfl | z
   ·exact s.no_b d
   ·exact s.no_b (all b z).1
  ·rcases z with rfl | z
   ·exact T
   ·exact (all b z).2.1
  ·rcases z with rfl | z
   ·exact ⟨_,f⟩
   ·exact ⟨_,(all b z).2.2⟩
  ·rcases z with rfl | z
   ·exact s.no_f d j y
   ·exact s.no_f (all b z).1 j y
theorem air {d:List (List PyData)} {l j n:Nat} {k:Int} {y:PyData} {ds:List PyData} (e:env[i]?=some (some (.own (OLL d)))) (W:env[l]?=some (some (.st (.int k)))) (T:env[j]?=some (some (.st y)))
  (hk:ixN d.length k=some n) (hd:d[n]?=some ds) (hl:ds.length<=999999) (q:Q' .none (env.set i (some (.own (OLL (d.set n (ds ++ [y]))))))):Ev B (tBM K "list" ael (tOp (ab6 K) (tVar i) (tVar l)) (aa5 (tVar j) tNil)) env Q':=fun σ G H F Q I U=>by
 obtain ⟨v,E,⟨a,as,rfl,h,O,N,ln,r,f⟩,_⟩:=I.sl i _ e
 obtain ⟨vk,C,P,_⟩:=I.sl l _ W
 obtain ⟨R,x,X,_⟩:=I.sl j _ T
 cases P
 have hn:n < d.length:=(aA1.mp hd).1
 have hb:as[n]?=some (as[n]'(by lia)):=aA0 _
 generalize as[n]'(by lia)=b at hb
 have s:b∈as:=aA2 hb
 obtain ⟨vs,L,M⟩:=r n b ds hb hd
 have u:atI (as.map V.ref) k=some (.ref b):=by
  unfold atI
  rw [aA3,ln,hk]
  simp [hb]
 refine ⟨_,E,_,C,afx h u ⟨.inl ⟨rfl,_,SqL.of L⟩,_,x,ae4 L (by rw [M.length];exact big (by lia)) ?_⟩⟩
 have D:a ≠ b:=fun z=>N (z ▸ s)
 have J:=I.change (A:=OLL (d.set n (ds ++ [y]))) (H2:=upd H b (.lst (vs ++ [R]))) (F2:=F i) (os':=.own (OLL (d.set n (ds ++ [y])))) i e E (fun c o p w=>by rw [aad (fun z:c=b=>p ((f c).mpr (.inr (by rw [z];exact s))))];exact w)
  (fun c o w=>by
   by_cases z:c=b
   ·rw [z];exact ⟨_,aag⟩
   ·rw [aad z];exact ⟨o,w⟩)
  (fun c z=>⟨.inl z,by
   by_cases y:c=b
   ·rw [y];exact ⟨_,aag⟩
   ·rw [aad y];exact I.fo i c z⟩) ?_ (fun c ks e=>by
   by_cases z:c=b
   ·subst z;rw [aag] at e;cases e
   ·rw [aad z] at e;exact I.ft c ks e) (.inl ⟨rfl,_,rfl⟩)
 ·exact U _ G _ _ _ _ J (Same.refl _) .non q
 ·refine ⟨a,as,rfl,by rw [aad D];exact h,O,N,by simp [ln],fun m c es p g=>?_,f⟩
  by_cases hm:m=n
  ·subst hm
   rw [hb] at p;cases p
   rw [aD2,aF7 rfl,aF7 hn] at g
   cases g
   exact ⟨_,aag,M.append (.cons X .nil)⟩
  ·rw [aD2,aF8 (fun z=>hm z.symm)] at g
   obtain ⟨us,h3,h4⟩:=r m c es p g
   refine ⟨us,?_,h4⟩
   rw [aad]
   ·exact h3
   ·rintro rfl
    have i1:=(aA1.mp hb)
    have i2:=(aA1.mp p)
    obtain ⟨Y,Z⟩:=i1
    obtain ⟨l2,S⟩:=i2
    exact hm (nodup_ix O l2 Y (S.trans Z.symm))
end
@[reducible] def prD (p:Int × Int):PyData:=.tuple [.int p.1,.int p.2]
@[reducible] def webD (n:Int) (es:List (Int × Int)):PyData:=.tuple [.int n,.list (es.map prD)]
def Tied (es:List (Int × Int)) (u v:Int):Prop:=(u,v)∈es\/(v,u)∈es
theorem Tied.symm {es:List (Int × Int)} {u v:Int} (h:Tied es u v):Tied es v u:=h.elim .inr .inl
def InN (n:Int) (es:List (Int × Int)):Prop:=∀ p∈es,0<=p.1/\p.1 < n/\0<=p.2/\p.2 < n
theorem Tied.in {n:Int} {es:List (Int × Int)} {u v:Int} (hi:InN n es) (h:Tied es u v):(0<=u/\u < n)/\0<=v/\v < n:=by
 rcases h with h | h
 ·have:=hi _ h;exact ⟨⟨this.1,this.2.1⟩,this.2.2⟩
 ·have:=hi _ h;exact ⟨⟨this.2.2.1,this.2.2.2⟩,this.1,this.2.1⟩
theorem Tied.snoc {es:List (Int × Int)} {i:Nat} {a b:Int} (h:es[i]?=some (a,b)) (u v:Int):Tied (es.take (i+1)) u v ↔ (Tied (es.take i) u v\/(u=a/\v=b))\/(u=b/\v=a):=by
 have e:es.take (i+1)=es.take i ++ [(a,b)]:=by rw [aH6,h];rfl
 unfold Tied
 rw [e]
 simp only [aA7,aC2,Prod.mk.injEq]
 constructor
 ·rintro ((h | ⟨rfl,rfl⟩) | (h | ⟨rfl,rfl⟩))
  ·exact .inl (.inl (.inl h))
  ·exact .inl (.inr ⟨rfl,rfl⟩)
  ·exact .inl (.inl (.inr h))
  ·exact .inr ⟨rfl,rfl⟩
 ·rintro (((h | h) | ⟨rfl,rfl⟩) | ⟨rfl,rfl⟩)
  ·exact .inl (.inl h)
  ·exact .inr (.inl h)
  ·exact .inl (.inr ⟨rfl,rfl⟩)
  ·exact .inr (.inr ⟨rfl,rfl⟩)
def TiedL (n:Int) (T:Int->Int->Prop) (tl:List (List Int)):Prop:=(tl.length:Int)=n/\∀ (i:Nat) ws,tl[i]?=some ws->∀ w,w∈ws ↔ T i w
def oD:Option Nat->PyData
 | none => .none
 | some d => .int d
def lab (n:Nat) (far:Int->Option Nat):List PyData:=(List.range n).map fun (i:Nat)=>oD (far (i:Int))
theorem ac0 {n:Nat} {far:Int->Option Nat}:(lab n far).length=n:=by simp [lab]
theorem aem {n:Nat} {far:Int->Option Nat} {i:Nat} (h:i < n):(lab n far)[i]?=some (oD (far i)):=by
 unfold lab
 rw [aA5,aA0 (by simpa using h)]
 simp
theorem anb {n:Nat} {far:Int->Option Nat} {v:Int} (a:0<=v) (h:v < n):atI (lab n far) v=some (oD (far v)):=by
 have:=adr (xs:=lab n far) (j:=v.toNat) (aem (by lia))
 rwa [show ((v.toNat:Nat):Int)=v by lia] at this
theorem ais {n:Nat} {v:Int} (a:0<=v) (h:v < n):ixN n v=some v.toNat:=by
 unfold ixN;rw [aF7 a,aF7 h]
theorem apr {n:Nat} {far:Int->Option Nat} {v:Int} {d:Nat} (a:0<=v) (h:v < n):(lab n far).set v.toNat (.int d)=lab n (Gr.label far v d):=by
 apply aG4
 intro i
 rw [aD2]
 by_cases e:v.toNat=i
 ·rw [aF7 e,aF7 (by rw [ac0];lia),aem (by lia)]
  have:(i:Int)=v:=by lia
  rw [this,Gr.label_same];rfl
 ·rw [aF8 e]
  by_cases hi:i < n
  ·rw [aem hi,aem hi,Gr.label_ne (by lia)]
  ·rw [aF9.mpr (by rw [ac0];lia),aF9.mpr (by rw [ac0];lia)]
theorem atc {n:Nat} {f g:Int->Option Nat} (h:∀ v,0<=v->v < (n:Int)->f v=g v):lab n f=lab n g:=by
 unfold lab
 apply aF1
 intro i hi
 rw [h i (by lia) (by have:=aB9.mp hi;lia)]
theorem ays {o:Option Nat}:isNone (oD o)=o.isNone:=by cases o <;> rfl
theorem afr {α:Type} {f : α->PyData} {xs:List α} {i:Int} {x : α} (h:atI xs i=some x):atI (xs.map f) i=some (f x):=by
 unfold atI at h ⊢
 rw [aA3]
 cases e:ixN xs.length i with
 | none=>rw [e] at h;cases h
 | some j=>rw [e] at h;simp at h ⊢;exact ⟨_,h,rfl⟩
theorem adm {α:Type} {xs:List α} {i:Int} {x : α} (a:0<=i) (h:xs[i.toNat]?=some x):atI xs i=some x:=by
 have:=adr (xs:=xs) (j:=i.toNat) h
 rwa [show ((i.toNat:Nat):Int)=i by lia] at this
@[reducible] def tlD (tl:List (List Int)):List (List PyData):=tl.map fun ws=>ws.map .int
theorem TiedL.get {n:Int} {T:Int->Int->Prop} {tl:List (List Int)} (h:TiedL n T tl) {v:Int} (c:0<=v) (d:v < n):∃ b,tl[v.toNat]?=some b/\∀ w,w∈b ↔ T v w:=by
 have a:v.toNat < tl.length:=by have:=h.1;lia
 refine ⟨tl[v.toNat],aA0 a,fun w=>?_⟩
 rw [h.2 _ _ (aA0 a) w,show ((v.toNat:Nat):Int)=v by lia]
theorem adt {tl:List (List Int)} {i:Nat} {a:List Int} (h:tl[i]?=some a):(tlD tl)[i]?=some (a.map .int):=by
 rw [aA5,h];rfl
theorem TiedL.put {n:Int} {T:Int->Int->Prop} {tl:List (List Int)} (h:TiedL n T tl) {v q:Int} {c:List Int} (j:0<=v) (g:v < n) (d:tl[v.toNat]?=some c):TiedL n (fun a b=>T a b\/(a=v/\b=q)) (tl.set v.toNat (c ++ [q])):=by
 refine ⟨by rw [List.length_set];exact h.1,fun i us hi w=>?_⟩
 rw [aD2] at hi
 by_cases e:v.toNat=i
 ·rw [aF7 e] at hi
  have l:v.toNat < tl.length:=(aA1.mp d).1
  rw [aF7 (by lia)] at hi
  cases hi
  have f:(i:Int)=v:=by lia
  rw [aA7,aC2,h.2 i c (by rw [← e];exact d) w,f]
  simp
 ·rw [aF8 e] at hi
  rw [h.2 i us hi w]
  exact ⟨.inl,fun z=>z.elim id fun z=>by lia⟩
theorem ag7 {tl:List (List Int)} {i:Nat} {a:List Int}:(tlD tl).set i (a.map .int)=tlD (tl.set i a):=by
 unfold tlD;rw [List.map_set]
theorem TiedL.iff {n:Int} {T T':Int->Int->Prop} {tl:List (List Int)} (h:TiedL n T tl) (e:∀ u v,T u v ↔ T' u v):TiedL n T' tl:=⟨h.1,fun i a hi w=>(h.2 i a hi w).trans (e _ _)⟩
end VL
namespace VL
open PySem L2
def cnt (far:Int->Option Nat):Nat->Nat
 | 0=>0
 | n+1=>cnt far n+(if far (n:Int)=none then 1 else 0)
theorem af7 {far:Int->Option Nat} {w:Int} {d:Nat}:∀ {n:Nat},(w:Int) ≥ n->cnt (Gr.label far w d) n=cnt far n
 | 0,_=>rfl
 | n+1,h=>by
  unfold cnt
  rw [af7 (by lia),Gr.label_ne (by lia)]
theorem aea {far:Int->Option Nat} {w:Int} {d:Nat} (b:0<=w) (a:far w=none):∀ {n:Nat},w < (n:Int)->cnt (Gr.label far w d) n+1=cnt far n
 | 0,h=>by lia
 | n+1,h=>by
  unfold cnt
  by_cases e:w=n
  ·subst e
   rw [af7 (by lia),Gr.label_same,a];simp
  ·rw [Gr.label_ne (by lia)]
   have:=aea b a (n:=n) (d:=d) (by lia)
   lia
theorem ayt (n:Nat):(List.replicate n [PyData.none]).flatten=lab n (fun _=>none):=by
 apply aG4
 intro i
 by_cases hi:i < n
 ·rw [aem hi]
  have:(List.replicate n [PyData.none]).flatten=List.replicate n PyData.none:=by
   clear hi
   induction n with
   | zero=>rfl
   | succ n ih=>rw [aH5,List.flatten_cons,ih,aH5];rfl
  rw [this,aH9,aF7 hi];rfl
 ·rw [aF9.mpr (by rw [aox];simp;lia),aF9.mpr (by rw [ac0];lia)]
theorem aoj {α:Type} {f : α->PyData} {xs:List α}:(xs.map f).isEmpty=xs.isEmpty:=by cases xs <;> rfl
theorem ab1 {xs:List Int} {j:Nat} {u w:Int} (a:xs[j]?=some u) (hm:w∈xs.take (j+1)):w∈xs.take j\/w=u:=by
 rw [aH6,a] at hm
 rcases aA7.mp hm with q | q
 ·exact .inl q
 ·exact .inr (by simpa using q)
theorem atd {n:Nat} {far:Int->Option Nat}:plainDs (lab n far)=true:=by
 rw [ahg]
 intro d hd
 obtain ⟨i,_,rfl⟩:=aB7.mp hd
 cases far (i:Int) <;> rfl
theorem ayu {n:Nat} {far:Int->Option Nat}:((lab n far).any fun z=>PyData.eqv z .none)=true ↔ ∃ v:Int,0<=v/\v < n/\far v=none:=by
 rw [aF5]
 constructor
 ·rintro ⟨d,hd,e⟩
  obtain ⟨i,hi,rfl⟩:=aB7.mp hd
  refine ⟨i,by lia,by have:=aB9.mp hi;lia,?_⟩
  cases h:far (i:Int) with
  | none=>rfl
  | some d=>rw [h] at e;simp [oD,PyData.eqv] at e
 ·rintro ⟨v,b,a,h⟩
  refine ⟨oD (far v),?_,by rw [h];rfl⟩
  have:=aem (far:=far) (show v.toNat < n by lia)
  rw [show ((v.toNat:Nat):Int)=v by lia] at this
  exact aA2 this
def Joined (n:Int) (es:List (Int × Int)):Prop:=∀ v,0<=v->v < n->∃ d,Gr.Dist (Tied es) 0 v d
end VL
namespace DI
open PySem PySem.W
def Raw (h:Heap) (d:Addr) (es:Array DictEntry) (ep:Nat):Prop:=∃ o,h.get? d=some o/\o.ExactDict/\o.data=.dict es ep
theorem Raw.keep {h h':Heap} {d:Addr} {es:Array DictEntry} {ep:Nat} (r:Raw h d es ep) (k:∀ o,h.get? d=some o->h'.get? d=some o):Raw h' d es ep:=let ⟨o,e,x⟩:=r;⟨o,k o e,x⟩
theorem Raw.ty {s:Shared} {d:Addr} {es:Array DictEntry} {ep:Nat} (r:Raw s.heap d es ep):s.TypeIs (.ref d) "dict":=let ⟨o,e,x,_⟩:=r;⟨o,e,x.1⟩
section
variable {prog:Program} {w:World} {A:Around} {E:Value->Shared->Prop} {s:Shared} {d it:Addr} {es:Array DictEntry} {ep i:Nat}
theorem avt {Q:Value->Shared->Prop} (hd:(d == sysModules)=false) (r:Raw s.heap d es ep)
  (c:Q (.ref s.heap.objs.size) { s with heap:=s.heap.push { cls:=.type "dict_keyiterator",data:=.fields #[.ref d,.int 0 0,.int es.size 0,.int ep 0] } }):wpAny (model prog w) A (pyIter (.ref d)) Q E s:=by
 obtain ⟨o,b,f,a⟩:=id r
 refine wpAny_pyIter_slot r.ty PySem.F.slot_dict_iter (aK6 PySem.F.slot_dict_iter r.ty PySem.F.entry_dict_iter ?body (PySem.F.args_dict_iter_1 _))
 case body =>
  unfold Builtin.«dict.__iter__»
  refine aJ3 ?slot
  case slot =>
   unfold Builtin.Dict.dictSlotNone
   refine aJ3 (wpAny_notOrdered_dict r.ty ?pl)
   case pl =>
    show wpAny _ _ (pure (Value.ref d)) _ _ s
    refine aJ4 ?rest
    case rest =>
     show wpAny _ _ (Builtin.Dict.showsAll d >>= _) _ _ s
     unfold Builtin.Dict.showsAll
     rw [aF8 (by rw [hd];exact aB0)]
     refine aJ3 (aJ4 (aJ3 (wpAny_dictEntries b a (aJ3 (wpAny_dictEpoch b a (aJ3 (aK3 (aJ4 ⟨_,rfl,"dict_keyiterator",_,⟨_,aJ7 _ rfl,rfl⟩,PySem.F.slot_dict_keyiterator_next.lookup,?fin⟩))))))))
     case fin=>simpa [rawInt] using c
theorem avu {Q:Option Value->Shared->Prop} (a:s.heap.IsKeyIter it d i es.size ep) (r:Raw s.heap d es ep) (hi:i < es.size)
  (x:∀ h',h'.IsKeyIter it d (i+1) es.size ep->Heap.SameBut it s.heap h'->Q (some es[i].key) { s with heap:=h' }):wpAny (model prog w) A (pyNext (.ref it)) Q E s:=by
 obtain ⟨o,q,u,hd⟩:=id a
 obtain ⟨od,n,v,p⟩:=r
 unfold pyNext
 refine aJ3 (wpAny_attempt (wpAny_callSpecial?_slot (name:=Str.ofString "__next__") a.typeIs PySem.F.slot_dict_keyiterator_next (aK6 PySem.F.slot_dict_keyiterator_next a.typeIs PySem.F.entry_dict_keyiterator_next ?b (PySem.F.args_dict_keyiterator_next_1 _))))
 case b =>
  refine aJ3 (aJ4 (aJ3 (aJ3 ?c)))
  case c =>
   first | refine aJ3 (wpAny_typeNameOfWhole_keyiter a.typeIs (aJ4 (aJ3 (wpAny_fieldsOf q hd ?e)))) | refine aJ3 (wpAny_typeNameOf_keyiter a.typeIs (aJ4 (aJ3 (wpAny_fieldsOf q hd ?e))))
   case e =>
    simp only [show Builtin.Dict_items.ownsTuple "dict_keyiterator" = false by decide,Bool.false_eq_true,if_false]
    show wpAny _ _ (if (Value.ref d == Value.none)=true then _ else _) _ _ s;rw [aF8 (show ¬ ((Value.ref d == Value.none)=true) from aB0)]
    refine aJ3 (aJ4 (aJ3 (wpAny_dictEntries n p ?f)))
    case f =>
     rw [aF8 (by simp)];refine aJ3 (aJ4 (aJ3 (wpAny_dictEpoch n p ?g)))
     case g =>
      rw [aF8 (by simp)];refine aJ4 ?h
      case h =>
       simp only [show ¬ ((i:Int) < 0) by lia,if_false,Int.toNat_natCast,aA4 hi];refine aJ3 ?j
       case j =>
        first | refine aJ3 (wpAny_typeNameOfWhole_keyiter a.typeIs (aJ4 (aJ3 (wpAny_isOneOf_keyiter a.typeIs ?k)))) | refine aJ3 (wpAny_typeNameOf_keyiter a.typeIs (aJ4 (aJ3 (wpAny_isOneOf_keyiter a.typeIs ?k))))
        case k =>
         show wpAny _ _ (setField (.ref it) 1 (rawInt ((i:Int)+1)) >>= _) _ _ s;refine aJ3 (wpAny_setField q hd (by simp) ?l)
         case l =>
          have nx:(s.heap.update it (Obj.mapFields (·.setIfInBounds 1 (rawInt ((i:Int)+1))))).IsKeyIter it d (i+1) es.size ep:=⟨_,aK9 _ q (Obj.isFreed_of_fields (Obj.data_mapFields hd _)),(Obj.cls_mapFields ..).trans u,by rw [Obj.data_mapFields hd];simp [rawInt]⟩
          refine aJ3 (aJ9 (aJ3 (wpAny_isOneOf_keyiter (s:={ s with heap:=s.heap.update it (Obj.mapFields (·.setIfInBounds 1 (rawInt ((i:Int)+1)))) }) nx.typeIs ?m)))
          case m=>show wpAny _ _ (pure es[i].key) _ _ _;exact aJ4 (aJ4 ⟨_,rfl,aJ4 (x _ nx (Heap.SameBut.update ..))⟩)
theorem ayv {Q:Option Value->Shared->Prop} (hh:A.handled=none) (i:s.heap.IsKeyIter it d es.size es.size ep) (r:Raw s.heap d es ep) (x:∀ h',Heap.ExtBut it s.heap h'->Q none { s with heap:=h' }):wpAny (model prog w) A (pyNext (.ref it)) Q E s:=by
 obtain ⟨o,u,y,hd⟩:=id i
 obtain ⟨od,n,v,p⟩:=r
 unfold pyNext
 refine aJ3 (wpAny_attempt (wpAny_callSpecial?_slot (name:=Str.ofString "__next__") i.typeIs PySem.F.slot_dict_keyiterator_next (aK6 PySem.F.slot_dict_keyiterator_next i.typeIs PySem.F.entry_dict_keyiterator_next ?b (PySem.F.args_dict_keyiterator_next_1 _))))
 case b =>
  refine aJ3 (aJ4 (aJ3 (aJ3 ?c)))
  case c =>
   first | refine aJ3 (wpAny_typeNameOfWhole_keyiter i.typeIs (aJ4 (aJ3 (wpAny_fieldsOf u hd ?e)))) | refine aJ3 (wpAny_typeNameOf_keyiter i.typeIs (aJ4 (aJ3 (wpAny_fieldsOf u hd ?e))))
   case e =>
    simp only [show Builtin.Dict_items.ownsTuple "dict_keyiterator" = false by decide,Bool.false_eq_true,if_false]
    show wpAny _ _ (if (Value.ref d == Value.none)=true then _ else _) _ _ s;rw [aF8 (show ¬ ((Value.ref d == Value.none)=true) from aB0)]
    refine aJ3 (aJ4 (aJ3 (wpAny_dictEntries n p ?f)))
    case f =>
     rw [aF8 (by simp)];refine aJ3 (aJ4 (aJ3 (wpAny_dictEpoch n p ?g)))
     case g =>
      rw [aF8 (by simp)];refine aJ4 ?h
      case h =>
       simp only [show ¬ ((es.size:Int) < 0) by lia,if_false,Int.toNat_natCast,Array.getElem?_eq_none (aA6 es.size)];refine aJ3 ?j
       case j =>
        first | refine aJ3 (wpAny_typeNameOfWhole_keyiter i.typeIs (aJ4 ?k)) | refine aJ3 (wpAny_typeNameOf_keyiter i.typeIs (aJ4 ?k))
        case k =>
         show wpAny _ _ (setField (.ref it) 0 .none >>= _) _ _ s;refine aJ3 (wpAny_setField u hd (by simp) ?l)
         case l =>
          show wpAny _ _ (newExc (.type "StopIteration") [] >>= _) _ _ _;refine aJ3 ?m
          case m =>
           simp only [newExc,newTuple];refine aJ3 (aK3 ?zz2 (by size_fits))
           case zz2 =>
            refine aJ3 (m:=firstArgMember _ _) (wpAny_of_eq (a:=Value.none) (by first | rfl | (simp only [firstArgMember];rfl)) (aK3 ?zz1 (by size_fits)))
            case zz1 =>
             simp only [raiseNew];refine aJ3 (wpAny_handled ?q)
             case q =>
              rw [show A.in1.handled=none from hh];refine aJ3 (aJ4 (wpAny_throw ?u1))
              case u1=>refine aJ3 (wpAny_isInstance (T:="StopIteration") (b:=true) ⟨_,aJ7 _ rfl,rfl⟩ isSubtype_stop ?u2);exact aJ4 (x _ (((Heap.SameBut.update ..).extBut.push _).push _))
end
theorem walks {prog:Program} {w:World} {A:Around} (hh:A.handled=none) (I d:Addr) (c:d ≠ I) (es:Array DictEntry) (ep:Nat) :
  Walks prog w A I [I,d] [I] es.size (fun i v=>(es[i]?).map (·.key)=some v) (fun i h=>h.IsKeyIter I d i es.size ep/\Raw h d es ep) where
 sub:=fun b hb=>by simp at hb;simp [hb]
 frame:=fun _ _ _ st f=>⟨st.1.at fun o e=>f I (by simp) o e,st.2.keep fun o e=>f d (by simp) o e⟩
 item:=fun i s Q E hi st a=>avu st.1 st.2 hi fun h' nx sb=>a _ h' s.toks (by rw [aA4 hi];rfl) ⟨nx,st.2.keep fun o e=>sb.extBut d o c e⟩ fun b o hb e=>sb.extBut b o (fun z=>hb (by simp [z])) e
 done:=fun s Q E st a=>ayv hh st.1 st.2 fun h' g=>a h' s.toks fun b o hb e=>g b o (fun z=>hb (by simp [z])) e
 self:=fun _ _ _ _ st a=>wpAny_pyIter_keyiter st.1 a
end DI
namespace DI
open PySem PySem.W PyProof.Rows
section
variable {prog:Program} {w:World} {A:Around} {E:Value->Shared->Prop} {s:Shared}
theorem src (d:Addr) (es:Array DictEntry) (ep:Nat) (hd:(d == sysModules)=false):KdlSrc prog w "dict" d d es.size (fun i v=>(es[i]?).map (·.key)=some v) (fun h=>Raw h d es ep) where
 type:=fun s r=>r.ty
 there:=fun h r=>let ⟨o,e,_⟩:=r;⟨aJ6 e,aJ6 e⟩
 keep:=fun h h' r k=>r.keep fun o e=>k d (.inl rfl) o e
 notList:=by decide
 notTuple:=by decide
 hint:=fun A E s Q r q=>kdl_hint_dict r.ty q
 iter:=fun A s hh r=>⟨{ cls:=.type "dict_keyiterator",data:=.fields #[.ref d,.int 0 0,.int es.size 0,.int ep 0] },fun i h=>h.IsKeyIter s.heap.objs.size d i es.size ep/\Raw h d es ep,fun E Q q=>avt hd r q,
  walks hh s.heap.objs.size d (by obtain ⟨o,e,_⟩:=r;exact aB6 (aJ6 e)) es ep,⟨_,aJ7 _ rfl,rfl,rfl⟩,r.keep fun o e=>aJ5 _ e⟩
theorem collect_src {T:String} {r d:Addr} {n:Nat} {P:Nat->Value->Prop} {j:Heap->Prop} {Q:List Value->Shared->Prop} (K:KdlSrc prog w T r d n P j) (hh:A.handled=none) (hok:j s.heap) (hn:n<=sizeLine)
  (p:∀ h' i (f:Array Value),(∀ b o,s.heap.get? b=some o->h'.get? b=some o)->s.heap.objs.size<=h'.objs.size->ItemsOf P f n->Q f.toList { s with heap:=h',toks:=i }):wpAny (model prog w) A (collect (.ref r)) Q E s:=by
 unfold collect
 refine aJ3 (wpAny_runValue (aL0 PySem.F.entry_proto_collect ?a1))
 case a1 =>
  rw [aK4 PySem.F.plain_proto_collect _];show wpAny _ A.in1 (newList [] >>= fun l=>again (.builtin "list.__iadd__" ⟨[l,.ref r],[]⟩)) _ _ s
  refine aJ3 (aK3 (aJ4 ⟨plainId_quiet PySem.F.plain_list_iadd _,aL0 PySem.F.entry_list_iadd ?a2⟩))
  case a2 =>
   rw [aK4 PySem.F.plain_list_iadd _];show wpAny _ A.in1 (Builtin.List.listExtendWith (.ref s.heap.objs.size) (.ref r) (.ref s.heap.objs.size)) _ _ _
   have q:(s.heap.push { cls:=.type "list",data:=.seq ([]:List Value).toArray }).get? s.heap.objs.size=some { cls:=.type "list",data:=.seq #[] 0 }:=aJ7 _ rfl
   obtain ⟨t1,m⟩:=K.there _ hok
   refine kdl_extend (R:=wants (fun v s'=>wpAny (model prog w) A (match v with | .ref a=>(do match (← load a).data with | .seq xs _=>pure xs.toList | _=>unsupported "internal:collect") | _=>unsupported "internal:collect") Q E s') E) (s:={ s with heap:=s.heap.push { cls:=.type "list",data:=.seq ([]:List Value).toArray } }) K hh (K.keep _ _ hok fun b _ o e=>aJ5 _ e) s.heap.objs.size (Nat.ne_of_gt t1) (Nat.ne_of_gt m) _ 0 q (fun h' i f c k h g=>?a3) hn
   case a3 =>
    show wpAny (model prog w) A _ Q E _
    refine aJ3 (wpAny_load h ?a4)
    case a4=>exact aJ4 (p h' i f (fun b o e=>k b o (aB6 (aJ6 e)) (aJ5 _ e)) (aG7 (aJ6 h)) g)
end
end DI
namespace TS
open PySem PySem.W PyProof.Rows
section
variable {prog:Program} {w:World} {A:Around} {E:Value->Shared->Prop} {s:Shared}
theorem sorted_gen {l:Addr} {Ok:List Value->Prop} {Q:Value->Shared->Prop}
  (j:∀ (D:List Value->Shared->Prop),(∀ vs h d,(∀ b o,s.heap.get? b=some o->h.get? b=some o)->s.heap.objs.size<=h.objs.size->Ok vs->D vs { s with heap:=h,toks:=d })->wpAny (model prog w) A.in1 (collect (.ref l)) D E s)
  (c:∀ vs,Ok vs->vs.length<=sizeLine)
  (p:∀ vs,Ok vs->2<=vs.length->∀ h' d,(∀ b o,s.heap.get? b=some o->h'.get? b=some o)->∃ κ S R,(∀ (Q:SortKind->Shared->Prop),Q κ { s with heap:=h',toks:=d }->wpAny (model prog w) A.in1.in1 (keyKind' vs.toArray) Q E { s with heap:=h',toks:=d }) /\
   Cmp (model prog w) A.in1.in1 E { s with heap:=h',toks:=d } κ S R/\(∀ v∈vs,S (v,v))/\∀ out:List Value,out.Perm vs->out.Pairwise (fun x y=>R (y,y) (x,x)=false) ->
    ∀ a h' d e,(∀ b o,s.heap.get? b=some o->h'.get? b=some o)->s.heap.objs.size<=a->h'.get? a=some (seqObj "list" out.toArray e)->Q (.ref a) { s with heap:=h',toks:=d })
  (h:∀ vs,Ok vs->vs.length < 2->∀ a h' d e,(∀ b o,s.heap.get? b=some o->h'.get? b=some o)->s.heap.objs.size<=a->h'.get? a=some (seqObj "list" vs.toArray e)->Q (.ref a) { s with heap:=h',toks:=d }) :
  wpAny (model prog w) A (call (.builtin "sorted") [.ref l]) Q E s:=by
 refine Calls.call_function_entry kind_sorted plain_sorted entry_sorted (args_sorted1 _) ?_
 unfold Builtin.«sorted»
 refine aJ3 (m:=checkCount "sorted" 1 1 _) (aJ4 (aJ3 (j _ fun vs g d kp hsz r=>?_)))
 have c:=c vs r
 refine aJ3 (wpAny_newList ?_ c)
 have f:(g.push (seqObj "list" vs.toArray 0)).get? g.objs.size=some (seqObj "list" vs.toArray 0):=aJ7 _ rfl
 have keep:∀ b o,s.heap.get? b=some o->(g.push (seqObj "list" vs.toArray 0)).get? b=some o:=fun b o q=>aJ5 _ (kp b o q)
 refine aJ3 (aJ9 (aK6 slot_list_sort ⟨_,f,rfl⟩ entry_list_sort ?body (args_list_sort _)))
 case body =>
  have fin:∀ out:List Value,∃ e,(sortedHeap (g.push (seqObj "list" vs.toArray 0)) g.objs.size vs out.toArray).get? g.objs.size=some (seqObj "list" out.toArray e):=fun out=>sortedHeap_at (n:=0) f
  have old:∀ (out:List Value) b o,s.heap.get? b=some o->(sortedHeap (g.push (seqObj "list" vs.toArray 0)) g.objs.size vs out.toArray).get? b=some o:=fun out b o e=>by
   have lt:=aJ6 (kp b o e)
   rw [sortedHeap_old (aB6 lt) (by rw [size_push'];exact aG0 lt)];exact keep b o e
  refine list_sort_any (s:={ s with heap:=g.push (seqObj "list" vs.toArray 0),toks:=d }) f c (fun B h' F=>?_) fun u=>?_
  ·obtain ⟨κ,S,R,J,C,I,i⟩:=p vs r B h' d fun b o e=>F b o (aB6 (aJ6 (kp b o e))) (keep b o e)
   refine ⟨κ,S,R,J,C,I,fun out G H=>⟨_,rfl,aJ4 ⟨_,rfl,?_⟩⟩⟩
   obtain ⟨e,z⟩:=fin out
   exact i out G H _ _ _ e (old out) hsz z
  ·obtain ⟨e,z⟩:=fin vs
   exact ⟨_,rfl,aJ4 ⟨_,rfl,h vs r u _ _ _ e (old vs) hsz z⟩⟩
end
end TS
namespace L2
open PySem PySem.Spec PyProof.Rows
section
variable {X:Cx} {pins:List (Addr × Obj)} {σ:St} {H:Hp} {s:Shared} {h':Heap}
theorem Inv.turnNew {t':Nat} {ch:List Addr} {T:Addr} {o:HO} (I:Inv X pins σ H s) (f:∀ b∈ch,FpOk X pins H b) (k:∀ b u,b ∉ ch->s.heap.get? b=some u->h'.get? b=some u) (g:s.heap.objs.size<=T) (new:ObjOk X.prog X.w (upd H T o) h' T o) :
  Inv X pins σ (upd H T o) { s with heap:=h',toks:=t' }:=by
 have hn:H T=none:=I.hok.fresh g
 have d:∀ b u,H b=some u->b ∉ ch:=fun b u e z=>by rw [(f b z).1] at e;cases e
 refine I.step (g':=s.gens) (d':=s.drawn) (ch:=ch) (fun b hb=>⟨(f b hb).2.2.2.1,(f b hb).2.1,(f b hb).2.2.2.2.1,(f b hb).2.2.2.2.2⟩) (fun b u _ _ a e _=>k b u a e) (fun b u _ _ a e _=>⟨u.slots,k b u a e⟩)
  (fun b u _ e n=>by rw [aad (aB6 (aC5 (aJ6 e) g))];exact n) (fun b u a e=>⟨u,k b u a e⟩) (fun b xs e=>by rw [aad (aai e hn)];exact e) (fun b u v e=>by rw [aad (aai e hn)];exact e)
  (fun b ps e=>⟨#[],by rw [aad (aai e hn),e];simp⟩) (fun m hm=>?_) (fun b u e=>?_) I.bare
 ·obtain ⟨u,es,ep,h,r⟩:=hm
  exact ⟨u,es,ep,k _ u (fun z=>(f _ z).2.1 rfl) h,r⟩
 ·by_cases hb:b=T
  ·subst hb;rw [aag] at e;cases e;exact new
  ·rw [aad hb] at e
   refine (I.hok b u e).stay (fun c v a q=>k c v ?_ q) (fun c q=>by rw [aad (aai q hn)];exact q) fun c xs q=>by rw [aad (aai q hn)];exact q
   rcases a with z | z
   ·rw [z];exact d b u e
   ·exact d c _ z
theorem Inv.turnedL {t':Nat} {ch:List Addr} (I:Inv X pins σ H s) (f:∀ b∈ch,FpOk X pins H b) (k:∀ b u,b ∉ ch->s.heap.get? b=some u->h'.get? b=some u):Inv X pins σ H { s with heap:=h',toks:=t' }:=by
 have d:∀ b u,H b=some u->b ∉ ch:=fun b u e z=>by rw [(f b z).1] at e;cases e
 refine I.step (g':=s.gens) (d':=s.drawn) (ch:=ch) (fun b hb=>⟨(f b hb).2.2.2.1,(f b hb).2.1,(f b hb).2.2.2.2.1,(f b hb).2.2.2.2.2⟩) (fun b u _ _ a e _=>k b u a e) (fun b u _ _ a e _=>⟨u.slots,k b u a e⟩) (fun _ _ _ _ n=>n)
  (fun b u a e=>⟨u,k b u a e⟩) (fun _ _ e=>e) (fun _ _ _ e=>e) (fun b ps e=>⟨#[],by rw [e];simp⟩) (fun m hm=>?_) (fun b u e=>?_) I.bare
 ·obtain ⟨u,es,ep,g,r⟩:=hm
  exact ⟨u,es,ep,k _ u (fun z=>(f _ z).2.1 rfl) g,r⟩
 ·refine (I.hok b u e).stay (fun c v a q=>k c v ?_ q) (fun _ q=>q) fun _ _ q=>q
  rcases a with z | z
  ·rw [z];exact d b u e
  ·exact d c _ z
end
def Ite (K:Frag) (a:Addr):It :=
 ⟨fun i H=>∃ xs x,SqL K H a xs/\xs[i]?=some x,fun i H x H'=>∃ p y,x=.ref p/\H p=none/\H'=upd H p (.tup [.int i,y])/\∀ xs,SqL K H a xs->xs[i]?=some y,fun i H=>∃ xs,SqL K H a xs/\xs.length<=i⟩
theorem ate {P:Program} {w:World} {K:Frag} {f:List Expr} {k:Nat} {pos:Pos} (a e it:Addr) (G:e ≠ it) (R:a ≠ e) (C:a ≠ it) :
  Turn P w K (.Tuple f k pos) (Ite K a) [e,it] e (fun i h=>(∃ old,IsEnum h e it i old)/\h.IsListIter it a i) where
 mem:=by simp
 obj:=fun i h st b hb=>by
  obtain ⟨⟨old,g⟩,o,M,c,d⟩:=st
  rcases aA9.mp hb with rfl | hb
  ·exact ⟨_,g,fun v z=>by simp at z⟩
  ·have:b=it:=by simpa using hb
   subst this
   exact ⟨o,M,fun v z=>by rw [d] at z;cases z⟩
 keep:=fun i h h' st q=>⟨let ⟨old,g⟩:=st.1;⟨old,q e (by simp) _ g⟩,st.2.at fun o x=>q it (by simp) o x⟩
 item:=by
  intro X j F O D i pins s σ H E I hf st L
  subst j F O
  obtain ⟨xs,x,r,S⟩:=L
  obtain ⟨its,U,p,hz⟩:=I.list r
  obtain ⟨u,hu,ru⟩:=U.get S
  have hi:i < its.toArray.size:=by simpa using (aA1.mp hu).1
  have W:=WalksT.enumerate (prog:=X.prog) (w:=X.w) (I.ok.hd D) e it a G R C its.toArray
  refine W.item i s _ _ hi ⟨st.1,st.2,p.isList⟩ fun T Z h1 tk j hT B mid kk=>⟨_,rfl,?_⟩
  obtain ⟨t,y,J,rfl⟩:=j
  have ey:y=u:=by
   have:its[i]?=some y:=by simpa using J
   rw [hu] at this;cases this;rfl
  subst ey
  have aT:=W.apart i T _ mid
  refine W.go f k pos i T { s with heap:=h1,toks:=tk } _ _ mid fun h2 m Y=>?_
  have l:IsTup h2 T #[.int i t,y]:=by
   obtain ⟨o,M,e2,n,e3⟩:=B
   exact ⟨o,Y T o aT M,e2,n,e3⟩
  refine ⟨.ref T,upd H T (.tup [.int i,x]),I.turnNew hf (fun b o hb q=>Y b o hb (kk b o hb q)) hT ?_,rfl,⟨T,x,rfl,I.hok.fresh hT,rfl,fun ys J=>by rw [I.list_inj J r];exact S⟩,⟨?_,m.2.1⟩,fun b hb=>?_⟩
  ·exact ⟨by show (2:Nat)<=sizeLine;decide,[.int i t,y],.cons ⟨t,rfl⟩ (.cons ru .nil),l⟩
  ·obtain ⟨old,q⟩:=m.1
   exact ⟨old,by simpa using q⟩
  ·rw [aad]
   ·exact (hf b hb).1
   ·rintro rfl;exact aT hb
 done:=by
  intro X j F O D i pins s σ H E I hf st L
  subst j F O
  obtain ⟨xs,r,S⟩:=L
  obtain ⟨its,U,p,hz⟩:=I.list r
  obtain ⟨⟨old,g⟩,N⟩:=st
  have hl:=U.length
  exact wpAny_pyNext_enum_end (I.ok.hd D) g N p.isList (by simp;lia) fun h2 eb=>⟨rfl,I.turnedL (t':=s.toks) hf fun b o hb q=>eb b o (fun z=>hb (by simp [z])) q⟩
 self:=fun A i s Q E st h=>by
  obtain ⟨⟨old,g⟩,_⟩:=st
  exact wpAny_pyIter_enum g h
section
variable {X:Cx} {elts:List Expr} {k:Nat} {tpos:Pos}
def awz (K:Frag) (ta:TA):TI:=fun σ H R=>ta σ H fun vs H1=>∃ a xs,vs=[.ref a]/\SqL K H1 a xs/\R (Ite K a) H1
theorem ayw {a:Expr} {j:TA} {p pos:Pos} (x:Gl X "enumerate") (hm:X.mg "enumerate" = none) (ha:PA X [a] j) (hs:starEach [a] X.env=[(false,eval a X.env)]:=by rfl):PI X (.Tuple elts k tpos) (.Call (.Name "enumerate" p) [a] [] pos) (awz X.K j):=by
 intro pins s σ H R I h
 refine Call_ (ad3 I x hm amg (PyProof.Rows.callWith_type1 (thn (ha pos pins s σ H _ I h) fun us s1 ⟨vs,r,f,w,a,xs,v,m,q⟩=>?_) hs rfl))
 subst v
 obtain ⟨u,rfl,l⟩:=abx w
 cases l
 obtain ⟨its,z,pl,hz⟩:=f.list m
 refine call_enumerate_list pl.isList fun y i g hsz kp=>?_
 have c:a < s1.heap.objs.size:=by obtain ⟨o,n,e,_⟩:=pl;exact aJ6 e
 refine wpAny_pyIter_enum i ⟨s1.heap.objs.size+1,[s1.heap.objs.size+1,s1.heap.objs.size],_,_,r,rfl,f.kept (t':=s1.toks) kp,ate a _ _ (Nat.succ_ne_self _) (aB6 (aG0 c)) (aB6 c),⟨⟨_,i⟩,g⟩,fun b hb=>?_,q⟩
 have d:s1.heap.objs.size<=b:=by
  rcases aA9.mp hb with rfl | hb
  ·exact Nat.le_succ _
  ·have:b=s1.heap.objs.size:=by simpa using hb
   exact Nat.le_of_eq this.symm
 exact f.fpOk d (f.hok.fresh d)
end
section
variable {X:Cx} {elts:List Expr} {k:Nat} {tpos:Pos}
end
theorem ajq:∀ {xs:List V} {us:List Value},xs.length=us.length->(∀ (i:Nat) v u,xs[i]?=some v->us[i]?=some u->RelV v u)->Vals xs us
 | [],[],_,_ => .nil
 | [],_ :: _,h,_=>by simp at h
 | _ :: _,[],h,_=>by simp at h
 | x :: xs,u :: us,h,k => .cons (k 0 x u rfl rfl) (ajq (by simpa using h) fun i v w b a=>k (i+1) v w (by simpa using b) (by simpa using a))
theorem ahi (prog:Program) (w:World) (A:Around) {bs:List Bool} {us:List Value} (r:Vals (bs.map V.bl) us):TruthOf prog w A (fun i v=>us.toArray[i]?=some v) (fun i=>bs.getD i false):=by
 intro i v s Q E c h
 have a:us[i]?=some v:=by simpa using c
 have hi:i < us.length:=(aA1.mp a).1
 have hb:i < bs.length:=by have:=r.length;simp at this;lia
 obtain ⟨u,b,d⟩:=r.get (i:=i) (x:=.bl bs[i]) (by simp [hb])
 rw [a] at b;cases b
 cases (show v=Value.bool bs[i] from d)
 have e:bs.getD i false=bs[i]:=by simp [List.getD,hb]
 have h':Q (bs.getD i false) s:=h
 rw [e] at h'
 exact aK7 h'
section
variable {X:Cx}
theorem atf (bs:List Bool):((List.range bs.length).all fun i=>bs.getD i false)=bs.all id:=by
 rw [aI0,aF6,aF6]
 constructor
 ·intro h b hb
  obtain ⟨i,hi,e⟩:=aH8.mp hb
  have:=h i (aB9.mpr hi)
  simp [List.getD,hi,e] at this
  exact this
 ·intro h i hi
  have a:=aB9.mp hi
  have:=h bs[i] (aF4 a)
  simp [List.getD,a];exact this
theorem atg (bs:List Bool):((List.range bs.length).any fun i=>bs.getD i false)=bs.any id:=by
 rw [aI0,aF5,aF5]
 constructor
 ·rintro ⟨i,hi,h⟩
  have a:=aB9.mp hi
  refine ⟨bs[i],aF4 a,?_⟩
  simp [List.getD,a] at h;exact h
 ·rintro ⟨b,hb,h⟩
  obtain ⟨i,hi,e⟩:=aH8.mp hb
  refine ⟨i,aB9.mpr hi,?_⟩
  simp [List.getD,hi,e];exact h
def rAll (K:Frag):List V->Hp->VK->Prop:=fun xs H Q=>∃ (a:Addr) (bs:List Bool),xs=[.ref a]/\SqL K H a (bs.map V.bl)/\Q (.bl (bs.all id)) H
def rAny (K:Frag):List V->Hp->VK->Prop:=fun xs H Q=>∃ (a:Addr) (bs:List Bool),xs=[.ref a]/\SqL K H a (bs.map V.bl)/\Q (.bl (bs.any id)) H
theorem agl (f:X.calm=true):aa3 X (.builtin "all") (rAll X.K):=by
 intro pins s σ H xs us Q I r h
 obtain ⟨a,bs,rfl,ha,q⟩:=h
 obtain ⟨u,rfl,g⟩:=abx r
 cases g
 obtain ⟨its,d,c,_⟩:=I.list ha
 have i:a < s.heap.objs.size:=by obtain ⟨o,n,e,_⟩:=c;exact aJ6 e
 have hz:its.toArray.size=bs.length:=by have:=d.length;simp at this;simp [this]
 refine call_all_walk (aK8 c.isList ⟨_,[s.heap.objs.size,a],_,_,_,_,_,rfl,Walks.list (A:=X.A.in1) (I.ok.hd f) _ a (aB6 i) its.toArray,⟨⟨_,aJ7 _ rfl,rfl,rfl⟩,c.isList.push _⟩,ahi _ _ _ d,fun j l kp=>?_⟩)
 rw [hz,atf]
 refine ⟨.bl _,H,I.kept fun b o e=>kp b o (fun z=>?_) (aJ5 _ e),rfl,q⟩
 exact absurd (aJ6 e) (by rw [aC2.mp z];exact aG6 _)
theorem ath (f:X.calm=true):aa3 X (.builtin "any") (rAny X.K):=by
 intro pins s σ H xs us Q I r h
 obtain ⟨a,bs,rfl,ha,q⟩:=h
 obtain ⟨u,rfl,g⟩:=abx r
 cases g
 obtain ⟨its,d,c,_⟩:=I.list ha
 have i:a < s.heap.objs.size:=by obtain ⟨o,n,e,_⟩:=c;exact aJ6 e
 have hz:its.toArray.size=bs.length:=by have:=d.length;simp at this;simp [this]
 refine call_any_walk (aK8 c.isList ⟨_,[s.heap.objs.size,a],_,_,_,_,_,rfl,Walks.list (A:=X.A.in1) (I.ok.hd f) _ a (aB6 i) its.toArray,⟨⟨_,aJ7 _ rfl,rfl,rfl⟩,c.isList.push _⟩,ahi _ _ _ d,fun j l kp=>?_⟩)
 rw [hz,atg]
 refine ⟨.bl _,H,I.kept fun b o e=>kp b o (fun z=>?_) (aJ5 _ e),rfl,q⟩
 exact absurd (aJ6 e) (by rw [aC2.mp z];exact aG6 _)
def ait (ta:TA):TE:=fun σ H Q=>ta σ H fun vs H1=>∃ j:Int,vs=[.int j]/\0<=j/\j<=1000000/\∀ l,H1 l=none->Q (.ref l) (upd H1 l (.lst ((List.range j.toNat).map fun (i:Nat)=>V.int (i:Int))))
theorem anc {a:Expr} {y:TA} {F p2 pos d:Pos} (N:Gl X "list") (hm:X.mg "list" = none) (p:Gl X "range") (x:X.mg "range" = none) (A:X.calm=true) (ha:PA X [a] y) (hs:starEach [a] X.env=[(false,eval a X.env)]:=by rfl)
  (g:starEach [.Call (.Name "range" p2) [a] [] d] X.env=[(false,eval (.Call (.Name "range" p2) [a] [] d) X.env)]:=by rfl):PE X (.Call (.Name "list" F) [.Call (.Name "range" p2) [a] [] d] [] pos) (ait y):=by
 intro pins s σ H Q I h
 refine Call_ (ad3 I N hm ao6 (PyProof.Rows.callWith_type1 ?_ g rfl))
 rw [g]
 refine Calls.spliced_cons (Call_ (ad3 I p x boot_range (PyProof.Rows.callWith_type1 (thn (ha d pins s σ H _ I h) fun us s1 ⟨vs,R,w,M,j,G,P,O,q⟩=>?_) hs rfl)))
 subst G
 obtain ⟨u,rfl,t,rfl⟩:=abx M
 refine call_range_1 (Calls.spliced_nil ?_)
 have B:IsRange (s1.heap.push { cls:=.type "range",data:=.fields #[.int 0 s1.toks,.int j t,.int 1 (s1.toks+1)] }) s1.heap.objs.size 0 j 1 s1.toks t (s1.toks+1):=aJ7 _ rfl
 have hn:Builtin.Range.rangeSize 0 j 1=((j.toNat:Nat):Int):=by rw [rangeSize_one];split <;> lia
 refine call_list_range (s:={ s1 with heap:=s1.heap.push { cls:=.type "range",data:=.fields #[.int 0 s1.toks,.int j t,.int 1 (s1.toks+1)] },toks:=s1.toks+1+1 }) (w.ok.hd A) B (small_one (by lia) (by lia) (by lia) (by lia)) hn (by lia) fun E J l c kp L items=>?_
 have z:∀ b o,s1.heap.get? b=some o->E.get? b=some o:=fun b o e=>kp b o (aJ5 _ e)
 have f:s1.heap.objs.size<=(s1.heap.push { cls:=.type "range",data:=.fields #[.int 0 s1.toks,.int j t,.int 1 (s1.toks+1)] }).objs.size:=by rw [aK5];exact Nat.le_succ _
 refine ⟨.ref _,_,w.laid (t':=J) (o:=.lst ((List.range j.toNat).map fun (i:Nat)=>V.int (i:Int))) z f ?_,rfl,q _ (w.hok.fresh f)⟩
 refine ⟨by rw [aA3,aE1];exact aG7 (VL.big (by lia)),l.toList,c,?_,by simpa using L⟩
 obtain ⟨C,r⟩:=items
 refine ajq (by simp [C]) fun i v u n K=>?_
 have m:l[i]?=some u:=by simpa using K
 obtain ⟨t',D⟩:=r i u m
 rw [aA5] at n
 have hi:i < j.toNat:=by
  have:=(Array.getElem?_eq_some_iff.mp m).1
  lia
 rw [aA0 (by simpa using hi)] at n
 simp at n
 subst n
 exact ⟨t',by rw [D];simp⟩
end
section
variable {X:Cx} {pins:List (Addr × Obj)} {σ:St} {H:Hp} {s:Shared}
end
section
variable {X:Cx} {tg:Expr}
def ag8:List V->Hp->VK->Prop:=fun xs H Q=>∃ (a:Addr) (kvs:List (List Key × V)) (kss:List (List Int)),xs=[.ref a]/\H a=some (.dT kvs)/\kvs.map (·.1)=kss.map (fun ns=>ns.map Sum.inl)/\(∀ ns∈kss,ns ≠ []) /\
 ∀ (vs:List V) (p:Addr),(∀ v∈vs,TupI H v)->(vs.map (kH H)).Perm kss->vs.Pairwise (fun x y=>HT.lexLt (kH H y) (kH H x)=false)->H p=none->Q (.ref p) (upd H p (.lst vs))
theorem aps {H:Hp}:∀ {kvs:List (List Key × V)} {xs:List (List Key × Addr × Value)} {a:List (List Int)},KT H kvs xs->kvs.map (·.1)=a.map (fun ns=>ns.map Sum.inl)->(∀ ns∈a,ns ≠ []) ->
  (∀ v∈xs.map (fun q=>V.ref q.2.1),TupI H v)/\(xs.map (fun q=>V.ref q.2.1)).map (kH H)=a
 | _,_,[],.nil,_,_=>⟨fun v b=>by simp at b,rfl⟩
 | _,_,_ :: _,.nil,h,_=>by simp at h
 | _,_,[],.cons _ _,h,_=>by simp at h
 | p :: kvs,q :: xs,ns :: a,.cons r t,h,hn=>by
  simp only [aD1,List.cons.injEq] at h
  obtain ⟨i1,c⟩:=aps t h.2 fun d hm=>hn d (aB5 _ hm)
  have e:H q.2.1=some (.tup (ns.map V.int)):=by
   rw [r.2.1,h.1,aE0];rfl
  refine ⟨fun v b=>?_,?_⟩
  ·rcases aA9.mp b with rfl | b
   ·exact ⟨_,ns,rfl,e,hn ns aB8⟩
   ·exact i1 v b
  ·rw [aD1,aD1,ag3 e,c]
theorem afd (U:X.calm=true):aa3 X (.builtin "sorted") ag8:=by
 intro pins s σ H xs us Q I r h
 obtain ⟨a,kvs,O,rfl,hH,hk,G,q⟩:=h
 obtain ⟨u,rfl,ru⟩:=abx r
 cases ru
 obtain ⟨z,y,ys,n,o,es,ep,h1,m,h3,K,h5⟩:=(show ObjOk X.prog X.w H s.heap a (.dT kvs) from I.hok a _ hH)
 obtain ⟨t1,t2⟩:=aps n hk G
 have hz:es.size=ys.length:=by
  have e1:es.toList.length=ys.length:=by rw [K];simp
  simpa using e1
 have f:ys.length<=sizeLine:=by have:=Paired.length n;lia
 let c:List Value:=ys.map fun q => .ref q.2.1
 have J:Vals (ys.map fun q=>V.ref q.2.1) c:=ajq (by simp [c]) fun i v u d A=>by
  rw [aA5] at d A
  cases e:ys[i]? with
  | none=>rw [e] at d;cases d
  | some q=>rw [e] at d A;cases d;cases A;rfl
 obtain ⟨b1,M⟩:=agi J t1
 have fin:∀ out:List Value,out.Perm c->(out.map aby).Pairwise (fun x y=>HT.lexLt (kH H y) (kH H x)=false)->∀ p m g e,(∀ b o,s.heap.get? b=some o->m.get? b=some o)->s.heap.objs.size<=p->m.get? p=some (seqObj "list" out.toArray e)->EP X pins σ Q (.ref p) { s with heap:=m,toks:=g }:=by
  intro out j hs p m g e kp hsz P
  have d:Vals (out.map aby) out:=ae6 fun u A=>b1 u (j.mem_iff.mp A)
  refine ⟨.ref p,_,I.laid (t':=g) (o:=.lst (out.map aby)) kp hsz ?_,rfl,q _ _ (fun v C=>?_) ?_ hs (I.hok.fresh hsz)⟩
  ·refine ⟨by rw [aA3,j.length_eq];simp [c];exact f,out,e,d,by rw [P]⟩
  ·have:=(j.map aby).mem_iff.mp C
   rw [M] at this;exact t1 v this
  ·have:=(j.map aby).map (kH H)
   rw [M,t2] at this;exact this
 refine TS.sorted_gen (Ok:=fun vs=>vs=c) (fun Qc D=>DI.collect_src (DI.src a es ep y) (I.ok.hd U) ⟨o,h1,m,h3⟩ (by lia) fun h' g l kp hsz items=>D _ h' g kp hsz ?_) (fun vs e=>by subst e;simp [c];exact f) (fun vs e S h' g kp=>?_) fun vs e E=>?_
 ·obtain ⟨i1,i2⟩:=items
  apply aG4
  intro i
  simp only [c,aA5]
  by_cases hi:i < ys.length
  ·have ha:l[i]?=some l[i]:=aA4 (by lia)
   have:(es[i]?).map (·.key)=some l[i]:=i2 i _ ha
   have L:es[i]?=some es[i]:=aA4 (by lia)
   rw [L] at this
   have F:es.toList[i]?=some es[i]:=by rw [aD6];exact L
   rw [K,aA5,aA0 hi] at F
   rw [aA0 hi]
   simp at this F
   rw [aD6,ha,← this,← F];rfl
  ·rw [aF9.mpr (by simp;lia),aF9.mpr (by lia)];rfl
 ·subst e
  obtain ⟨⟨fs,k1,k2,Y⟩,Z⟩:=afy I kp J t1
  have B:(Value.type "int" != Value.type "tuple")=true:=by rfl
  refine ⟨tuples' true,TS.tS h' (fun a=>kH H (.ref a)),TS.tR (fun a=>kH H (.ref a)),fun Q' D=>?_,TS.cmp_tups (s:={ s with heap:=h',toks:=g }) (fun a=>kH H (.ref a)),fun v d=>?_,fun out j hs=>fin out j ?_⟩
  ·refine PySem.W.kat_kind (T:=.type "int") (s:={ s with heap:=h',toks:=g }) k1 (by lia) (fun v d=>?_) (by rfl) ?_
   ·obtain ⟨i,t,rfl⟩:=Y v d
    exact .now
   ·rw [B];exact D
  ·obtain ⟨a,e,R⟩:=Z v d
   exact ⟨rfl,a,e,R⟩
  ·rw [aG3]
   refine aI2 ?_ hs
   intro x y hx hy N
   obtain ⟨ax,rfl⟩:=b1 x (j.mem_iff.mp hx)
   obtain ⟨ay,rfl⟩:=b1 y (j.mem_iff.mp hy)
   exact N
 ·subst e
  exact fin c (List.Perm.refl _) (ahs (by rw [aA3];exact E))
end
end L2
namespace VL
open PySem PySem.Spec L2
def enD (ds:List PyData):List PyData:=(List.range ds.length).map fun (i:Nat) => .tuple [.int (i:Int),ds.getD i .none]
theorem aej {ds:List PyData}:(enD ds).length=ds.length:=by simp [enD]
theorem apt {ds:List PyData} {i:Nat} {d:PyData} (h:(enD ds)[i]?=some d):∃ x,ds[i]?=some x/\d=.tuple [.int (i:Int),x]:=by
 unfold enD at h
 rw [aA5] at h
 by_cases hi:i < ds.length
 ·rw [aA0 (by simpa using hi)] at h
  simp at h
  refine ⟨ds[i],aA0 hi,?_⟩
  rw [← h]
  simp [hi]
 ·rw [aF9.mpr (by simp;lia)] at h;cases h
theorem Out.tup2 {G H:Hp} {p:Addr} {x y:V} {d e:PyData} (g:Same G H) (h:H p=none) (b:Rp G x d) (a:Rp G y e):Out G H (.ref p) (upd G p (.tup [x,y])) (upd H p (.tup [x,y])) (.st (.tuple [d,e])) (fun _=>False):=Out.newT g h (.cons b (.cons a .nil))
section
variable {B:Bs} {env:En} {QI:List PyData->En->Prop} {QO:Sl->En->Prop} {Q':PyData->En->Prop} {K:Frag} {i:Nat} {ta:TA}
theorem avv (h:EvA B ta env fun vs e=>∃ ds,vs=[.list ds]/\QI (enD ds) e):EvI B (awz K ta) env QI:=fun σ G H F R I k =>
 h σ G H F _ I fun vs c n C ds s b l A o=>by
  obtain ⟨xs,z,q⟩:=o
  subst z
  cases A with
  | cons r t =>
   cases t
   cases r with
   | @lst a us _ ha rs =>
    refine ⟨a,us,rfl,SqL.of (b.gh _ _ ha),k _ c n C _ s b l ⟨fun i G' H' g h hi=>?_,fun i G' H' g h hi=>?_,fun i G' H' x H'' d g h ft hd y=>?_⟩ q⟩
    ·have:i < us.length:=by rw [rs.length];rw [aej] at hi;exact hi
     exact ⟨us,us[i],SqL.of (h _ _ (g _ _ ha)),aA0 this⟩
    ·exact ⟨us,SqL.of (h _ _ (g _ _ ha)),by rw [rs.length];rw [aej] at hi;exact Nat.le_of_eq hi.symm⟩
    ·obtain ⟨p,v,rfl,D,rfl,j⟩:=y
     obtain ⟨dx,m,rfl⟩:=apt hd
     obtain ⟨u,w,f⟩:=rs.get m
     have:=j us (SqL.of (h _ _ (g _ _ ha)))
     rw [w] at this;cases this
     exact ⟨_,Out.tup2 h D (.int _) (f.same g)⟩
theorem RpT.len {G:Hp}:∀ {kvs:List (List Key × V)} {es:List (List Key × PyData)},RpT G kvs es->kvs.length=es.length/\kvs.map (·.1)=es.map (·.1)
 | _,_,.nil=>⟨rfl,rfl⟩
 | _,_,.cons _ t=>by
  obtain ⟨b,a⟩:=RpT.len t
  exact ⟨by simp [b],by simp [a]⟩
@[reducible] def tkD (ks:List Key):PyData:=.tuple (ks.map kD)
@[reducible] def tiD (ns:List Int):PyData:=.tuple (ns.map .int)
def lexS (pss:List (List Int)):Prop:=pss.Pairwise fun x y=>HT.lexLt y x=false
theorem af1 {G H:Hp} (ft:FT G H):∀ {vs:List V},(∀ v∈vs,TupI H v)->Rps G vs ((vs.map (kH H)).map tiD)
 | [],_ => .nil
 | v :: vs,h=>by
  obtain ⟨t,ns,rfl,e,_⟩:=h v aB8
  rw [aD1,aD1,ag3 e]
  have:(ns.map V.int)=(ns.map (fun i=>(Sum.inl i:Key))).map kV:=by rw [aE0];rfl
  refine .cons (.tup ?_ (Rps.ints ns)) (af1 ft fun u a=>h u (aB5 _ a))
  rw [this];exact ft t _ (by rw [← this];exact e)
theorem afe {G H:Hp} (gh:Same G H):∀ {vs:List V} {pss:List (List Int)},Rps G vs (pss.map tiD)->(∀ ns∈pss,ns ≠ [])->(∀ v∈vs,TupI H v)/\vs.map (kH H)=pss
 | _,[],.nil,_=>⟨fun v d=>by simp at d,rfl⟩
 | v :: vs,ns :: pss,.cons r t,hn=>by
  obtain ⟨i1,b⟩:=afe gh t fun c hm=>hn c (aB5 _ hm)
  cases r with
  | tup h rs =>
   have:=Rps.ints_inv rs
   subst this
   have e:=gh _ _ h
   refine ⟨fun u a=>?_,by rw [aD1,ag3 e,b]⟩
   rcases aA9.mp a with rfl | a
   ·exact ⟨_,ns,rfl,e,hn ns aB8⟩
   ·exact i1 u a
theorem ati {pss:List (List Int)} (hn:∀ ns∈pss,ns ≠ []) (h:EvA B ta env fun ds e=>ds=[.list (pss.map tiD)]/\∀ b:List (List Int),b.Perm pss->lexS b->QO (.own (OL (b.map tiD))) e):EvO B (tCB (aik K) ta) env QO:=fun σ G H F Q I k =>
 h σ G H F _ I fun vs y d x ds q c i w l=>by
  obtain ⟨u,n⟩:=l
  subst u
  cases w with
  | cons r t =>
   cases t
   cases r with
   | @lst a us _ ha rs =>
    obtain ⟨t1,j⟩:=afe c.gh rs hn
    refine ⟨a,us,rfl,SqL.of (c.gh _ _ ha),t1,fun m p f hs hf=>?_⟩
    have s:∀ v∈m,TupI d v:=fun v g=>t1 v (f.mem_iff.mp g)
    have o:=Out.newL c.gh hf (af1 c.ft s)
    refine k _ _ _ x _ _ q (c.out o).1 (i.trans o.gg) (c.out o).2 (n _ ?_ ?_)
    ·have:=f.map (kH d);rw [j] at this;exact this
    ·unfold lexS;rw [aG3];exact hs
theorem aq8 {es:List (List Key × PyData)} {b:List (List Int)} (g:Has env i (OT es)) (j:es.map (·.1)=b.map (fun ns=>ns.map Sum.inl)) (hn:∀ ns∈b,ns ≠ []) (q:∀ c:List (List Int),c.Perm b->lexS c->QO (.own (OL (c.map tiD))) env):EvO B (tCB ag8 (aa5 (tVar i) tNil)) env QO:=fun σ G H F Q I k=>by
 obtain ⟨v,f,a,kvs,rfl,ha,rt,hf⟩:=I.has g
 obtain ⟨r,l⟩:=RpT.len rt
 refine ⟨_,f,a,kvs,b,rfl,ha,by rw [l,j],hn,fun n p h m hs d=>?_⟩
 have o:=Out.newL I.gh d (af1 I.ft h)
 refine k _ _ _ F _ _ env (I.out o).1 o.gg (I.out o).2 (q _ m ?_)
 unfold lexS;rw [aG3];exact hs
end
section
variable {B:Bs} {env:En} {QO:Sl->En->Prop} {Q':PyData->En->Prop} {K:Frag} {i:Nat} {ta:TA} {R:Sl->Prop}
theorem Rps.bools_inv {G:Hp}:∀ {bs:List Bool} {vs:List V},Rps G vs (bs.map PyData.bool)->vs=bs.map V.bl
 | [],_,.nil=>rfl
 | b :: bs,_,.cons r t=>by
  cases r
  rw [Rps.bools_inv t];rfl
theorem ajr {bs:List Bool} (h:R (.st (.bool (bs.all id)))):OpA (rAll K) [.list (bs.map .bool)] R:=fun G H vs Q gh rs k=>by
 cases rs with
 | cons r t =>
  cases t
  cases r with
  | lst ha ra =>
   have:=Rps.bools_inv ra
   subst this
   exact ⟨_,bs,rfl,SqL.of (gh _ _ ha),k _ _ _ _ _ (Out.refl gh (.bl _)) h⟩
theorem ayx {bs:List Bool} (h:R (.st (.bool (bs.any id)))):OpA (rAny K) [.list (bs.map .bool)] R:=fun G H vs Q gh rs k=>by
 cases rs with
 | cons r t =>
  cases t
  cases r with
  | lst ha ra =>
   have:=Rps.bools_inv ra
   subst this
   exact ⟨_,bs,rfl,SqL.of (gh _ _ ha),k _ _ _ _ _ (Out.refl gh (.bl _)) h⟩
theorem atj {G:Hp} (n:Nat):Rps G ((List.range n).map fun (i:Nat)=>V.int (i:Int)) (rngD 0 n):=by
 unfold rngD
 refine ana (by simp) fun i v d a hd=>?_
 rw [aA5] at a hd
 cases e:(List.range n)[i]? with
 | none=>rw [e] at a;cases a
 | some m=>rw [e] at a hd;cases a;cases hd;show Rp G (.int (m:Int)) (.int (0+(m:Int)));rw [Int.zero_add];exact .int _
theorem akl (h:EvA B ta env fun ds e=>∃ j:Int,ds=[.int j]/\0<=j/\j<=1000000/\QO (.own (OL (rngD 0 j.toNat))) e):EvO B (ait ta) env QO:=fun σ G H F Q I k =>
 h σ G H F _ I fun vs r s n ds i a b m f=>by
  obtain ⟨j,l,d,c,g⟩:=f
  subst l
  obtain rfl:vs=[V.int j]:=Rps.ints_inv (ns:=[j]) m
  refine ⟨j,rfl,d,c,fun p q=>?_⟩
  have o:=Out.newL a.gh q (atj j.toNat)
  exact k _ _ _ n _ _ i (a.out o).1 (b.trans o.gg) (a.out o).2 g
theorem avw (h:EvA B ta env fun ds e=>∃ j:Int,ds=[.int j]/\0<=j/\j<=1000000/\Q' (.list (rngD 0 j.toNat)) e):Ev B (ait ta) env Q':=abh (akl fun σ G H F Q I k=>h σ G H F Q I fun vs G' H' F' ds f d g r ⟨j,a,b,c,q⟩=>k vs G' H' F' ds f d g r ⟨j,a,b,c,acf q⟩)
end
section
variable {κ:Type} [DecidableEq κ] {α:Type}
def valD (es:List (κ × α)) (k : κ):Option α:=(es.find? fun e=>decide (e.1=k)).map (·.2)
def putD (es:List (κ × α)) (k : κ) (d : α):List (κ × α):=if (es.any fun e=>decide (e.1=k))=true then es.map (fun e=>if e.1=k then (e.1,d) else e) else es ++ [(k,d)]
end
theorem RpK.val {G:Hp} {k:Key}:∀ {kvs:List (Key × V)} {es:List (Key × PyData)},RpK G kvs es->(valD es k=none->valV kvs k=none)/\∀ d,valD es k=some d->∃ v,valV kvs k=some v/\Rp G v d
 | _,_,.nil=>⟨fun _=>rfl,fun d h=>by cases h⟩
 | _,_,.cons (k:=k') r t=>by
  obtain ⟨i1,a⟩:=RpK.val (k:=k) t
  by_cases e:k'=k
  ·refine ⟨fun h=>by simp [valD,e] at h,fun d h=>?_⟩
   simp [valD,e] at h
   subst h
   exact ⟨_,by simp [valV,e],r⟩
  ·refine ⟨fun h=>?_,fun d h=>?_⟩
   ·simp [valV,e];simp [valD,e] at h
    have:=i1 (by simp [valD];exact h)
    simpa [valV] using this
   ·obtain ⟨v,c,b⟩:=a d (by simpa [valD,e] using h)
    exact ⟨v,by simpa [valV,e] using c,b⟩
theorem RpK.any {G:Hp} {k:Key}:∀ {kvs:List (Key × V)} {es:List (Key × PyData)},RpK G kvs es->(kvs.any fun e=>decide (e.1=k))=es.any fun e=>decide (e.1=k)
 | _,_,.nil=>rfl
 | _,_,.cons r t=>by simp [RpK.any t]
theorem RpK.map {G:Hp} {k:Key} {v:V} {d:PyData} (h:Rp G v d):∀ {kvs:List (Key × V)} {es:List (Key × PyData)},RpK G kvs es->RpK G (kvs.map fun e=>if e.1=k then (e.1,v) else e) (es.map fun e=>if e.1=k then (e.1,d) else e)
 | _,_,.nil => .nil
 | _,_,.cons (k:=k') r t=>by
  by_cases e:k'=k
  ·simp only [aD1,e,if_true];exact .cons h (RpK.map h t)
  ·simp only [aD1,e,if_false];exact .cons r (RpK.map h t)
theorem RpK.append {G:Hp}:∀ {a b:List (Key × V)} {c d:List (Key × PyData)},RpK G a c->RpK G b d->RpK G (a ++ b) (c ++ d)
 | _,_,_,_,.nil,s=>s
 | _,_,_,_,.cons r t,s => .cons r (RpK.append t s)
theorem RpK.put {G:Hp} {k:Key} {v:V} {d:PyData} (h:Rp G v d) {kvs:List (Key × V)} {es:List (Key × PyData)} (r:RpK G kvs es):RpK G (putK kvs k v) (putD es k d):=by
 unfold putK putD
 rw [r.any]
 split
 ·exact r.map h
 ·exact r.append (.cons h .nil)
theorem RpT.any {G:Hp} {k:List Key}:∀ {kvs:List (List Key × V)} {es:List (List Key × PyData)},RpT G kvs es->(kvs.any fun e=>decide (e.1=k))=es.any fun e=>decide (e.1=k)
 | _,_,.nil=>rfl
 | _,_,.cons r t=>by simp [RpT.any t]
theorem RpT.map {G:Hp} {k:List Key} {v:V} {d:PyData} (h:Rp G v d):∀ {kvs:List (List Key × V)} {es:List (List Key × PyData)},RpT G kvs es->RpT G (kvs.map fun e=>if e.1=k then (e.1,v) else e) (es.map fun e=>if e.1=k then (e.1,d) else e)
 | _,_,.nil => .nil
 | _,_,.cons (k:=k') r t=>by
  by_cases e:k'=k
  ·simp only [aD1,e,if_true];exact .cons h (RpT.map h t)
  ·simp only [aD1,e,if_false];exact .cons r (RpT.map h t)
theorem RpT.append {G:Hp}:∀ {a b:List (List Key × V)} {c d:List (List Key × PyData)},RpT G a c->RpT G b d->RpT G (a ++ b) (c ++ d)
 | _,_,_,_,.nil,s=>s
 | _,_,_,_,.cons r t,s => .cons r (RpT.append t s)
theorem RpT.put {G:Hp} {k:List Key} {v:V} {d:PyData} (h:Rp G v d) {kvs:List (List Key × V)} {es:List (List Key × PyData)} (r:RpT G kvs es):RpT G (putK kvs k v) (putD es k d):=by
 unfold putK putD
 rw [r.any]
 split
 ·exact r.map h
 ·exact r.append (.cons h .nil)
theorem RpK.length {G:Hp}:∀ {kvs:List (Key × V)} {es:List (Key × PyData)},RpK G kvs es->kvs.length=es.length
 | _,_,.nil=>rfl
 | _,_,.cons _ t=>by simp [RpK.length t]
theorem aiu {G:Hp} {v:V} {k:Key} (r:Rp G v (kD k)):v=kV k:=by
 cases k with
 | inl i=>cases r;rfl
 | inr x=>cases r;rfl
theorem ane {G:Hp}:∀ {ks:List Key} {vs:List V},Rps G vs (ks.map kD)->vs=ks.map kV
 | [],_,.nil=>rfl
 | k :: ks,_,.cons r t=>by rw [aiu r,ane t];rfl
section
variable {B:Bs} {env:En} {QO:Sl->En->Prop} {Q':PyData->En->Prop} {D':VEnds} {i:Nat} {te ty tv td:TE}
theorem atk (q:QO (.own (OT [])) env):EvO B al7 env QO:=fun σ G H F Q I k p a=>by
 have o:=Out.newDT (ds:=[]) I.gh a .nil
 exact k _ _ _ F _ _ env (I.out o).1 o.gg (I.out o).2 q
theorem atl {es0:List (List Key × PyData)} (h:Ev B tv env fun d o=>Has o i (OT es0)/\Ev B ty o fun y m=>∃ es ks,m[i]?=some (some (.own (OT es)))/\y=tkD ks/\es.length<=999999/\D'.nx (m.set i (some (.own (OT (putD es ks d)))))):EvS B (ah7 (tVar i) ty tv) D' env:=fun σ G H F D I r =>
 h σ G H F _ I fun v w E O d o u x N J=>by
  obtain ⟨C,K⟩:=J
  obtain ⟨v0,j,a,kvs,rfl,ha,rt,_⟩:=u.has C
  refine ⟨_,j,K σ w E O _ u fun P z H2 F2 y m n s M ⟨es,ks,g,A,Q,L⟩=>?_⟩
  subst A
  obtain ⟨S,f,⟨R,q,p,l,c,hf⟩,hb⟩:=n.sl i _ g
  rw [j] at f;cases f;cases p
  cases M with
  | tup hk rs =>
   have:=ane rs
   subst this
   refine ⟨a,_,rfl,DPut.t l (n.gh _ _ hk) (by rw [(RpT.len c).1];exact big (by lia)),?_⟩
   exact r.nx σ z _ _ _ (n.upd1 (A':=OT (putD es ks d)) g (.inl rfl) j hf ⟨a,_,rfl,aag,c.put (N.same s),fun b=>Iff.rfl⟩) (x.trans s) L
theorem atm {es0:List (Key × PyData)} (h:Ev B tv env fun d n=>Has n i (OD es0)/\Ev B ty n fun y m=>∃ es k,m[i]?=some (some (.own (OD es)))/\y=kD k/\es.length<=999999/\D'.nx (m.set i (some (.own (OD (putD es k d)))))):EvS B (ah7 (tVar i) ty tv) D' env:=fun σ G H F D I r =>
 h σ G H F _ I fun v w E O d n u x N J=>by
  obtain ⟨C,K⟩:=J
  obtain ⟨v0,j,a,kvs,rfl,ha,rt,_⟩:=u.has C
  refine ⟨_,j,K σ w E O _ u fun P z H2 F2 y m p s M ⟨es,ks,g,A,Q,L⟩=>?_⟩
  subst A
  obtain ⟨S,f,⟨R,q,o,l,c,hf⟩,hb⟩:=p.sl i _ g
  rw [j] at f;cases f;cases o
  have:=aiu M
  subst this
  refine ⟨a,_,rfl,DPut.k l (by rw [c.length];exact big (by lia)),?_⟩
  exact r.nx σ z _ _ _ (p.upd1 (A':=OD (putD es ks d)) g (.inl rfl) j hf ⟨a,_,rfl,aag,c.put (N.same s),fun b=>Iff.rfl⟩) (x.trans s) L
theorem aq9 {es0:List (Key × PyData)} (h:Ev B ty env fun y b=>∃ es k,Has b i (OD es)/\y=kD k/\Q' (.bool (!(valD es k).isSome)) b):Ev B (afj ty (tVar i)) env Q':=fun σ G H F Q I k =>
 h σ G H F _ I fun u l H2 F2 y b f r s o=>by
  obtain ⟨es,c,n,m,q⟩:=o
  subst m
  obtain ⟨v,g,a,kvs,rfl,ha,rt,_⟩:=f.has n
  have:=aiu s
  subst this
  refine ⟨_,g,a,_,rfl,DGet.k ha,?_⟩
  have e:(valV kvs c).isSome=(valD es c).isSome:=by
   obtain ⟨i1,p⟩:=rt.val (k:=c)
   cases hd:valD es c with
   | none=>rw [i1 hd];rfl
   | some d=>obtain ⟨v,j,_⟩:=p d hd;rw [j];rfl
  rw [e]
  exact k _ l H2 F2 _ b f r (.bl _) q
end
section
variable {B:Bs} {env:En} {QO:Sl->En->Prop} {Q':PyData->En->Prop} {QE:En->Prop} {D':VEnds} {K:Frag} {i:Nat} {ta:TA}
theorem atn (h:EvA B ta env fun ds e=>∃ ns:List Int,ds=[.list (ns.map .int)]/\ns.length < 64/\∀ b:List Int,b.Perm ns->b.Pairwise (·<=·)->QO (.own (OL (b.map .int))) e):EvO B (tCB (aml K) ta) env QO:=fun σ G H F Q I k =>
 h σ G H F _ I fun vs s u n ds j c d m g=>by
  obtain ⟨ns,l,f,i⟩:=g
  subst l
  cases m with
  | cons r t =>
   cases t
   cases r with
   | @lst a us _ ha rs =>
    have:=Rps.ints_inv rs
    subst this
    refine ⟨a,ns,rfl,SqL.of (c.gh _ _ ha),f,fun b p q hs hf=>?_⟩
    have o:=Out.newL c.gh hf (Rps.ints b)
    exact k _ _ _ n _ _ j (c.out o).1 (d.trans o.gg) (c.out o).2 (i _ q hs)
theorem x_en {ds:List PyData} {R:List PyData->Prop} (h:R ds):∃ xs,[PyData.list ds]=[.list xs]/\R xs:=⟨ds,rfl,h⟩
theorem ayy {j:Int} {R:Int->Prop} (a:0<=j) (b:j<=1000000) (h:R j):∃ i:Int,[PyData.int j]=[.int i]/\0<=i/\i<=1000000/\R i:=⟨j,rfl,a,b,h⟩
theorem x_dT {es:List (List Key × PyData)} {a b:Int} {c:En} {R:List (List Key × PyData)->List Key->Prop} (e:c[i]?=some (some (.own (OT es)))) (d:es.length<=999999) (q:R es [.inl a,.inl b]):∃ es ks,c[i]?=some (some (.own (OT es)))/\PyData.tuple [.int a,.int b]=tkD ks/\es.length<=999999/\R es ks:=⟨es,_,e,rfl,d,q⟩
theorem x_dK {es:List (Key × PyData)} {a:Int} {b:En} {R:List (Key × PyData)->Key->Prop} (e:b[i]?=some (some (.own (OD es)))) (c:es.length<=999999) (q:R es (.inl a)):∃ es k,b[i]?=some (some (.own (OD es)))/\PyData.int a=kD k/\es.length<=999999/\R es k:=⟨es,_,e,rfl,c,q⟩
theorem x_dN {es:List (Key × PyData)} {a:Int} {b:En} {R:List (Key × PyData)->Key->Prop} (e:Has b i (OD es)) (q:R es (.inl a)):∃ es k,Has b i (OD es)/\PyData.int a=kD k/\R es k:=⟨es,_,e,rfl,q⟩
end
def ltP (p q:Int × Int):Prop:=p.1 < q.1\/(p.1=q.1/\p.2 < q.2)
@[reducible] def p2 (p:Int × Int):List Int:=[p.1,p.2]
theorem aiv {a:List (List Int)} {ps:List (Int × Int)} (h:a.Perm (ps.map p2)):∃ qs:List (Int × Int),a=qs.map p2/\qs.Perm ps:=by
 refine ⟨a.map fun l=>(l.getD 0 0,l.getD 1 0),?_,?_⟩
 ·rw [aE0]
  symm
  conv=>rhs;rw [← List.map_id a]
  apply aF1
  intro l b
  obtain ⟨p,_,rfl⟩:=aB7.mp (h.mem_iff.mp b)
  rfl
 ·have:=h.map fun l=>(l.getD 0 0,l.getD 1 0)
  rw [aE0] at this
  have e:((fun l:List Int=>(l.getD 0 0,l.getD 1 0)) ∘ p2)=id:=by funext p;rfl
  rw [e,List.map_id] at this
  exact this
def Rise (es:List (Int × Int)):Prop:=es.Pairwise ltP
structure WebOk (n:Int) (es:List (Int × Int)):Prop where
 lo:1<=n
 hi:n<=60
 inn:∀ p∈es,0<=p.1/\p.1 < p.2/\p.2 < n
 rise:Rise es
def kE (ps:List (Int × Int)):List (List Key × PyData):=ps.map fun p=>([Sum.inl p.1,Sum.inl p.2],.bool true)
def addP (ps:List (Int × Int)) (p:Int × Int):List (Int × Int):=if p∈ps then ps else ps ++ [p]
theorem aeb {ps:List (Int × Int)}:(kE ps).length=ps.length:=by simp [kE]
theorem agm (ps:List (Int × Int)) (a b:Int):putD (kE ps) [Sum.inl a,Sum.inl b] (.bool true)=kE (addP ps (a,b)):=by
 have c:((kE ps).any fun e=>decide (e.1=[Sum.inl a,Sum.inl b]))=decide ((a,b)∈ps):=by
  rw [aI0,aF5,decide_eq_true_iff]
  constructor
  ·rintro ⟨e,d,h⟩
   obtain ⟨p,f,rfl⟩:=aB7.mp d
   simp at h
   obtain ⟨g,p2⟩:=p
   simp at h
   rw [← h.1,← h.2];exact f
  ·intro h
   exact ⟨_,aB7.mpr ⟨(a,b),h,rfl⟩,by simp⟩
 unfold putD
 rw [c]
 unfold addP
 by_cases h:(a,b)∈ps
 ·rw [aF7 (by simpa using h),aF7 h]
  unfold kE
  rw [aE0]
  apply aF1
  intro p _
  simp only [Function.comp]
  split <;> rfl
 ·rw [aF8 (by simpa using h),aF8 h]
  simp [kE]
theorem addP_mem {ps:List (Int × Int)} {p q:Int × Int}:q∈addP ps p ↔ q∈ps\/q=p:=by
 unfold addP
 split
 ·rename_i h
  exact ⟨.inl,fun z=>z.elim id fun e=>e ▸ h⟩
 ·simp
theorem aev {ps:List (Int × Int)} {p:Int × Int}:(addP ps p).length<=ps.length+1:=by
 unfold addP;split <;> simp
theorem ayz (ps:List (Int × Int)):(kE ps).map (·.1)=(ps.map p2).map (fun ns=>ns.map Sum.inl):=by
 unfold kE;rw [aE0,aE0];rfl
theorem a1o:([]:List (List Key × PyData))=kE []:=rfl
theorem agn (ps:List (Int × Int)):(ps.map p2).map tiD=ps.map prD:=by rw [aE0];rfl
theorem arb {ps:List (Int × Int)}:∀ ns∈ps.map p2,ns ≠ []:=fun ns h=>by
 obtain ⟨p,_,rfl⟩:=aB7.mp h
 simp
section
variable {B:Bs} {env:En} {QO:Sl->En->Prop} {K:Frag} {i:Nat} {ta:TA}
theorem akn {ps:List (Int × Int)} (h:EvA B ta env fun ds e=>ds=[.list (ps.map prD)]/\∀ qs:List (Int × Int),qs.Perm ps->lexS (qs.map p2)->QO (.own (OL (qs.map prD))) e):EvO B (tCB (aik K) ta) env QO :=
 ati (pss:=ps.map p2) arb fun σ G H F Q I k=>h σ G H F Q I fun vs G' H' F' ds e c g r ⟨a,q⟩=>k vs G' H' F' ds e c g r ⟨by rw [agn];exact a,fun d f hs=>by
  obtain ⟨qs,rfl,b⟩:=aiv f
  rw [agn];exact q qs b hs⟩
theorem af2 {ps:List (Int × Int)} (a:Has env i (OT (kE ps))) (q:∀ qs:List (Int × Int),qs.Perm ps->lexS (qs.map p2)->QO (.own (OL (qs.map prD))) env):EvO B (tCB ag8 (aa5 (tVar i) tNil)) env QO :=
 aq8 a (ayz ps) arb fun c b hs=>by
  obtain ⟨qs,rfl,d⟩:=aiv b
  rw [agn];exact q qs d hs
end
def OW (d:PyData) (ds:List PyData):Own where
 P:=fun G H v F=>∃ t l u vs,v=.ref t/\H t=some (.tup [u,.ref l])/\Rp G u d/\H l=some (.lst vs)/\Rps G vs ds/\∀ b,F b ↔ b=t\/b=l
 mono:=fun ⟨t,l,u,vs,e,h1,r1,h2,r2,f⟩ g hh=>⟨t,l,u,vs,e,hh t _ ((f t).mpr (.inl rfl)) h1,r1.same g,hh l _ ((f l).mpr (.inr rfl)) h2,r2.same g,f⟩
 dom:=fun ⟨t,l,u,vs,e,h1,r1,h2,r2,f⟩ b z=>by
  rcases (f b).mp z with rfl | rfl
  ·exact ⟨_,h1⟩
  ·exact ⟨_,h2⟩
theorem aiw {d:PyData} {ds:List PyData}:Frz (OW d ds) (.tuple [d,.list ds]):=fun G H v F ⟨t,l,u,vs,e,h,c,a,b,f⟩ n g=>by
 subst e
 exact .tup (by rw [aei ((f t).mpr (.inl rfl))];exact h) (.cons (c.same (abv n)) (.cons (.lst (by rw [aei ((f l).mpr (.inr rfl))];exact a) (b.same (abv n))) .nil))
theorem arc {d:PyData} {ds:List PyData} {R:PyData->Prop} (h:R (.tuple [d,.list ds])):FQ (.own (OW d ds)) R:=⟨_,aiw,h⟩
section
variable {B:Bs} {env:En} {QO:Sl->En->Prop} {Q':PyData->En->Prop} {K:Frag} {i j:Nat} {ta te:TE}
theorem avx {u:V} {l:Addr} {ks:List Key}:HO.tup [u,.ref l] ≠ .tup (ks.map kV):=by
 intro z
 injection z with z
 match ks,z with
 | [],z=>cases z
 | [_],z=>cases z
 | [_,k],z =>
  simp at z
  cases k <;> simp [kV] at z
 | _ :: _ :: _ :: _,z=>simp at z
end
section
variable {B:Bs} {env:En} {Q':PyData->En->Prop} {D':VEnds} {i:Nat} {ty tv:TE}
theorem ard {a:List (List Key × PyData)} (f:env[i]?=some (some (.own (OT a)))) (h:Ev B tv env fun d c=>Has c i (OT a)/\Ev B ty c fun y b=>∃ es ks,b[i]?=some (some (.own (OT es)))/\y=tkD ks/\es.length<=999999/\D'.nx (b.set i (some (.own (OT (putD es ks d)))))):EvS B (ah7 (tVar i) ty tv) D' env:=atl h
theorem arf {a:List (Key × PyData)} (f:env[i]?=some (some (.own (OD a)))) (h:Ev B tv env fun d c=>Has c i (OD a)/\Ev B ty c fun y b=>∃ es k,b[i]?=some (some (.own (OD es)))/\y=kD k/\es.length<=999999/\D'.nx (b.set i (some (.own (OD (putD es k d)))))):EvS B (ah7 (tVar i) ty tv) D' env:=atm h
theorem aok {a:List (Key × PyData)} (c:Has env i (OD a)) (h:Ev B ty env fun y b=>∃ es k,Has b i (OD es)/\y=kD k/\Q' (.bool (!(valD es k).isSome)) b):Ev B (afj ty (tVar i)) env Q':=aq9 (es0:=[]) h
end
section
variable {R:Sl->Prop} {K:Frag}
end
theorem ahj {ds:List PyData} {m:Nat} (h:∀ d∈ds,d.depth<=m):PyData.depthAll ds<=m:=by
 induction ds with
 | nil=>simp [PyData.depthAll]
 | cons d ds ih =>
  simp only [PyData.depthAll]
  exact Nat.max_le.mpr ⟨h d aB8,ih fun e a=>h e (aB5 _ a)⟩
theorem avy {d:PyData} (h:aat d=true):PyData.eqv d d=true:=(akd d d h h).mpr rfl
end VL
namespace VL
end VL
namespace VL
open PySem PySem.Spec L2
section
variable {B:Bs} {env:En} {Q':PyData->En->Prop} {K:Frag} {E:XK} {i:Nat}
end
end VL
namespace VL
open PySem L2
theorem a24 {B:Bs} {t:TS} {D':VEnds} {e:En} (h:EvS B t D' e):EvS B t D' e:=h
theorem a25 {B:Bs} {g:TG} {s:Sl} {e:En} {Q:En->Prop} (h:EvG B g s e Q):EvG B g s e Q:=h
theorem a1p {B:Bs} {g:TGs} {s:List PyData} {e:En} {Q:En->Prop} (h:EvGs B g s e Q):EvGs B g s e Q:=h
theorem g_Ev {B:Bs} {t:TE} {e:En} {Q:PyData->En->Prop} (h:Ev B t e Q):Ev B t e Q:=h
theorem a26 {B:Bs} {t:TE} {e:En} {Q:Sl->En->Prop} (h:EvO B t e Q):EvO B t e Q:=h
theorem a27 {B:Bs} {t:TT} {e:En} {Q:Bool->En->Prop} (h:EvT B t e Q):EvT B t e Q:=h
theorem a28 {B:Bs} {t:TA} {e:En} {Q:List PyData->En->Prop} (h:EvA B t e Q):EvA B t e Q:=h
theorem a29 {B:Bs} {t:TI} {e:En} {Q:List PyData->En->Prop} (h:EvI B t e Q):EvI B t e Q:=h
theorem a3c {r:R2} {x y:PyData} {R:Sl->Prop} (h:Op2 r x y R):Op2 r x y R:=h
theorem a3d {r:V->Hp->VK->Prop} {x:PyData} {R:Sl->Prop} (h:Op1 r x R):Op1 r x R:=h
theorem a3e {r:List V->Hp->VK->Prop} {x:List PyData} {R:Sl->Prop} (h:OpA r x R):OpA r x R:=h
theorem g_FQ {s:Sl} {R:PyData->Prop} (h:FQ s R):FQ s R:=h
theorem ay0 {ds:List PyData} {R:List PyData->Prop} (h:alq ds R):alq ds R:=h
theorem ay1 {ds:List PyData} {R:List PyData->Prop} (h:alr ds R):alr ds R:=h
structure PsOk (n:Int) (ps:List (Int × Int)):Prop where
 nd:ps.Nodup
 inn:∀ p∈ps,0<=p.1/\p.1 < p.2/\p.2 < n
def Tr (n:Int) (ps:List (Int × Int)):Prop:=∀ k,1<=k->k < n->∃ h,0<=h/\h < k/\(h,k)∈ps
def Conn (n:Int) (T:Int->Int->Prop):Prop:=∀ u v,0<=u->u < n->0<=v->v < n->∃ k,Gr.Walk T u k v
theorem Conn.joined {n:Int} {es:List (Int × Int)} (h:Conn n (Tied es)) (b:0 < n):Joined n es:=fun v v0 a=>by
 obtain ⟨k,w⟩:=h 0 v (by lia) (by lia) v0 a
 obtain ⟨d,_,hd⟩:=Gr.Dist.of_walk w
 exact ⟨d,hd⟩
theorem Joined.conn {n:Int} {es:List (Int × Int)} (h:Joined n es):Conn n (Tied es):=fun u v a c v0 f=>by
 obtain ⟨d,hd⟩:=h u a c
 obtain ⟨e,b⟩:=h v v0 f
 exact ⟨d+e,(hd.1.rev fun _ _ t=>t.symm).app b.1⟩
theorem Conn.mono {n:Int} {T T':Int->Int->Prop} (h:Conn n T) (g:∀ u v,T u v->T' u v):Conn n T':=fun u v a c v0 d=>by
 obtain ⟨k,w⟩:=h u v a c v0 d
 exact ⟨k,w.rec .refl fun _ t b => .step b (g _ _ t)⟩
def Order (n:Int) (row:List Int):Prop:=row.Perm ((List.range n.toNat).map fun (i:Nat)=>(i:Int))
theorem Order.len {n:Int} {row:List Int} (h:Order n row):row.length=n.toNat:=by have:=h.length_eq;simpa using this
theorem Order.nodup {n:Int} {row:List Int} (h:Order n row):row.Nodup:=by
 refine h.nodup_iff.mpr ?_
 unfold List.Nodup
 rw [aG3]
 exact List.nodup_range.imp fun {a b} c e=>c (by lia)
theorem Order.mem {n:Int} {row:List Int} (h:Order n row) {v:Int}:v∈row ↔ 0<=v/\v < n:=by
 rw [h.mem_iff,aB7]
 constructor
 ·rintro ⟨i,hi,rfl⟩
  have:=aB9.mp hi
  lia
 ·rintro ⟨a,b⟩
  exact ⟨v.toNat,aB9.mpr (by lia),by lia⟩
theorem Order.get {n:Int} {row:List Int} (h:Order n row) {a:Int} (b:0<=a) (d:a < n):∃ x,row[a.toNat]?=some x/\atI row a=some x/\0<=x/\x < n:=by
 have c:a.toNat < row.length:=by rw [h.len];lia
 have e:row[a.toNat]?=some row[a.toNat]:=aA0 c
 have:=h.mem.mp (aA2 e)
 exact ⟨_,e,adm b e,this.1,this.2⟩
theorem Order.inj {n:Int} {row:List Int} (h:Order n row) {a b x:Int} (a0:0<=a) (b0:0<=b) (ha:row[a.toNat]?=some x) (hb:row[b.toNat]?=some x):a=b:=by
 obtain ⟨c,g⟩:=aA1.mp ha
 obtain ⟨d,f⟩:=aA1.mp hb
 have:=nodup_ix h.nodup c d (g.trans f.symm)
 lia
theorem Order.id (n:Int):Order n ((List.range n.toNat).map fun (i:Nat)=>(i:Int)):=List.Perm.refl _
def aar (row:List Int) (a:Int):Int:=row.getD a.toNat 0
def reP (row:List Int) (p:Int × Int):Int × Int:=if aar row p.1 < aar row p.2 then (aar row p.1,aar row p.2) else (aar row p.2,aar row p.1)
theorem Order.at {n:Int} {row:List Int} (h:Order n row) {a:Int} (c:0<=a) (f:a < n):row[a.toNat]?=some (aar row a)/\0<=aar row a/\aar row a < n:=by
 obtain ⟨x,e,_,d,b⟩:=h.get c f
 have:aar row a=x:=by unfold aar;rw [aD4,e];rfl
 rw [this];exact ⟨e,d,b⟩
theorem Order.atI {n:Int} {row:List Int} (h:Order n row) {a:Int} (b:0<=a) (c:a < n):L2.atI row a=some (aar row a):=adm b (h.at b c).1
theorem Order.ne {n:Int} {row:List Int} (h:Order n row) {a b:Int} (a0:0<=a) (a1:a < n) (b0:0<=b) (b1:b < n) (c:a ≠ b):aar row a ≠ aar row b:=fun e=>by
 have d:=(h.at a0 a1).1
 have f:=(h.at b0 b1).1
 rw [e] at d
 exact c (h.inj a0 b0 d f)
theorem Tied.re {ps:List (Int × Int)} {row:List Int} {u v:Int} (h:Tied ps u v):Tied (ps.map (reP row)) (aar row u) (aar row v):=by
 have c:∀ a b,(a,b)∈ps->Tied (ps.map (reP row)) (aar row a) (aar row b):=fun a b hm=>by
  have:=List.mem_map_of_mem (f:=reP row) hm
  unfold reP at this
  dsimp only at this
  split at this
  ·exact .inl this
  ·exact .inr this
 rcases h with h | h
 ·exact c u v h
 ·exact (c v u h).symm
theorem Conn.re {n:Int} {ps:List (Int × Int)} {row:List Int} (h:Conn n (Tied ps)) (o:Order n row):Conn n (Tied (ps.map (reP row))):=fun u v f j v0 g=>by
 have c:∀ x,0<=x->x < n->∃ a,0<=a/\a < n/\aar row a=x:=fun x d m=>by
  obtain ⟨i,hi,e⟩:=aH8.mp (o.mem.mpr ⟨d,m⟩)
  refine ⟨i,by lia,by rw [o.len] at hi;lia,?_⟩
  unfold aar
  simp [hi,e]
 obtain ⟨a,a0,a1,rfl⟩:=c u f j
 obtain ⟨b,b0,b1,rfl⟩:=c v v0 g
 obtain ⟨k,w⟩:=h a b a0 a1 b0 b1
 exact ⟨k,w.rec .refl fun _ t l => .step l t.re⟩
theorem aix {α:Type}:∀ {l:List α} {k:Nat} {x : α},l[k]?=some x->(x :: l.eraseIdx k).Perm l
 | [],_,_,h=>by simp at h
 | a :: l,0,x,h=>by simp at h;subst h;exact List.Perm.refl _
 | a :: l,k+1,x,h=>by
  have b:=aix (l:=l) (k:=k) (x:=x) (by simpa using h)
  exact (List.Perm.swap a x _).trans (b.cons a)
theorem arh {n:Int} {row left:List Int} {k:Nat} {x:Int} (h:Order n (row ++ left)) (a:left[k]?=some x):Order n ((row ++ [x]) ++ left.eraseIdx k):=by
 refine List.Perm.trans ?_ h
 rw [aB4]
 refine List.Perm.append_left row ?_
 exact aix a
section
variable {B:Bs} {env:En} {g:TG} {tif:TT} {te:TE} {K:Frag} {src:List (Option Nat)} {ds:List PyData} {e1:En} {R:List PyData->En->Prop}
end
theorem ay2 (n:Nat):rngD 0 n=((List.range n).map fun (i:Nat)=>(i:Int)).map PyData.int:=by simp [rngD]
theorem avz {B:Bs} {t:TS} {D':VEnds} {env:En} (J:En->Prop) (h:EvS B t { D' with nx:=J } env) (k:∀ e,J e->D'.nx e):EvS B t D' env:=fun σ G H F D I r=>h σ G H F D I ⟨fun σ G' H F env a g q=>r.nx _ _ _ _ _ a g (k _ q),r.rt,r.bk,r.ct⟩
theorem ab2 {B:Bs} {g:TG} {A:Own} {d:PyData} {env:En} {b:En->Prop} (f:Frz A d) (h:EvG B g (.st d) env b):EvG B g (.own A) env b:=fun σ G H F v Fv Q I x k =>
 h σ _ H F v _ Q (I.freeze x.fb x.fd x.fg) (ad9 (f G H v Fv x.ok x.fg I.gh)) fun a G' H' F' c i g' q=>k a G' H' F' c i ((abv x.fg).trans g') q
theorem cutR {R X:Prop} (h:R->X) (r:R):X:=h r
end VL
namespace VL
open PySem PySem.Spec L2
def aew (e:En):Prop:=∀ (j:Nat) (s:Sl),e[j]?=some (some s)->(∃ d,s=.st d)\/∃ ns:List Int,s=.scr ns
def Sls (K:Frag) (G:Hp) (σ:St) (e:En):Prop:=∀ (j:Nat) (s:Sl),e[j]?=some (some s)->∃ v,σ[j]?=some (some v)/\((∃ d,s=.st d/\Rp G v d)\/∃ (ns:List Int) (a:Addr),s=.scr ns/\v=.ref a/\SqL K G a (ns.map V.int))
theorem Sls.same {K:Frag} {G G':Hp} {σ:St} {e:En} (h:Sls K G σ e) (g:Same G G'):Sls K G' σ e:=fun j s es=>by
 obtain ⟨v,c,q⟩:=h j s es
 refine ⟨v,c,?_⟩
 rcases q with ⟨d,b,r⟩ | ⟨ns,a,b,f,r⟩
 ·exact .inl ⟨d,b,r.same g⟩
 ·exact .inr ⟨ns,a,b,f,g.seq r⟩
def bsC (K:Frag) (G H:Hp) (σ:St):Bs:=⟨K,G,H,H,σ,noF⟩
theorem ako {K:Frag} {G H:Hp} {σ:St} {e:En} (gh:Same G H) (ft:FT G H) (ln : σ.length=e.length) (sl:Sls K G σ e):VI (bsC K G H σ) G H σ e noF:=by
 refine ⟨gh,Same.refl _,fun a o e => .inl e,Same.refl _,Same.refl _,fun a o e=>⟨o,e⟩,fun i a z=>z.elim,fun i a z=>z.elim,fun i j a z=>z.elim,fun i a z=>z.elim,fun i s es=>?_,ln,ft⟩
 obtain ⟨v,c,q⟩:=sl i s es
 refine ⟨v,c,?_⟩
 rcases q with ⟨d,b,r⟩ | ⟨ns,a,b,f,r⟩
 ·subst b;exact ⟨r,fun a z=>z⟩
 ·subst b;exact ⟨⟨a,f,r⟩,fun a z=>z⟩
theorem aiy {B:Bs} {K:Frag} {G H:Hp} {σ:St} {e:En} {F:Nat->Addr->Prop} (I:VI B G H σ e F) (c:aew e) (b:B.K=K:=by rfl):Sls K G σ e:=fun j s es=>by
 subst b
 obtain ⟨v,f,q⟩:=I.sl j s es
 refine ⟨v,f,?_⟩
 rcases c j s es with ⟨d,rfl⟩ | ⟨ns,rfl⟩
 ·exact .inl ⟨d,rfl,q.1⟩
 ·obtain ⟨⟨a,g,h⟩,_⟩:=q
  exact .inr ⟨ns,a,rfl,g,h⟩
def LcV2 (K:Frag) (src:List (Option Nat)) (g:TG) (tif:TT) (wi2:TI) (g2:TG) (tif2:TT) (te:TE) (ds:List PyData) (e1:En) (R:List PyData->Prop):Prop:=∃ J:Nat->List PyData->En->Prop,J 0 [] (aas src e1)/\(∀ i ys e,J i ys e->aew e) /\
 (∀ i d ys e,ds[i]?=some d->J i ys e->∀ B':Bs,B'.K=K->EvG B' g (.st d) e fun e2=>EvT B' tif e2 fun b e3=>if b=true then EvI B' wi2 e3 fun ds2 e4=>∃ J2:Nat->List PyData->En->Prop,J2 0 ys e4/\(∀ j ys e,J2 j ys e->aew e) /\
  (∀ j d2 ys2 e,ds2[j]?=some d2->J2 j ys2 e->∀ B2:Bs,B2.K=K->EvG B2 g2 (.st d2) e fun e5=>EvT B2 tif2 e5 fun b e6=>if b=true then Ev B2 te e6 fun y e7=>ys2.length<=999999/\J2 (j+1) (ys2 ++ [y]) e7 else J2 (j+1) ys2 e6)/\(∀ ys2 e,J2 ds2.length ys2 e->J (i+1) ys2 e) else J (i+1) ys e3)/\∀ ys e,J ds.length ys e->R ys
section
variable {B:Bs} {env:En}
theorem apu {src:List (Option Nat)} {wi:TI} {g:TG} {b0:TT} {b1:TI} {g2:TG} {N:TT} {te:TE} {QO:Sl->En->Prop} (h:EvI B wi env fun ds C=>LcV2 B.K src g b0 b1 g2 N te ds C fun ys=>QO (.own (OL ys)) C):EvO B (tLC2 src wi g b0 b1 g2 N te) env QO:=fun σ G H F Q I k=>by
 refine h σ G H F _ I fun J G1 H1 M ds C Z g1 it ⟨Jv,j0,jc,js,jd⟩ c n=>?_
 have fa:∀ j,¬ M j c:=Z.no_f n
 have hb:B.H c=none:=Z.no_b n
 -- between two turns
 let Wv:(List PyData->En->Prop)->List V->St->Hp->Prop:=fun J ys σI H=>∃ f e D,VI B f H σ C M/\Same G1 f/\H c=some (.lst ys)/\Rps f ys D/\f c=none/\J D e/\σI.length=e.length/\Sls B.K f σI e
 -- out of a frame within
 have leave:∀ {l H3:Hp} {σI:St} {ys:List V},VI B l H3 σ C M->l c=none->H3 c=some (.lst ys)->∀ {R X:Hp} {w:St} {F4:Nat->Addr->Prop} {e4:En},VI (bsC B.K l H3 σI) R X w e4 F4->VI B R X σ C M/\R c=none/\X c=some (.lst ys):=by
  intro l H3 σI ys U Y ac R X w F4 e4 E
  refine ⟨U.grow E.g0 E.gh E.rs E.gn E.ft,?_,E.rs _ _ ac⟩
  cases e':R c with
  | none=>rfl
  | some u =>
   rcases E.gn c u e' with q | q
   ·change l c=_ at q;rw [Y] at q;cases q
   ·change H3 c=_ at q;rw [ac] at q;cases q
 have step:∀ {f H2:Hp} {ys:List V} {x:V} {l H3:Hp} {d:PyData},VI B f H2 σ C M->f c=none->H2 c=some (.lst ys)->Out f H2 x l H3 (.st d) (fun _=>False)->VI B l H3 σ C M/\l c=none/\H3 c=some (.lst ys):=by
  intro f H2 ys x l H3 d L Y ac o
  refine ⟨(L.out o).1,?_,o.hh _ _ ac⟩
  cases e':l c with
  | none=>rfl
  | some u =>
   rcases o.gn c u e' with q | q
   ·rw [Y] at q;cases q
   ·rw [ac] at q;cases q
 refine ⟨fun i m ys σI H=>m=ds.length - i/\i<=ds.length/\Wv (Jv i) ys σI H,⟨ds.length,by simp,aG2 _,?_⟩,?_⟩
 ·refine ⟨G1,aas src C,[],Z.aside (fun _ z=>nomatch z) (Z.no_g n) fa hb,Same.refl _,aag,.nil,Z.no_g n,j0,by simp [pick,aas],fun j s e=>?_⟩
  obtain ⟨i,t,hs,ht,hp⟩:=agk e
  obtain ⟨v,hv,q⟩:=Z.sl i t ht
  refine ⟨v,am8 hs hv,?_⟩
  cases t with
  | st d=>cases hp;exact .inl ⟨d,rfl,q.1⟩
  | scr ns =>
   cases hp
   obtain ⟨⟨a,ea,sq⟩,_⟩:=q
   exact .inr ⟨ns,a,rfl,ea,sq⟩
  | own A=>cases hp;rcases jc _ _ _ j0 j _ e with ⟨d,z⟩ | ⟨ns,z⟩ <;> cases z
  | io A=>cases hp;rcases jc _ _ _ j0 j _ e with ⟨d,z⟩ | ⟨ns,z⟩ <;> cases z
 ·rintro i m ys σI H2 ⟨rfl,hi,f,e,D,L,r,P,ry,Y,jv,ln,sl⟩
  by_cases hlt:i < ds.length
  ·refine .inr ⟨it.go i f H2 r L.gh hlt,Wv (Jv (i+1)),fun b6 b9 H' hw=>⟨ds.length - (i+1),by lia,rfl,hlt,hw⟩,fun x H3 y=>?_⟩
   obtain ⟨l,o⟩:=it.yld i f H2 x H3 _ r L.gh L.ft (aA0 hlt) y
   obtain ⟨U,a5,b3⟩:=step L Y P o
   have E3:=ako (K:=B.K) U.gh U.ft ln (sl.same o.gg)
   refine js i _ D e (aA0 hlt) jv (bsC B.K l H3 σI) rfl σI l H3 _ x _ _ E3 (ad9 o.ok.1) fun w R X F4 e4 E g4 q4=>?_
   refine q4 w R X F4 _ E fun b G5 H5 F5 e5 I5 g5 q5=>?_
   have a6:=ry.same (o.gg.trans (g4.trans g5))
   have s5:=r.trans (o.gg.trans (g4.trans g5))
   cases b with
   | false =>
    rw [aF8 aB0] at q5 ⊢
    obtain ⟨K5,c0,b5⟩:=leave U a5 b3 I5
    exact ⟨G5,e5,D,K5,s5,b5,a6,c0,q5,I5.ln,aiy I5 (jc _ _ _ q5)⟩
   | true =>
    rw [aF7 rfl] at q5 ⊢
    refine q5 w G5 H5 F5 _ I5 fun J2 G6 H6 F6 p e6 I6 g6 O ⟨Jw,w0,wc,ws,wd⟩=>?_
    obtain ⟨K6,c2,c1⟩:=leave U a5 b3 I6
    have s6:=s5.trans g6
    let Wi:Nat->List V->St->Hp->Prop:=fun j ys σI H=>∃ f e D,VI B f H σ C M/\Same G6 f/\H c=some (.lst ys)/\Rps f ys D/\f c=none/\Jw j D e/\σI.length=e.length/\Sls B.K f σI e
    refine ⟨fun j m ys σI H=>m=p.length - j/\j<=p.length/\Wi j ys σI H,⟨p.length,by simp,aG2 _,G6,e6,D,K6,Same.refl _,c1,a6.same g6,c2,w0,I6.ln,aiy I6 (wc _ _ _ w0)⟩,?_⟩
    rintro j m zs b2 H7 ⟨rfl,hj,G7,e7,zd,W,T,S,rz,a1,jw,a0,a8⟩
    refine ⟨S,?_⟩
    by_cases hlt2:j < p.length
    ·refine .inr ⟨O.go j G7 H7 T W.gh hlt2,Wi (j+1),fun b6 b9 H' hw=>⟨p.length - (j+1),by lia,rfl,hlt2,hw⟩,fun x2 H8 y2=>?_⟩
     obtain ⟨G8,o2⟩:=O.yld j G7 H7 x2 H8 _ T W.gh W.ft (aA0 hlt2) y2
     obtain ⟨I8,a2,a9⟩:=step W a1 S o2
     have E8:=ako (K:=B.K) I8.gh I8.ft a0 (a8.same o2.gg)
     refine ws j _ zd e7 (aA0 hlt2) jw (bsC B.K G8 H8 b2) rfl b2 G8 H8 _ x2 _ _ E8 (ad9 o2.ok.1) fun a7 G9 H9 F9 e9 I9 g9 q9=>?_
     refine q9 a7 G9 H9 F9 _ I9 fun b GA HA FA eA IA gA qA=>?_
     cases b with
     | false =>
      rw [aF8 aB0] at qA ⊢
      obtain ⟨KA,b4,b7⟩:=leave I8 a2 a9 IA
      have sA:=o2.gg.trans (g9.trans gA)
      exact ⟨GA,eA,zd,KA,T.trans sA,b7,rz.same sA,b4,qA,IA.ln,aiy IA (wc _ _ _ qA)⟩
     | true =>
      rw [aF7 rfl] at qA ⊢
      refine qA a7 GA HA FA _ IA fun yv GB HB FB dB eB IB gB rB ⟨lB,qB⟩=>?_
      obtain ⟨KB,a3,b8⟩:=leave I8 a2 a9 IB
      have sB:=o2.gg.trans (g9.trans (gA.trans gB))
      have a4:=rz.same sB
      refine ⟨b8,by rw [a4.length];exact aE4 lB (by decide),GB,eB,zd ++ [dB],KB.aside (fun _ z=>nomatch z) a3 fa hb,T.trans sB,aag,a4.append (.cons rB .nil),a3,qB,IB.ln,aiy IB (wc _ _ _ qB)⟩
    ·have ej:j=p.length:=by lia
     subst ej
     refine .inl ⟨O.stop _ G7 H7 T W.gh rfl,G7,e7,zd,W,s6.trans T,S,rz,a1,wd _ _ jw,a0,a8⟩
  ·have ei:i=ds.length:=by lia
   subst ei
   refine .inl ⟨it.stop _ f H2 r L.gh rfl,?_⟩
   refine k (.ref c) f H2 M (· = c) (.own (OL D)) C L (g1.trans r) ⟨⟨c,ys,rfl,P,ry,fun b=>Iff.rfl⟩,fun a z=>by rw [z];exact hb,fun a z=>by rw [z];exact Y,fun a z=>by rw [z];exact ⟨_,P⟩,fun j a z=>by rw [z];exact fa j⟩ (jd _ _ jv)
end
theorem ad0 {o:Option PyData} {e:En} (h:aew e):aew (stO o :: e):=fun j s es=>by
 cases j with
 | zero =>
  cases o with
  | none=>simp [stO] at es
  | some d =>
   have:s=.st d:=by simpa [stO] using es.symm
   exact .inl ⟨d,this⟩
 | succ j=>exact h j s (by simpa using es)
theorem anf {α β:Type} {K:Frag} {src:List (Option Nat)} {c:En} {s:TI} {h:TT} {te:TE} {R:List PyData->Prop} {xs:List α} {fx : α->PyData} (a : α->List β) (n : β->PyData) (f : α->β->PyData) (q : α->β->Bool) (U:aew (aas src c))
  (hl:(xs.flatMap fun x=>((a x).filter (q x)).map (f x)).length<=999999)
  (h1:∀ x∈xs,∀ l:Bs,l.K=K->∀ o,EvI l s (some (.st (fx x)) :: stO o :: aas src c) fun u C=>u=(a x).map n/\C=some (.st (fx x)) :: stO o :: aas src c)
  (W:∀ x∈xs,∀ y∈a x,∀ l:Bs,l.K=K->EvT l h (some (.st (fx x)) :: some (.st (n y)) :: aas src c) fun b e6=>b=q x y/\e6=some (.st (fx x)) :: some (.st (n y)) :: aas src c/\(b=true->Ev l te (some (.st (fx x)) :: some (.st (n y)) :: aas src c) fun z e7=>z=f x y/\e7=some (.st (fx x)) :: some (.st (n y)) :: aas src c))
  (hR:R (xs.flatMap fun x=>((a x).filter (q x)).map (f x))):LcV2 K (none :: none :: src) (aa4 0) tYes s (aa4 1) h te (xs.map fx) c R:=by
 refine ⟨fun i ys e=>ys=(xs.take i).flatMap (fun x=>((a x).filter (q x)).map (f x))/\∃ o o',e=stO o :: stO o' :: aas src c,⟨by simp,none,none,rfl⟩,?_,?_,?_⟩
 ·rintro i ys e ⟨_,o,o',rfl⟩
  exact ad0 (ad0 U)
 ·rintro i d ys e hd ⟨rfl,o,o',rfl⟩ l hB
  rw [aA5] at hd
  cases hx:xs[i]? with
  | none=>rw [hx] at hd;cases hd
  | some x =>
   rw [hx] at hd
   cases hd
   have A:=aA2 hx
   have T:xs.take (i+1)=xs.take i ++ [x]:=by rw [aH6,hx];rfl
   have E:((xs.take (i+1)).flatMap (fun x=>((a x).filter (q x)).map (f x))).length<=999999:=by
    refine aD0 ?_ hl
    conv=>rhs;rw [← aC1 (i+1) xs,List.flatMap_append,aB1]
    exact Nat.le_add_right _ _
   refine aa9 (afo ?_)
   rw [aF7 rfl]
   show EvI l s (some (.st (fx x)) :: stO o' :: aas src c) _
   intro σ G H F Q I k
   refine h1 x A l hB o' σ G H F Q I fun J G' H' F' u C w g' P ⟨N,r⟩=>k J G' H' F' u C w g' P ?_
   subst N r
   refine ⟨fun j m e=>m=(xs.take i).flatMap (fun x=>((a x).filter (q x)).map (f x)) ++ (((a x).take j).filter (q x)).map (f x)/\∃ o',e=some (.st (fx x)) :: stO o' :: aas src c,⟨by simp,o',rfl⟩,?_,?_,?_⟩
   ·rintro j m e ⟨_,p,rfl⟩
    exact ad0 (o:=some (fx x)) (ad0 U)
   ·rintro j d2 m e g ⟨rfl,p,rfl⟩ S L
    rw [aA5] at g
    cases hy:(a x)[j]? with
    | none=>rw [hy] at g;cases g
    | some y =>
     rw [hy] at g
     cases g
     have B:(a x).take (j+1)=(a x).take j ++ [y]:=by rw [aH6,hy];rfl
     refine aa9 ?_
     show EvT S h (some (.st (fx x)) :: some (.st (n y)) :: aas src c) _
     intro σ G H F Q I k
     refine W x A y (aA2 hy) S L σ G H F Q I fun b G' H' F' Y w g' ⟨hb,Z,hq⟩=>k b G' H' F' Y w g' ?_
     subst Z
     by_cases hp:b=true
     ·rw [aF7 hp]
      intro σ G H F Q I k
      refine hq hp σ G H F Q I fun v G' H' F' d' C w g' X ⟨M,r⟩=>k v G' H' F' d' C w g' X ?_
      subst M r
      have O:q x y=true:=by rw [← hb];exact hp
      refine ⟨?_,?_,some (n y),rfl⟩
      ·refine aD0 ?_ E
       rw [T,List.flatMap_append,aB1,aB1]
       refine Nat.add_le_add_left ?_ _
       simp only [List.flatMap_cons,List.flatMap_nil,aF2,aA3]
       exact (List.Sublist.filter (q x) (List.take_sublist j (a x))).length_le
      ·rw [B,List.filter_append,aE5,← aB4]
       simp [O]
     ·rw [aF8 hp]
      have D:q x y=false:=by rw [← hb];simpa using hp
      refine ⟨?_,some (n y),rfl⟩
      rw [B,List.filter_append,aE5]
      simp [D]
   ·rintro m e ⟨rfl,p,rfl⟩
    refine ⟨?_,some (fx x),p,rfl⟩
    rw [T,List.flatMap_append]
    simp
 ·rintro ys e ⟨rfl,o,o',rfl⟩
  rw [aA3,aH0]
  exact hR
section
variable {B:Bs} {env:En} {Q':PyData->En->Prop} {QO:Sl->En->Prop} {c:TT} {ta tb:TE}
theorem a1q {src:List (Option Nat)} {m:TI} {g:TG} {i:TT} {j:TI} {n:TG} {f:TT} {te:TE} (h:EvI B m env fun ds l=>LcV2 B.K src g i j n f te ds l fun ys=>Q' (.list ys) l):Ev B (tLC2 src m g i j n f te) env Q':=abh (apu fun σ G H F R I k=>h σ G H F R I fun J p s u ds l v r it ⟨o,a,b,c,d⟩=>k J p s u ds l v r it ⟨o,a,b,c,fun ys e q=>acf (d ys e q)⟩)
end
def a1r (e:En):Bool:=e.all fun o=>match o with | some (.own _)=>false | some (.io _)=>false | _=>true
theorem akp {e:En} (h:a1r e=true):aew e:=fun j s es=>by
 have:=aF6.mp h (some s) (aA2 es)
 cases s with
 | st d=>exact .inl ⟨d,rfl⟩
 | scr ns=>exact .inr ⟨ns,rfl⟩
 | own A=>simp at this
 | io A=>simp at this
end VL
namespace VL
open PySem PySem.Spec L2 PyProof.Rows
end VL
namespace VL
open PySem PySem.Spec L2
section
variable {B:Bs} {env:En} {QO:Sl->En->Prop} {i:Nat}
theorem ato {k c:Int} (e:env[i]?=some (some (.st (.int k)))) (q:QO (.own (OD [(.inl k,.int c)])) env):EvO B (awv [(tVar i,tC (.int c))]) env QO:=fun σ G H F Q I d p g=>by
 obtain ⟨v,a,r⟩:=I.sl i _ e
 obtain ⟨r,_⟩:=r
 cases r
 refine ⟨_,a,aag,[(.inl k,.int c)],rfl,by simp,?_⟩
 have o:=Out.newD (ds:=[(.inl k,.int c)]) (xs:=[(.inl k,.int c)]) I.gh g (.cons (.int c) .nil)
 have f:upd (upd H p (.dK [])) p (.dK (afl [] [(Sum.inl k,V.int c)]))=upd H p (.dK [(.inl k,.int c)]):=by
  funext b
  unfold upd
  split <;> rfl
 rw [f]
 exact d _ _ _ F _ _ env (I.out o).1 o.gg (I.out o).2 q
end
section
variable {X:Cx}
end
section
variable {R:Sl->Prop}
end
end VL
namespace L2
open PySem PySem.Spec PyProof.Rows
def isV (k:Int):Value->Bool
 | .int a _=>decide (a=k)
 | _=>false
theorem ang {ns:List Int} {us:List Value} (r:Vals (ns.map V.int) us) (k:Int):∀ i (h:i < us.length) (h':i < ns.length),isV k us[i]=decide (ns[i]=k):=by
 induction ns generalizing us with
 | nil=>intro i h h';simp at h'
 | cons n ns ih =>
  rw [aD1] at r
  cases r with
  | cons r1 r2 =>
   obtain ⟨t,e⟩:=r1
   subst e
   intro i h h'
   cases i with
   | zero=>rfl
   | succ i=>exact ih r2 i (by simpa using h) (by simpa using h')
theorem ari {ns:List Int} {us:List Value} (r:Vals (ns.map V.int) us) (k:Int) (t:Tok):∀ y∈us,MeetsSeq.EqGives y (.int k t) (isV k y):=by
 induction ns generalizing us with
 | nil=>rw [List.map_nil] at r;cases r;intro y a;simp at a
 | cons n ns ih =>
  rw [aD1] at r
  cases r with
  | cons r1 r2 =>
   obtain ⟨u,e⟩:=r1
   subst e
   intro y a
   rcases aA9.mp a with rfl | a
   ·exact MeetsSeq.EqGives.int n k u t
   ·exact ih r2 y a
section
variable {X:Cx}
def atp:V->List V->Hp->VK->Prop:=fun x vs H Q=>∃ (l:Addr) (ns:List Int) (k:Int) (j:Nat),x=.ref l/\vs=[.int k]/\H l=some (.lst (ns.map V.int))/\ns[j]?=some k/\(∀ m,m < j->ns[m]? ≠ some k)/\Q (.int j) H
theorem anh:MtM X "list.index" atp:=by
 intro pins s σ H x vs v us Q I i B h
 obtain ⟨l,ns,k,j,rfl,rfl,o,A,f,q⟩:=h
 cases i
 obtain ⟨u,rfl,g⟩:=B.one
 obtain ⟨t,rfl⟩:=g
 obtain ⟨z,its,n,r,p,e⟩:=I.lstM o
 rw [aA3] at p z
 obtain ⟨c,b⟩:=aA1.mp A
 have hz:sizeLine < 2 ^ 62:=by decide
 refine call_meets F.slot_list_index ⟨_,e,rfl⟩ F.entry_list_index (F.args_list_index_2 _ _)
  (MeetsSeq.list_index l its.toArray n (.int k t) (isV k) (fun y w=>ari r k t y (by simpa using w)) j (by rw [aB2];lia) (by lia) ?_ (fun m hm d=>?_)) ⟨e,?_⟩
 ·rw [List.getElem_toArray,ang r k j (by lia) c,aD8 b]
 ·have a:m < ns.length:=by lia
  rw [List.getElem_toArray,ang r k m (by lia) a]
  exact aD7 fun e=>f m d (by rw [aA0 a,e])
 ·exact ⟨.int j,H,I.tok _,⟨_,rfl⟩,q⟩
variable {e est:Expr} {te:TE} {ts:TO} {pos p2:Pos}
end
end L2
namespace VL
open PySem PySem.Spec L2
section
variable {B:Bs} {env:En} {QO:Sl->En->Prop} {Q':PyData->En->Prop} {te tl:TE} {ts:TO} {K:Frag} {i:Nat}
theorem av0 (h:Ev B tl env fun x g=>∃ ns:List Int,x=.list (ns.map .int)/\Ev B te g fun y b=>∃ (k:Int) (j:Nat),y=.int k/\ns[j]?=some k/\(∀ m,m < j->ns[m]? ≠ some k)/\Q' (.int j) b):Ev B (tBM K "list" atp tl (aa5 te tNil)) env Q':=fun σ G H F Q I k =>
 h σ G H F _ I fun v n z M d g l p L A=>by
  obtain ⟨ns,E,C⟩:=A
  subst E
  cases L with
  | @lst a vs _ ha rs =>
   have D:vs=ns.map V.int:=rs.ints_inv
   subst D
   refine ⟨.inl ⟨rfl,_,SqL.of (l.gh _ _ ha)⟩,C σ n z M _ l fun u r H2 F2 y b f i J ⟨c,j,w,o,s,q⟩=>?_⟩
   subst w
   cases J
   exact ⟨a,ns,c,j,rfl,rfl,f.gh _ _ (i _ _ ha),o,s,k _ r H2 F2 _ b f (p.trans i) (.int _) q⟩
end
structure But (n:Int) (es rem:List (Int × Int)):Prop where
 rise:Rise es
 inn:∀ p∈es,0<=p.1/\p.1 < p.2/\p.2 < n
 all:∀ p:Int × Int,0<=p.1->p.1 < p.2->p.2 < n->p∈es\/p∈rem
end VL
namespace PopT
open PySem PyProof.Rows
section
variable {prog:Program} {w:World} {K:Type} [DecidableEq K] {knd:HeapKind prog w K} {A:Around} {E:Value->Shared->Prop} {s:Shared}
theorem ani {d a:Addr} {xs:List (K × Addr × Value)} {k:K} {j:Nat} {p:Addr × Value} {Q:Option DictEntry->Shared->Prop} (z:knd.room A) (b:knd.is s.heap k a) (hm:s.heap.DictOfH knd d xs) (m:xs[j]?=some (k,p))
  (C:∀ e h',e.val=p.2->h'.DictOfH knd d (xs.eraseIdx j)->Heap.SameBut d s.heap h'->Q (some e) { s with heap:=h',toks:=s.toks+knd.draws k })
  (hsz:xs.length<=sizeLine):wpAny (model prog w) A (Builtin.Dict.takeOut d (.ref a)) Q E s:=by
 obtain ⟨o,es,ep,c,B,hd,h,g,hn⟩:=hm
 unfold Builtin.Dict.takeOut
 try with_reducible refine aJ9 ?_
 refine aJ3 (knd.pyHash z b ?_)
 refine aJ3 (wpAny_dictFind_heap (s:={ s with toks:=s.toks+knd.draws k }) z b c hd h g hn (fun u=>absurd m (u j p)) ?_)
 intro i q hi
 have r:i=j:=by
  have y:(xs.map (·.1))[i]?=some k:=by rw [aA5,hi];rfl
  have v:(xs.map (·.1))[j]?=some k:=by rw [aA5,m];rfl
  have H:=(aA1.mp y).1
  have I:=(aA1.mp v).1
  exact (List.getElem?_inj H hn).mp (y.trans v.symm)
 subst r
 have n:es.size<=sizeLine:=by have e:=size_of_entries h;lia
 refine aJ3 (wpAny_dictEntries (s:={ s with toks:=s.toks+knd.draws k }) c hd ?_)
 rw [entry_at h i,m]
 refine aJ3 (wpAny_updateDictKeys (hz:=n) (s:={ s with toks:=s.toks+knd.draws k }) c hd (aJ4 (C _ _ rfl ⟨_,_,ep+1,aK9 _ c (Obj.isFreed_of_dict (Obj.data_mapDictKeys hd _)),
  B.mapDictKeys _,Obj.data_mapDictKeys hd _,?_,?_,?_⟩ (Heap.SameBut.update ..))))
 ·have F:∀ {α β:Type} (f : α->β) (l:List α) (k:Nat),(l.map f).eraseIdx k=(l.eraseIdx k).map f:=by
   intro α β f l
   induction l with
   | nil=>intro k;rfl
   | cons a l ih =>
    intro k
    cases k with
    | zero=>rfl
    | succ k=>simp [ih k]
  rw [← F,← h]
  obtain ⟨l⟩:=es
  have G:i < l.length:=by
   have:=(aA1.mp m).1
   have e:=size_of_entries h
   simp at e;lia
  simp [Array.eraseIdxIfInBounds,G]
 ·intro x D
  exact knd.keeps (g x ((List.eraseIdx_sublist xs i).mem D)) c hd (Heap.SameBut.update ..)
 ·exact hn.sublist ((List.eraseIdx_sublist xs i).map _)
theorem meetsH_dict_pop {d a:Addr} (kp:keyPart (.ref a)=none) :
  MeetsIn prog w (Builtin.«dict.pop» ⟨[.ref d,.ref a],[]⟩) (fun A R s=>knd.room A.in1/\∃ k xs j p,knd.is s.heap k a/\s.heap.DictOfH knd d xs/\xs.length<=sizeLine/\xs[j]?=some (k,p) /\
   ∀ h',h'.DictOfH knd d (xs.eraseIdx j)->Heap.SameBut d s.heap h'->R (.ok (.ret p.2)) { s with heap:=h',toks:=s.toks+knd.draws k }) :=
 .of_wp fun A R s r=>by
  obtain ⟨u,k,xs,j,p,b,hm,hsz,m,h⟩:=r
  have l:=hm
  obtain ⟨o,es,ep,n,y,hd,x,v,hn⟩:=l
  have i:es.isEmpty=false:=by
   have e:=size_of_entries x
   have:=(aA1.mp m).1
   cases q:es.isEmpty with
   | false=>rfl
   | true=>have:=Array.isEmpty_iff.mp q;rw [this] at e;simp at e;lia
  unfold Builtin.«dict.pop»
  refine aJ3 ?_
  unfold Builtin.Dict.keyAndDefault
  refine aJ3 (wpAny_notOrdered_dict hm.typeIs ?_)
  show wpAny _ _ (pure (d,Value.ref a,none)) _ _ s
  refine aJ4 ?_
  simp only [kp,Option.isSome_none,Bool.false_eq_true,if_false]
  refine aJ3 (wpAny_dictEntries n hd ?_)
  refine aJ3 (aJ4 ?_)
  simp only [i,Bool.false_eq_true,if_false]
  refine aJ3 (ani u b hm m (fun e h' c g f=>?_) hsz)
  simp only [Option.isNone_some,Bool.false_eq_true,if_false]
  exact aJ3 (wpAny_letGo (aJ4 ⟨e.val,rfl,by rw [c];exact h h' g f⟩))
end
end PopT
namespace L2
open PySem PySem.Spec PySem.W PyProof.Rows
theorem KT.at {H:Hp} {kvs:List (List Key × V)} {xs:List (List Key × Addr × Value)} (r:KT H kvs xs):∀ {j:Nat} {k:List Key} {v:V},kvs[j]?=some (k,v)->∃ p:Addr × Value,xs[j]?=some (k,p)/\RelV v p.2:=by
 induction r with
 | nil=>intro j k v e;simp at e
 | @cons p q ps qs hq t ih =>
  intro j k v e
  cases j with
  | zero =>
   have e:p=(k,v):=by simpa using e
   subst e
   exact ⟨q.2,by rw [List.getElem?_cons_zero,show k=q.1 from hq.1],hq.2.2⟩
  | succ j=>exact ih (by simpa using e)
theorem KT.erase {H:Hp} {kvs:List (List Key × V)} {xs:List (List Key × Addr × Value)} (r:KT H kvs xs):∀ (j:Nat),KT H (kvs.eraseIdx j) (xs.eraseIdx j):=by
 induction r with
 | nil=>intro j;exact .nil
 | @cons p q ps qs hq t ih =>
  intro j
  cases j with
  | zero=>exact t
  | succ j=>exact .cons hq (ih j)
section
variable {X:Cx} {pins:List (Addr × Obj)} {σ:St} {H:Hp} {s:Shared} {a b:Addr} {A:Around} {E:Value->Shared->Prop}
theorem a1s {kvs:List (List Key × V)} {k:List Key} {j:Nat} {v:V} {Q:Value->Shared->Prop} (u:A.units+1 < cLine) (I:Inv X pins σ H s) (e:H a=some (.dT kvs)) (B:H b=some (.tup (k.map kV))) (l:kvs[j]?=some (k,v))
  (h:∀ m s',Inv X pins σ (upd H a (.dT (kvs.eraseIdx j))) s'->RelV v m->Q m s'):wpAny (model X.prog X.w) A (call (.builtin "dict.pop") [.ref a,.ref b]) Q E s:=by
 obtain ⟨z,hd,xs,d,dd⟩:=ah6 I.hok e
 have hz:xs.length<=sizeLine:=by rw [← Paired.length d];exact z
 obtain ⟨p,C,r⟩:=KT.at d l
 refine call_meetsIn PySem.F.slot_dict_pop dd.typeIs PySem.F.entry_dict_pop (PySem.F.args_dict_pop_2 _ _) (PopT.meetsH_dict_pop (knd:=tupleKind (aa6 X.prog X.w)) rfl)
  ⟨tupleKind_room_in1 u,k,xs,j,p,afi I.hok B,dd,hz,C,fun h' f hs=>h p.2 _ ?_ r⟩
 obtain ⟨q,es,ep,g,y,o,x,_,n⟩:=f
 refine agz I (by rw [e];exact True.intro) hs ⟨q,g⟩ ⟨aD0 (List.length_eraseIdx_le kvs j) z,hd,_,(KT.erase d j).keeps fun c ys i=>?_,q,es,ep,g,y,o,x,n⟩
 rw [aad (awo i e (fun z=>nomatch z))]
 exact i
end
def atq (td ty:TE):TE:=fun σ H Q=>td σ H fun x H1=>∃ a,x=.ref a/\IsD H1 a/\ty σ H1 fun y H2=>∃ kvs k j v b,H2 a=some (.dT kvs)/\y=.ref b/\H2 b=some (.tup (k.map kV))/\kvs[j]?=some (k,v)/\Q v (upd H2 a (.dT (kvs.eraseIdx j)))
section
variable {X:Cx} {o e f:Expr} {apos cpos:Pos} {td ty tx:TE}
theorem av1 (G:X.A.units+1 < cLine) (g:PE X o td) (J:PE X e ty) (m:M1 X o "pop" apos e cpos):PE X (.Call (.Attribute o "pop" apos) [e] [] cpos) (atq td ty):=by
 intro pins s σ H Q I h
 refine wpAny_Call_method m.base m.few m.line PySem.F.plainAttrs_dict PySem.F.slot_dict_pop PySem.F.type_dict_pop (thn (g pins s σ H _ I h) fun u s1 ⟨x,z,f,q,a,ex,d,C⟩=>?_)
 subst ex
 obtain rfl:u=Value.ref a:=q
 obtain ⟨t1,p,_⟩:=az8 f d
 refine ⟨t1,p,?_⟩
 rw [m.trees]
 refine Calls.callWith_builtin rfl (Calls.evalArgs_plain (Calls.spliced_cons (thn (J pins s1 σ z _ f C) fun n s2 ⟨y,H2,w,B,kvs,k,j,v,b,D,r,K,l,E⟩=>Calls.spliced_nil ?_)))
 subst r
 obtain rfl:n=Value.ref b:=B
 exact a1s G w D K l fun L M i c=>⟨v,_,i,c,E⟩
end
end L2
namespace DNe
open PySem PyProof.Rows
theorem dict_ne_some (l b:Addr) (es:Array DictEntry) (n f:Nat) (dd a:Option Addr) (sl c:Array (Option Value)) (m:(l == sysModules)=false) (i:(b == sysModules)=false) (j:(es.size != 0)=true) :
  Meets (Builtin.«dict.__ne__» ⟨[.ref l,.ref b],[]⟩)
   (fun _ R s=>s.heap.get? l=some { cls:=.type "dict",dict:=dd,data:=.dict es n,slots:=sl }/\s.heap.get? b=some { cls:=.type "dict",dict:=a,data:=.dict #[] f,slots:=c } /\
    R (.ok (.ret (.bool true))) s) :=
 .of_wp fun prog w A R s h=>by
  obtain ⟨r,g,d,p,os⟩:=s;obtain ⟨o,hb,h⟩:=h
  have q:=PySem.F.sub_dict_dict
  wp_walk
  exact ⟨_,rfl,h⟩
theorem atr {prog:Program} {w:World} {A:Around} {E:Value->Shared->Prop} {s:Shared} {Q:Bool->Shared->Prop} {id:String} {l b:Addr} {o g:Obj} {n i:Nat} (d:(l == sysModules)=false) (c:(b == sysModules)=false)
  (f:s.heap.get? l=some o) (hd:o.data=.dict #[] n) (hb:s.heap.get? b=some g) (a:g.data=.dict #[] i) (h:Q true s):wpAny (model prog w) A (Builtin.Dict.samePairs id l b) Q E s:=by
 unfold Builtin.Dict.samePairs Builtin.Dict.showsAll
 rw [d,c]
 simp only [Bool.false_eq_true,if_false]
 refine aJ3 (aJ4 (aJ3 (aJ4 ?_)))
 refine aJ3 (wpAny_dictEntries f hd (aJ3 (wpAny_dictEntries hb a ?_)))
 simp only [bne_self_eq_false,Bool.false_eq_true,if_false]
 refine aJ3 (wpAny_dictEpoch f hd ?_)
 rw [Std.Legacy.Range.forIn_eq_forIn_range']
 simp only [Std.Legacy.Range.size]
 exact aJ3 (aJ4 (aJ4 h))
theorem dict_ne_none (l b:Addr) (n m:Nat) (dd a:Option Addr) (sl f:Array (Option Value)) (i:(l == sysModules)=false) (c:(b == sysModules)=false) :
  Meets (Builtin.«dict.__ne__» ⟨[.ref l,.ref b],[]⟩)
   (fun _ R s=>s.heap.get? l=some { cls:=.type "dict",dict:=dd,data:=.dict #[] n,slots:=sl }/\s.heap.get? b=some { cls:=.type "dict",dict:=a,data:=.dict #[] m,slots:=f } /\
    R (.ok (.ret (.bool false))) s) :=
 .of_wp fun prog w A R s h=>by
  obtain ⟨q,g,d,o,os⟩:=s;obtain ⟨j,hb,h⟩:=h
  have p:=PySem.F.sub_dict_dict
  wp_walk using atr i c j rfl hb rfl
  exact ⟨_,rfl,h⟩
end DNe
namespace L2
open PySem PySem.Spec PySem.W PyProof.Rows
def rNeE:R2:=fun x y H Q=>∃ a b kvs,x=.ref a/\y=.ref b/\H a=some (.dT kvs)/\H b=some (.dT [])/\Q (.bl (!kvs.isEmpty)) H
theorem a1t {X:Cx} (R:X.A.units+64 < cLine):OpR X (compareOp .NotEq) rNeE:=by
 intro pins s σ H x y v u Q I J L h
 obtain ⟨a,b,kvs,rfl,rfl,M,O,q⟩:=h
 obtain rfl:v=Value.ref a:=J
 obtain rfl:u=Value.ref b:=L
 obtain ⟨_,j,xs,p,⟨cls,dd,data,sl⟩,es,ep,n,G,D,z,_,_⟩:=ah6 I.hok M
 obtain ⟨_,f,ys,c,⟨m,d,w,i⟩,fs,g,o,N,C,E,_,_⟩:=ah6 I.hok O
 cases c
 have hf:fs = #[]:=by
  obtain ⟨l⟩:=fs
  simp at E
  rw [E]
 subst hf
 have K:cls=.type "dict":=G.1
 have P:m=.type "dict":=N.1
 simp only at D C
 subst K P D C
 have hn:Value.bool true ≠ Value.notImplemented:=fun x=>nomatch x
 have r:Value.bool false ≠ Value.notImplemented:=fun x=>nomatch x
 cases p with
 | nil =>
  have B:es = #[]:=by
   obtain ⟨l⟩:=es
   simp at z
   rw [z]
  subst B
  exact richCompare_meets_room (op:=.NotEq) ⟨_,n,rfl⟩ ⟨_,o,rfl⟩ PySem.F.slot_dict_ne PySem.F.entry_dict_ne (PySem.F.args_dict_ne_2 _ _) (DNe.dict_ne_none a b ep g dd d sl i j f)
   ⟨n,o,show Value.bool false ≠ Value.notImplemented/\_ from ⟨r,⟨.bl false,H,I,rfl,q⟩⟩⟩ (by lia)
 | cons hq t =>
  have B:(es.size != 0)=true:=by
   have:=congrArg List.length z
   simp at this
   simp [this]
  exact richCompare_meets_room (op:=.NotEq) ⟨_,n,rfl⟩ ⟨_,o,rfl⟩ PySem.F.slot_dict_ne PySem.F.entry_dict_ne (PySem.F.args_dict_ne_2 _ _) (DNe.dict_ne_some a b es ep g dd d sl i j f B)
   ⟨n,o,show Value.bool true ≠ Value.notImplemented/\_ from ⟨hn,⟨.bl true,H,I,rfl,q⟩⟩⟩ (by lia)
end L2
namespace DNe
open PySem PyProof.Rows
theorem anj (l:Addr) (es:Array DictEntry) (n:Nat) (dd:Option Addr) (sl:Array (Option Value)) (a:(l == sysModules)=false) :
  Meets (Builtin.«dict.__len__» ⟨[.ref l],[]⟩)
   (fun _ R s=>s.heap.get? l=some { cls:=.type "dict",dict:=dd,data:=.dict es n,slots:=sl }/\R (.ok (.ret (.int (es.size:Int) s.toks))) { s with toks:=s.toks+1 }) :=
 .of_wp fun prog w A R s h=>by
  obtain ⟨f,g,d,c,os⟩:=s;obtain ⟨b,h⟩:=h
  wp_walk
  exact ⟨_,rfl,h⟩
section
variable {prog:Program} {w:World} {A:Around} {E:Value->Shared->Prop} {s:Shared}
theorem call_len_raw {d:Addr} {es:Array DictEntry} {n:Nat} {dd:Option Addr} {sl:Array (Option Value)} {Q:Value->Shared->Prop} (hd:(d == sysModules)=false) (b:s.heap.get? d=some { cls:=.type "dict",dict:=dd,data:=.dict es n,slots:=sl }) (c:(es.size:Int) < 2 ^ 63)
  (h:Q (.int (es.size:Int) (s.toks+1)) { s with toks:=s.toks+1+1 }):wpAny (model prog w) A (call (.builtin "len") [.ref d]) Q E s:=by
 have a:s.TypeIs (.ref d) "dict":=⟨_,b,rfl⟩
 refine Calls.call_function_entry kind_len plain_len entry_len (args_len1 _) ?_
 unfold Builtin.«len»
 refine aJ3 (m:=oneArg "len" _) (aJ4 ?_)
 refine aJ3 (m:=callSpecial? (.ref d) (Str.ofString "__len__")) (wpAny_callSpecial?_slot (name:=Str.ofString "__len__") a PySem.F.slot_dict_len
  (call_meets PySem.F.slot_dict_len a PySem.F.entry_dict_len (PySem.F.args_dict_len_1 _) (anj d es n dd sl hd) ⟨b,?_⟩))
 show wpAny _ _ _ _ _ { s with toks:=s.toks+1 }
 refine aJ3 (aJ9 (aJ4 ?_))
 refine aJ3 (wpAny_letGo ?_)
 show wpAny _ _ (if (es.size:Int) < 0 then _ else _) _ _ _
 rw [aF8 (by lia)]
 show wpAny _ _ (if (es.size:Int) ≥ 2 ^ 63 then _ else _) _ _ _
 rw [aF8 (by lia)]
 exact aJ3 (wpAny_mkInt (aJ4 ⟨_,rfl,h⟩))
end
end DNe
namespace L2
open PySem PySem.Spec PySem.W PyProof.Rows
def aw1:List V->Hp->VK->Prop:=fun xs H Q=>∃ a kvs,xs=[V.ref a]/\H a=some (.dT kvs)/\Q (.int kvs.length) H
theorem ats {X:Cx}:aa3 X (.builtin "len") aw1:=by
 intro pins s σ H xs us Q I r h
 obtain ⟨a,kvs,rfl,ha,q⟩:=h
 obtain ⟨u,rfl,d⟩:=abx r
 cases d
 obtain ⟨z,hd,ys,b,⟨cls,dd,data,sl⟩,es,ep,f,g,c,j,_,_⟩:=ah6 I.hok ha
 have i:cls=.type "dict":=g.1
 simp only at c
 subst i c
 have hs:es.size=kvs.length:=by
  have:=congrArg List.length j
  simp at this
  rw [this];exact (Paired.length b).symm
 refine DNe.call_len_raw hd f (by rw [sizeLine_eq] at z;lia) ?_
 rw [hs]
 exact ⟨.int kvs.length,H,(I.tok _).tok _,⟨_,rfl⟩,q⟩
end L2
namespace VL
open PySem PySem.Spec L2
section
variable {B:Bs} {env:En} {Q':PyData->En->Prop} {QO:Sl->En->Prop} {i:Nat} {ty:TE}
theorem RpT.at {G:Hp}:∀ {kvs:List (List Key × V)} {es:List (List Key × PyData)},RpT G kvs es->∀ {j:Nat} {ks:List Key} {d:PyData},es[j]?=some (ks,d)->∃ v,kvs[j]?=some (ks,v)/\Rp G v d
 | _,_,.nil,j,ks,d,e=>by simp at e
 | _,_,.cons (k:=k) (v:=v) (d:=d0) h t,0,ks,d,e=>by
  have e:(k,d0)=(ks,d):=by simpa using e
  cases e
  exact ⟨v,rfl,h⟩
 | _,_,.cons h t,j+1,ks,d,e=>by
  obtain ⟨v,a,r⟩:=RpT.at t (j:=j) (by simpa using e)
  exact ⟨v,by simpa using a,r⟩
theorem RpT.erase {G:Hp}:∀ {kvs:List (List Key × V)} {es:List (List Key × PyData)},RpT G kvs es->∀ (j:Nat),RpT G (kvs.eraseIdx j) (es.eraseIdx j)
 | _,_,.nil,_ => .nil
 | _,_,.cons _ t,0=>t
 | _,_,.cons h t,j+1 => .cons h (RpT.erase t j)
theorem av2 {es0:List (List Key × PyData)} (z:Has env i (OT es0)) (h:Ev B ty env fun y o=>∃ es ks j d,o[i]?=some (some (.own (OT es)))/\y=tkD ks/\es[j]?=some (ks,d)/\Q' d (o.set i (some (.own (OT (es.eraseIdx j)))))):Ev B (atq (tVar i) ty) env Q':=fun σ G H F Q I k=>by
 obtain ⟨v,m,a,kvs,A,ha,rt,_⟩:=I.has z
 subst A
 refine ⟨_,m,a,rfl,.inr ⟨kvs,.inl ha⟩,h σ G H F _ I fun u w H2 F2 y o p E K ⟨es,ks,j,d,g,x,D,q⟩=>?_⟩
 subst x
 obtain ⟨M,f,⟨L,l,r,n,c,hf⟩,hb⟩:=p.sl i _ g
 rw [m] at f;cases f;cases r
 cases K with
 | @tup b vs ds hk rs =>
  have:=ane rs
  subst this
  obtain ⟨s,C,J⟩:=RpT.at c D
  refine ⟨l,ks,j,s,b,n,rfl,p.gh _ _ hk,C,?_⟩
  exact k _ w _ _ _ _ (p.upd1 (A':=OT (es.eraseIdx j)) g (.inl rfl) m hf ⟨a,_,rfl,aag,RpT.erase c j,fun b=>Iff.rfl⟩) E J q
theorem a1u {es:List (List Key × PyData)} (d:Has env i (OT es)) (q:Q' (.bool (!es.isEmpty)) env):Ev B (tOp rNeE (tVar i) al7) env Q':=fun σ G H F Q I k=>by
 obtain ⟨v,c,a,kvs,f,ha,rt,_⟩:=I.has d
 subst f
 refine ⟨_,c,fun p b=>⟨a,p,kvs,rfl,rfl,by rw [aad (aai ha b)];exact ha,aag,?_⟩⟩
 have o:=Out.newDT (xs:=[]) (ds:=[]) I.gh b .nil
 have e:kvs.isEmpty=es.isEmpty:=by cases rt <;> rfl
 rw [e]
 exact k _ G _ F _ env (I.out o).1 (Same.refl _) (.bl _) q
theorem ay3 {es:List (List Key × PyData)} (c:Has env i (OT es)) (q:Q' (.int es.length) env):Ev B (tCB aw1 (aa5 (tVar i) tNil)) env Q':=fun σ G H F Q I k=>by
 obtain ⟨v,d,a,kvs,b,ha,rt,_⟩:=I.has c
 subst b
 refine ⟨_,d,a,kvs,rfl,ha,?_⟩
 rw [(RpT.len rt).1]
 exact k _ G H F _ env I (Same.refl _) (.int _) q
@[reducible] def ab7 (es:List (Key × PyData)):PyData:=.dict (es.map fun p=>(kD p.1,p.2))
theorem ay4 {a b:Key} (h:kD a=kD b):a=b:=by
 cases a <;> cases b <;> simp [kD] at h <;> rw [h]
theorem att:∀ {es fs:List (Key × PyData)},es.map (fun p=>(kD p.1,p.2))=fs.map (fun p=>(kD p.1,p.2))->es=fs
 | [],[],_=>rfl
 | [],_ :: _,h=>by simp at h
 | _ :: _,[],h=>by simp at h
 | (a,x) :: es,(b,y) :: fs,h=>by
  simp only [aD1,List.cons.injEq,Prod.mk.injEq] at h
  rw [ay4 h.1.1,h.1.2,att h.2]
theorem apv {G:Hp} {v:V} {es:List (Key × PyData)} (r:Rp G v (ab7 es)) (b:es ≠ []):∃ a kvs,v=.ref a/\G a=some (.dK kvs)/\RpK G kvs es:=by
 cases r with
 | dk h rk e=>exact ⟨_,_,rfl,h,by rw [att e];exact rk⟩
 | @dt a kvs es' ds h rt e =>
  cases es with
  | nil=>exact absurd rfl b
  | cons p es =>
   cases es' with
   | nil=>simp at e
   | cons q es' =>
    simp only [aD1,List.cons.injEq,Prod.mk.injEq] at e
    have:=e.1.1
    obtain ⟨k,x⟩:=p
    cases k <;> simp [kD] at this
theorem av3 {i:TE} (h:Ev B i env fun x j=>Ev B ty j fun y c=>∃ es k d,x=ab7 es/\es ≠ []/\y=kD k/\valD es k=some d/\Q' d c):Ev B (alj i ty) env Q':=fun σ G H F Q I C =>
 h σ G H F _ I fun v m D L x j M s K r=>r σ m D L _ M fun u z H2 F2 y c g l J E=>by
  obtain ⟨es,k,d,ex,f,A,p,q⟩:=E
  subst ex A
  obtain ⟨a,kvs,rfl,ha,n⟩:=apv (K.same l) f
  obtain ⟨w,o,b⟩:=(RpK.val n).2 d p
  have:=aiu J
  subst this
  exact ⟨a,w,rfl,.inl ⟨kvs,k,.inl (g.gh _ _ ha),rfl,o.symm⟩,C _ z H2 F2 _ c g (s.trans l) b q⟩
theorem arj {n:TE} (h:Ev B ty env fun y o=>Ev B n o fun x c=>∃ es k,x=ab7 es/\es ≠ []/\y=kD k/\Q' (.bool (!(valD es k).isSome)) c):Ev B (afj ty n) env Q':=fun σ G H F Q I m =>
 h σ G H F _ I fun v r D L y o M j K A=>A σ r D L _ M fun u l H2 F2 x c f p J E=>by
  obtain ⟨es,k,ex,g,C,q⟩:=E
  subst ex C
  obtain ⟨a,kvs,rfl,ha,i⟩:=apv J g
  have:=aiu K
  subst this
  have b:=f.gh _ _ ha
  cases hv:valD es k with
  | none =>
   rw [hv] at q
   exact ⟨a,none,rfl,.inl ⟨kvs,k,.inl b,rfl,((RpK.val i).1 hv).symm⟩,m _ l H2 F2 _ c f (j.trans p) (.bl _) q⟩
  | some d =>
   rw [hv] at q
   obtain ⟨w,s,z⟩:=(RpK.val i).2 d hv
   exact ⟨a,some w,rfl,.inl ⟨kvs,k,.inl b,rfl,s.symm⟩,m _ l H2 F2 _ c f (j.trans p) (.bl _) q⟩
end
end VL
namespace DictL
open PySem PyProof.Rows
theorem aek:entryFor table "dict.update.loop" = some Builtin.«dict.update.loop»:=entryFor_of_tree (by kernel_rfl)
theorem ab8:plainId "dict.update.loop" = true:=by decide +kernel
section
variable {prog:Program} {w:World} {A:Around} {R:Result->Shared->Prop} {I:Addr} {fp wr:List Addr} {n:Nat} {P:Nat->Value->Prop} {St:Nat->Heap->Prop} {K:Type} [DecidableEq K] {knd:KeyKind prog w K}
theorem apw {M:Model} {E:Value->Shared->Prop} {s:Shared} {t:Addr} {k v:Value} {Q:List Value->Shared->Prop} {c:Value->Sem (List Value)} (b:s.heap.IsTuple t #[k,v]) (h:Q [k,v] s):wpAny M A ((Builtin.Dict.pairItems (.ref t)).tryCatch c) Q E s:=by
 obtain ⟨⟨cls,dd,data,sl⟩,f,a,m,hd⟩:=b
 simp only at a hd
 subst a hd
 refine wpAny_tryCatch ?_
 unfold Builtin.Dict.pairItems
 obtain ⟨j,g,d,i,os⟩:=s
 wp_walk
 exact h
theorem atu (W:Walks prog w A.in1 I fp wr n P St) (S:Addr) (m:S ∉ fp) (x:Nat->K) (M val:Nat->Value) (tup:Nat->Addr) (g:Nat->List (K × Value)) (hk:∀ i,g (i+1)=stored (g i) (x i) (val i)) (hz:∀ i,i<=n->(g i).length<=sizeLine)
  (X:∀ i v,P i v->v=.ref (tup i)) (f:∀ i,i < n->tup i ≠ S/\tup i ∉ wr) (l:∀ i,i < n->knd.is (x i) (M i)=true) :
  ∀ (k i:Nat) (s:Shared),n - i=k->i<=n->St i s.heap->(∀ j,i<=j->j < n->s.heap.IsTuple (tup j) #[M j,val j])->s.heap.DictOf knd S (g i) ->
   (∀ h' B,h'.DictOf knd S (g n)->(∀ b o,b ≠ S->b ∉ wr->s.heap.get? b=some o->h'.get? b=some o)->R (.ok (.ret .none)) { s with heap:=h',toks:=B }) ->
   codeAny (model prog w) A (.builtin "dict.update.loop" ⟨[.ref S,.ref I,rawInt i,.none],[]⟩) R s:=by
 have u:S ∉ wr:=fun h=>m (W.sub _ h)
 intro k
 induction k with
 | zero =>
  intro i s F hi d O D Q
  have H:i=n:=by lia
  subst H
  refine aL0 aek ?_
  rw [aK4 ab8 _]
  show wpAny _ A.in1 (pyNext (.ref I) >>= _) _ _ s
  refine aJ3 (W.done s _ _ d fun h' B hm=>?_)
  dsimp only
  unfold Builtin.Dict.addKeywords
  refine aJ3 (aJ3 (aJ4 (aJ4 ?_)))
  refine aJ4 ?_
  exact Q h' B (by obtain ⟨o,es,ep,c,r⟩:=D;exact ⟨o,es,ep,hm S o u c,r⟩) fun b o _ hb e=>hm b o hb e
 | succ k ih =>
  intro i s F hi d O D Q
  have a:i < n:=by lia
  refine aL0 aek ?_
  rw [aK4 ab8 _]
  show wpAny _ A.in1 (pyNext (.ref I) >>= _) _ _ s
  refine aJ3 (W.item i s _ _ a d fun v h' B J q hm=>?_)
  have Z:=X i v J
  subst Z
  dsimp only
  have C:h'.IsTuple (tup i) #[M i,val i]:=by
   obtain ⟨o,c,r⟩:=O i (aA6 _) a
   exact ⟨o,hm _ o (f i a).2 c,r⟩
  have G:h'.DictOf knd S (g i):=by obtain ⟨o,es,ep,c,r⟩:=D;exact ⟨o,es,ep,hm S o u c,r⟩
  refine aJ3 (aJ9 ?_)
  refine aJ3 (apw C ?_)
  dsimp only
  refine aJ9 (wpAny_dictSet_pairs (l i a) G (fun Y T p=>?_) (hz i hi))
  have keep:∀ b o,b ≠ S->b ∉ wr->s.heap.get? b=some o->Y.get? b=some o:=fun b o b1 y e=>by rw [p.2 b b1];exact hm b o y e
  refine aJ4 ⟨plainId_quiet ab8 _,ih (i+1) _ (by lia) a ?_ ?_ (by rw [hk];exact T) ?_⟩
  ·exact W.frame _ _ _ q fun b hb o e=>by rw [p.2 b (fun z:b=S=>m (by rw [← z];exact hb))];exact e
  ·intro j j1 E
   obtain ⟨o,c,r⟩:=O j (by lia) E
   exact ⟨o,keep _ o (f j E).1 (f j E).2 c,r⟩
  ·intro h3 L N U
   exact Q h3 L N fun b o b1 y e=>U b o b1 y (keep b o b1 y e)
end
section
variable {prog:Program} {w:World} {A:Around} {E:Value->Shared->Prop} {s:Shared}
theorem a1v:typeLookup (.type "list") (Str.ofString "keys")=pure none:=by rw [typeLookup_type,builtinLookup_eq_fast];kernel_rfl
theorem apx {a:Addr} {xs:Array Value} {k:Nat} {Q:Option Value->Shared->Prop} (i:s.heap.get? a=some { cls:=.type "list",data:=.seq xs k }) (m:A.handled=none)
  (h:∀ h' j,(∀ b o,s.heap.get? b=some o->h'.get? b=some o)->Q none { s with heap:=h',toks:=j }):wpAny (model prog w) A (getAttr? (.ref a) (Str.ofString "keys")) Q E s:=by
 obtain ⟨n,g,d,j,os⟩:=s
 have l:∀ c,(⟨n,g,d,c,os⟩:Shared).TypeIs (.ref a) "list":=fun _=>⟨_,i,rfl⟩
 have f1:=sub_AttributeError
 have u:=PySem.F.slot_list_getattribute.lookup
 have v:=PySem.F.slot_list_getattribute.bind (.ref a)
 have p:=am_list_getattr_none
 unfold getAttr? getAttrBy? getAttrBy
 repeat (any_goals (first | assumption | exact l _ | ((with_reducible show wpAny _ _ (call (Value.builtin "list.__getattribute__") _ _) _ _ _);refine call_meets PySem.F.slot_list_getattribute (l _) am_entry_list_getattribute (PySem.F.args_list_getattribute_2 _ _) (meets_getattribute_miss_list a xs k #[] (Str.ofString "keys") _ a1v (by decide +kernel) (by size_fits)) ⟨i,m,fun h' c e f=>?_⟩) | wp_step))
 obtain ⟨t',q,r⟩:=f.there
 show wpAny _ _ (getattributeRaised _ _ _ _ _ _ _) _ _ _
 unfold getattributeRaised
 repeat (any_goals (first | assumption | wp_step))
 exact h _ _ f.keeps
end
section
variable {prog:Program} {w:World} {A:Around} {E:Value->Shared->Prop} {s:Shared} {K:Type} [DecidableEq K] {knd:KeyKind prog w K}
theorem call_dict_list {l:Addr} {items:Array Value} {nl:Nat} {Q:Value->Shared->Prop} (f:Nat->K) (H val:Nat->Value) (tup:Nat->Addr) (n:Nat->List (K × Value)) (R:n 0=[]) (S:∀ i,n (i+1)=stored (n i) (f i) (val i)) (hz:∀ i,i<=items.size->(n i).length<=sizeLine)
  (hh:A.handled=none) (y:s.heap.get? l=some { cls:=.type "list",data:=.seq items nl }) (O:∀ i v,items[i]?=some v->v=Value.ref (tup i)) (N:∀ j,j < items.size->s.heap.IsTuple (tup j) #[H j,val j]) (q:∀ i,i < items.size->knd.is (f i) (H i)=true)
  (h:∀ (h':Heap) (I:Nat),h'.DictOf knd s.heap.objs.size (n items.size)->(∀ b o,s.heap.get? b=some o->h'.get? b=some o)->Q (.ref s.heap.objs.size) { s with heap:=h',toks:=I }) :
  wpAny (model prog w) A (call (.type "dict") [.ref l]) Q E s:=by
 refine callType_codes (Q₁:=fun obj a=>obj=.ref s.heap.objs.size/\a={ s with heap:=s.heap.push { cls:=.type "dict",data:=.dict #[] } }) F.kt_called_dict (F.kt_typeCall_dict_1 _) F.entry_dict_init (kt_code_dict_new (.ref l) ⟨rfl,rfl⟩) fun obj a C=>?_
 obtain ⟨rfl,rfl⟩:=C
 have M:(s.heap.push { cls:=.type "dict",data:=.dict #[] }).get? s.heap.objs.size=some { cls:=.type "dict",data:=.dict #[] }:=aJ7 _ rfl
 refine ⟨⟨_,M,rfl⟩,F.args_dict_init_2 _ _,?_⟩
 have c:(s.heap.push { cls:=.type "dict",data:=.dict #[] }).get? l=some { cls:=.type "list",data:=.seq items nl }:=aJ5 _ y
 have U:(Value.type "list" == Value.type "dict")=false:=by decide
 unfold Builtin.«dict.__init__» Builtin.Dict.updateCommon Builtin.Dict.updateFrom
 obtain ⟨p,g,d,I,os⟩:=s
 dsimp only at *
 generalize hPI:pyIter=PI
 generalize hGA:getAttr?=GA
 wp_walk
 subst hGA hPI
 refine apx (s:={ heap:=p.push { cls:=.type "dict",data:=.dict #[] },gens:=g,drawn:=d,toks:=I,os:=os }) c hh fun m G k1=>?_
 rw [aF7 (show (none:Option Value).isNone=true from rfl)]
 refine aJ3 (wpAny_rule ?_)
 have z:m.IsList l items:=⟨_,k1 _ _ c,rfl,nl,rfl⟩
 have u:l < p.objs.size:=aJ6 y
 have x:=k1 _ _ M
 have hsz:p.objs.size < m.objs.size:=aJ6 x
 refine aJ3 (aK8 (s:={ heap:=m,gens:=g,drawn:=d,toks:=G,os:=os }) z ?_)
 refine aJ4 ⟨plainId_quiet ab8 _,?_⟩
 have B:l ≠ m.objs.size:=aB6 (Nat.lt_trans u hsz)
 have D:p.objs.size ∉ [m.objs.size,l]:=by
  simp only [aA9,aI6,or_false,not_or]
  exact ⟨aB6 hsz,Nat.ne_of_gt u⟩
 have tl:∀ j,j < items.size->tup j < p.objs.size:=fun j J=>let ⟨_,e,_⟩:=N j J;aJ6 e
 refine atu (A:=A.in1) (knd:=knd) (Walks.list (A:=A.in1.in1) hh m.objs.size l B items) p.objs.size D f H val tup n S hz O (fun i hi=>⟨aB6 (tl i hi),by simp only [aC2];exact aB6 (Nat.lt_trans (tl i hi) hsz)⟩) q (items.size - 0) 0 _ (by lia) (aG2 _)
  ⟨⟨_,aJ7 _ rfl,rfl,rfl⟩,z.push _⟩ (fun j _ J=>?_) ?_ fun h' L P kp=>?_
 ·obtain ⟨o,e,r⟩:=N j J
  exact ⟨o,aJ5 _ (k1 _ _ (aJ5 _ e)),r⟩
 ·rw [R]
  exact ⟨_,#[],0,aJ5 _ x,⟨rfl,rfl,rfl⟩,rfl,fun e T=>by simp at T,.nil,List.nodup_nil⟩
 ·refine ⟨rfl,h h' L P fun b o e=>kp b o (aB6 (aJ6 e)) (by simp only [aC2];exact aB6 (Nat.lt_trans (aJ6 e) hsz)) (aJ5 _ (k1 _ _ (aJ5 _ e)))⟩
end
end DictL
namespace L2
open PySem PySem.W PyProof.Rows
def dkOf:List (Int × V)->List (Key × V):=fun kvs=>kvs.map fun p=>(.inl p.1,p.2)
def atv:List V->Hp->VK->Prop:=fun xs H Q=>∃ (a:Addr) (ts:List Addr) (kvs:List (Int × V)),xs=[.ref a]/\H a=some (.lst (ts.map V.ref))/\ts.length=kvs.length/\kvs.length < 4000/\(kvs.map (·.1)).Nodup /\
 (∀ (i:Nat) t kv,ts[i]?=some t->kvs[i]?=some kv->H t=some (.tup [.int kv.1,kv.2]))/\∀ p,H p=none->Q (.ref p) (upd H p (.dK (dkOf kvs)))
section
variable {K:Type} [DecidableEq K]
def kfOf (key:Nat->K) (val:Nat->Value):Nat->List (K × Value)
 | 0=>[]
 | i+1=>stored (kfOf key val i) (key i) (val i)
theorem ank (a:Nat->K) (val:Nat->Value):∀ i,(kfOf a val i).length<=i
 | 0=>aA6 _
 | i+1=>aD0 (stored_length_le _ _ _) (Nat.succ_le_succ (ank a val i))
theorem anl {kvs:List (K × Value)} {k:K} (h:∀ p∈kvs,p.1 ≠ k):valueAt kvs k=none:=by
 unfold valueAt
 rw [Option.map_eq_none_iff,List.find?_eq_none]
 intro p a e
 exact h p a (by simpa using e)
theorem apy (a:Nat->K) (val:Nat->Value):∀ n,(∀ i j,i < n->j < n->i ≠ j->a i ≠ a j)->kfOf a val n=(List.range n).map fun i=>(a i,val i)
 | 0,_=>rfl
 | n+1,h=>by
  have b:=apy a val n fun i j hi d=>h i j (by lia) (by lia)
  show stored (kfOf a val n) (a n) (val n)=_
  rw [b,stored_absent,List.range_succ,aE5]
  ·rfl
  ·refine anl fun p c=>?_
   obtain ⟨i,hi,rfl⟩:=aB7.mp c
   have:=aB9.mp hi
   exact h i n (by lia) (by lia) (by lia)
end
theorem atw {k:Nat->Key} {g:Nat->V} {g':Nat->Value}:∀ {l:List Nat},(∀ i∈l,RelV (g i) (g' i))->KV (l.map fun i=>(k i,g i)) (l.map fun i=>(k i,g' i))
 | [],_ => .nil
 | i :: l,h => .cons ⟨rfl,h i aB8⟩ (atw fun j a=>h j (aB5 _ a))
section
variable {X:Cx}
theorem ark (J:X.calm=true):aa3 X (.type "dict") atv:=by
 intro pins s σ H xs us Q I r h
 obtain ⟨a,b,kvs,rfl,ha,R,S,hn,P,q⟩:=h
 obtain ⟨u,rfl,n⟩:=abx r
 cases n
 obtain ⟨hz,its,nl,G,e⟩:=(show ObjOk X.prog X.w H s.heap a (.lst (b.map V.ref)) from I.hok a _ ha)
 have c:its.length=b.length:=by have:=G.length;rw [aA3] at this;lia
 have A:∀ i:Nat,∃ p:Value × Value,i < b.length->s.heap.IsTuple (b.getD i 0) #[p.1,p.2]/\(∃ t,p.1=.int ((kvs.getD i (0,.non)).1) t)/\RelV (kvs.getD i (0,.non)).2 p.2:=fun i=>by
  by_cases hi:i < b.length
  ·have z:b[i]?=some (b.getD i 0):=by rw [aD4,aA0 hi];rfl
   have K:kvs[i]?=some (kvs.getD i (0,.non)):=by rw [aD4,aA0 (by lia)];rfl
   obtain ⟨_,L,l,p2⟩:=(show ObjOk X.prog X.w H s.heap _ (.tup _) from I.hok _ _ (P i _ _ z K))
   cases l with
   | cons r1 l =>
    cases l with
    | cons l r3 =>
     cases r3
     exact ⟨(_,_),fun _=>⟨p2,r1,l⟩⟩
  ·exact ⟨(.none,.none),fun h=>absurd h hi⟩
 obtain ⟨f,hf⟩:=Classical.skolem.mp A
 have C:∀ i j,i < b.length->j < b.length->i ≠ j->(Sum.inl (kvs.getD i (0,.non)).1:Key) ≠ Sum.inl (kvs.getD j (0,.non)).1:=fun i j hi F x e=>by
  have e:=Sum.inl.inj e
  have g:=aG9.mp hn
  rw [aD4,aD4,aA0 (show i < kvs.length by lia),aA0 (show j < kvs.length by lia)] at e
  rcases Nat.lt_or_gt_of_ne x with d | d
  ·exact g i j (by rw [aA3];lia) (by rw [aA3];lia) d (by simpa using e)
  ·exact g j i (by rw [aA3];lia) (by rw [aA3];lia) d (by simpa using e.symm)
 refine DictL.call_dict_list (knd:=aa6 X.prog X.w) (items:=its.toArray) (nl:=nl) (fun i => .inl (kvs.getD i (0,.non)).1) (fun i=>(f i).1) (fun i=>(f i).2) (fun i=>b.getD i 0) (kfOf (fun i => .inl (kvs.getD i (0,.non)).1) fun i=>(f i).2) rfl (fun i=>rfl) (fun i hi=>aD0 (ank _ _ i) (aD0 hi (by rw [sizeLine_eq];simp;lia)))
  (I.ok.hd J) e (fun i v m=>?_) (fun j F=>(hf j (by simpa [c] using F)).1) (fun i hi=>?_) fun h' M D kp=>?_
 ·have m:its[i]?=some v:=by simpa using m
  have hi:=(aA1.mp m).1
  have z:(b.map V.ref)[i]?=some (.ref (b.getD i 0)):=by rw [aA5,aD4,aA0 (by lia)];rfl
  obtain ⟨u,E,n⟩:=G.get z
  rw [m] at E
  cases E
  exact n
 ·obtain ⟨_,⟨t,O⟩,_⟩:=hf i (by simpa [c] using hi)
  rw [O]
  exact ahf _ _ _ _
 ·have y:h'.DictOf (aa6 X.prog X.w) s.heap.objs.size ((List.range b.length).map fun i=>(Sum.inl (kvs.getD i (0,.non)).1,(f i).2)):=by
   rw [show its.toArray.size=b.length by simp [c],apy _ _ _ C] at D
   exact D
  have B:KV (dkOf kvs) ((List.range b.length).map fun i=>((Sum.inl (kvs.getD i (0,.non)).1:Key),(f i).2)):=by
   have N:dkOf kvs=(List.range b.length).map fun i=>((Sum.inl (kvs.getD i (0,.non)).1:Key),(kvs.getD i (0,.non)).2):=by
    refine aG4 fun i=>?_
    unfold dkOf
    rw [aA5,aA5]
    by_cases hi:i < b.length
    ·rw [aD9 hi,aA0 (show i < kvs.length by lia),aI4,aI4,aD4,aA0 (show i < kvs.length by lia)]
     rfl
    ·rw [aE3 (show kvs.length<=i by lia),aE3 (show (List.range b.length).length<=i by rw [aE1];lia)]
     rfl
   rw [N]
   exact atw fun i hi=>(hf i (aB9.mp hi)).2.2
  refine ⟨.ref s.heap.objs.size,_,I.laid (t':=M) (o:=.dK (dkOf kvs)) kp (aA6 _) ?_,rfl,q _ (I.hok.fresh (aA6 _))⟩
  refine ⟨by unfold dkOf;rw [aA3,sizeLine_eq];lia,beq_eq_false_iff_ne.mpr (Ne.symm (aB6 I.big)),_,B,y⟩
end
end L2
namespace VL
open PySem PySem.Spec L2
def kvI {α:Type}:Nat->List α->List (Int × α)
 | _,[]=>[]
 | k,x :: xs=>((k:Int),x) :: kvI (k+1) xs
theorem apz {α:Type}:∀ (k:Nat) (xs:List α),(kvI k xs).length=xs.length
 | _,[]=>rfl
 | k,_ :: xs=>by rw [kvI,aE6,aE6,apz]
theorem ap0 {α:Type}:∀ (k:Nat) (xs:List α) (i:Nat),(kvI k xs)[i]?=xs[i]?.map fun x=>(((k+i:Nat):Int),x)
 | _,[],i=>by simp [kvI]
 | k,x :: xs,0=>by simp [kvI]
 | k,x :: xs,i+1=>by
  rw [kvI,aI3,aI3,ap0 (k+1) xs i,show k+1+i=k+(i+1) by lia]
theorem akq {α:Type}:∀ (k:Nat) (xs:List α),((kvI k xs).map (·.1)).Nodup/\∀ p∈kvI k xs,(k:Int)<=p.1
 | _,[]=>⟨List.nodup_nil,fun p a=>by simp [kvI] at a⟩
 | k,x :: xs=>by
  obtain ⟨c,b⟩:=akq (k+1) xs
  refine ⟨?_,fun p a=>?_⟩
  ·rw [kvI,aD1,aI7]
   refine ⟨fun hm=>?_,c⟩
   obtain ⟨p,a,e⟩:=aB7.mp hm
   have:=b p a
   simp only at e
   lia
  ·rw [kvI] at a
   rcases aA9.mp a with rfl | a
   ·exact Int.le_refl _
   ·have:=b p a;lia
theorem ap1:∀ (k:Nat) (xs:List V) (i:Nat),valV (dkOf (kvI k xs)) (.inl ((k+i:Nat):Int))=xs[i]?
 | _,[],i=>rfl
 | k,x :: xs,0=>by
  rw [kvI]
  exact afu (p:=(Sum.inl (k:Int),x)) rfl
 | k,x :: xs,i+1=>by
  have e:¬ ((Sum.inl (k:Int):Key)=Sum.inl ((k+(i+1):Nat):Int)):=fun e=>by have:=Sum.inl.inj e;lia
  rw [kvI]
  show valV ((Sum.inl (k:Int),x) :: dkOf (kvI (k+1) xs)) _=_
  rw [afv (p:=(Sum.inl (k:Int),x)) e,aI3,← ap1 (k+1) xs i,show k+1+i=k+(i+1) by lia]
@[reducible] def kvD (ds:List PyData):List (Key × PyData):=(kvI 0 ds).map fun p=>(.inl p.1,p.2)
theorem anm:∀ (k:Nat) (xs:List PyData) (i:Nat),valD ((kvI k xs).map fun p=>((.inl p.1:Key),p.2)) (.inl ((k+i:Nat):Int))=xs[i]?
 | _,[],i=>rfl
 | k,x :: xs,0=>by simp [kvI,valD]
 | k,x :: xs,i+1=>by
  have e:¬ ((k:Int)=((k+(i+1):Nat):Int)):=fun e=>by lia
  rw [kvI,aI3,← anm (k+1) xs i,show k+1+i=k+(i+1) by lia]
  simp only [valD,aD1,List.find?_cons]
  rw [aD7 (fun z:(Sum.inl (k:Int):Key)=Sum.inl ((k+(i+1):Nat):Int)=>e (Sum.inl.inj z))]
theorem ay5 {xs:List PyData} {i:Int} {d:PyData} (a:0<=i) (h:xs[i.toNat]?=some d):valD (kvD xs) (.inl i)=some d:=by
 have:=anm 0 xs i.toNat
 rw [show ((0+i.toNat:Nat):Int)=i by lia] at this
 exact this.trans h
theorem a1w {xs:List PyData} (h:xs ≠ []):kvD xs ≠ []:=by
 cases xs with
 | nil=>exact absurd rfl h
 | cons x xs=>exact List.cons_ne_nil _ _
def ODL (dss:List (List PyData)):Own where
 P:=fun G H v F=>∃ (a:Addr) (as:List Addr),v=.ref a/\H a=some (.dK (dkOf (kvI 0 (as.map V.ref))))/\as.Nodup/\a ∉ as/\as.length=dss.length/\(∀ (i:Nat) b ds,as[i]?=some b->dss[i]?=some ds->∃ vs,H b=some (.lst vs)/\Rps G vs ds)/\∀ b,F b ↔ b=a\/b∈as
 mono:=fun ⟨a,as,e,h,n1,n2,l,r,f⟩ g hh=>⟨a,as,e,hh a _ ((f a).mpr (.inl rfl)) h,n1,n2,l,fun i b ds hb hd=>by
  obtain ⟨vs,h1,h2⟩:=r i b ds hb hd
  exact ⟨vs,hh b _ ((f b).mpr (.inr (aA2 hb))) h1,h2.same g⟩,f⟩
 dom:=fun ⟨a,as,e,h,n1,n2,l,r,f⟩ b z=>by
  rcases (f b).mp z with rfl | z
  ·exact ⟨_,h⟩
  ·obtain ⟨i,hi,e⟩:=aH8.mp z
   have hb:as[i]?=some b:=by rw [aA0 hi,e]
   obtain ⟨vs,h1,_⟩:=r i b _ hb (aA0 (by rw [← l];exact hi))
   exact ⟨_,h1⟩
theorem atx {G:Hp}:∀ (k:Nat) {vs:List V} {ds:List PyData},vs.length=ds.length->(∀ (i:Nat) v d,vs[i]?=some v->ds[i]?=some d->Rp G v d)->RpK G (dkOf (kvI k vs)) ((kvI k ds).map fun p=>(.inl p.1,p.2))
 | _,[],[],_,_ => .nil
 | _,[],_ :: _,h,_=>by simp at h
 | _,_ :: _,[],h,_=>by simp at h
 | k,v :: vs,d :: ds,h,q => .cons (q 0 v d rfl rfl) (atx (k+1) (by simpa using h) fun i v d b a=>q (i+1) v d (by simpa using b) (by simpa using a))
theorem ay6 {c:List (List PyData)}:Frz (ODL c) (ab7 (kvD (c.map .list))):=fun G H v F ⟨a,as,e,h,q,p,l,r,f⟩ n g=>by
 subst e
 refine .dk (by rw [aei ((f a).mpr (.inl rfl))];exact h) (atx 0 (by simp [l]) fun i u d j hd=>?_) rfl
 rw [aA5] at j hd
 cases hb:as[i]? with
 | none=>rw [hb] at j;cases j
 | some b =>
  cases hds:c[i]? with
  | none=>rw [hds] at hd;cases hd
  | some ds =>
   rw [hb] at j;rw [hds] at hd
   cases j;cases hd
   obtain ⟨vs,m,o⟩:=r i b ds hb hds
   exact .lst (by rw [aei ((f b).mpr (.inr (aA2 hb)))];exact m) (o.same (abv n))
section
variable {B:Bs} {env:En} {QO:Sl->En->Prop} {Q':PyData->En->Prop} {D':VEnds} {K:Frag} {i:Nat}
theorem aty {src:List (Option Nat)} {wi:TI} (h:EvI B wi env fun ds e1=>∃ n:Nat,ds=rngD 0 n/\n<=3000/\QO (.own (ODL (List.replicate n []))) e1) :
  EvO B (tCB atv (aa5 (tLC (none :: src) wi (aa4 0) tYes (tTup (aa5 (tVar 0) (aa5 (tLst tNil) tNil)))) tNil)) env QO:=fun σ G H F Q I k=>by
 refine h σ G H F _ I fun J G1 U F1 ds e1 X g1 it ⟨N,ed,a7,q⟩ d r=>?_
 subst ed
 have hL:(rngD 0 N).length=N:=ada
 let W:Nat->List V->St->Hp->Prop:=fun n ys σI H=>∃ (K as:List Addr) (s:Hp),ys=K.map V.ref/\K.length=n/\as.length=n/\as.Nodup/\d ∉ as/\0 < σI.length /\
  (∀ (i:Nat) t b,K[i]?=some t->as[i]?=some b->H t=some (.tup [.int (i:Int),.ref b]))/\(∀ t∈K,U t=none/\t ≠ d/\t ∉ as) /\
  (∀ b∈as,U b=none/\s b=none/\H b=some (.lst []))/\H d=some (.lst ys)/\s d=none/\Same G1 s/\Same s H/\Same U H/\(∀ a o,s a=some o->G1 a=some o\/U a=none)/\FT s H
 refine ⟨fun n m ys σI H=>m=N - n/\n<=N/\W n ys σI H,⟨N,by simp,aG2 _,[],[],G1,rfl,rfl,rfl,List.nodup_nil,by simp,by simp [pick],fun i t b h=>by simp at h,fun t C=>by simp at C,fun b hb=>by simp at hb,aag,X.no_g r,Same.refl _,X.gh.trans (abg r),abg r,fun a o e => .inl e,fun a ks e=>?_⟩,?_⟩
 ·by_cases z:a=d
  ·subst z;rw [aag] at e;cases e
  ·rw [aad z] at e;exact X.ft a ks e
 rintro n m ys σI H2 ⟨rfl,hn,K,as,s,rfl,hl,L,nd,na,Z,E,a0,all,l,ga,T,M,A,a2,P⟩
 refine ⟨l,?_⟩
 by_cases hlt:n < N
 ·refine .inr ⟨it.go n s H2 T M (by lia),fun Y a1 H'=>W (n+1) Y a1 H',fun Y a1 H' hw=>⟨N - (n+1),by lia,rfl,hlt,hw⟩,fun x H3 y=>?_⟩
  obtain ⟨G3,o⟩:=it.yld n s H2 x H3 (.int (0+(n:Int))) T M P (by unfold rngD;rw [aA5,aD9 hlt];rfl) y
  have rx:=o.ok.1
  cases rx
  refine ag0 (aic (aco (ass (afm (amd (v:=.int (0+(n:Int))) (by rw [aD2,aF7 rfl,aF7 Z]) (afm (ast (aes ⟨by decide,fun p g=>aes ⟨show (2:Nat)<=sizeLine by rw [sizeLine_eq];decide,fun t C=>?_⟩⟩))))))))
  have n2:H2 p=none:=aa2 o.hh g
  have n1:U p=none:=aa2 A n2
  have tp:t ≠ p:=fun e=>by rw [e,aag] at C;cases C
  rw [aad tp] at C
  have t2:H2 t=none:=aa2 o.hh C
  have t1:U t=none:=aa2 A t2
  have pa:p ≠ d:=(aai (o.hh _ _ l) g).symm
  have ta:t ≠ d:=(aai (o.hh _ _ l) C).symm
  have a3:p ∉ as:=fun z=>by
   have:=o.hh _ _ (all p z).2.2
   rw [this] at g;cases g
  have a4:t ∉ as:=fun z=>by
   have:=o.hh _ _ (all t z).2.2
   rw [this] at C;cases C
  have old:∀ a u,H2 a=some u->a ≠ d->upd (upd (upd H3 p (.lst [])) t (.tup [.int (0+(n:Int)),.ref p])) d (.lst (K.map V.ref ++ [.ref t])) a=some u:=fun a u e aa=>by
   have e3:=o.hh _ _ e
   rw [aad aa,aad (aai e3 C),aad (aai e3 g)]
   exact e3
  have a6:∀ c∈K,∃ u,H2 c=some u:=fun c f=>by
   obtain ⟨i,hi,e⟩:=aH8.mp f
   have S:K[i]?=some c:=by rw [aA0 hi,e]
   exact ⟨_,E i c _ S (aA0 (by lia))⟩
  refine ⟨by rw [aad ta.symm,aad pa.symm];exact o.hh _ _ l,by rw [aA3,hl];exact big (by lia),K ++ [t],as ++ [p],G3,by simp,by simp [hl],by simp [L],?_,?_,by rw [List.length_set];exact Z,fun i c b f hb=>?_,fun c f=>?_,fun b hb=>?_,aag,?_,T.trans o.gg,fun a u e=>?_,fun a u e=>?_,fun a u e=>?_,fun a ks e=>?_⟩
  ·rw [aE9]
   exact ⟨nd,by simp,fun x hx y hy=>by simp at hy;subst hy;intro e;subst e;exact a3 hx⟩
  ·intro z
   rcases aA7.mp z with z | z
   ·exact na z
   ·exact pa (aC2.mp z).symm
  ·by_cases hi:i < n
   ·rw [aC3 (by lia)] at f hb
    have R:=E i c b f hb
    exact old c _ R (a0 c (aA2 f)).2.1
   ·have a5:i=n:=by
     have:=(aA1.mp f).1
     simp at this
     lia
    subst a5
    rw [aC8 (by lia),hl,aI9] at f
    rw [aC8 (by lia),L,aI9] at hb
    cases f
    cases hb
    rw [aad ta,aag,Int.zero_add]
  ·rcases aA7.mp f with f | f
   ·obtain ⟨S,R,h3⟩:=a0 c f
    refine ⟨S,R,fun z=>?_⟩
    rcases aA7.mp z with z | z
    ·exact h3 z
    ·have e:=aC2.mp z
     subst e
     obtain ⟨u,e⟩:=a6 c f
     rw [e] at n2;cases n2
   ·have e:=aC2.mp f
    subst e
    refine ⟨t1,ta,fun z=>?_⟩
    rcases aA7.mp z with z | z
    ·exact a4 z
    ·exact tp (aC2.mp z)
  ·have gb:∀ b,s b=none->(∃ u,H2 b=some u)->G3 b=none:=fun b S z_=>by
    obtain ⟨u,R⟩:=z_
    cases e:G3 b with
    | none=>rfl
    | some w =>
     rcases o.gn b w e with e | e
     ·rw [S] at e;cases e
     ·rw [R] at e;cases e
   rcases aA7.mp hb with hb | hb
   ·obtain ⟨S,R,h3⟩:=all b hb
    exact ⟨S,gb b R ⟨_,h3⟩,old b _ h3 (fun z:b=d=>na (by rw [← z];exact hb))⟩
   ·have e:b=p:=by simpa using hb
    subst e
    exact ⟨n1,aa2 o.gh g,by rw [aad pa,aad tp.symm,aag]⟩
  ·cases e:G3 d with
   | none=>rfl
   | some w =>
    rcases o.gn d w e with e | e
    ·rw [ga] at e;cases e
    ·rw [l] at e;cases e
  ·have ap:a ≠ p:=aai (o.gh a u e) g
   have at':a ≠ t:=aai (o.gh a u e) C
   have aa:a ≠ d:=by
    rintro rfl
    rcases o.gn _ u e with e | e
    ·rw [ga] at e;cases e
    ·rw [l] at e;cases e
   rw [aad aa,aad at',aad ap];exact o.gh a u e
  ·exact old a u (A a u e) (aai e r)
  ·rcases o.gn a u e with e | e
   ·exact a2 a u e
   ·exact .inr (aa2 A e)
  ·by_cases z:a=d
   ·subst z;rw [aag] at e;cases e
   ·rw [aad z] at e
    by_cases y:a=t
    ·subst y
     rw [aag] at e
     exfalso
     have e:=HO.tup.inj (aC6 e)
     match ks,e with
     | [],e=>simp at e
     | [_],e=>simp at e
     | [_,.inl _],e=>simp [kV] at e
     | [_,.inr _],e=>simp [kV] at e
     | _ :: _ :: _ :: _,e=>simp at e
    ·rw [aad y] at e
     by_cases y:a=p
     ·subst y;rw [aag] at e;cases e
     ·rw [aad y] at e;exact o.ft P a ks e
 ·have e:n=N:=by lia
  subst e
  refine .inl ⟨it.stop _ s H2 T M hL.symm,?_⟩
  have O:=X.grow T M A a2 P
  have ke:(kvI 0 (as.map V.ref)).length=n:=by rw [apz,aA3];exact L
  refine aes ⟨d,K,kvI 0 (as.map V.ref),rfl,l,by lia,by lia,(akq 0 _).1,fun i c kv f D=>?_,fun p g=>?_⟩
  ·rw [ap0,aA5] at D
   cases hb:as[i]? with
   | none=>rw [hb] at D;cases D
   | some b =>
    rw [hb] at D
    cases D
    rw [Nat.zero_add]
    exact E i c b f hb
  ·have J:=O.aside (p:=p) (o:=.dK (dkOf (kvI 0 (as.map V.ref)))) (fun _ z=>nomatch z) (O.no_g g) (fun j z=>O.no_f g j z) (O.no_b g)
   have pn:p ∉ as:=fun z=>by have:=(all p z).2.2;rw [this] at g;cases g
   refine k (.ref p) s _ F1 (fun b=>b=p\/b∈as) (.own (ODL (List.replicate n []))) e1 J (g1.trans T) ⟨⟨p,as,rfl,aag,nd,pn,by simp [L],fun i b a8 hb hd=>?_,fun b=>Iff.rfl⟩,fun b z=>?_,fun b z=>?_,fun b z=>?_,fun j b z y=>?_⟩ q
   ·rw [aH9] at hd
    split at hd
    ·cases hd
     have hm:=aA2 hb
     exact ⟨[],by rw [aad (fun z:b=p=>pn (z ▸ hm))];exact (all b hm).2.2,.nil⟩
    ·cases hd
   ·rcases z with rfl | z
    ·exact O.no_b g
    ·exact X.no_b (all b z).1
   ·rcases z with rfl | z
    ·exact O.no_g g
    ·exact (all b z).2.1
   ·rcases z with rfl | z
    ·exact ⟨_,aag⟩
    ·exact ⟨_,by rw [aad (fun e:b=p=>pn (e ▸ z))];exact (all b z).2.2⟩
   ·rcases z with rfl | z
    ·exact O.no_f g j y
    ·exact X.no_f (all b z).1 j y
theorem aiz {d:List (List PyData)} {l j n:Nat} {k:Int} {y:PyData} {ds:List PyData} (e:env[i]?=some (some (.own (ODL d)))) (W:env[l]?=some (some (.st (.int k)))) (T:env[j]?=some (some (.st y)))
  (hk:(n:Int)=k) (hd:d[n]?=some ds) (hl:ds.length<=999999) (q:Q' .none (env.set i (some (.own (ODL (d.set n (ds ++ [y]))))))):Ev B (tBM K "list" ael (alj (tVar i) (tVar l)) (aa5 (tVar j) tNil)) env Q':=fun σ G H F Q I U=>by
 obtain ⟨v,E,⟨a,as,rfl,h,O,N,ln,r,f⟩,_⟩:=I.sl i _ e
 obtain ⟨vk,C,P,_⟩:=I.sl l _ W
 obtain ⟨R,x,X,_⟩:=I.sl j _ T
 cases P
 have hn:n < d.length:=(aA1.mp hd).1
 have hb:as[n]?=some (as[n]'(by lia)):=aA0 _
 generalize as[n]'(by lia)=b at hb
 have s:b∈as:=aA2 hb
 obtain ⟨vs,L,M⟩:=r n b ds hb hd
 have u:valV (dkOf (kvI 0 (as.map V.ref))) (.inl k)=some (.ref b):=by
  have:=ap1 0 (as.map V.ref) n
  rw [Nat.zero_add,hk,aA5,hb] at this
  exact this
 refine ⟨_,E,_,C,a,.ref b,rfl,.inl ⟨_,.inl k,.inl h,rfl,u.symm⟩,.inl ⟨rfl,_,SqL.of L⟩,_,x,ae4 L (by rw [M.length];exact big (by lia)) ?_⟩
 have D:a ≠ b:=fun z=>N (z ▸ s)
 have J:=I.change (A:=ODL (d.set n (ds ++ [y]))) (H2:=upd H b (.lst (vs ++ [R]))) (F2:=F i) (os':=.own (ODL (d.set n (ds ++ [y])))) i e E (fun c o p w=>by rw [aad (fun z:c=b=>p ((f c).mpr (.inr (by rw [z];exact s))))];exact w)
  (fun c o w=>by
   by_cases z:c=b
   ·rw [z];exact ⟨_,aag⟩
   ·rw [aad z];exact ⟨o,w⟩)
  (fun c z=>⟨.inl z,by
   by_cases y:c=b
   ·rw [y];exact ⟨_,aag⟩
   ·rw [aad y];exact I.fo i c z⟩) ?_ (fun c ks e=>by
   by_cases z:c=b
   ·subst z;rw [aag] at e;cases e
   ·rw [aad z] at e;exact I.ft c ks e) (.inl ⟨rfl,_,rfl⟩)
 ·exact U _ G _ _ _ _ J (Same.refl _) .non q
 ·refine ⟨a,as,rfl,by rw [aad D];exact h,O,N,by simp [ln],fun m c es p g=>?_,f⟩
  by_cases hm:m=n
  ·subst hm
   rw [hb] at p;cases p
   rw [aD2,aF7 rfl,aF7 hn] at g
   cases g
   exact ⟨_,aag,M.append (.cons X .nil)⟩
  ·rw [aD2,aF8 (fun z=>hm z.symm)] at g
   obtain ⟨us,h3,h4⟩:=r m c es p g
   refine ⟨us,?_,h4⟩
   rw [aad]
   ·exact h3
   ·rintro rfl
    have i1:=(aA1.mp hb)
    have i2:=(aA1.mp p)
    obtain ⟨Y,Z⟩:=i1
    obtain ⟨l2,S⟩:=i2
    exact hm (nodup_ix O l2 Y (S.trans Z.symm))
end
section
variable {B:Bs} {env:En} {QO:Sl->En->Prop} {Q':PyData->En->Prop} {K:Frag} {i:Nat}
end
section
variable {B:Bs} {env:En} {QO:Sl->En->Prop} {Q':PyData->En->Prop} {K:Frag} {i:Nat}
theorem av4 {y j:TE} (h:Ev B y env fun d r=>EvO B j r fun s g=>∃ ds,s=.own (OL ds)/\QO (.own (OW d ds)) g):EvO B (tTup (aa5 y (aa5 j tNil))) env QO:=fun σ G H F Q I k =>
 h σ G H F _ I fun v A E M d r N C L D=>D σ A E M _ N fun w n H2 F2 Fv s g c u x K=>by
  obtain ⟨ds,es,q⟩:=K
  subst es
  obtain ⟨l,vs,rfl,i,rs,hf⟩:=x.ok
  refine ⟨show (2:Nat)<=sizeLine by rw [sizeLine_eq];decide,fun p f=>?_⟩
  have pl:p ≠ l:=(aai i f).symm
  have J:VI B n (upd H2 p (.tup [v,.ref l])) σ g F2:=c.grow (Same.refl _) (c.gh.trans (abg f)) (abg f) (fun a o e => .inl e) fun a ks e=>by
   by_cases z:a=p
   ·subst z;rw [aag] at e;exact absurd (aC6 e) avx
   ·rw [aad z] at e;exact c.ft a ks e
  refine k _ n _ _ (fun a=>a=p\/a=l) (.own (OW d ds)) _ J (C.trans u) ⟨⟨p,l,v,vs,rfl,aag,L.same u,by rw [aad pl.symm];exact i,rs,fun b=>Iff.rfl⟩,fun a z=>?_,fun a z=>?_,fun a z=>?_,fun m a z=>?_⟩ q
  ·rcases z with rfl | rfl
   ·exact c.no_b f
   ·exact x.fb a ((hf a).mpr rfl)
  ·rcases z with rfl | rfl
   ·exact c.no_g f
   ·exact x.fg a ((hf a).mpr rfl)
  ·rcases z with rfl | rfl
   ·exact ⟨_,aag⟩
   ·exact ⟨_,by rw [aad pl.symm];exact i⟩
  ·rcases z with rfl | rfl
   ·exact c.no_f f m
   ·exact x.fd m a ((hf a).mpr rfl)
end
end VL
namespace L2
open PySem PySem.W PyProof.Rows
section
variable {X:Cx}
end
end L2
namespace VL
open PySem PySem.Spec L2
section
variable {B:Bs} {env:En} {Q':PyData->En->Prop} {R:Sl->Prop} {td:TE}
end
end VL
namespace DictL
open PySem PyProof.Rows
section
variable {prog:Program} {w:World} {A:Around} {R:Result->Shared->Prop} {I:Addr} {fp wr:List Addr} {n:Nat} {P:Nat->Value->Prop} {St:Nat->Heap->Prop} {K:Type} [DecidableEq K] {knd:HeapKind prog w K}
theorem arl (W:Walks prog w A.in1 I fp wr n P St) (S:Addr) (u:S ∉ fp) (hu:knd.room A.in1) (T:Heap) (m:Nat->K) (F:Nat->Addr) (val:Nat->Value) (tup:Nat->Addr) (f:Nat->List (K × Addr × Value)) (hk:∀ i,f (i+1)=storedH (f i) (m i) (F i) (val i)) (hz:∀ i,i<=n->(f i).length<=sizeLine)
  (hP:∀ i v,P i v->v=.ref (tup i)) (E:∀ i x,x∈f i->∃ j,j < i/\x.1=m j/\x.2.1=F j) (p:∀ i,i < n->tup i ≠ S/\tup i ∉ wr) (g:∀ h',(∀ b o,b ≠ S->b ∉ wr->T.get? b=some o->h'.get? b=some o)->∀ i,i < n->knd.is h' (m i) (F i)) :
  ∀ (k i:Nat) (s:Shared),n - i=k->i<=n->St i s.heap->(∀ b o,b ≠ S->b ∉ wr->T.get? b=some o->s.heap.get? b=some o)->(∀ j,i<=j->j < n->s.heap.IsTuple (tup j) #[.ref (F j),val j])->s.heap.DictOfH knd S (f i)->
   (∀ h' G,h'.DictOfH knd S (f n)->(∀ b o,b ≠ S->b ∉ wr->s.heap.get? b=some o->h'.get? b=some o)->R (.ok (.ret .none)) { s with heap:=h',toks:=G }) ->
   codeAny (model prog w) A (.builtin "dict.update.loop" ⟨[.ref S,.ref I,rawInt i,.none],[]⟩) R s:=by
 have M:S ∉ wr:=fun h=>u (W.sub _ h)
 have D:∀ (h h':Heap) (i:Nat),i<=n->(∀ b o,b ≠ S->b ∉ wr->T.get? b=some o->h'.get? b=some o)->h.DictOfH knd S (f i)->(∀ b o,b ∉ wr->h.get? b=some o->h'.get? b=some o)->h'.DictOfH knd S (f i):=fun h h' i hi c y hm=>by
  obtain ⟨o,es,ep,q,g1,g2,g3,_,g5⟩:=y
  refine ⟨o,es,ep,hm S o M q,g1,g2,g3,fun x hx=>?_,g5⟩
  obtain ⟨j,hj,e1,e2⟩:=E i x hx
  rw [e1,e2]
  exact g h' c j (by lia)
 intro k
 induction k with
 | zero =>
  intro i s L hi l c Y y Z
  have O:i=n:=by lia
  subst O
  refine aL0 aek ?_
  rw [aK4 ab8 _]
  show wpAny _ A.in1 (pyNext (.ref I) >>= _) _ _ s
  refine aJ3 (W.done s _ _ l fun h' G hm=>?_)
  dsimp only
  unfold Builtin.Dict.addKeywords
  refine aJ3 (aJ3 (aJ4 (aJ4 ?_)))
  refine aJ4 ?_
  exact Z h' G (D _ _ _ (aA6 _) (fun b o b1 a e=>hm b o a (c b o b1 a e)) y hm) fun b o _ hb e=>hm b o hb e
 | succ k ih =>
  intro i s L hi l c Y y Z
  have d:i < n:=by lia
  refine aL0 aek ?_
  rw [aK4 ab8 _]
  show wpAny _ A.in1 (pyNext (.ref I) >>= _) _ _ s
  refine aJ3 (W.item i s _ _ d l fun v h' G Q C hm=>?_)
  have ev:=hP i v Q
  subst ev
  dsimp only
  have H:h'.IsTuple (tup i) #[.ref (F i),val i]:=by
   obtain ⟨o,q,r⟩:=Y i (aA6 _) d
   exact ⟨o,hm _ o (p i d).2 q,r⟩
  have N:h'.DictOfH knd S (f i):=D _ _ _ hi (fun b o b1 a e=>hm b o a (c b o b1 a e)) y hm
  refine aJ3 (aJ9 ?_)
  refine aJ3 (apw H ?_)
  dsimp only
  refine aJ9 (wpAny_dictSet_heap hu (g h' (fun b o b1 a e=>hm b o a (c b o b1 a e)) i d) N (fun h2 a0 B=>?_) (hz i hi))
  have keep:∀ b o,b ≠ S->b ∉ wr->s.heap.get? b=some o->h2.get? b=some o:=fun b o b1 a e=>by rw [B.2 b b1];exact hm b o a e
  refine aJ4 ⟨plainId_quiet ab8 _,ih (i+1) _ (by lia) d ?_ ?_ ?_ (by rw [hk];exact a0) ?_⟩
  ·exact W.frame _ _ _ C fun b hb o e=>by rw [B.2 b (fun z:b=S=>u (by rw [← z];exact hb))];exact e
  ·exact fun b o b1 a e=>keep b o b1 a (c b o b1 a e)
  ·intro j j1 J
   obtain ⟨o,q,r⟩:=Y j (by lia) J
   exact ⟨o,keep _ o (p j J).1 (p j J).2 q,r⟩
  ·intro h3 U X a1
   exact Z h3 U X fun b o b1 a e=>a1 b o b1 a (keep b o b1 a e)
theorem call_dict_listH {E:Value->Shared->Prop} {s:Shared} {l:Addr} {items:Array Value} {nl:Nat} {Q:Value->Shared->Prop} (X:knd.room A.in1.in1) (a:Nat->K) (D:Nat->Addr) (val:Nat->Value) (tup:Nat->Addr) (m:Nat->List (K × Addr × Value)) (U:m 0=[]) (Y:∀ i,m (i+1)=storedH (m i) (a i) (D i) (val i)) (hz:∀ i,i<=items.size->(m i).length<=sizeLine) (C:∀ i x,x∈m i->∃ j,j < i/\x.1=a j/\x.2.1=D j)
  (hh:A.handled=none) (z:s.heap.get? l=some { cls:=.type "list",data:=.seq items nl }) (R:∀ i v,items[i]?=some v->v=Value.ref (tup i)) (P:∀ j,j < items.size->s.heap.IsTuple (tup j) #[.ref (D j),val j]) (q:∀ h',(∀ b o,s.heap.get? b=some o->h'.get? b=some o)->∀ i,i < items.size->knd.is h' (a i) (D i))
  (h:∀ (h':Heap) (L:Nat),h'.DictOfH knd s.heap.objs.size (m items.size)->(∀ b o,s.heap.get? b=some o->h'.get? b=some o)->Q (.ref s.heap.objs.size) { s with heap:=h',toks:=L }) :
  wpAny (model prog w) A (call (.type "dict") [.ref l]) Q E s:=by
 refine callType_codes (Q₁:=fun obj c=>obj=.ref s.heap.objs.size/\c={ s with heap:=s.heap.push { cls:=.type "dict",data:=.dict #[] } }) F.kt_called_dict (F.kt_typeCall_dict_1 _) F.entry_dict_init (kt_code_dict_new (.ref l) ⟨rfl,rfl⟩) fun obj c H=>?_
 obtain ⟨rfl,rfl⟩:=H
 have O:(s.heap.push { cls:=.type "dict",data:=.dict #[] }).get? s.heap.objs.size=some { cls:=.type "dict",data:=.dict #[] }:=aJ7 _ rfl
 refine ⟨⟨_,O,rfl⟩,F.args_dict_init_2 _ _,?_⟩
 have f:(s.heap.push { cls:=.type "dict",data:=.dict #[] }).get? l=some { cls:=.type "list",data:=.seq items nl }:=aJ5 _ z
 have Z:(Value.type "list" == Value.type "dict")=false:=by decide
 unfold Builtin.«dict.__init__» Builtin.Dict.updateCommon Builtin.Dict.updateFrom
 obtain ⟨n,g,d,L,os⟩:=s
 dsimp only at *
 generalize hPI:pyIter=PI
 generalize hGA:getAttr?=GA
 wp_walk
 subst hGA hPI
 refine apx (s:={ heap:=n.push { cls:=.type "dict",data:=.dict #[] },gens:=g,drawn:=d,toks:=L,os:=os }) f hh fun p J k1=>?_
 rw [aF7 (show (none:Option Value).isNone=true from rfl)]
 refine aJ3 (wpAny_rule ?_)
 have B:p.IsList l items:=⟨_,k1 _ _ f,rfl,nl,rfl⟩
 have u:l < n.objs.size:=aJ6 z
 have y:=k1 _ _ O
 have hsz:n.objs.size < p.objs.size:=aJ6 y
 refine aJ3 (aK8 (s:={ heap:=p,gens:=g,drawn:=d,toks:=J,os:=os }) B ?_)
 refine aJ4 ⟨plainId_quiet ab8 _,?_⟩
 have G:l ≠ p.objs.size:=aB6 (Nat.lt_trans u hsz)
 have I:n.objs.size ∉ [p.objs.size,l]:=by
  simp only [aA9,aI6,or_false,not_or]
  exact ⟨aB6 hsz,Nat.ne_of_gt u⟩
 have tl:∀ j,j < items.size->tup j < n.objs.size:=fun j M=>let ⟨_,e,_⟩:=P j M;aJ6 e
 refine arl (A:=A.in1) (knd:=knd) (Walks.list (A:=A.in1.in1) hh p.objs.size l G items) n.objs.size I X n a D val tup m Y hz R C (fun i hi=>⟨aB6 (tl i hi),by simp only [aC2];exact aB6 (Nat.lt_trans (tl i hi) hsz)⟩)
  (fun h' S=>q h' fun b o e=>S b o (aB6 (aJ6 e)) (by simp only [aC2];exact aB6 (Nat.lt_trans (aJ6 e) hsz)) e) (items.size - 0) 0 _ (by lia) (aG2 _)
  ⟨⟨_,aJ7 _ rfl,rfl,rfl⟩,B.push _⟩ (fun b o _ _ e=>aJ5 _ (k1 _ _ (aJ5 _ e))) (fun j _ M=>?_) ?_ fun h' N T kp=>?_
 ·obtain ⟨o,e,r⟩:=P j M
  exact ⟨o,aJ5 _ (k1 _ _ (aJ5 _ e)),r⟩
 ·rw [U]
  exact ⟨_,#[],0,aJ5 _ y,⟨rfl,rfl,rfl⟩,rfl,rfl,fun x W=>by simp at W,List.nodup_nil⟩
 ·refine ⟨rfl,h h' N T fun b o e=>kp b o (aB6 (aJ6 e)) (by simp only [aC2];exact aB6 (Nat.lt_trans (aJ6 e) hsz)) (aJ5 _ (k1 _ _ (aJ5 _ e)))⟩
end
end DictL
namespace L2
open PySem PySem.W PyProof.Rows
def adn (kvs:List (List Key × Addr × V)):List (List Key × V):=kvs.foldl (fun acc kv=>putK acc kv.1 kv.2.2) []
def atz:List V->Hp->VK->Prop:=fun xs H Q=>∃ (a:Addr) (ts:List Addr) (kvs:List (List Key × Addr × V)),xs=[.ref a]/\H a=some (.lst (ts.map V.ref))/\ts.length=kvs.length/\kvs.length < 40000 /\
 (∀ (i:Nat) t kv,ts[i]?=some t->kvs[i]?=some kv->H t=some (.tup [.ref kv.2.1,kv.2.2])/\H kv.2.1=some (.tup (kv.1.map kV)))/\∀ p,H p=none->Q (.ref p) (upd H p (.dT (adn kvs)))
section
variable {K:Type} [DecidableEq K]
def kfH (key:Nat->K) (ka:Nat->Addr) (val:Nat->Value):Nat->List (K × Addr × Value)
 | 0=>[]
 | i+1=>storedH (kfH key ka val i) (key i) (ka i) (val i)
theorem arm (xs:List (K × Addr × Value)) (k:K) (a:Addr) (v:Value):(storedH xs k a v).length<=xs.length+1:=by
 unfold storedH
 split
 ·rw [aA3];lia
 ·simp
theorem ajs (a:Nat->K) (b:Nat->Addr) (val:Nat->Value):∀ i,(kfH a b val i).length<=i
 | 0=>aA6 _
 | i+1=>aD0 (arm _ _ _ _) (Nat.succ_le_succ (ajs a b val i))
theorem ap2 (a:Nat->K) (b:Nat->Addr) (val:Nat->Value):∀ i x,x∈kfH a b val i->∃ j,j < i/\x.1=a j/\x.2.1=b j
 | 0,x,h=>by cases h
 | i+1,x,h=>by
  have c:=ap2 a b val i
  change x∈storedH (kfH a b val i) (a i) (b i) (val i) at h
  unfold storedH at h
  split at h
  ·obtain ⟨y,g,rfl⟩:=aB7.mp h
   obtain ⟨j,l,f,d⟩:=c y g
   refine ⟨j,by lia,?_⟩
   unfold putAt
   split
   ·exact ⟨f,d⟩
   ·exact ⟨f,d⟩
  ·rcases aA7.mp h with h | h
   ·obtain ⟨j,l,e⟩:=c x h
    exact ⟨j,by lia,e⟩
   ·have:x=(a i,b i,val i):=by simpa using h
    subst this
    exact ⟨i,by lia,rfl,rfl⟩
end
theorem aol {kvs:List (List Key × Addr × V)} {a:List Key × Addr × V}:adn (kvs ++ [a])=putK (adn kvs) a.1 a.2.2:=by unfold adn;rw [List.foldl_append];rfl
section
variable {X:Cx}
theorem arn (Z:X.calm=true) (E:X.A.units+64 < cLine):aa3 X (.type "dict") atz:=by
 intro pins s σ H xs us Q I r h
 obtain ⟨a,c,kvs,rfl,ha,M,h4,B,q⟩:=h
 obtain ⟨u,rfl,D⟩:=abx r
 cases D
 obtain ⟨hz,its,nl,N,e⟩:=(show ObjOk X.prog X.w H s.heap a (.lst (c.map V.ref)) from I.hok a _ ha)
 have l:its.length=c.length:=by have:=N.length;rw [aA3] at this;lia
 have y:∀ {i},i < c.length->c[i]?=some (c.getD i 0):=fun {i} hi=>by rw [aD4,aA0 hi];rfl
 have z:∀ {i},i < c.length->kvs[i]?=some (kvs.getD i ([],0,.non)):=fun {i} hi=>by rw [aD4,aA0 (show i < kvs.length by lia)];rfl
 obtain ⟨g,d⟩:∃ g:Nat->List Key × Addr × V,g=fun i=>kvs.getD i ([],0,.non):=⟨_,rfl⟩
 have F:∀ i:Nat,∃ p:Value,i < c.length->s.heap.IsTuple (c.getD i 0) #[.ref (g i).2.1,p]/\RelV (g i).2.2 p:=fun i=>by
  by_cases hi:i < c.length
  ·obtain ⟨h1,K⟩:=B i _ _ (y hi) (z hi)
   obtain ⟨_,S,m,p2⟩:=(show ObjOk X.prog X.w H s.heap _ (.tup _) from I.hok _ _ h1)
   cases m with
   | cons r1 m =>
    cases m with
    | cons m r3 =>
     cases r3
     cases r1
     exact ⟨_,fun _=>⟨by rw [d];exact p2,by rw [d];exact m⟩⟩
  ·exact ⟨.none,fun h=>absurd h hi⟩
 obtain ⟨f,hf⟩:=Classical.skolem.mp F
 have C:∀ i,i<=c.length->KT H (adn (kvs.take i)) (kfH (fun i=>(g i).1) (fun i=>(g i).2.1) f i):=fun i=>by
  induction i with
  | zero=>intro _;exact .nil
  | succ i ih =>
   intro hi
   have Y:kvs.take (i+1)=kvs.take i ++ [g i]:=by rw [aH6,z (by lia),d];rfl
   rw [Y,aol]
   refine (ih (by lia)).put _ ?_ (hf i (by lia)).2
   rw [d]
   exact (B i _ _ (y (by lia)) (z (by lia))).2
 refine DictL.call_dict_listH (knd:=tupleKind (aa6 X.prog X.w)) (items:=its.toArray) (nl:=nl) (tupleKind_room_in1 (by show X.A.units+1+1 < cLine;lia)) (fun i=>(g i).1) (fun i=>(g i).2.1) f (fun i=>c.getD i 0) (kfH (fun i=>(g i).1) (fun i=>(g i).2.1) f) rfl (fun i=>rfl) (fun i hi=>aD0 (ajs _ _ _ i) (aD0 hi (by rw [sizeLine_eq];simp;lia))) (ap2 _ _ _)
  (I.ok.hd Z) e (fun i v x=>?_) (fun j W=>(hf j (by simpa [l] using W)).1) (fun h' kp i hi=>?_) fun h' U J kp=>?_
 ·have x:its[i]?=some v:=by simpa using x
  have hi:=(aA1.mp x).1
  have T:(c.map V.ref)[i]?=some (.ref (c.getD i 0)):=by rw [aA5,y (by lia)];rfl
  obtain ⟨u,E,D⟩:=N.get T
  rw [x] at E
  cases E
  exact D
 ·have hi:i < c.length:=by simpa [l] using hi
  have K:=(B i _ _ (y hi) (z hi)).2
  rw [d]
  exact afi (I.hok.kept kp) K
 ·have hsz:its.toArray.size=c.length:=by simp [l]
  rw [hsz] at J
  have G:=C c.length (aA6 _)
  rw [M,aH0,← M] at G
  have n:=I.hok.fresh (a:=s.heap.objs.size) (aA6 _)
  refine ⟨.ref s.heap.objs.size,_,I.laid (t':=U) (o:=.dT (adn kvs)) kp (aA6 _) ?_,rfl,q _ n⟩
  obtain ⟨ob,es,ep,P,b1,b2,O,_,R⟩:=J
  refine ⟨?_,beq_eq_false_iff_ne.mpr (Ne.symm (aB6 I.big)),_,G.keeps fun b ys L=>?_,ob,es,ep,P,b1,b2,O,R⟩
  ·have:=G.length
   rw [this,sizeLine_eq]
   exact aD0 (ajs _ _ _ _) (by lia)
  ·rw [aad (aai L n)]
   exact L
end
end L2
namespace VL
open PySem PySem.Spec L2
theorem ap3 {G:Hp} {as:List Addr}:∀ {es:List (Int × Int)} {kvs:List (List Key × V)} {ps:List (Int × Int)},RpT G kvs (kE ps)->∀ (as:List Addr),as.length=es.length ->
  RpT G ((es.zip as).foldl (fun b x=>putK b [Sum.inl x.1.1,Sum.inl x.1.2] (.bl true)) kvs) (kE (es.foldl addP ps))
 | [],_,_,h,as,_=>by simpa using h
 | e :: es,kvs,ps,h,[],hl=>by simp at hl
 | e :: es,kvs,ps,h,a :: as,hl=>by
  rw [List.zip_cons_cons,List.foldl_cons,List.foldl_cons]
  refine ap3 (as:=as) ?_ as (by simpa using hl)
  obtain ⟨x,y⟩:=e
  rw [← agm]
  exact h.put (.bl true)
section
variable {B:Bs} {env:En} {QO:Sl->En->Prop}
theorem at3 {src:List (Option Nat)} {wi:TI} (h:EvI B wi env fun ds T=>∃ es:List (Int × Int),ds=es.map prD/\es.length<=30000/\QO (.own (OT (kE (es.foldl addP [])))) T) :
  EvO B (tCB atz (aa5 (tLC (none :: src) wi (aa4 0) tYes (tTup (aa5 (tVar 0) (aa5 (tC (V.bl true)) tNil)))) tNil)) env QO:=fun σ G H F Q I k=>by
 refine h σ G H F _ I fun J G1 H1 F1 ds T Z g1 it ⟨es,ed,a2,q⟩ f j=>?_
 subst ed
 have hL:(es.map prD).length=es.length:=aA3 ..
 let W:Nat->List V->St->Hp->Prop:=fun n ys σI H=>∃ (C as:List Addr) (s:Hp),ys=C.map V.ref/\C.length=n/\as.length=n/\0 < σI.length /\
  (∀ (i:Nat) t b p,C[i]?=some t->as[i]?=some b->es[i]?=some p->H t=some (.tup [.ref b,.bl true])/\s b=some (.tup [.int p.1,.int p.2]))/\(∀ t∈C,t ≠ f) /\
  H f=some (.lst ys)/\s f=none/\Same G1 s/\Same s H/\Same H1 H/\(∀ a o,s a=some o->G1 a=some o\/H1 a=none)/\FT s H
 refine ⟨fun n m ys σI H=>m=es.length - n/\n<=es.length/\W n ys σI H,⟨es.length,by simp,aG2 _,[],[],G1,rfl,rfl,rfl,by simp [pick],fun i t b p h=>by simp at h,fun t N=>by simp at N,aag,Z.no_g j,Same.refl _,Z.gh.trans (abg j),abg j,fun a o e => .inl e,fun a ks e=>?_⟩,?_⟩
 ·by_cases z:a=f
  ·subst z;rw [aag] at e;cases e
  ·rw [aad z] at e;exact Z.ft a ks e
 rintro n m ys σI H2 ⟨rfl,hn,C,as,s,rfl,hl,E,R,A,S,l,ga,O,r,K,X,M⟩
 refine ⟨l,?_⟩
 by_cases hlt:n < es.length
 ·refine .inr ⟨it.go n s H2 O r (by lia),fun P U H'=>W (n+1) P U H',fun P U H' hw=>⟨es.length - (n+1),by lia,rfl,hlt,hw⟩,fun x H3 y=>?_⟩
  obtain ⟨p,hp⟩:∃ p,es[n]?=some p:=⟨_,aA0 hlt⟩
  obtain ⟨G3,o⟩:=it.yld n s H2 x H3 (prD p) O r M (by rw [aA5,hp];rfl) y
  have rx:Rp G3 x (.tuple [.int p.1,.int p.2]):=o.ok.1
  cases rx with
  | @tup b vs ds' hb rs =>
  cases rs with
  | cons r1 rs =>
  cases rs with
  | cons r2 rs =>
  cases rs
  cases r1
  cases r2
  refine ag0 (aic (aco (ass (afm (amd (v:=.ref b) (by rw [aD2,aF7 rfl,aF7 R]) (afm (go_c (aes ⟨show (2:Nat)<=sizeLine by rw [sizeLine_eq];decide,fun t N=>?_⟩))))))))
  have t2:H2 t=none:=aa2 o.hh N
  have ta:t ≠ f:=(aai (o.hh _ _ l) N).symm
  have old:∀ a u,H2 a=some u->a ≠ f->upd (upd H3 t (.tup [.ref b,.bl true])) f (.lst (C.map V.ref ++ [.ref t])) a=some u:=fun a u e aa=>by
   have Y:=o.hh _ _ e
   rw [aad aa,aad (aai Y N)]
   exact Y
  refine ⟨by rw [aad ta.symm];exact o.hh _ _ l,by rw [aA3,hl];exact big (by lia),C ++ [t],as ++ [b],G3,by simp,by simp [hl],by simp [E],by rw [List.length_set];exact R,fun i c d p' g hd D=>?_,fun c g=>?_,aag,?_,O.trans o.gg,fun a u e=>?_,fun a u e=>?_,fun a u e=>?_,fun a ks e=>?_⟩
  ·by_cases hi:i < n
   ·rw [aC3 (by lia)] at g hd
    obtain ⟨q1,q2⟩:=A i c d p' g hd D
    exact ⟨old c _ q1 (S c (aA2 g)),o.gg _ _ q2⟩
   ·have a1:i=n:=by
     have:=(aA1.mp g).1
     simp at this
     lia
    subst a1
    rw [aC8 (by lia),hl,aI9] at g
    rw [aC8 (by lia),E,aI9] at hd
    rw [hp] at D
    cases g
    cases hd
    cases D
    exact ⟨by rw [aad ta,aag],hb⟩
  ·rcases aA7.mp g with g | g
   ·exact S c g
   ·have e:=aC2.mp g
    subst e
    exact ta
  ·cases e:G3 f with
   | none=>rfl
   | some w =>
    rcases o.gn f w e with e | e
    ·rw [ga] at e;cases e
    ·rw [l] at e;cases e
  ·have at':a ≠ t:=aai (o.gh a u e) N
   have aa:a ≠ f:=by
    rintro rfl
    rcases o.gn _ u e with e | e
    ·rw [ga] at e;cases e
    ·rw [l] at e;cases e
   rw [aad aa,aad at'];exact o.gh a u e
  ·exact old a u (K a u e) (aai e j)
  ·rcases o.gn a u e with e | e
   ·exact X a u e
   ·exact .inr (aa2 K e)
  ·by_cases z:a=f
   ·subst z;rw [aag] at e;cases e
   ·rw [aad z] at e
    by_cases y:a=t
    ·subst y
     rw [aag] at e
     exfalso
     have e:=HO.tup.inj (aC6 e)
     match ks,e with
     | [],e=>simp at e
     | .inl _ :: _,e=>simp [kV] at e
     | .inr _ :: _,e=>simp [kV] at e
    ·rw [aad y] at e;exact o.ft M a ks e
 ·have e:n=es.length:=by lia
  subst e
  refine .inl ⟨it.stop _ s H2 O r hL.symm,?_⟩
  have I2:=Z.grow O r K X M
  obtain ⟨kvs,hk⟩:∃ kvs:List (List Key × Addr × V),kvs=(es.zip as).map fun x=>([Sum.inl x.1.1,Sum.inl x.1.2],x.2,V.bl true):=⟨_,rfl⟩
  have a3:kvs.length=es.length:=by rw [hk,aA3,List.length_zip];lia
  have a0:adn kvs=(es.zip as).foldl (fun f x=>putK f [Sum.inl x.1.1,Sum.inl x.1.2] (.bl true)) []:=by
   unfold adn
   rw [hk,List.foldl_map]
  refine aes ⟨f,C,kvs,rfl,l,by lia,by lia,fun i t kv g L=>?_,fun p hp=>?_⟩
  ·rw [hk,aA5] at L
   have hi:=(aA1.mp g).1
   have T:es[i]?=some es[i]:=aA0 (by lia)
   have e2:as[i]?=some as[i]:=aA0 (by lia)
   have Y:(es.zip as)[i]?=some (es[i],as[i]):=by
    rw [aA0 (by rw [List.length_zip];lia)]
    simp
   rw [Y] at L
   cases L
   obtain ⟨q1,q2⟩:=A i t _ _ g e2 T
   exact ⟨q1,r _ _ q2⟩
  ·have o:=Out.newDT (xs:=adn kvs) (ds:=kE (es.foldl addP [])) I2.gh hp (by rw [a0];exact ap3 (as:=as) .nil as E)
   exact k _ _ _ F1 _ _ T (I2.out o).1 ((g1.trans O).trans o.gg) (I2.out o).2 q
end
end VL
namespace L2
open PySem PySem.W PyProof.Rows
section
variable {X:Cx}
end
end L2
namespace VL
open PySem PySem.Spec L2
section
variable {B:Bs} {env:En} {QO:Sl->En->Prop} {K:Frag} {i:Nat}
end
end VL
namespace SS
open PySem
theorem ajt {l:List Nat} (a:l.Pairwise (· < ·)) {i j:Nat} (b:i<=j) (c:j < l.length):l[i]'(by lia)<=l[j]:=by
 by_cases e:i=j
 ·subst e;exact aA6 _
 ·exact aG7 (aG9.mp a i j (by lia) c (by lia))
theorem ahu (xs:Array Nat) (j:Nat) (c:xs.toList.Pairwise (· < ·)):∀ (a lo hi:Nat),hi - lo<=a->lo<=hi->hi<=xs.size->(∀ i (h:i < xs.toList.length),i < lo->xs.toList[i] < j)->(∀ i (h:i < xs.toList.length),hi<=i->j<=xs.toList[i]) ->
  SetTable.below.go xs j a lo hi<=xs.size/\(∀ i (h:i < xs.toList.length),i < SetTable.below.go xs j a lo hi->xs.toList[i] < j)/\(∀ i (h:i < xs.toList.length),SetTable.below.go xs j a lo hi<=i->j<=xs.toList[i])
 | 0,lo,hi,h1,h2,h3,h4,h5=>by
  unfold SetTable.below.go
  have:lo=hi:=by lia
  subst this
  exact ⟨h3,h4,h5⟩
 | a+1,lo,hi,h1,h2,h3,h4,h5=>by
  unfold SetTable.below.go
  by_cases hl:lo < hi
  ·rw [aF7 hl]
   have hm:(lo+hi) / 2 < xs.size:=by lia
   have d:(lo+hi) / 2 < xs.toList.length:=by simpa using hm
   have f:xs.getD ((lo+hi) / 2) j=xs.toList[(lo+hi) / 2]:=by simp [Array.getD,hm]
   dsimp only
   rw [f]
   split
   ·rename_i hlt
    refine ahu xs j c a _ hi (by lia) (by lia) h3 (fun i h b=>?_) h5
    exact aE4 (ajt c (by lia) d) hlt
   ·rename_i hge
    refine ahu xs j c a lo _ (by lia) (by lia) (by lia) h4 (fun i h b=>?_)
    exact aD0 (by lia) (ajt c b h)
  ·rw [aF8 hl]
   have:lo=hi:=by lia
   subst this
   exact ⟨h3,h4,h5⟩
theorem below_ok (xs:Array Nat) (j:Nat) (a:xs.toList.Pairwise (· < ·)) :
  SetTable.below xs j<=xs.size/\(∀ i (h:i < xs.toList.length),i < SetTable.below xs j->xs.toList[i] < j)/\(∀ i (h:i < xs.toList.length),SetTable.below xs j<=i->j<=xs.toList[i]) :=
 ahu xs j a _ 0 _ (by lia) (by lia) (aA6 _) (fun i h hi=>by lia) (fun i h hi=>by simp at h;lia)
theorem aro (xs:Array Nat) (c:xs.toList.Pairwise (· < ·)) (i:Nat) (hi:i < xs.toList.length):SetTable.below xs (xs.toList[i] + 1)=i+1:=by
 obtain ⟨g,d,f⟩:=below_ok xs (xs.toList[i] + 1) c
 rcases Nat.lt_trichotomy (SetTable.below xs (xs.toList[i] + 1)) (i+1) with h | h | h
 ·have:=f i hi (by lia);lia
 ·exact h
 ·have hs:i+1 < xs.toList.length:=by simp;lia
  have a:=d (i+1) hs (by lia)
  have b:=aG9.mp c i (i+1) hi hs (by lia)
  lia
theorem arp (xs:Array Nat) (b:xs.toList.Pairwise (· < ·)):SetTable.below xs 0=0:=by
 obtain ⟨c,a,d⟩:=below_ok xs 0 b
 rcases Nat.eq_zero_or_pos (SetTable.below xs 0) with h | h
 ·exact h
 ·have:=a 0 (by simp;lia) (by lia);lia
theorem put_rise {xs:Array Nat} {j:Nat} (c:xs.toList.Pairwise (· < ·)) (hn:xs[SetTable.below xs j]? ≠ some j):(SetTable.insertAt xs (SetTable.below xs j) j).toList.Pairwise (· < ·):=by
 obtain ⟨n,d,g⟩:=below_ok xs j c
 rw [SetTable.toList_insertAt]
 generalize SetTable.below xs j=p at n d g hn ⊢
 rw [← aD6] at hn
 generalize xs.toList=l at c d g hn ⊢
 have lo:∀ x∈l.take p,x < j:=fun x f=>by
  obtain ⟨i,hi,e⟩:=List.mem_take_iff_getElem.mp f
  rw [← e];exact d i (by lia) (by lia)
 have m:∀ x∈l.drop p,j < x:=fun x f=>by
  obtain ⟨i,hi,e⟩:=List.mem_drop_iff_getElem.mp f
  have h:p < l.length:=by lia
  have ne:l[p] ≠ j:=fun e=>hn (by rw [aA0 h,e])
  have a:=g p h (aA6 _)
  have b:=ajt c (show p<=p+i by lia) (by lia:p+i < l.length)
  have o:l[p+i]=x:=by rw [← e]
  lia
 rw [aC9]
 refine ⟨c.sublist (List.take_sublist _ _),aI8.mpr ⟨m,c.sublist (List.drop_sublist _ _)⟩,fun a ha b hb=>?_⟩
 rcases aA9.mp hb with rfl | hb
 ·exact lo a ha
 ·exact Nat.lt_trans (lo a ha) (m b hb)
structure TbI (bt:Bool) (t:SetTable):Prop where
 led:bt=false->t.led=true
 dum:t.dummies = #[]
 ris:t.plain=true->t.place.toList.Pairwise (· < ·)
theorem TbI.fresh (bt:Bool) (f m:Nat):TbI bt (.fresh f m (!bt)):=⟨fun h=>by subst h;rfl,rfl,fun _=>List.Pairwise.nil⟩
theorem has_nil (j:Nat):SetTable.has #[] j=false:=by unfold SetTable.has;simp
theorem TbI.put {bt:Bool} {t:SetTable} (x:TbI bt t) {j:Nat} (hs:t.slot j=.empty):TbI bt (t.put j).1:=by
 refine ⟨x.led,?_,fun h=>?_⟩
 ·show (if SetTable.has t.dummies j=true then _ else t.dummies) = #[]
  rw [x.dum,has_nil];rfl
 ·show (SetTable.insertAt t.place (SetTable.below t.place j) j).toList.Pairwise (· < ·)
  refine put_rise (x.ris h) fun e=>?_
  unfold SetTable.slot at hs
  dsimp only at hs
  rw [e] at hs
  simp at hs
theorem live_rise (owner:Array (Option Nat)) (m:Nat):(((List.range m).filterMap fun j=>(owner.getD j none).map (j,·)).map (·.1)).Pairwise (· < ·):=by
 rw [aG3,List.pairwise_filterMap]
 refine List.pairwise_lt_range.imp ?_
 intro a b f p c q d
 cases h1:owner.getD a none with
 | none=>rw [h1] at c;cases c
 | some i =>
  cases h2:owner.getD b none with
  | none=>rw [h2] at d;cases d
  | some k=>rw [h1] at c;rw [h2] at d;cases c;cases d;exact f
theorem akr {α:Type} (next:Nat->Nat):∀ (n k:Nat) (left:List α) (out:Array α),left.length=n->(pickOrder.go next n k left out).toList.Perm (out.toList ++ left)
 | 0,k,left,out,h=>by
  unfold pickOrder.go
  rw [aH4 h];simp
 | n+1,k,left,out,h=>by
  unfold pickOrder.go
  have a:next k % left.length < left.length:=Nat.mod_lt _ (by lia)
  rw [aA0 a]
  dsimp only
  refine (akr next n (k+1) _ _ (by rw [List.length_eraseIdx];split <;> lia)).trans ?_
  rw [Array.toList_push,aB4]
  refine List.Perm.append_left _ ?_
  have e:left=left.take (next k % left.length) ++ left[next k % left.length] :: left.drop (next k % left.length+1):=by
   rw [← List.drop_eq_getElem_cons a,aC1]
  rw [List.eraseIdx_eq_take_drop_succ]
  refine List.Perm.trans ?_ (List.Perm.of_eq e.symm)
  rw [List.singleton_append]
  exact List.perm_middle.symm
theorem aju {α:Type} (next:Nat->Nat) (xs:Array α):(pickOrder next xs).toList.Perm xs.toList:=by
 unfold pickOrder
 simpa using akr next xs.size 0 xs.toList #[] (by simp)
end SS
namespace SS
open PySem PySem.W PyProof.Rows
section
variable {prog:Program} {w:World} {A:Around} {E:Value->Shared->Prop} {s:Shared}
def bt (w:World):Bool:=w.params.followText "set-order"
def kE (e:Int × Value):Int:=match e.2 with | .int k _=>k | _=>0
def a3f (prog:Program) (w:World) (e:Int × Value):Prop:=e.1=(intKind prog w).hash (kE e)/\∃ t,e.2=.int (kE e) t
def SetR (prog:Program) (w:World) (a:Addr) (es:Array (Int × Value)) (ep:Nat) (t:SetTable) (h:Heap):Prop :=
 ∃ o,h.get? a=some o/\o.ExactSet/\o.data=.set es ep t/\t.fits es.size=true/\TbI (bt w) t
def SetI (prog:Program) (w:World) (a:Addr) (L:List Int) (h:Heap):Prop:=∃ es ep t,SetR prog w a es ep t h/\(∀ e∈es.toList,a3f prog w e)/\(es.toList.map kE).Perm L
theorem SetR.at {a:Addr} {es:Array (Int × Value)} {ep:Nat} {t:SetTable} {h h':Heap} (x:SetR prog w a es ep t h) (k:∀ o,h.get? a=some o->h'.get? a=some o):SetR prog w a es ep t h':=let ⟨o,e,r⟩:=x;⟨o,k o e,r⟩
theorem SetR.put {a:Addr} {es es':Array (Int × Value)} {ep:Nat} {t t':SetTable} {h:Heap} (x:SetR prog w a es ep t h) (hf:t'.fits es'.size=true) (c:TbI (bt w) t'):SetR prog w a es' (ep+1) t' (h.update a (Obj.putSet es' t')):=by
 obtain ⟨o,d,f,hd,_⟩:=x
 have b:(h.update a (Obj.putSet es' t')).get? a=some { o with data:=.set es' (ep+1) t' }:=by
  have:=aK9 (Obj.putSet es' t') d (by rw [putSet_of es' t' hd];rfl)
  rw [putSet_of es' t' hd] at this;exact this
 exact ⟨_,b,f,rfl,hf,c⟩
end
section
variable {prog:Program} {w:World} {A:Around} {E:Value->Shared->Prop} {s:Shared}
def ab3 (w:World):Obj:={ cls:=.type "set",dict:=none,data:=.set #[] 0 (.fresh 0 0 (!bt w)) }
theorem av5 (a:Value) {Q₁:Value->Shared->Prop} (h:Q₁ (.ref s.heap.objs.size) { s with heap:=s.heap.push (ab3 w) }) :
  codeAny (model prog w) A (.call (.builtin "set.__new__") ⟨[.type "set",a],[]⟩) (wants Q₁ E) s:=by
 refine codeAny_of_tree ?_
 show wpAny _ A.in1 (do checkBuiltinCall "set.__new__" ⟨[.type "set",a],[]⟩;again (.builtin "set.__new__" ⟨[.type "set",a],[]⟩)) _ _ s
 refine aJ3 (wpAny_of_eq (PySem.F.newCall_set_1 a) (aJ4 ⟨plainId_quiet PySem.F.plain_set_new _,aL0 PySem.F.entry_set_new ?_⟩))
 rw [aK4 PySem.F.plain_set_new _]
 unfold Builtin.«set.__new__» Builtin.Frozenset.newClass
 have b:=sub_set_self
 obtain ⟨c,g,d,f,os⟩:=s
 dsimp only
 wp_walk
 refine wpAny_askSetting (aJ4 ?_)
 dsimp only
 simp only [newObj]
 refine aJ3 (wpAny_alloc (aJ4 ?_))
 exact aJ4 h
section
variable {R:Result->Shared->Prop} {I:Addr} {fp wr:List Addr} {n:Nat} {P:Nat->Value->Prop} {St:Nat->Heap->Prop}
end
end
theorem slot_it_next:Slot "set_iterator" "__next__" "set_iterator.__next__" :=
 .of (owner:="set_iterator") (n:="__next__") (by rw [typeLookup_type,builtinLookup_eq_fast];kernel_rfl) (by decide +kernel) (by decide +kernel) (by decide +kernel)
  (by first | exact .inl (by decide +kernel) | exact .inr (by decide +kernel)) (by rw [isSubtype_type];kernel_rfl)
theorem ago:Slot "set_iterator" "__iter__" "set_iterator.__iter__" :=
 .of (owner:="set_iterator") (n:="__iter__") (by rw [typeLookup_type,builtinLookup_eq_fast];kernel_rfl) (by decide +kernel) (by decide +kernel) (by decide +kernel)
  (by first | exact .inl (by decide +kernel) | exact .inr (by decide +kernel)) (by rw [isSubtype_type];kernel_rfl)
theorem ann:Manifest.owners.lookup (String.ofList ['r','o','t','a','r','e','t','i','_','t','e','s'].reverse)=some Manifest.sig_set_iterator:=by kernel_rfl
theorem ano (a:Value):argsOk "set_iterator.__next__" ⟨[a],[]⟩:=by
 unfold argsOk;rw [signature?_of (id:="set_iterator.__next__") (n:=['_','_','t','x','e','n','_','_']) (o:=['r','o','t','a','r','e','t','i','_','t','e','s']) (by kernel_rfl) ann];kernel_rfl
theorem anp (a:Value):argsOk "set_iterator.__iter__" ⟨[a],[]⟩:=by
 unfold argsOk;rw [signature?_of (id:="set_iterator.__iter__") (n:=['_','_','r','e','t','i','_','_']) (o:=['r','o','t','a','r','e','t','i','_','t','e','s']) (by kernel_rfl) ann];kernel_rfl
theorem alc:entryFor table "set_iterator.__next__" = some Builtin.«set_iterator.__next__»:=entryFor_of_tree (by kernel_rfl)
theorem ald:entryFor table "set_iterator.__iter__" = some Builtin.«dict_keyiterator.__iter__»:=entryFor_alias (id':="dict_keyiterator.__iter__") (by kernel_rfl) rfl (by decide +kernel) (by kernel_rfl)
theorem ajv:entryFor table "set.__iter__" = some Builtin.«frozenset.__iter__»:=entryFor_alias (id':="frozenset.__iter__") (by kernel_rfl) rfl (by decide +kernel) (by kernel_rfl)
section
variable {prog:Program} {w:World} {A:Around} {E:Value->Shared->Prop} {s:Shared} {a I:Addr} {es:Array (Int × Value)} {ep:Nat} {t:SetTable}
def IsIt (h:Heap) (I:Addr) (vs:Array Value):Prop:=∃ o,h.get? I=some o/\o.cls=.type "set_iterator"/\o.data=.fields vs
theorem IsIt.ty {vs:Array Value} (x:IsIt s.heap I vs):s.TypeIs (.ref I) "set_iterator":=let ⟨o,e,c,_⟩:=x;⟨o,e,c⟩
theorem IsIt.at {h h':Heap} {vs:Array Value} (x:IsIt h I vs) (k:∀ o,h.get? I=some o->h'.get? I=some o):IsIt h' I vs:=let ⟨o,e,r⟩:=x;⟨o,k o e,r⟩
theorem SetR.ty (x:SetR prog w a es ep t s.heap):s.TypeIs (.ref a) "set":=let ⟨o,e,c,_⟩:=x;⟨o,e,c.1⟩
theorem adu {Q:(Array (Int × Value) × Nat × SetTable)->Shared->Prop} (x:SetR prog w a es ep t s.heap) (h:Q (es,ep,t) s):wpAny (model prog w) A (setState a) Q E s:=let ⟨_,b,_,hd,hf,_⟩:=x;wpAny_setState_of b hd hf h
theorem af3 {Q:Array (Int × Value)->Shared->Prop} (x:SetR prog w a es ep t s.heap) (h:Q es s):wpAny (model prog w) A (setEntries a) Q E s:=by
 unfold setEntries;exact aJ3 (adu x (aJ4 h))
theorem anq {Q:Nat->Shared->Prop} (x:SetR prog w a es ep t s.heap) (h:Q ep s):wpAny (model prog w) A (setEpoch a) Q E s:=by
 unfold setEpoch;exact aJ3 (adu x (aJ4 h))
theorem ajw {Q:Bool->Shared->Prop} (h:Q (bt w) s):wpAny (model prog w) A setsByText Q E s:=by
 unfold setsByText;exact aJ3 (wpAny_askSetting (aJ4 h))
theorem at4 {M:Model} {src:Source} {n:Nat} {Q:Nat->Shared->Prop} (hn:0 < n) (h:∀ i d,i < n->Q i { s with drawn:=d }):wpAny M A (choose src n) Q E s:=fun Γ p _=>by
 unfold choose
 rw [Sem.wp_choose]
 exact ⟨by lia,h _ _ (Nat.mod_lt _ hn)⟩
theorem ap4 {α:Type} {M:Model}:∀ (n:Nat) (xs:List α) (s:Shared) (Q:List α->Shared->Prop),xs.length=n->(∀ ys d,ys.Perm xs->Q ys { s with drawn:=d })->wpAny M A (drawOrder n xs) Q E s
 | 0,xs,s,Q,hn,h=>by
  unfold drawOrder
  rw [aH4 hn] at h
  exact aJ4 (h [] s.drawn (List.Perm.refl _))
 | n+1,[],s,Q,hn,h=>by cases hn
 | n+1,x :: xs,s,Q,hn,h=>by
  unfold drawOrder
  refine aJ3 (at4 (by simp) fun i d hi=>?_)
  rw [aA0 hi]
  dsimp only
  refine aJ3 (ap4 n _ _ _ (by rw [List.length_eraseIdx];split <;> lia) fun ys d' a=>aJ4 ?_)
  refine h _ d' ?_
  have e:(x :: xs)=(x :: xs).take i ++ (x :: xs)[i] :: (x :: xs).drop (i+1):=by
   rw [← List.drop_eq_getElem_cons hi,aC1]
  refine (a.cons _).trans ?_
  rw [List.eraseIdx_eq_take_drop_succ]
  refine List.Perm.trans ?_ (List.Perm.of_eq e.symm)
  exact List.perm_middle.symm
def dr (w:World) (es:Array (Int × Value)) (t:SetTable):Bool:=!bt w && (!t.plain && decide (es.size > 1))
def itO (f:Value) (a:Addr) (n ep:Nat):Obj:={ cls:=.type "set_iterator",data:=.fields #[f,rawInt (0:Nat),.ref a,rawInt n,rawInt ep] }
def tuO (pl:List Nat):Obj:={ cls:=.type "tuple",data:=.seq (pl.map fun (i:Nat)=>rawInt i).toArray }
theorem ay7 {Q:Value->Shared->Prop} (x:SetR prog w a es ep t s.heap) (hz:es.size<=sizeLine)
  (f:dr w es t=false->Q (.ref s.heap.objs.size) { s with heap:=s.heap.push (itO (rawInt (0:Nat)) a es.size ep) })
  (c:dr w es t=true->∀ pl d,pl.Perm (List.range es.size)->Q (.ref (s.heap.objs.size+1)) { s with heap:=(s.heap.push (tuO pl)).push (itO (.ref s.heap.objs.size) a es.size ep),drawn:=d }):wpAny (model prog w) A (pyIter (.ref a)) Q E s:=by
 refine wpAny_pyIter_slot x.ty PySem.F.slot_set_iter (aK6 PySem.F.slot_set_iter x.ty ajv ?body (PySem.F.args_set_iter_1 _))
 unfold Builtin.«frozenset.__iter__»
 show wpAny _ _ (Builtin.Frozenset.sizeOf a >>= _) _ _ s
 unfold Builtin.Frozenset.sizeOf
 refine aJ3 (aJ3 (af3 x (aJ4 ?_)))
 unfold setDrawn
 refine aJ3 (aJ3 (adu x (aJ3 (ajw (aJ4 ?_)))))
 show wpAny _ _ (if dr w es t=true then _ else _) _ _ s
 cases hd:dr w es t
 ·rw [aF8 (by decide)]
  refine aJ3 (aJ4 (aJ3 (anq x ?_)))
  unfold newFields
  refine aJ3 (aK3 (aJ4 ⟨_,rfl,"set_iterator",_,⟨_,aJ7 _ rfl,rfl⟩,slot_it_next.lookup,f hd⟩))
 ·rw [aF7 rfl]
  refine aJ3 (ap4 es.size (List.range es.size) s _ (by simp) fun pl d b=>?_)
  refine aJ3 (wpAny_newTuple ?_ (by rw [aA3,b.length_eq,aE1];exact hz))
  refine aJ3 (anq (x.at fun o e=>aJ5 _ e) ?_)
  unfold newFields
  refine aJ3 (aK3 (aJ4 ⟨_,rfl,"set_iterator",_,⟨_,aJ7 _ rfl,rfl⟩,slot_it_next.lookup,?_⟩))
  have:=c hd pl d b
  simp only [aK5]
  exact this
end
section
variable {prog:Program} {w:World} {A:Around} {E:Value->Shared->Prop} {s:Shared} {a I:Addr} {es:Array (Int × Value)} {ep:Nat} {t:SetTable}
def ord (w:World) (a:Addr) (es:Array (Int × Value)) (ep:Nat):List (Int × Value):=if bt w=true then (pickOrder (w.params.setOrder a ep) es).toList else es.toList
theorem ord_perm:(ord w a es ep).Perm es.toList:=by
 unfold ord;split
 ·exact aju _ _
 ·exact List.Perm.refl _
def sl (t:SetTable):Nat->Nat
 | 0=>0
 | i+1=>t.place.getD i 0+1
theorem arq (x:SetR prog w a es ep t s.heap) (hb:bt w=false) (hd:dr w es t=false):t.place.toList.Pairwise (· < ·):=by
 obtain ⟨o,_,_,_,hf,c⟩:=x
 unfold dr at hd
 rw [hb] at hd
 cases hp:t.plain with
 | true=>exact c.ris hp
 | false =>
  rw [hp] at hd
  have d:es.size<=1:=by simpa using hd
  have b:t.place.toList.length<=1:=by
   simp only [SetTable.fits,aH3,aG5] at hf
   rw [aA8];lia
  match hl:t.place.toList with
  | []=>exact .nil
  | [y]=>exact List.pairwise_singleton _ _
  | y :: z :: r=>rw [hl] at b;simp at b
theorem ay8 {slot i:Nat} {Q:Option (Value × Nat)->Shared->Prop} (x:SetR prog w a es ep t s.heap) (hd:dr w es t=false) (hs:bt w=false->slot=sl t i) (hi:i<=es.size)
  (m:∀ e nx,(ord w a es ep)[i]?=some e->(bt w=false->nx=sl t (i+1))->Q (some (e.2,nx)) s) (n:i=es.size->Q none s):wpAny (model prog w) A (setNext a slot i ep) Q E s:=by
 unfold setNext
 refine aJ3 (adu x ?_)
 dsimp only
 refine aJ3 (ajw ?_)
 cases hb:bt w with
 | true =>
  rw [aF7 rfl]
  rw [aF8 (by simp)]
  refine aJ3 ?_
  unfold setWalk
  refine aJ3 (adu x ?_)
  dsimp only
  refine aJ3 (ajw ?_)
  rw [hb,aF7 rfl]
  refine aJ3 (wpAny_askSetting (aJ4 (aJ4 ?_)))
  show Q ((pickOrder (w.params.setOrder a ep) es)[i]?.map fun e=>(e.2,slot)) s
  have d:ord w a es ep=(pickOrder (w.params.setOrder a ep) es).toList:=by unfold ord;rw [hb,aF7 rfl]
  rw [← aD6,← d]
  cases he:(ord w a es ep)[i]? with
  | none =>
   refine n ?_
   have:=aF9.mp he
   rw [ord_perm.length_eq,aA8] at this
   lia
  | some e=>exact m e slot he fun z=>by rw [hb] at z;cases z
 | false =>
  rw [aF8 (by decide)]
  have b:=arq x hb hd
  obtain ⟨o,y,B,r,hf,v⟩:=id x
  have q:t.place.size=es.size:=by
   simp only [SetTable.fits,aH3,aG5] at hf;exact hf.1
  have h:SetTable.below t.place slot=i:=by
   rw [hs hb]
   cases i with
   | zero=>exact arp _ b
   | succ j =>
    have u:j < t.place.toList.length:=by rw [aA8];lia
    have e:t.place.getD j 0=t.place.toList[j]:=by simp [Array.getD,show j < t.place.size by lia]
    show SetTable.below t.place (t.place.getD j 0+1)=j+1
    rw [e];exact aro _ b j u
  refine aJ3 (aJ4 ?_)
  have f:(!t.plain && decide (es.size > 1))=false:=by unfold dr at hd;rw [hb] at hd;exact hd
  show wpAny _ _ (if (!t.plain && decide (es.size > 1))=true then _ else _) _ _ s
  rw [f,aF8 (by decide)]
  refine aJ3 ?_
  show wpAny _ _ (if (!t.led && !es.isEmpty)=true then _ else _) _ _ s
  rw [v.led hb]
  rw [aF8 (by simp)]
  refine aJ4 ?_
  rw [h]
  have d:ord w a es ep=es.toList:=by unfold ord;rw [hb,aF8 (by decide)]
  rcases Nat.lt_or_ge i es.size with g | l
  ·have c:es[i]?=some es[i]:=aA4 g
   have p:t.place[i]?=some t.place[i]:=aA4 (by lia)
   rw [c,p]
   refine aJ4 (m es[i] _ (by rw [d,aD6];exact c) fun _=>?_)
   show t.place[i] + 1=t.place.getD i 0+1
   simp [Array.getD,show i < t.place.size by lia]
  ·have c:es[i]?=none:=Array.getElem?_eq_none_iff.mpr l
   rw [c]
   exact aJ4 (n (by lia))
theorem upd2 {h:Heap} {f x b n e:Value} {i:Value} (a:IsIt h I #[f,i,x,n,e]) (j:Nat) (v:Value) (vs:Array Value) (g : #[f,i,x,n,e].setIfInBounds j v=vs):IsIt (h.update I (Obj.mapFields (·.setIfInBounds j v))) I vs:=by
 obtain ⟨o,d,c,hd⟩:=a
 exact ⟨_,aK9 _ d (Obj.isFreed_of_fields (Obj.data_mapFields hd _)),(Obj.cls_mapFields ..).trans c,by rw [Obj.data_mapFields hd,g]⟩
theorem adw {vs:Array Value} {i:Nat} {x:Value} {Q:Unit->Shared->Prop} (a:IsIt s.heap I vs) (hi:i < vs.size) (h:Q () { s with heap:=s.heap.update I (Obj.mapFields (·.setIfInBounds i x)) }):wpAny (model prog w) A (setField (.ref I) i x) Q E s:=by
 obtain ⟨o,b,c,hd⟩:=a
 exact wpAny_setField b hd hi h
theorem ap5 {vs:Array Value} {Q:Option Value->Shared->Prop} (a:IsIt s.heap I vs)
  (h:wpAny (model prog w) A.in1 (Builtin.«set_iterator.__next__» ⟨[.ref I],[]⟩) (fun fin s'=>∃ v,fin=.done (.ret v)/\Q (some v) s') (fun e s'=>wpAny (model prog w) A (do if ← isInstance e (.type "StopIteration") then pure none else throw e) Q E s') s) :
  wpAny (model prog w) A (pyNext (.ref I)) Q E s:=by
 unfold pyNext
 refine aJ3 (wpAny_attempt (wpAny_callSpecial?_slot (name:=Str.ofString "__next__") a.ty slot_it_next (aK6 slot_it_next a.ty alc ?b (ano _))))
 case b =>
  refine aK2 h ?_ ?_
  ·rintro fin s' ⟨v,rfl,q⟩
   exact ⟨v,rfl,aJ4 q⟩
  ·intro e s' q;exact q
theorem ap6 {Q:Option Value->Shared->Prop} {F:Type} {c:F->Shared->Prop} (hh:A.handled=none) (h:∀ h',(∀ b o,s.heap.get? b=some o->h'.get? b=some o)->Q none { s with heap:=h' }) :
  wpAny (model prog w) A.in1 (newExc (.type "StopIteration") [] >>= fun e=>(raiseNew e:Sem F)) c (fun e s'=>wpAny (model prog w) A (do if ← isInstance e (.type "StopIteration") then pure none else throw e) Q E s') s:=by
 refine aJ3 ?_
 simp only [newExc,newTuple];refine aJ3 (aK3 ?_ (by size_fits))
 refine aJ3 (m:=firstArgMember _ _) (wpAny_of_eq (a:=Value.none) (by first | rfl | (simp only [firstArgMember];rfl)) (aK3 ?_ (by size_fits)))
 simp only [raiseNew];refine aJ3 (wpAny_handled ?_)
 rw [show A.in1.handled=none from hh];refine aJ3 (aJ4 (wpAny_throw ?_))
 refine aJ3 (wpAny_isInstance (T:="StopIteration") (b:=true) ⟨_,aJ7 _ rfl,rfl⟩ isSubtype_stop ?_)
 exact aJ4 (h _ fun b o e=>aJ5 _ (aJ5 _ e))
theorem ap7 {slot i:Nat} {Q:Option Value->Shared->Prop} (hh:A.handled=none) (n:a ≠ I) (c:IsIt s.heap I #[rawInt slot,rawInt i,.ref a,rawInt es.size,rawInt ep]) (x:SetR prog w a es ep t s.heap) (hd:dr w es t=false) (hs:bt w=false->slot=sl t i) (hi:i<=es.size)
  (j:∀ e (nx:Nat) h',(ord w a es ep)[i]?=some e->(bt w=false->nx=sl t (i+1))->IsIt h' I #[rawInt nx,rawInt ((i+1:Nat):Int),.ref a,rawInt es.size,rawInt ep]->(∀ b o,b ≠ I->s.heap.get? b=some o->h'.get? b=some o)->Q (some e.2) { s with heap:=h' })
  (l:i=es.size->∀ h',(∀ b o,b ≠ I->s.heap.get? b=some o->h'.get? b=some o)->Q none { s with heap:=h' }):wpAny (model prog w) A (pyNext (.ref I)) Q E s:=by
 refine ap5 c ?_
 obtain ⟨o,h,p,g⟩:=id c
 unfold Builtin.«set_iterator.__next__»
 refine aJ3 (aJ4 (aJ3 (wpAny_fieldsOf h g ?_)))
 show wpAny _ _ (setEntries a >>= _) _ _ s
 refine aJ3 (af3 x ?_)
 rw [aF8 (by simp)]
 show wpAny _ _ (setNext a slot i ep >>= _) _ _ s
 refine aJ3 (ay8 x hd hs hi (fun e nx m hn=>?_) fun hz=>?_)
 ·dsimp only
  refine aJ3 (adw c (by simp) ?_)
  have d:=upd2 (b:=.none) c 0 (rawInt nx) #[rawInt nx,rawInt i,.ref a,rawInt es.size,rawInt ep] rfl
  refine aJ3 (adw (s:={ s with heap:=_ }) d (by simp) ?_)
  have f:=upd2 (b:=.none) d 1 (rawInt ((i+1:Nat):Int)) #[rawInt nx,rawInt ((i+1:Nat):Int),.ref a,rawInt es.size,rawInt ep] rfl
  refine aJ4 ⟨_,rfl,j e nx _ m hn f fun b o hb e=>?_⟩
  exact (aK1 _ _ (Ne.symm hb)).trans ((aK1 _ _ (Ne.symm hb)).trans e)
 ·dsimp only
  refine aJ3 (adw c (by simp) ?_)
  refine ap6 (s:={ s with heap:=s.heap.update I _ }) hh fun h' k=>l hz h' fun b o hb e=>k b o ((aK1 _ _ (Ne.symm hb)).trans e)
theorem ap8 {vs:Array Value} {Q:Value->Shared->Prop} (a:IsIt s.heap I vs) (h:Q (.ref I) s):wpAny (model prog w) A (pyIter (.ref I)) Q E s:=by
 refine wpAny_pyIter_slot a.ty ago (aK6 ago a.ty ald ?_ (anp _))
 show wpAny _ _ (ret (.ref I)) _ _ s
 exact aJ4 ⟨_,rfl,"set_iterator",_,a.ty,slot_it_next.lookup,h⟩
theorem walks (hh:A.handled=none) (d:a ≠ I) (hd:dr w es t=false):Walks prog w A I [I,a] [I] es.size (fun i v=>((ord w a es ep).map (·.2))[i]?=some v)
  (fun i h=>∃ slot:Nat,IsIt h I #[rawInt slot,rawInt i,.ref a,rawInt es.size,rawInt ep]/\SetR prog w a es ep t h/\(bt w=false->slot=sl t i)) where
 sub:=fun b hb=>by simp at hb;simp [hb]
 frame:=fun _ _ _ st n=>let ⟨slot,c,f,l⟩:=st;⟨slot,c.at fun o e=>n I (by simp) o e,f.at fun o e=>n a (by simp) o e,l⟩
 item:=fun i s Q E hi st g=>by
  obtain ⟨slot,c,f,l⟩:=st
  refine ap7 hh d c f hd l (aG7 hi) (fun e nx h' m hn j k=>?_) fun hz=>by lia
  exact g _ h' s.toks (by rw [aA5,m];rfl) ⟨nx,j,f.at fun o e=>k a o d e,hn⟩ fun b o hb e=>k b o (fun z=>hb (by simp [z])) e
 done:=fun s Q E st g=>by
  obtain ⟨slot,c,f,l⟩:=st
  refine ap7 hh d c f hd l (aA6 _) (fun e nx h' m hn j k=>?_) fun hz h' k=>g h' s.toks fun b o hb e=>k b o (fun z=>hb (by simp [z])) e
  have:=(aA1.mp m).1
  rw [ord_perm.length_eq,aA8] at this
  lia
 self:=fun _ _ _ _ st g=>let ⟨_,c,_,_⟩:=st;ap8 c g
theorem aw2 {i:Nat} {tu:Addr} {pl:List Nat} {Q:Option Value->Shared->Prop} (hh:A.handled=none) (c:IsIt s.heap I #[.ref tu,rawInt i,.ref a,rawInt es.size,rawInt ep]) (v:s.heap.get? tu=some (tuO pl)) (x:SetR prog w a es ep t s.heap) (m:pl.Perm (List.range es.size)) (hi:i<=es.size)
  (q:∀ e h' j,pl[i]?=some j->es[j]?=some e->IsIt h' I #[.ref tu,rawInt ((i+1:Nat):Int),.ref a,rawInt es.size,rawInt ep]->(∀ b o,b ≠ I->s.heap.get? b=some o->h'.get? b=some o)->Q (some e.2) { s with heap:=h' })
  (r:i=es.size->∀ h',(∀ b o,b ≠ I->s.heap.get? b=some o->h'.get? b=some o)->Q none { s with heap:=h' }):wpAny (model prog w) A (pyNext (.ref I)) Q E s:=by
 refine ap5 c ?_
 obtain ⟨o,p,z,f⟩:=id c
 unfold Builtin.«set_iterator.__next__»
 refine aJ3 (aJ4 (aJ3 (wpAny_fieldsOf p f ?_)))
 show wpAny _ _ (setEntries a >>= _) _ _ s
 refine aJ3 (af3 x ?_)
 rw [aF8 (by simp)]
 show wpAny _ _ (seqItems? (.ref tu) >>= _) _ _ s
 refine aJ3 (wpAny_seqItems v rfl ?_)
 dsimp only
 have n:pl.length=es.size:=by rw [m.length_eq,aE1]
 have B:(rawInt (i:Int))=.int i 0:=rfl
 rcases Nat.lt_or_ge i es.size with u | y
 ·have l:pl[i]?=some pl[i]:=aA0 (by lia)
  have g:(pl.map fun (i:Nat)=>rawInt i).toArray[(i:Int).toNat]?=some (rawInt pl[i]):=by
   rw [Int.toNat_natCast,List.getElem?_toArray,aA5,l];rfl
  rw [g]
  have hm:pl[i] < es.size:=aB9.mp (m.mem_iff.mp (aF4 _))
  have h:es[pl[i]]?=some es[pl[i]]:=aA4 hm
  show wpAny _ _ (setNextDrawn a pl[i] ep >>= _) _ _ s
  unfold setNextDrawn
  refine aJ3 (aJ3 (adu x ?_))
  dsimp only
  rw [aF8 (by simp),h]
  refine aJ4 ?_
  refine aJ3 (adw c (by simp) ?_)
  have d:=upd2 (b:=.none) c 1 (rawInt ((i+1:Nat):Int)) #[.ref tu,rawInt ((i+1:Nat):Int),.ref a,rawInt es.size,rawInt ep] rfl
  exact aJ4 ⟨_,rfl,q _ _ _ l h d fun b o hb e=>(aK1 _ _ (Ne.symm hb)).trans e⟩
 ·have g:(pl.map fun (i:Nat)=>rawInt i).toArray[(i:Int).toNat]?=none:=by
   rw [Int.toNat_natCast,List.getElem?_toArray,aA5,aF9.mpr (by lia)];rfl
  rw [g]
  dsimp only
  refine aJ3 (adw c (by simp) ?_)
  have d:=upd2 (b:=.none) c 0 (rawInt 0) #[rawInt 0,rawInt i,.ref a,rawInt es.size,rawInt ep] rfl
  refine aJ3 (adw (s:={ s with heap:=_ }) d (by simp) ?_)
  refine ap6 (s:={ s with heap:=(s.heap.update I _).update I _ }) hh fun h' k=>r (by lia) h' fun b o hb e=>k b o ((aK1 _ _ (Ne.symm hb)).trans ((aK1 _ _ (Ne.symm hb)).trans e))
def ordD (es:Array (Int × Value)) (pl:List Nat):List Value:=pl.map fun j=>(es.toList.map (·.2)).getD j .none
theorem at5 {pl:List Nat} (a:pl.Perm (List.range es.size)):(ordD es pl).Perm (es.toList.map (·.2)):=by
 refine (a.map _).trans (List.Perm.of_eq ?_)
 refine List.ext_getElem (by simp) fun i b c=>?_
 have:i < es.size:=by simpa using b
 simp [aD4,this]
theorem a1x {tu:Addr} {pl:List Nat} (hh:A.handled=none) (r:a ≠ I) (m:tu ≠ I) (q:pl.Perm (List.range es.size)):Walks prog w A I [I,a,tu] [I] es.size (fun i v=>(ordD es pl)[i]?=some v)
  (fun i h=>IsIt h I #[.ref tu,rawInt i,.ref a,rawInt es.size,rawInt ep]/\SetR prog w a es ep t h/\h.get? tu=some (tuO pl)) where
 sub:=fun b hb=>by simp at hb;simp [hb]
 frame:=fun _ _ _ st p=>let ⟨f,c,d⟩:=st;⟨f.at fun o e=>p I (by simp) o e,c.at fun o e=>p a (by simp) o e,p tu (by simp) _ d⟩
 item:=fun i s Q E hi st g=>by
  obtain ⟨f,c,d⟩:=st
  refine aw2 hh f d c q (aG7 hi) (fun e h' j n u l k=>?_) fun hz=>by lia
  refine g _ h' s.toks ?_ ⟨l,c.at fun o e=>k a o r e,k tu _ m d⟩ fun b o hb e=>k b o (fun z=>hb (by simp [z])) e
  unfold ordD
  rw [aA5,n]
  simp [aD4,u]
 done:=fun s Q E st g=>by
  obtain ⟨f,c,d⟩:=st
  refine aw2 hh f d c q (aA6 _) (fun e h' j n u l k=>?_) fun hz h' k=>g h' s.toks fun b o hb e=>k b o (fun z=>hb (by simp [z])) e
  have:=(aA1.mp n).1
  rw [q.length_eq,aE1] at this
  lia
 self:=fun _ _ _ _ st g=>ap8 st.1 g
end
section
variable {prog:Program} {w:World} {A:Around} {E:Value->Shared->Prop} {s:Shared} {a:Addr} {es:Array (Int × Value)} {ep:Nat} {t:SetTable}
theorem ay9 {Q:Bool->Shared->Prop} (d:s.TypeIs (.ref a) "set") (h:Q false s):wpAny (model prog w) A (Builtin.List.listLengthHint (.ref a)) Q E s:=by
 unfold Builtin.List.listLengthHint
 refine aJ3 (wpAny_specialOf d PySem.F.slot_set_len.lookup ?_)
 generalize hid:("set.__len__" : String)=id0
 wp_delta
 rw [show splitId id0=some ("set","__len__") from by subst hid;decide +kernel]
 subst hid
 refine aJ3 (wpAny_isInstance (T:="set") (b:=true) d sub_set_self ?_)
 refine wpAny_ite_split (fun c=>absurd c (by decide)) (fun _=>?_)
 refine wpAny_ite_split (fun _=>?_) (fun c=>absurd (by decide +kernel) c)
 refine aJ3 (wpAny_typeOf d ?_)
 exact aJ4 h
theorem av6 {a:List Value} {b:Array Value} (h:ItemsOf (fun i v=>a[i]?=some v) b a.length):b.toList=a:=by
 obtain ⟨f,c⟩:=h
 refine List.ext_getElem (by simpa using f) fun i a1 d=>?_
 have:=c i b.toList[i] (by rw [← aD6];exact aA0 a1)
 exact (aC6 ((aA0 d).symm.trans this)).symm
theorem a1y {R:Result->Shared->Prop} (hh:A.handled=none) (x:SetR prog w a es ep t s.heap) (hz:es.size<=sizeLine) (S:Addr) (E:S ≠ a) (res:Value) (z:Nat) (U:s.heap.get? S=some { cls:=.type "list",data:=.seq #[] z })
  (hR:∀ h' N d H c,(∀ b o,b ≠ S->s.heap.get? b=some o->h'.get? b=some o)->h'.get? S=some { cls:=.type "list",dict:=none,data:=.seq H c,slots:=#[] }->H.toList.Perm (es.toList.map (·.2))->R (.ok (.ret res)) { s with heap:=h',toks:=N,drawn:=d }) :
  wpAny (model prog w) A.in1 (Builtin.List.listExtendWith (.ref S) (.ref a) res)
   (fun fin s'=>match fin with | .done f=>R (.ok f) s' | .again C=>C.quiet=true/\codeAny (model prog w) A C R s') (fun e s'=>R (.error e) s') s:=by
 have K:∀ (I:Addr) (fp:List Addr) (St:Nat->Heap->Prop) (g:List Value) (d:Drawn) (h:Heap) (r:Nat) (N:Nat),Walks prog w A.in1 I fp [I] es.size (fun i v=>g[i]?=some v) St->S ∉ fp->s.heap.objs.size<=I->g.Perm (es.toList.map (·.2))->St 0 h->(∀ b o,b ≠ S->s.heap.get? b=some o->h.get? b=some o) ->
   h.get? S=some { cls:=.type "list",data:=.seq #[] r }->codeAny (model prog w) A (.builtin "list.extend.loop" ⟨[.ref S,.ref I,res],[]⟩) R { s with heap:=h,toks:=N,drawn:=d }:=by
  intro I fp St g d h r N W m M B O G j
  refine codeAny_extend_loopS W.toS hz S m res es.size 0 _ #[] r rfl (aG2 _) O j (ItemsOf.nil _) fun s' L C hm P u=>?_
  have hl:es.size=g.length:=by rw [B.length_eq,aA3,aA8]
  rw [hl] at u
  rw [Moved.eq_with hm]
  refine hR s'.heap s'.toks d L C (fun b o hb e=>hm.heap b o (fun l=>?_) (G b o hb e)) P (by rw [av6 u];exact B)
  rcases aA9.mp l with Y | l
  ·exact hb Y
  ·rw [aC2] at l
   subst l
   exact absurd (aJ6 e) (Nat.not_lt.mpr M)
 have n:=aJ6 U
 have y:a < s.heap.objs.size:=let ⟨_,e,_⟩:=x;aJ6 e
 unfold Builtin.List.listExtendWith
 refine aJ3 (wpAny_typeOf (T:="set") x.ty ?_)
 have X:Builtin.List.listSameRef (.ref S) (.ref a)=false:=by simp [Builtin.List.listSameRef,E]
 have Z:(Value.type "set" == Value.type "list")=false:=by decide
 have h3:(Value.type "set" == Value.type "tuple")=false:=by decide
 simp only [X,Z,h3,Bool.or_false,Bool.false_eq_true,if_false]
 have q:∀ (Q:Bool) (I:Addr) (fp:List Addr) (St:Nat->Heap->Prop) (g:List Value) (d:Drawn) (h:Heap),Walks prog w A.in1 I fp [I] es.size (fun i v=>g[i]?=some v) St->S ∉ fp->s.heap.objs.size<=I->g.Perm (es.toList.map (·.2))->St 0 h->(∀ b o,s.heap.get? b=some o->h.get? b=some o)->
   wpAny (model prog w) A.in1 (holding [.ref I] (Builtin.List.listLengthHint (.ref a)) >>= fun room=>if (room || Q)=true then (rule "list.extend.makes-room" >>= fun _=>Builtin.List.listTouch (.ref S) >>= fun _=>again (.builtin "list.extend.loop" ⟨[.ref S,.ref I,res],[]⟩)) else again (.builtin "list.extend.loop" ⟨[.ref S,.ref I,res],[]⟩)) (fun fin s'=>match fin with | .done f=>R (.ok f) s' | .again C=>C.quiet=true/\codeAny (model prog w) A C R s') (fun e s'=>R (.error e) s') { s with heap:=h,drawn:=d }:=by
  intro Q I fp St g d h W m M B st G
  have j:=G _ _ U
  refine aJ3 (aJ9 (ay9 (s:={ s with heap:=h,drawn:=d }) (SetR.ty (s:={ s with heap:=h,drawn:=d }) (x.at fun o e=>G a o e)) ?_))
  refine wpAny_ite_split (fun _=>?_) (fun _=>aJ4 ⟨plainId_quiet PySem.F.plain_extend_loop _,K I fp St g d h z _ W m M B st (fun b o _ e=>G b o e) j⟩)
  refine aJ3 (wpAny_rule ?_)
  refine aJ3 ?_
  show wpAny _ _ (updateSeq S (·.push .none) >>= fun _=>updateSeq S (·.pop)) _ _ _
  refine aJ3 (wpAny_updateSeq j rfl ?_)
  have p:=aK9 (Obj.mapSeq (·.push Value.none)) j rfl
  refine wpAny_updateSeq (hz:=by seq_fits) p rfl ?_
  have D:=aK9 (Obj.mapSeq (·.pop)) p rfl
  refine aJ4 ⟨plainId_quiet PySem.F.plain_extend_loop _,K I fp St g d _ _ _ W m M B ?_ (fun b o hb e=>?_) D⟩
  ·refine W.frame 0 _ _ st fun b hb o e=>?_
   have J:b ≠ S:=fun h=>m (h ▸ hb)
   exact (aK1 _ _ (Ne.symm J)).trans ((aK1 _ _ (Ne.symm J)).trans e)
  ·exact (aK1 _ _ (Ne.symm hb)).trans ((aK1 _ _ (Ne.symm hb)).trans (G b o e))
 refine aJ3 (ay7 x hz (fun hd=>?_) fun hd pl d B=>?_)
 ·exact q _ s.heap.objs.size _ _ ((ord w a es ep).map (·.2)) s.drawn _ (walks (A:=A.in1) (prog:=prog) (w:=w) (t:=t) (ep:=ep) hh (aB6 y) hd) (by simp only [aA9,aI6,or_false,not_or];exact ⟨aB6 n,E⟩) (aA6 _) (ord_perm.map _)
   ⟨0,⟨_,aJ7 _ rfl,rfl,rfl⟩,x.at fun o e=>aJ5 _ e,fun _=>rfl⟩ fun b o e=>aJ5 _ e
 ·refine q _ (s.heap.objs.size+1) _ _ (ordD es pl) d _ (a1x (A:=A.in1) (prog:=prog) (w:=w) (t:=t) (ep:=ep) (tu:=s.heap.objs.size) hh (aB6 (aG0 y)) (aB6 (aJ0 _)) B) (by simp only [aA9,aI6,or_false,not_or];exact ⟨aB6 (aG0 n),E,aB6 n⟩) (Nat.le_succ _) (at5 B)
   ⟨⟨itO (.ref s.heap.objs.size) a es.size ep,?_,rfl,rfl⟩,x.at fun o e=>aJ5 _ (aJ5 _ e),aJ5 _ (aJ7 _ rfl)⟩ fun b o e=>aJ5 _ (aJ5 _ e)
  have:=aJ7 (s.heap.push (tuO pl)) (o:=itO (.ref s.heap.objs.size) a es.size ep) rfl
  rw [aK5] at this
  exact this
theorem aom {Q:List Value->Shared->Prop} (hh:A.handled=none) (x:SetR prog w a es ep t s.heap) (hz:es.size<=sizeLine)
  (m:∀ h' j d (vs:List Value),(∀ b o,s.heap.get? b=some o->h'.get? b=some o)->s.heap.objs.size<=h'.objs.size->vs.Perm (es.toList.map (·.2))->Q vs { s with heap:=h',toks:=j,drawn:=d }):wpAny (model prog w) A (collect (.ref a)) Q E s:=by
 unfold collect
 refine aJ3 (wpAny_runValue (aL0 PySem.F.entry_proto_collect ?a1))
 case a1 =>
  rw [aK4 PySem.F.plain_proto_collect _];show wpAny _ A.in1 (newList [] >>= fun l=>again (.builtin "list.__iadd__" ⟨[l,.ref a],[]⟩)) _ _ s
  refine aJ3 (aK3 (aJ4 ⟨plainId_quiet PySem.F.plain_list_iadd _,aL0 PySem.F.entry_list_iadd ?a2⟩))
  case a2 =>
   rw [aK4 PySem.F.plain_list_iadd _];show wpAny _ A.in1 (Builtin.List.listExtendWith (.ref s.heap.objs.size) (.ref a) (.ref s.heap.objs.size)) _ _ _
   have n:(s.heap.push { cls:=.type "list",data:=.seq ([]:List Value).toArray }).get? s.heap.objs.size=some { cls:=.type "list",data:=.seq #[] 0 }:=aJ7 _ rfl
   have g:a < s.heap.objs.size:=let ⟨_,e,_⟩:=x;aJ6 e
   refine a1y (R:=wants (fun v s'=>wpAny (model prog w) A (match v with | .ref a=>(do match (← load a).data with | .seq xs _=>pure xs.toList | _=>unsupported "internal:collect") | _=>unsupported "internal:collect") Q E s') E) (s:={ s with heap:=s.heap.push { cls:=.type "list",data:=.seq ([]:List Value).toArray } }) hh (x.at fun o e=>aJ5 _ e) hz s.heap.objs.size (Nat.ne_of_gt g) _ 0 n (fun h' j d i c k h f=>?a3)
   case a3 =>
    show wpAny (model prog w) A _ Q E _
    refine aJ3 (wpAny_load h ?a4)
    case a4=>exact aJ4 (m h' j d i.toList (fun b o e=>k b o (aB6 (aJ6 e)) (aJ5 _ e)) (aG7 (aJ6 h)) f)
end
section
variable {prog:Program} {w:World} {A:Around} {E:Value->Shared->Prop} {s:Shared} {a:Addr}
end
end SS
namespace L2
open PySem PySem.W PyProof.Rows
section
variable {X:Cx}
theorem Inv.drawn' {pins:List (Addr × Obj)} {σ:St} {H:Hp} {s:Shared} (I:Inv X pins σ H s) (d:Drawn):Inv X pins σ H { s with drawn:=d }:=⟨I.ok,I.os,I.bare,I.base,I.loc,I.cell,I.free,I.freeC,I.pin,I.hok,I.len⟩
end
end L2
namespace VL
open PySem PySem.Spec L2
section
variable {B:Bs} {env:En} {QO:Sl->En->Prop} {K:Frag} {ta:TA} {P:Program} {w:World}
end
end VL
namespace SH
open PySem PySem.SetTable
def it:Nat->Nat->Nat
 | 0,x=>x
 | n+1,x=>it n (5 * x+1)
theorem ai0:∀ (a b x:Nat),it (a+b) x=it b (it a x)
 | 0,b,x=>by rw [Nat.zero_add];rfl
 | a+1,b,x=>by rw [Nat.add_right_comm];exact ai0 a b (5 * x+1)
theorem a1z (m:Nat):∃ c d:Nat,∀ x,it (2 ^ m) x=(1+2 ^ (m+2) * c) * x+2 ^ m * (2 * d+1):=by
 induction m with
 | zero=>exact ⟨1,0,fun x=>by show 5 * x+1=_;lia⟩
 | succ m ih =>
  obtain ⟨c,d,h⟩:=ih
  refine ⟨c+2 ^ (m+1) * (c * c),d+2 ^ m * c * (2 * d+1),fun x=>?_⟩
  rw [show 2 ^ (m+1)=2 ^ m+2 ^ m by rw [Nat.pow_succ];lia,ai0,h,h]
  have b:2 ^ (m+2)=4 * 2 ^ m:=by rw [Nat.pow_add];lia
  have a:2 ^ (m+1+2)=8 * 2 ^ m:=by rw [Nat.pow_add,Nat.pow_succ];lia
  rw [b,a]
  generalize 2 ^ m=P
  grind
theorem a10 (m:Nat) (x j:Nat):∃ r,r < 2 ^ m/\it r x % 2 ^ m=j % 2 ^ m:=by
 induction m with
 | zero=>exact ⟨0,by decide,by rw [Nat.pow_zero,Nat.mod_one,Nat.mod_one]⟩
 | succ m ih =>
  obtain ⟨r,p,e⟩:=ih
  obtain ⟨c,d,h⟩:=a1z m
  have l:0 < 2 ^ m:=Nat.pow_pos (by decide)
  have g:2 ^ (m+1)=2 ^ m * 2:=Nat.pow_succ ..
  have n:2 ^ (m+2)=2 ^ m * 4:=by rw [Nat.pow_add]
  rw [g]
  have i:=Nat.mod_mul (x:=it r x) (a:=2 ^ m) (b:=2)
  have f:=Nat.mod_mul (x:=j) (a:=2 ^ m) (b:=2)
  by_cases hq:it r x / 2 ^ m % 2=j / 2 ^ m % 2
  ·exact ⟨r,by lia,by rw [i,f,e,hq]⟩
  ·refine ⟨r+2 ^ m,by lia,?_⟩
   rw [ai0,h,n]
   have o:(1+2 ^ m * 4 * c) * it r x+2 ^ m * (2 * d+1)=it r x+2 ^ m * (4 * (c * it r x)+2 * d+1):=by
    generalize 2 ^ m=P
    grind
   rw [o,Nat.mod_mul,f,Nat.add_mul_mod_self_left,e,Nat.add_mul_div_left _ _ l]
   have:(it r x / 2 ^ m+(4 * (c * it r x)+2 * d+1)) % 2=j / 2 ^ m % 2:=by
    generalize c * it r x=z
    lia
   rw [this]
theorem aza (r x:Nat):it (r+1) x=5 * it r x+1:=by rw [ai0];rfl
def adv (mask:Nat) (p:Probe):Probe:=if p.more > 0 then { p with j:=p.j+1,more:=p.more - 1 } else { p with j:=(leap mask p.i p.perturb).1,more:=runEnd mask (leap mask p.i p.perturb).1 - (leap mask p.i p.perturb).1,i:=(leap mask p.i p.perturb).1,perturb:=(leap mask p.i p.perturb).2 }
def pr0 (mask:Nat) (h:Int):Probe:={ j:=bits h % (mask+1),more:=runEnd mask (bits h % (mask+1)) - bits h % (mask+1),i:=bits h % (mask+1),perturb:=bits h,dummy:=none }
def pr (mask:Nat) (h:Int):Nat->Probe
 | 0=>pr0 mask h
 | k+1=>adv mask (pr mask h k)
theorem anr (mask:Nat) (h:Int):∀ k,(pr mask h k).dummy=none
 | 0=>rfl
 | k+1=>by
  have:=anr mask h k
  show (adv mask (pr mask h k)).dummy=none
  unfold adv
  split <;> exact this
def lp (mask:Nat) (h:Int):Nat->Nat × Nat
 | 0=>(bits h % (mask+1),bits h)
 | n+1=>leap mask (lp mask h n).1 (lp mask h n).2
def pAt (mask:Nat) (q:Nat × Nat) (a:Nat):Probe:={ j:=q.1+a,more:=runEnd mask q.1 - q.1 - a,i:=q.1,perturb:=q.2,dummy:=none }
theorem a11 (mask i:Nat):runEnd mask i - i<=9:=by unfold runEnd;split <;> lia
theorem ans {mask:Nat} {h:Int} {s:Nat} {q:Nat × Nat} (e:pr mask h s=pAt mask q 0):∀ a,a<=runEnd mask q.1 - q.1->pr mask h (s+a)=pAt mask q a
 | 0,_=>e
 | a+1,ha=>by
  have b:=ans e a (by lia)
  show adv mask (pr mask h (s+a))=_
  rw [b]
  unfold adv pAt
  rw [aF7 (by show runEnd mask q.1 - q.1 - a > 0;lia)]
  show Probe.mk _ _ _ _ _=Probe.mk _ _ _ _ _
  congr 1
theorem azb {mask:Nat} {h:Int} {s:Nat} {q:Nat × Nat} (e:pr mask h s=pAt mask q 0):pr mask h (s+(runEnd mask q.1 - q.1)+1)=pAt mask (leap mask q.1 q.2) 0:=by
 have:=ans e _ (aA6 _)
 show adv mask (pr mask h (s+_))=_
 rw [this]
 unfold adv pAt
 rw [aF8 (by show ¬ (runEnd mask q.1 - q.1 - (runEnd mask q.1 - q.1) > 0);lia)]
 rfl
def sp (mask:Nat) (h:Int):Nat->Nat
 | 0=>0
 | n+1=>sp mask h n+(runEnd mask (lp mask h n).1 - (lp mask h n).1)+1
theorem aw3 (mask:Nat) (h:Int):∀ n,sp mask h n<=10 * n
 | 0=>aA6 _
 | n+1=>by
  have:=aw3 mask h n
  have:=a11 mask (lp mask h n).1
  unfold sp
  lia
theorem ars (mask:Nat) (h:Int):∀ n,pr mask h (sp mask h n)=pAt mask (lp mask h n) 0
 | 0=>rfl
 | n+1=>azb (ars mask h n)
theorem ap9 (mask:Nat) (h:Int):∀ n,(lp mask h n).2=bits h / 32 ^ n
 | 0=>by show bits h=_;rw [Nat.pow_zero,Nat.div_one]
 | n+1=>by
  show (lp mask h n).2 / 32=_
  rw [ap9 mask h n,Nat.div_div_eq_div_mul,Nat.pow_succ]
theorem azc (h:Int):bits h < 2 ^ 64:=by
 unfold bits
 have a:=aE7 h (show (2 ^ 64:Int) ≠ 0 by decide)
 have b:=aE8 h (show (0:Int) < 2 ^ 64 by decide)
 lia
theorem azd (mask:Nat) (h:Int) (r:Nat):(lp mask h (13+r)).2=0:=by
 rw [ap9]
 apply Nat.div_eq_of_lt
 refine aC5 (azc h) ?_
 rw [Nat.pow_add]
 exact aD0 (show 2 ^ 64<=32 ^ 13 by decide) (Nat.le_mul_of_pos_right _ (Nat.pow_pos (by decide)))
theorem aw4 (mask:Nat) (h:Int):∀ r,(lp mask h (13+r)).1 % (mask+1)=it r (lp mask h 13).1 % (mask+1)
 | 0=>rfl
 | r+1=>by
  show ((lp mask h (13+r)).1 * 5+1+(lp mask h (13+r)).2 / 32) % (mask+1) % (mask+1)=_
  rw [azd,aza,Nat.mod_mod,show 0 / 32=0 from rfl,Nat.add_zero,Nat.add_mod,Nat.mul_mod,aw4 mask h r,← Nat.mul_mod,← Nat.add_mod,Nat.mul_comm]
theorem aw5 (mask:Nat) (h:Int):∀ n,(lp mask h n).1 < mask+1
 | 0=>Nat.mod_lt _ (Nat.succ_pos _)
 | n+1=>Nat.mod_lt _ (Nat.succ_pos _)
theorem at6 {mask m:Nat} (hm:mask+1=2 ^ m) (h:Int) (j:Nat) (b:j<=mask):∃ n,n < mask+14/\(lp mask h n).1=j:=by
 obtain ⟨r,c,e⟩:=a10 m (lp mask h 13).1 j
 refine ⟨13+r,by lia,?_⟩
 have a:=aw4 mask h r
 rw [hm,e,← hm,Nat.mod_eq_of_lt (aw5 mask h _),Nat.mod_eq_of_lt (show j < mask+1 by lia)] at a
 exact a
theorem a12 {mask m:Nat} (hm:mask+1=2 ^ m) (h:Int) (j:Nat) (a:j<=mask):∃ k,k < 10 * turns mask/\(pr mask h k).j=j:=by
 obtain ⟨n,hn,e⟩:=at6 hm h j a
 refine ⟨sp mask h n,?_,by rw [ars];exact e⟩
 have:=aw3 mask h n
 unfold turns
 lia
structure TOk (t:SetTable):Prop where
 ris:t.place.toList.Pairwise (· < ·)
 dum:t.dummies = #[]
 le:∀ j∈t.place.toList,j<=t.mask
 two:∃ m,t.mask+1=2 ^ m
 room:t.place.size<=t.mask
theorem aec {t:SetTable} (x:TOk t) {j i:Nat}:t.slot j=.live i ↔ t.place.toList[i]?=some j:=by
 have hb:=SS.below_ok t.place j x.ris
 unfold slot
 dsimp only
 rw [x.dum,SS.has_nil]
 constructor
 ·intro h
  split at h
  ·rename_i e
   cases h
   have e:=eq_of_beq e
   rw [aD6]
   exact e
  ·cases h
 ·intro h
  obtain ⟨hi,e⟩:=aA1.mp h
  have b:below t.place j=i:=by
   rcases Nat.lt_trichotomy (below t.place j) i with a | a | a
   ·have d:=hb.2.2 (below t.place j) (by lia) (aA6 _)
    have c:=aG9.mp x.ris (below t.place j) i (by lia) hi a
    lia
   ·exact a
   ·have:=hb.2.1 i hi a
    lia
  rw [b,aF7 (by rw [← aD6,h];exact beq_self_eq_true _)]
theorem ai1 {t:SetTable} (x:TOk t) (j:Nat):t.slot j=.empty\/∃ i,t.slot j=.live i:=by
 unfold slot
 dsimp only
 rw [x.dum,SS.has_nil]
 split
 ·exact .inr ⟨_,rfl⟩
 ·exact .inl rfl
theorem ado {t:SetTable} (x:TOk t) {j:Nat}:t.slot j=.empty ↔ j ∉ t.place.toList:=by
 constructor
 ·intro h hm
  obtain ⟨i,hi⟩:=aD3 hm
  rw [(aec x).mpr hi] at h
  cases h
 ·intro h
  rcases ai1 x j with e | ⟨i,e⟩
  ·exact e
  ·exact absurd (aA2 ((aec x).mp e)) h
theorem at7 {t:SetTable} (x:TOk t):∃ j,j<=t.mask/\t.slot j=.empty:=by
 apply aD5
 intro hn
 have a:∀ j∈List.range (t.mask+1),j∈t.place.toList:=fun j b=>by
  have b:=aB9.mp b
  apply aD5
  intro h
  exact hn ⟨j,by lia,(ado x).mpr h⟩
 have:=aF0 List.nodup_range a
 rw [aE1,aA8] at this
 have:=x.room
 lia
theorem ant {t:SetTable} (x:TOk t) {ha:Nat->Int} {h:Int}:∀ (c k:Nat),(∃ k1,k<=k1/\k1 < k+c/\t.slot (pr t.mask h k1).j=.empty) ->
  ∃ k1,k<=k1/\k1 < k+c/\(∀ d,k<=d->d < k1->∃ i,t.slot (pr t.mask h d).j=.live i/\ha i ≠ h) /\
   ((t.slot (pr t.mask h k1).j=.empty ∧ probe.go t ha h c (pr t.mask h k)=some (.empty (pr t.mask h k1).j none)) ∨
    ∃ i,t.slot (pr t.mask h k1).j=.live i/\ha i=h/\probe.go t ha h c (pr t.mask h k)=some (.candidate (pr t.mask h k1).j i (pr t.mask h (k1+1))))
 | 0,k,⟨k1,h1,h2,_⟩=>by lia
 | c+1,k,⟨k1,h1,h2,h3⟩=>by
  rcases ai1 x (pr t.mask h k).j with e | ⟨i,e⟩
  ·refine ⟨k,aA6 _,by lia,fun d a b=>by lia,.inl ⟨e,?_⟩⟩
   unfold probe.go
   rw [e,anr]
  ·by_cases hi:ha i=h
   ·refine ⟨k,aA6 _,by lia,fun d a b=>by lia,.inr ⟨i,e,hi,?_⟩⟩
    unfold probe.go
    rw [e]
    dsimp only
    rw [aF7 (by rw [hi];exact beq_self_eq_true _)]
    rfl
   ·have f:k+1<=k1:=by
     rcases Nat.lt_or_eq_of_le h1 with h | h
     ·exact h
     ·rw [← h,e] at h3;cases h3
    obtain ⟨g,a1,p,l,o⟩:=ant x (ha:=ha) (h:=h) c (k+1) ⟨k1,f,by lia,h3⟩
    have n:probe.go t ha h (c+1) (pr t.mask h k)=probe.go t ha h c (pr t.mask h (k+1)):=by
     conv=>lhs;unfold probe.go
     rw [e]
     dsimp only
     rw [aF8 (by intro z;exact hi (eq_of_beq z))]
     rfl
    refine ⟨g,by lia,by lia,fun d b1 m=>?_,?_⟩
    ·rcases Nat.lt_or_eq_of_le b1 with b | b
     ·exact l d (by lia) m
     ·exact ⟨i,by rw [← b];exact e,hi⟩
    ·rw [n]
     exact o
def HI (t:SetTable) (es:List (Int × Value)):Prop:=es.length=t.place.size/\∀ (i:Nat) (e:Int × Value) (j:Nat),es[i]?=some e->t.place.toList[i]?=some j->∃ k,(pr t.mask e.1 k).j=j/\∀ k',k' < k->t.slot (pr t.mask e.1 k').j ≠ .empty
theorem HI.found {t:SetTable} {es:List (Int × Value)} (x:TOk t) (g:HI t es) {h:Int} {k1:Nat} (b:t.slot (pr t.mask h k1).j=.empty) {i:Nat} {e:Int × Value} (hi:es[i]?=some e) (hh:e.1=h):∃ k,k < k1/\t.slot (pr t.mask h k).j=.live i:=by
 have f:i < t.place.toList.length:=by rw [aA8,← g.1];exact (aA1.mp hi).1
 obtain ⟨k,d,c⟩:=g.2 i e _ hi (aA0 f)
 rw [hh] at d c
 have hs:t.slot (pr t.mask h k).j=.live i:=(aec x).mpr (by rw [d];exact aA0 f)
 refine ⟨k,?_,hs⟩
 rcases Nat.lt_trichotomy k k1 with a | a | a
 ·exact a
 ·subst a;rw [b] at hs;cases hs
 ·exact absurd b (c k1 a)
theorem ins_get {α:Type} (l:List α) (p:Nat) (x : α) (b:p<=l.length) (i:Nat):(l.take p ++ x :: l.drop p)[i]?=if i < p then l[i]? else if i=p then some x else l[i - 1]?:=by
 have a:(l.take p).length=p:=by rw [aH2];lia
 by_cases h1:i < p
 ·rw [aF7 h1,aC3 (by lia),List.getElem?_take,aF7 h1]
 ·rw [aF8 h1,aC8 (by lia),a]
  by_cases h2:i=p
  ·rw [aF7 h2,h2,aI9];rfl
  ·rw [aF8 h2]
   obtain ⟨d,hd⟩:∃ d,i - p=d+1:=⟨i - p - 1,by lia⟩
   rw [hd,aI3,aI5,show p+d=i - 1 by lia]
theorem aed (t:SetTable) (j:Nat):(t.put j).1.place.toList=t.place.toList.take (below t.place j) ++ j :: t.place.toList.drop (below t.place j):=SetTable.toList_insertAt ..
theorem av7 (t:SetTable) (j:Nat):(t.put j).1.mask=t.mask:=rfl
theorem TOk.put {t:SetTable} (x:TOk t) {j:Nat} (d:j<=t.mask) (b:t.slot j=.empty) (c:t.place.size+1<=t.mask):TOk (t.put j).1:=by
 have hb:=SS.below_ok t.place j x.ris
 refine ⟨?_,?_,fun q a=>?_,x.two,?_⟩
 ·refine SS.put_rise x.ris fun e=>?_
  exact (ado x).mp b (by rw [← aD6] at e;exact aA2 e)
 ·show (if has t.dummies j=true then _ else t.dummies) = #[]
  rw [x.dum,SS.has_nil];rfl
 ·rw [aed] at a
  rcases aA7.mp a with h | h
  ·exact x.le q (aC0 h)
  ·rcases aA9.mp h with h | h
   ·rw [h];exact d
   ·exact x.le q (aC4 h)
 ·have:(t.put j).1.place.toList.length=t.place.toList.length+1:=by
   rw [aed,aB1,aE6,aH2,aJ1]
   have:=hb.1
   simp only [aA8]
   lia
  simp only [aA8] at this
  rw [this]
  exact c
theorem HI.put {t:SetTable} {es:List (Int × Value)} (x:TOk t) (l:HI t es) {j:Nat} (v:j<=t.mask) (o:t.place.size+1<=t.mask) {e:Int × Value} {k1:Nat} (p:(pr t.mask e.1 k1).j=j) (w:t.slot j=.empty) (y:∀ d,d < k1->t.slot (pr t.mask e.1 d).j ≠ .empty) :
  HI (t.put j).1 (es.take (below t.place j) ++ e :: es.drop (below t.place j)):=by
 have hb:=SS.below_ok t.place j x.ris
 have s:=x.put v w o
 have u:es.length=t.place.toList.length:=by rw [aA8];exact l.1
 have m:below t.place j<=t.place.toList.length:=by rw [aA8];exact hb.1
 have b:∀ q,t.slot q ≠ .empty->(t.put j).1.slot q ≠ .empty:=fun q r z=>by
  rw [ado s] at z
  refine r ((ado x).mpr fun hm=>z ?_)
  rw [aed]
  rw [← aC1 (below t.place j) t.place.toList] at hm
  rcases aA7.mp hm with h | h
  ·exact aC7 _ h
  ·exact aB3 _ (aB5 _ h)
 refine ⟨?_,fun i n j' hi a=>?_⟩
 ·have f:(t.put j).1.place.toList.length=es.length+1:=by
   rw [aed,aB1,aE6,aH2,aJ1]
   lia
  rw [← aA8,f,aB1,aE6,aH2,aJ1]
  lia
 ·rw [aed,ins_get _ _ _ m] at a
  rw [ins_get _ _ _ (by lia)] at hi
  rw [av7]
  by_cases f:i < below t.place j
  ·rw [aF7 f] at hi a
   obtain ⟨k,a1,g⟩:=l.2 i n j' hi a
   exact ⟨k,a1,fun d c=>b _ (g d c)⟩
  ·rw [aF8 f] at hi a
   by_cases h2:i=below t.place j
   ·rw [aF7 h2] at hi a
    cases hi
    cases a
    exact ⟨k1,p,fun d c=>b _ (y d c)⟩
   ·rw [aF8 h2] at hi a
    obtain ⟨k,a1,g⟩:=l.2 (i - 1) n j' hi a
    exact ⟨k,a1,fun d c=>b _ (g d c)⟩
def ow (owner:Array (Option Nat)) (j:Nat):Option Nat:=owner.getD j none
theorem art (f:Nat->Bool):∀ (n:Nat),(∃ k,(List.range n).find? f=some k/\k < n/\f k=true/\∀ a,a < k->f a=false)\/((List.range n).find? f=none/\∀ a,a < n->f a=false):=fun n=>by
 cases h:(List.range n).find? f with
 | none =>
  refine .inr ⟨rfl,fun a b=>?_⟩
  have:=List.find?_eq_none.mp h a (aB9.mpr b)
  simpa using this
 | some k =>
  refine .inl ⟨k,rfl,aB9.mp (List.mem_of_find?_eq_some h),List.find?_some h,fun a b=>?_⟩
  rw [List.find?_range_eq_some] at h
  have:=h.2.2 a b
  simpa using this
theorem aqa {mask:Nat} {owner:Array (Option Nat)} (hsz:owner.size=mask+1) {h:Int} {ne m:Nat} (i:(lp mask h ne).1=m) (f:ow owner m=none) (g:m<=mask):∀ (b n:Nat),n+b > ne->n<=ne->(∀ s',s' < sp mask h n->ow owner (pr mask h s').j ≠ none) ->
  ∃ s,layClean.free mask owner b (lp mask h n).1 (lp mask h n).2=some (pr mask h s).j/\ow owner (pr mask h s).j=none/\(pr mask h s).j<=mask/\∀ s',s' < s->ow owner (pr mask h s').j ≠ none
 | 0,n,h1,h2,_=>by lia
 | b+1,n,h1,h2,hall=>by
  have A:=aw5 mask h n
  have v:runEnd mask (lp mask h n).1<=mask/\(lp mask h n).1<=runEnd mask (lp mask h n).1:=by unfold runEnd;split <;> lia
  have q:∀ j,j<=mask->owner.getD j (some 0)=ow owner j:=fun j B=>by
   unfold ow
   simp [Array.getD,hsz,show j < mask+1 by lia]
  have d:∀ a,a<=runEnd mask (lp mask h n).1 - (lp mask h n).1->(pr mask h (sp mask h n+a)).j=(lp mask h n).1+a:=fun a ha=>by rw [ans (ars mask h n) a ha];rfl
  have c:∀ K,K<=runEnd mask (lp mask h n).1 - (lp mask h n).1+1->(∀ l,l < K->(owner.getD ((lp mask h n).1+l) (some 0)).isNone=false)->∀ s',s' < sp mask h n+K->ow owner (pr mask h s').j ≠ none:=fun K y hf s' p=>by
   by_cases hs:s' < sp mask h n
   ·exact hall s' hs
   ·obtain ⟨a,rfl⟩:∃ a,s'=sp mask h n+a:=⟨s' - sp mask h n,by lia⟩
    rw [d a (by lia),← q _ (by lia)]
    intro z
    have:=hf a (by lia)
    rw [z] at this
    cases this
  unfold layClean.free
  rcases art (fun k=>(owner.getD ((lp mask h n).1+k) (some 0)).isNone) (runEnd mask (lp mask h n).1+1 - (lp mask h n).1) with ⟨k,e,C,o,r⟩ | ⟨e,hf⟩
  ·rw [e]
   refine ⟨sp mask h n+k,by rw [d k (by lia)],?_,by rw [d k (by lia)];lia,c k (by lia) r⟩
   rw [d k (by lia),← q _ (by lia)]
   simpa using o
  ·rw [e]
   have u:n ≠ ne:=fun z=>by
    subst z
    have:=hf 0 (by lia)
    rw [Nat.add_zero,i,q m g,f] at this
    cases this
   have x:=aqa hsz i f g b (n+1) (by lia) (by lia) (fun s' p=>c _ (aA6 _) (fun l w=>hf l (by lia)) s' (by
    have:sp mask h (n+1)=sp mask h n+(runEnd mask (lp mask h n).1 - (lp mask h n).1)+1:=rfl
    lia))
   exact x
structure Lay (mask:Nat) (hs:List Int) (owner:Array (Option Nat)):Prop where
 sz:owner.size=mask+1
 at':∀ k h,hs[k]?=some h->∃ s,(pr mask h s).j<=mask/\ow owner (pr mask h s).j=some k/\∀ s',s' < s->ow owner (pr mask h s').j ≠ none
 un:∀ j k,ow owner j=some k->k < hs.length
 inj:∀ j j' k,ow owner j=some k->ow owner j'=some k->j=j'
theorem a13 {owner:Array (Option Nat)} {j:Nat} (h:owner.size<=j):ow owner j=none:=by
 unfold ow
 simp [Array.getD,show ¬ (j < owner.size) by lia]
theorem Lay.start (mask:Nat):Lay mask [] (Array.replicate (mask+1) none):=by
 have hn:∀ j,ow (Array.replicate (mask+1) none) j=none:=fun j=>by
  unfold ow
  simp only [Array.getD]
  split
  ·simp
  ·rfl
 exact ⟨by simp,fun k h a=>by simp at a,fun j k e=>(by rw [hn] at e;cases e),fun j j' k e=>(by rw [hn] at e;cases e)⟩
theorem Lay.gap {mask:Nat} {hs:List Int} {owner:Array (Option Nat)} (x:Lay mask hs owner) (m:hs.length<=mask):∃ j,j<=mask/\ow owner j=none:=by
 apply aD5
 intro hn
 have c:∀ j,j<=mask->∃ k,ow owner j=some k:=fun j i=>by
  cases e:ow owner j with
  | some k=>exact ⟨k,rfl⟩
  | none=>exact absurd ⟨j,i,e⟩ hn
 have g:((List.range (mask+1)).map fun j=>(ow owner j).getD 0).Nodup:=by
  rw [List.Nodup,aG3]
  refine aI2 (fun {a b} ha hb h=>?_) List.nodup_range
  obtain ⟨k,f⟩:=c a (by have:=aB9.mp ha;lia)
  obtain ⟨l,d⟩:=c b (by have:=aB9.mp hb;lia)
  rw [f,d]
  intro e
  have e:k=l:=e
  subst e
  exact h (x.inj a b k f d)
 have:=aF0 (l₂:=List.range hs.length) g fun k f=>by
  obtain ⟨j,i,rfl⟩:=aB7.mp f
  obtain ⟨k,e⟩:=c j (by have:=aB9.mp i;lia)
  rw [e]
  exact aB9.mpr (x.un j k e)
 rw [aA3,aE1,aE1] at this
 lia
theorem agp {owner:Array (Option Nat)} {j q:Nat} {o:Option Nat} (a:j < owner.size):ow (owner.setIfInBounds j o) q=if q=j then o else ow owner q:=by
 unfold ow
 simp only [Array.getD,Array.size_setIfInBounds]
 by_cases e:q=j
 ·subst e
  simp [a]
 ·rw [aF8 e]
  split
  ·rename_i hq
   simp [Array.getElem_setIfInBounds,hq,Ne.symm e]
  ·rfl
theorem Lay.next {mask m:Nat} (hm:mask+1=2 ^ m) {hs:List Int} {owner:Array (Option Nat)} (x:Lay mask hs owner) (r:hs.length<=mask) (h:Int) :
  ∃ j,layClean.free mask owner (turns mask) (bits h % (mask+1)) (bits h)=some j/\Lay mask (hs ++ [h]) (owner.setIfInBounds j (some hs.length)):=by
 obtain ⟨v,g,A⟩:=x.gap r
 obtain ⟨ne,C,n⟩:=at6 hm h v g
 obtain ⟨s,w,p,y,B⟩:=aqa x.sz n A g (turns mask) 0 (by unfold turns;lia) (aG2 _) (fun s' a=>by cases a)
 have b:(pr mask h s).j < owner.size:=by rw [x.sz];lia
 have c:∀ q,ow owner q ≠ none->ow (owner.setIfInBounds (pr mask h s).j (some hs.length)) q ≠ none:=fun q o=>by
  rw [agp b]
  split
  ·simp
  ·exact o
 refine ⟨_,w,⟨by rw [Array.size_setIfInBounds];exact x.sz,fun k h' i=>?_,fun j k e=>?_,fun j j' k e d=>?_⟩⟩
 ·by_cases hkl:k < hs.length
  ·rw [aC3 hkl] at i
   obtain ⟨s2,a1,l,u⟩:=x.at' k h' i
   refine ⟨s2,a1,?_,fun s' a=>c _ (u s' a)⟩
   rw [agp b,aF8 (fun z=>by rw [z,p] at l;cases l)]
   exact l
  ·have f:=(aA1.mp i).1
   rw [aB1] at f
   simp at f
   have:k=hs.length:=by lia
   subst this
   rw [aC8 (aA6 _),aI9] at i
   cases i
   exact ⟨s,y,by rw [agp b,aF7 rfl],fun s' a=>c _ (B s' a)⟩
 ·rw [agp b] at e
  rw [aB1]
  split at e
  ·cases e;simp
  ·have:=x.un j k e;lia
 ·rw [agp b] at e d
  split at e
  ·rename_i h1
   cases e
   split at d
   ·rename_i h2;rw [h1,h2]
   ·have:=x.un j' _ d;lia
  ·split at d
   ·cases d
    have:=x.un j _ e;lia
   ·exact x.inj j j' k e d
theorem anu {mask m:Nat} (hm:mask+1=2 ^ m):∀ (rest pre:List Int) (owner:Array (Option Nat)),Lay mask pre owner->pre.length+rest.length<=mask+1 ->
  ∃ a,rest.foldl (fun (b:Option (Array (Option Nat) × Nat)) h=>do
   let (owner,k) ← b
   let j ← layClean.free mask owner (turns mask) (bits h % (mask+1)) (bits h)
   pure (owner.setIfInBounds j (some k),k+1)) (some (owner,pre.length))=some (a,pre.length+rest.length)/\Lay mask (pre ++ rest) a
 | [],pre,owner,x,_=>⟨owner,rfl,by rw [aF2];exact x⟩
 | h :: rest,pre,owner,x,hl=>by
  rw [aE6] at hl
  obtain ⟨j,e,y⟩:=x.next hm (by lia) h
  obtain ⟨o',a1,c⟩:=anu hm rest (pre ++ [h]) _ y (by rw [aB1,List.length_singleton];lia)
  refine ⟨o',?_,by rw [aB4] at c;exact c⟩
  rw [aB1,List.length_singleton] at a1
  rw [List.foldl_cons,aE6]
  have d:(do
   let (owner,k) ← (some (owner,pre.length):Option (Array (Option Nat) × Nat))
   let j ← layClean.free mask owner (turns mask) (bits h % (mask+1)) (bits h)
   pure (owner.setIfInBounds j (some k),k+1))=some (owner.setIfInBounds j (some pre.length),pre.length+1):=by
   show (layClean.free mask owner (turns mask) (bits h % (mask+1)) (bits h) >>= fun j=>pure (owner.setIfInBounds j (some pre.length),pre.length+1))=_
   rw [e]
   rfl
  rw [d,a1]
  congr 2
  lia
theorem a14 {mask m:Nat} (hm:mask+1=2 ^ m) (hs:Array Int) (b:hs.size<=mask+1):∃ owner,layClean mask hs=some owner/\Lay mask hs.toList owner:=by
 obtain ⟨o,e,x⟩:=anu hm hs.toList [] _ (Lay.start mask) (by simpa using b)
 refine ⟨o,?_,by simpa using x⟩
 unfold layClean
 rw [← Array.foldl_toList]
 have c:hs.toList.foldl (fun (a:Option (Array (Option Nat) × Nat)) h=>do
   let (owner,k) ← a
   let j ← layClean.free mask owner (turns mask) (bits h % (mask+1)) (bits h)
   pure (owner.setIfInBounds j (some k),k+1)) (some (Array.replicate (mask+1) none,0))=_:=e
 rw [c]
 rfl
def live (owner:Array (Option Nat)) (mask:Nat):List (Nat × Nat):=(List.range (mask+1)).filterMap fun j=>(owner.getD j none).map (j,·)
theorem live_mem {owner:Array (Option Nat)} {mask j k:Nat}:(j,k)∈live owner mask ↔ j<=mask/\ow owner j=some k:=by
 unfold live ow
 rw [List.mem_filterMap]
 constructor
 ·rintro ⟨j',a,e⟩
  have a:=aB9.mp a
  cases h:owner.getD j' none with
  | none=>rw [h] at e;cases e
  | some k'=>rw [h] at e;cases e;exact ⟨by lia,h⟩
 ·rintro ⟨a,e⟩
  exact ⟨j,aB9.mpr (by lia),by rw [e];rfl⟩
theorem aze {mask:Nat} {hs:List Int} {owner:Array (Option Nat)} (x:Lay mask hs owner):((live owner mask).map (·.2)).Nodup:=by
 rw [List.Nodup,aG3]
 have d:((live owner mask).map (·.1)).Pairwise (· < ·):=SS.live_rise owner (mask+1)
 rw [aG3] at d
 refine aI2 (fun {a b} ha hb c e=>?_) d
 obtain ⟨j,k⟩:=a
 obtain ⟨j',f⟩:=b
 have e:k=f:=e
 subst e
 have:=x.inj j j' k (live_mem.mp ha).2 (live_mem.mp hb).2
 have c:j < j':=c
 lia
theorem at8 {mask:Nat} {hs:List Int} {owner:Array (Option Nat)} (x:Lay mask hs owner):((live owner mask).map (·.2)).Perm (List.range hs.length):=by
 refine (List.perm_ext_iff_of_nodup (aze x) List.nodup_range).mpr fun k=>?_
 rw [aB7,aB9]
 constructor
 ·rintro ⟨⟨j,b⟩,h,rfl⟩
  exact x.un j _ (live_mem.mp h).2
 ·intro h
  obtain ⟨s,a1,a,_⟩:=x.at' k _ (aA0 h)
  exact ⟨((pr mask hs[k] s).j,k),live_mem.mpr ⟨a1,a⟩,rfl⟩
theorem aks {α:Type} (xs:List α) (d : α):∀ (l:List Nat),(∀ k∈l,k < xs.length)->l.filterMap (xs[·]?)=l.map fun k=>xs.getD k d
 | [],_=>rfl
 | k :: l,h=>by
  have a:=h k aB8
  rw [List.filterMap_cons,aA0 a,aD1,aks xs d l fun q b=>h q (aB5 _ b),aD4,aA0 a]
  rfl
theorem azf {mask m finger moves:Nat} {led plain:Bool} (hm:mask+1=2 ^ m) (es:Array (Int × Value)) (F:es.size<=mask) :
  ∃ t a es',laid mask finger moves led plain (es.map (·.1))=some (t,a)/\a.filterMap (es[·]?)=es'/\es'.size=es.size/\es'.toList.Perm es.toList/\TOk t/\HI t es'.toList/\t.mask=mask/\t.place.size=es.size/\t.led=led/\t.plain=plain:=by
 obtain ⟨owner,e,x⟩:=a14 hm (es.map (·.1)) (by simp;lia)
 have d:(es.map (·.1)).toList.length=es.size:=by simp
 have u:=at8 x
 rw [d] at u
 have o:(live owner mask).length=es.size:=by have:=u.length_eq;simpa using this
 have l:=aks es.toList (0,Value.none) ((live owner mask).map (·.2)) fun k n=>by rw [aA8];exact aB9.mp (u.mem_iff.mp n)
 have c:((((live owner mask).map (·.2)).toArray).filterMap (es[·]?)).toList=((live owner mask).map (·.2)).map fun k=>es.toList.getD k (0,.none):=by
  rw [← l]
  simp
 have r:(((live owner mask).map (·.1)).toArray).toList=(live owner mask).map (·.1):=by simp
 have y:TOk { mask,place:=((live owner mask).map (·.1)).toArray,dummies:=#[],finger,led,moves,plain }:=by
  refine ⟨by show (((live owner mask).map (·.1)).toArray).toList.Pairwise _;rw [r];exact SS.live_rise owner (mask+1),rfl,fun j b=>?_,⟨m,hm⟩,?_⟩
  ·have b:j∈(live owner mask).map (·.1):=by simpa using b
   obtain ⟨⟨j',k⟩,h,rfl⟩:=aB7.mp b
   exact (live_mem.mp h).1
  ·simp only [aB2,aA3]
   lia
 refine ⟨_,_,_,by unfold laid;rw [e];rfl,rfl,?_,?_,y,⟨?_,fun i q j hi b=>?_⟩,rfl,?_,rfl,rfl⟩
 ·rw [← aA8]
  refine Eq.trans (congrArg List.length c) ?_
  rw [aA3,aA3]
  exact o
 ·refine (List.Perm.of_eq c).trans ?_
  have C:es.toList=(List.range es.size).map fun k=>es.toList.getD k (0,.none):=by
   refine aG4 fun k=>?_
   rw [aA5]
   by_cases n:k < es.size
   ·rw [aD9 n,aA0 (by rw [aA8];exact n),aI4,aD4,aA0 (by rw [aA8];exact n)]
    rfl
   ·rw [aE3 (by rw [aA8];lia),aE3 (by rw [aE1];lia)]
    rfl
  refine (u.map _).trans ?_
  rw [← C]
 ·refine Eq.trans (congrArg List.length c) ?_
  rw [aA3,aA3]
  simp
 ·have hi:=(congrArg (·[i]?) c).symm.trans hi
  have b:((live owner mask).map (·.1))[i]?=some j:=by simpa using b
  rw [aE0,aA5] at hi
  rw [aA5] at b
  cases hli:(live owner mask)[i]? with
  | none=>rw [hli] at b;cases b
  | some p =>
   obtain ⟨j',k⟩:=p
   rw [hli] at hi b
   cases b
   have f:=live_mem.mp (aA2 hli)
   have g:k < es.size:=by have:=x.un _ _ f.2;rwa [d] at this
   have B:q=es.toList.getD k (0,.none):=by simpa using hi.symm
   have hh:(es.map (·.1)).toList[k]?=some q.1:=by
    rw [B,Array.toList_map,aA5,aA0 (by rw [aA8];exact g),aD4,aA0 (by rw [aA8];exact g)]
    rfl
   obtain ⟨s,a1,A,E⟩:=x.at' k _ hh
   refine ⟨s,x.inj _ _ k A f.2,fun s' v z=>?_⟩
   have hn:=E s' v
   cases ho:ow owner (pr mask q.1 s').j with
   | none=>exact hn ho
   | some k' =>
    have w:(pr mask q.1 s').j<=mask:=by
     apply aD5
     intro D
     rw [a13 (by rw [x.sz];lia)] at ho
     cases ho
    refine (ado y).mp z ?_
    show _∈(((live owner mask).map (·.1)).toArray).toList
    rw [r]
    exact aB7.mpr ⟨_,live_mem.mpr ⟨w,ho⟩,rfl⟩
 ·simp only [aB2,aA3]
  exact o
theorem anv (n:Nat):∀ (c a:Nat),n < 2 ^ (a+c)->∃ b,sizeAbove.go n c (2 ^ a)=2 ^ b/\n < 2 ^ b/\a<=b/\(2 ^ b=2 ^ a\/2 ^ b<=2 * n)
 | 0,a,h=>⟨a,rfl,by simpa using h,aA6 _,.inl rfl⟩
 | c+1,a,h=>by
  unfold sizeAbove.go
  by_cases hs:2 ^ a<=n
  ·rw [aF7 hs,← Nat.pow_succ]
   obtain ⟨b,g,f,i,d⟩:=anv n c (a+1) (by rw [show a+1+c=a+(c+1) by lia];exact h)
   refine ⟨b,g,f,by lia,.inr ?_⟩
   rcases d with d | d
   ·rw [d,Nat.pow_succ];lia
   ·exact d
  ·rw [aF8 hs]
   exact ⟨a,rfl,by lia,aA6 _,.inl rfl⟩
theorem av8 {n:Nat} (h:n<=100000):∃ m,sizeAbove n=2 ^ m/\n < 2 ^ m/\3<=m/\(2 ^ m=8\/2 ^ m<=2 * n):=by
 obtain ⟨b,c,a,d,f⟩:=anv n 64 3 (aE4 h (by decide))
 exact ⟨b,c,a,d,f⟩
theorem at9 {m n:Nat} (h:2 ^ m<=2 * n) (hn:n < 8192):2 ^ m<=8192:=by
 apply aD5
 intro b
 have:13 < m:=(Nat.pow_lt_pow_iff_right (a:=2) (by decide)).mp (by show 2 ^ 13 < 2 ^ m;lia)
 have:=Nat.pow_le_pow_right (n:=2) (by decide) (show 14<=m by lia)
 lia
end SH
namespace SH
open PySem PySem.W PyProof.Rows
section
variable {prog:Program} {w:World} {A:Around} {E:Value->Shared->Prop} {s:Shared} {U:Addr->Prop}
abbrev TK (prog:Program) (w:World):=tupleKind (intKind prog w)
theorem ahk {ks:List Int} {a:Addr} {Q:Bool->Shared->Prop} (f:(TK prog w).is s.heap ks a) (h:Q false s):wpAny (model prog w) A (ofAClassStatement 8 (.ref a)) Q E s:=by
 have j:=IsTupleKey.typeIs f
 obtain ⟨o,items,n,g,_,hd,hi⟩:=f
 unfold ofAClassStatement
 refine aJ3 (wpAny_typeOf j ?_)
 show wpAny _ _ (pure true >>= _) _ _ s
 refine aJ3 (aJ4 ?_)
 simp only [Bool.not_true,Bool.false_eq_true,if_false]
 refine aJ3 (wpAny_seqItems g hd ?_)
 refine aJ3 ?_
 show wpAny _ _ (forIn items _ _) _ _ s
 rw [← Array.forIn_toList]
 refine wpAny_forIn_list _ (fun rest r s'=>r.1=none/\s'=s/\∀ v∈rest,carriedByValue v=true) _ ?_ ?_ _ _ ⟨rfl,rfl,hi.byValue⟩
 ·rintro v rest r s' ⟨c,rfl,b⟩
  have i:=b v aB8
  have e:ofAClassStatement 7 v=pure false:=by
   cases v <;> first | (simp [carriedByValue] at i;done) | (unfold ofAClassStatement;rfl)
  rw [e]
  refine aJ3 (aJ4 ?_)
  simp only [Bool.false_eq_true,if_false]
  exact aJ4 ⟨rfl,rfl,fun u d=>b u (aB5 _ d)⟩
 ·rintro ⟨m,l⟩ s' ⟨c,rfl,_⟩
  simp only at c
  subst c
  exact aJ4 h
theorem aru {ks:List Int} {vs:List Value} (h:ItemsAre (intKind prog w) ks vs):∀ v∈vs,∃ i t,v=.int i t:=by
 induction h with
 | nil=>intro v a;cases a
 | cons h1 _ ih =>
  intro v a
  rcases aA9.mp a with rfl | a
  ·obtain ⟨t,rfl⟩:=Value.isInt_shape h1
   exact ⟨_,t,rfl⟩
  ·exact ih v a
theorem aon {ks:List Int} {a:Addr} {Q:Bool->Shared->Prop} (f:(TK prog w).is s.heap ks a) (h:Q true s):wpAny (model prog w) A (hashByValue 8 (.ref a)) Q E s:=by
 have j:=IsTupleKey.typeIs f
 obtain ⟨o,items,n,g,_,hd,hi⟩:=f
 unfold hashByValue
 refine aJ3 (wpAny_specialOf j F.slot_tuple_hash.lookup ?_)
 show wpAny _ _ (seqItems? (.ref a) >>= _) _ _ s
 refine aJ3 (wpAny_seqItems g hd ?_)
 refine aJ3 ?_
 show wpAny _ _ (forIn items _ _) _ _ s
 rw [← Array.forIn_toList]
 refine wpAny_forIn_list _ (fun rest r s'=>r.1=none/\s'=s/\∀ v∈rest,∃ i t,v=Value.int i t) _ ?_ ?_ _ _ ⟨rfl,rfl,aru hi⟩
 ·rintro v rest r s' ⟨c,rfl,b⟩
  obtain ⟨i,t,rfl⟩:=b v aB8
  have e:hashByValue 7 (.int i t)=pure true:=by unfold hashByValue;rfl
  rw [e]
  refine aJ3 (aJ4 ?_)
  simp only [Bool.not_true,Bool.false_eq_true,if_false]
  exact aJ4 ⟨rfl,rfl,fun u d=>b u (aB5 _ d)⟩
 ·rintro ⟨m,l⟩ s' ⟨c,rfl,_⟩
  simp only at c
  subst c
  exact aJ4 h
theorem a15 {j:List Int} {b0:Addr} {stored:List Value} {Q:Bool->Shared->Prop} (i:(TK prog w).is s.heap j b0) (f:∀ v∈stored,∃ k b,v=.ref b/\(TK prog w).is s.heap k b) (h:Q false s):wpAny (model prog w) A (searchCouldBeSeen (.ref b0) stored) Q E s:=by
 unfold searchCouldBeSeen
 refine aJ3 ?_
 refine wpAny_forIn_list _ (fun rest r s'=>r.1=none/\s'=s/\∀ v∈rest,∃ k b,v=.ref b/\(TK prog w).is s.heap k b) _ ?_ ?_ _ _ ⟨rfl,rfl,f⟩
 ·rintro v rest r s' ⟨d,rfl,c⟩
  obtain ⟨k,b,rfl,hb⟩:=c v aB8
  have a:∀ u∈rest,∃ k b,u=Value.ref b/\(TK prog w).is s'.heap k b:=fun u g=>c u (aB5 _ g)
  dsimp only
  split
  ·exact aJ4 ⟨rfl,rfl,a⟩
  ·refine aJ3 ((TK prog w).quiet i ?_)
   simp only [Bool.not_true,Bool.false_eq_true,if_false]
   refine aJ3 ((TK prog w).quiet hb ?_)
   simp only [Bool.not_true,Bool.false_eq_true,if_false]
   refine aJ3 (ahk i ?_)
   simp only [Bool.false_eq_true,if_false]
   refine aJ3 (ahk hb ?_)
   simp only [Bool.false_eq_true,if_false]
   exact aJ4 ⟨rfl,rfl,a⟩
 ·rintro ⟨m,l⟩ s' ⟨d,rfl,_⟩
  simp only at d
  subst d
  exact aJ4 h
theorem a3g (mask:Nat) (h:Int):∀ k,(pr mask h k).j+(pr mask h k).more<=mask:=fun k=>by
 have run:∀ i,i < mask+1->i+(SetTable.runEnd mask i - i)<=mask:=fun i hi=>by unfold SetTable.runEnd;split <;> lia
 induction k with
 | zero=>exact run _ (Nat.mod_lt _ (Nat.succ_pos _))
 | succ k ih =>
  show (adv mask (pr mask h k)).j+(adv mask (pr mask h k)).more<=mask
  unfold adv
  split
  ·dsimp only;lia
  ·exact run _ (Nat.mod_lt _ (Nat.succ_pos _))
structure ST (prog:Program) (w:World) (U:Addr->Prop) (a:Addr) (es:Array (Int × Value)) (ep:Nat) (t:SetTable) (ks:List (List Int)) (h:Heap):Prop where
 r:SS.SetR prog w a es ep t h
 ok:TOk t
 hi:HI t es.toList
 pl:t.plain=true
 msk:7<=t.mask/\t.mask<=8191
 len:ks.length=es.size
 gd:∀ (i:Nat) e k,es.toList[i]?=some e->ks[i]?=some k->∃ b,e=((TK prog w).hash k,.ref b)/\(TK prog w).is h k b/\U b
 nd:ks.Nodup
theorem ST.stored {a:Addr} {es:Array (Int × Value)} {ep:Nat} {t:SetTable} {ks:List (List Int)} {h:Heap} (x:ST prog w U a es ep t ks h) {e:Int × Value} (c:e∈es.toList):∃ k b,e=((TK prog w).hash k,.ref b)/\(TK prog w).is h k b/\U b:=by
 obtain ⟨i,hi⟩:=aD3 c
 have f:i < ks.length:=by rw [x.len,← aA8];exact (aA1.mp hi).1
 obtain ⟨b,g,d⟩:=x.gd i e _ hi (aA0 f)
 exact ⟨_,b,g,d⟩
theorem aoo {a b0:Addr} {es:Array (Int × Value)} {ep:Nat} {t:SetTable} {ks:List (List Int)} {n:List Int} {Q:SetFound->Shared->Prop} (hu:(TK prog w).room A) (x:ST prog w U a es ep t ks s.heap) (R:(TK prog w).is s.heap n b0)
  (h1:n∈ks->Q (.there none) s) (h2:n ∉ ks->∀ k1,(pr t.mask ((TK prog w).hash n) k1).j<=t.mask->t.slot (pr t.mask ((TK prog w).hash n) k1).j=.empty->(∀ l,l < k1->t.slot (pr t.mask ((TK prog w).hash n) l).j ≠ .empty)->Q (.free (pr t.mask ((TK prog w).hash n) k1).j false) s) :
  ∀ (d D:Nat) (g:Option SetTable.Probe),d+D > 10 * SetTable.turns t.mask->g.getD (t.probeStart ((TK prog w).hash n))=pr t.mask ((TK prog w).hash n) D->(∀ l,l < D->∃ i,t.slot (pr t.mask ((TK prog w).hash n) l).j=.live i/\ks[i]? ≠ some n) ->
   wpAny (model prog w) A (setSearchFrom a (.ref b0) ((TK prog w).hash n) true d g) Q E s:=by
 obtain ⟨o,ho,hx,hd,hf,hT⟩:=id x.r
 generalize hhx:(TK prog w).hash n=hx0 at *
 obtain ⟨je,a5,B⟩:=at7 x.ok
 obtain ⟨m,hm⟩:=x.ok.two
 obtain ⟨P,a7,G⟩:=a12 hm hx0 je a5
 have Z:t.gaveWay=false:=by
  unfold SetTable.gaveWay
  have:m ≠ 0:=fun z=>by rw [z] at hm;have:=x.msk.1;simp at hm;lia
  obtain ⟨m',rfl⟩:=Nat.exists_eq_succ_of_ne_zero this
  rw [Nat.pow_succ] at hm
  have:t.mask % 2=1:=by lia
  rw [this];rfl
 intro d
 induction d with
 | zero =>
  intro D g X _ p
  exfalso
  obtain ⟨i,hi,_⟩:=p P (by lia)
  rw [G,B] at hi
  cases hi
 | succ d ih =>
  intro D g X S p
  have T:D<=P:=by
   apply aD5
   intro hc
   obtain ⟨i,hi,_⟩:=p P (by lia)
   rw [G,B] at hi
   cases hi
  unfold setSearchFrom
  refine aJ3 (wpAny_setState_of ho hd hf ?_)
  dsimp only
  rw [Z]
  simp only [Bool.false_eq_true,if_false]
  rw [S]
  obtain ⟨k1,a1,a2,a3,a4⟩:=ant x.ok (ha:=fun i=>(es[i]?.map (·.1)).getD 0) (h:=hx0) (10 * SetTable.turns t.mask) D ⟨P,T,by lia,by rw [G];exact B⟩
  have c:∀ l,l < k1->∃ i,t.slot (pr t.mask hx0 l).j=.live i/\ks[i]? ≠ some n:=fun l C=>by
   by_cases hkk:l < D
   ·exact p l hkk
   ·obtain ⟨i,hi,I⟩:=a3 l (by lia) C
    refine ⟨i,hi,fun Y=>?_⟩
    have J:=(aec x.ok).mp hi
    have f:i < es.toList.length:=by rw [x.hi.1,← aA8];exact (aA1.mp J).1
    obtain ⟨b,O,_⟩:=x.gd i _ _ (aA0 f) Y
    apply I
    rw [← aD6,aA0 f,O]
    exact hhx
  generalize hp:t.probe _ hx0 (pr t.mask hx0 D)=pp
  rcases a4 with ⟨e,F⟩ | ⟨i,e,a8,F⟩
  ·have H:pp=some (.empty (pr t.mask hx0 k1).j none):=hp.symm.trans F
   subst H
   dsimp only
   refine aJ4 (h2 (fun hm=>?_) k1 ?_ e fun l C z=>?_)
   ·obtain ⟨i,hi⟩:=aD3 hm
    have f:i < es.toList.length:=by rw [aA8,← x.len];exact (aA1.mp hi).1
    obtain ⟨b,O,_⟩:=x.gd i _ _ (aA0 f) hi
    obtain ⟨k,R,hs⟩:=x.hi.found x.ok e (aA0 f) (by rw [O];exact hhx)
    obtain ⟨K,M,I⟩:=c k R
    rw [hs] at M
    cases M
    exact I hi
   ·exact aD0 (Nat.le_add_right _ _) (a3g t.mask hx0 k1)
   ·obtain ⟨i,hi,_⟩:=c l C
    rw [z] at hi
    cases hi
  ·have H:pp=some (.candidate (pr t.mask hx0 k1).j i (pr t.mask hx0 (k1+1))):=hp.symm.trans F
   subst H
   have J:=(aec x.ok).mp e
   have f:i < es.toList.length:=by rw [x.hi.1,← aA8];exact (aA1.mp J).1
   have u:i < ks.length:=by rw [x.len,← aA8];exact f
   obtain ⟨b,O,e2⟩:=x.gd i _ _ (aA0 f) (aA0 u)
   have L:es[i]?=some ((TK prog w).hash ks[i],.ref b):=by rw [← aD6,aA0 f,O]
   have rest:wpAny (model prog w) A (do
     let some (_,y):=es[i]? | unsupported "internal:set-entry"
     let equal ← holding [y] (eqBool y (.ref b0))
     let (es',_,t') ← setState a
     if true && equal then return .there none
     let some same:=t'.sameMemory t.moves t.mask | unsupported "set.changed-during-lookup:is-the-new-block-at-the-old-address"
     let still ← match (if same then t'.slot (pr t.mask hx0 k1).j else .empty) with
      | .live K=>match es'[K]? with
       | some (_,y')=>do pure (if ← isSame y' y then some K else none)
       | none=>pure none
      | _=>pure none
     match still with
     | none=>rule "set.search.anew";setSearchFrom a (.ref b0) hx0 true d none
     | some K=>if equal then return .there (some K) else setSearchFrom a (.ref b0) hx0 true d (some (pr t.mask hx0 (k1+1)))) Q E s:=by
    rw [L]
    dsimp only
    refine aJ3 (aJ9 ((TK prog w).eqBool hu e2.1 R ?_))
    refine aJ3 (wpAny_setState_of ho hd hf ?_)
    dsimp only
    by_cases heq:ks[i]=n
    ·rw [aD8 heq]
     simp only [Bool.and_self,if_true]
     exact aJ4 (h1 (by rw [← heq];exact aF4 u))
    ·rw [aD7 heq]
     simp only [Bool.and_false,Bool.false_eq_true,if_false]
     have a6:t.sameMemory t.moves t.mask=some true:=by
      unfold SetTable.sameMemory
      rw [aF7 (beq_self_eq_true _)]
     rw [a6]
     dsimp only
     rw [aF7 rfl,e]
     dsimp only
     rw [L]
     dsimp only
     refine aJ3 (wpAny_isSame_ref_self ?_)
     refine aJ3 (aJ4 ?_)
     rw [aF7 rfl]
     dsimp only
     refine ih (k1+1) (some _) (by lia) rfl fun l C=>?_
     rcases Nat.lt_or_eq_of_le (Nat.le_of_lt_succ C) with a0 | N
     ·exact c l a0
     ·refine ⟨i,by rw [N];exact e,fun z=>heq ?_⟩
      rw [aA0 u] at z
      exact aC6 z
   dsimp only
   cases hled:t.led with
   | true =>
    simp only [Bool.not_true,Bool.false_eq_true,if_false]
    exact rest
   | false =>
    simp only [Bool.not_false,if_true]
    refine aJ3 (a15 R (fun v hv=>?_) ?_)
    ·obtain ⟨q,W,rfl⟩:=aB7.mp hv
     have W:q∈es.toList:=by
      have:=Array.mem_toList_iff.mp W
      exact Array.mem_toList_iff.mpr (Array.mem_filter.mp this).1
     obtain ⟨k,b,rfl,hb⟩:=x.stored W
     exact ⟨k,b,rfl,hb.1⟩
    ·simp only [Bool.false_eq_true,if_false]
     exact rest
theorem ST.at {a:Addr} {es:Array (Int × Value)} {ep:Nat} {t:SetTable} {ks:List (List Int)} {h h':Heap} (x:ST prog w U a es ep t ks h) (k:∀ o,h.get? a=some o->h'.get? a=some o) (j:∀ b ks,U b->(TK prog w).is h ks b->(TK prog w).is h' ks b):ST prog w U a es ep t ks h' :=
 ⟨x.r.at k,x.ok,x.hi,x.pl,x.msk,x.len,fun i e q d f=>let ⟨b,g,c⟩:=x.gd i e q d f;⟨b,g,j b q c.2 c.1,c.2⟩,x.nd⟩
def SetT (prog:Program) (w:World) (U:Addr->Prop) (a:Addr) (L:List (List Int)) (h:Heap):Prop:=∃ es ep t ks,ST prog w U a es ep t ks h/\t.place.size * 5 < t.mask * 3/\ks.Perm L
theorem anw {a b:Addr} {ks:List Int} {h h':Heap} (hs:Heap.SameBut a h h') (f:(TK prog w).is h ks b) {o:Obj} (g:h.get? a=some o) (j:o.ExactSet):(TK prog w).is h' ks b:=by
 obtain ⟨i,items,n,d,c,r⟩:=f
 refine ⟨i,items,n,?_,c,r⟩
 rw [hs.2 b fun z=>?_]
 ·exact d
 ·subst z
  rw [g] at d
  cases d
  rw [j.1] at c
  exact absurd c (by decide)
theorem aqb {t:SetTable} {n:Nat} (x:TOk t) (h:t.place.size=n):t.fits n=true:=by
 unfold SetTable.fits SetTable.fill
 rw [x.dum,h,beq_self_eq_true,Bool.true_and,decide_eq_true_eq]
 have:=x.room
 show n+0<=t.mask
 lia
theorem anx {α:Type} (l:List α) (x : α) (p:Nat):(l.take p ++ x :: l.drop p).Perm (x :: l):=by
 have h:=List.perm_middle (a:=x) (l₁:=l.take p) (l₂:=l.drop p)
 rw [aC1] at h
 exact h
theorem av9 {a:Addr} {es:Array (Int × Value)} {ep:Nat} {t:SetTable} {ks:List (List Int)} {Q:Unit->Shared->Prop} (x:ST prog w U a es ep t ks s.heap) (hz:es.size<=2040) (R:1<=es.size)
  (h:∀ h',Heap.SameBut a s.heap h'->∀ es' L t' y,ST prog w U a es' L t' y h'->t'.place.size * 5 < t'.mask * 3->y.Perm ks->Q () { s with heap:=h' }):wpAny (model prog w) A (setRelay a (SetTable.grown es.size)) Q E s:=by
 obtain ⟨o,F,hx,hd,hf,hT⟩:=id x.r
 have I:SetTable.grown es.size=es.size * 4:=by unfold SetTable.grown;rw [aF8 (by lia)]
 rw [I]
 obtain ⟨m,S,Z,P,G⟩:=av8 (n:=es.size * 4) (by lia)
 have h8:8<=2 ^ m:=Nat.pow_le_pow_right (n:=2) (by decide) P
 have a0:2 ^ m<=8192:=by
  rcases G with h | h
  ·lia
  ·exact at9 h (by lia)
 unfold setRelay
 refine aJ3 (wpAny_setState_of F hd hf ?_)
 dsimp only
 rw [S,aF8 (by rw [sizeLine_eq];lia)]
 obtain ⟨l,d,c,e1,e2,N,W,g,O,X,K,el,J⟩:=azf (mask:=2 ^ m - 1) (m:=m) (finger:=t.finger) (moves:=t.movedTo (2 ^ m - 1)) (led:=t.led) (plain:=t.plain) (by lia) es (by lia)
 have Y:t.relaid (es.map (·.1)) (es.size * 4)=some (l,d):=by
  unfold SetTable.relaid
  rw [S]
  exact e1
 rw [Y]
 refine aJ3 ?_
 show wpAny _ _ (do
  let es':=d.filterMap (es[·]?)
  if es'.size != es.size then unsupported "internal:set-table-lost-an-element"
  pure (es',l)) _ _ _
 rw [e2]
 dsimp only
 rw [aF8 (by rw [N];simp)]
 refine aJ4 ?_
 dsimp only
 refine wpAny_storeSet_of F hd ?_ (by rw [N,sizeLine_eq];lia)
 have sb:=Heap.SameBut.update s.heap a (Obj.putSet c l)
 have r2:=x.r.put (es':=c) (t':=l) (aqb g (by rw [N];exact K)) ⟨fun hb=>by rw [el];exact hT.led hb,g.dum,fun _=>g.ris⟩
 have kk:∀ q b,(TK prog w).is s.heap q b->(TK prog w).is (s.heap.update a (Obj.putSet c l)) q b:=fun q b hq=>anw sb hq F hx
 have u:∃ f:Int × Value->List Int,∀ e∈es.toList,∃ b,e=((TK prog w).hash (f e),.ref b)/\(TK prog w).is s.heap (f e) b/\U b:=by
  have:=Classical.skolem (p:=fun (e:Int × Value) (k:List Int)=>e∈es.toList->∃ b,e=((TK prog w).hash k,Value.ref b)/\(TK prog w).is s.heap k b/\U b)
  exact this.mp fun e=>by
   by_cases he:e∈es.toList
   ·obtain ⟨k,b,R,h2⟩:=x.stored he
    exact ⟨k,fun _=>⟨b,R,h2⟩⟩
   ·exact ⟨[],fun z=>absurd z he⟩
 obtain ⟨f,B⟩:=u
 have H:ks=es.toList.map f:=by
  refine aG4 fun i=>?_
  rw [aA5]
  by_cases hi:i < ks.length
  ·have j:i < es.toList.length:=by rw [aA8,← x.len];exact hi
   rw [aA0 hi,aA0 j,aI4]
   obtain ⟨b,C,D⟩:=x.gd i _ _ (aA0 j) (aA0 hi)
   obtain ⟨b',g3,g4⟩:=B _ (aF4 j)
   have M:Value.ref b=.ref b':=(Prod.ext_iff.mp (C.symm.trans g3)).2
   cases M
   rw [(TK prog w).inj D.1 g4.1]
  ·rw [aE3 (by lia),aE3 (by rw [aA8,← x.len];lia)]
   rfl
 have v:(c.toList.map f).Perm ks:=by rw [H];exact W.map f
 refine h _ sb c _ l (c.toList.map f) ⟨r2,g,O,by rw [J];exact x.pl,by lia,by rw [aA3,aA8],fun i e k C D=>?_,v.nodup_iff.mpr x.nd⟩ (by lia) v
 rw [aA5,C] at D
 cases D
 obtain ⟨b,q1,T⟩:=B e (W.mem_iff.mp (aA2 C))
 exact ⟨b,q1,kk _ b T.1,T.2⟩
theorem aua {a b0:Addr} {L:List (List Int)} {d:List Int} {Q:Bool->Shared->Prop} (hu:(TK prog w).room A) (x:SetT prog w U a L s.heap) (hk:(TK prog w).is s.heap d b0) (hU:U b0) (hb:L.length+1<=2040)
  (h:∀ b h',Heap.SameBut a s.heap h'->SetT prog w U a (if d∈L then L else L ++ [d]) h'->Q b { s with heap:=h' }):wpAny (model prog w) A (setAddHashed a (.ref b0) ((TK prog w).hash d)) Q E s:=by
 obtain ⟨es,ep,t,ks,x,Y,J⟩:=x
 obtain ⟨o,M,hx,hd,hf,hT⟩:=id x.r
 have hsz:es.size=L.length:=by rw [← J.length_eq,x.len]
 have a4:t.place.size=es.size:=by have:=x.hi.1;rw [aA8] at this;lia
 unfold setAddHashed setAddHashedIn
 refine aJ9 (aJ3 (wpAny_setState_of M hd hf ?_))
 dsimp only
 have a0:byScan (.ref b0) es=false:=rfl
 rw [a0]
 simp only [Bool.false_eq_true,if_false]
 unfold setSearch
 refine aJ3 (aoo hu x hk (fun hm=>?_) (fun hm k1 hj N a2=>?_) 100000 0 none ?_ rfl fun k' P=>absurd P (Nat.not_lt_zero _))
 ·refine aJ4 ?_
  have e:s={ s with heap:=s.heap }:=by cases s;rfl
  have:=h false s.heap (Heap.SameBut.refl a s.heap) (by rw [aF7 (J.mem_iff.mp hm)];exact ⟨es,ep,t,ks,x,Y,J⟩)
  rw [e];exact this
 ·have G:d ∉ L:=fun z=>hm (J.mem_iff.mpr z)
  have l:t.place.size+1<=t.mask:=by have:=x.msk.1;lia
  obtain ⟨j,I⟩:∃ j,j=(pr t.mask ((TK prog w).hash d) k1).j:=⟨_,rfl⟩
  rw [← I] at hj N ⊢
  dsimp only
  refine aJ3 (wpAny_setState_of M hd hf ?_)
  dsimp only
  have n:(t.put j).1.plain=true:=x.pl
  rw [aF7 n]
  refine aJ3 (aon hk ?_)
  rw [aF7 rfl]
  have a5:=(SS.below_ok t.place j x.ok.ris).1
  obtain ⟨c,m⟩:∃ c,c=SetTable.insertAt es (t.put j).2 ((TK prog w).hash d,Value.ref b0):=⟨_,rfl⟩
  have f:c.toList=es.toList.take (SetTable.below t.place j) ++ ((TK prog w).hash d,Value.ref b0) :: es.toList.drop (SetTable.below t.place j):=by rw [m];exact SetTable.toList_insertAt ..
  have g:c.size=es.size+1:=by
   rw [← aA8,f,aB1,aE6,aH2,aJ1,aA8]
   lia
  have v:=x.ok.put hj N l
  have D:HI (t.put j).1 c.toList:=by
   rw [f]
   exact x.hi.put x.ok hj l (e:=((TK prog w).hash d,Value.ref b0)) (k1:=k1) I.symm N a2
  have C:(t.put j).1.place.size=c.size:=by have:=D.1;rw [aA8] at this;exact this.symm
  have y:(t.put j).1.fits c.size=true:=aqb v C
  rw [← m]
  refine aJ3 (wpAny_storeSet_of M hd ?_ (by rw [g];rw [sizeLine_eq];lia))
  have r1:=x.r.put (es':=c) (t':=(t.put j).1) y (hT.put N)
  have B:=Heap.SameBut.update s.heap a (Obj.putSet c (t.put j).1)
  have T:∀ q b,(TK prog w).is s.heap q b->(TK prog w).is (s.heap.update a (Obj.putSet c (t.put j).1)) q b:=fun q b hq=>anw B hq M hx
  have x1:ST prog w U a c (ep+1) (t.put j).1 (ks.take (SetTable.below t.place j) ++ d :: ks.drop (SetTable.below t.place j)) (s.heap.update a (Obj.putSet c (t.put j).1)):=by
   have S:SetTable.below t.place j<=ks.length:=by rw [x.len];lia
   have W:SetTable.below t.place j<=es.toList.length:=by rw [aA8];lia
   refine ⟨r1,v,D,n,x.msk,?_,fun i e k p u=>?_,?_⟩
   ·rw [aB1,aE6,aH2,aJ1,g,← x.len]
    lia
   ·rw [f,ins_get _ _ _ W] at p
    rw [ins_get _ _ _ S] at u
    by_cases c1:i < SetTable.below t.place j
    ·rw [aF7 c1] at p u
     obtain ⟨b,O,H⟩:=x.gd i e k p u
     exact ⟨b,O,T k b H.1,H.2⟩
    ·rw [aF8 c1] at p u
     by_cases c2:i=SetTable.below t.place j
     ·rw [aF7 c2] at p u
      cases p
      cases u
      exact ⟨b0,rfl,T d b0 hk,hU⟩
     ·rw [aF8 c2] at p u
      obtain ⟨b,O,H⟩:=x.gd (i - 1) e k p u
      exact ⟨b,O,T k b H.1,H.2⟩
   ·refine (anx ks d _).nodup_iff.mpr (aI7.mpr ⟨hm,x.nd⟩)
  have K:(ks.take (SetTable.below t.place j) ++ d :: ks.drop (SetTable.below t.place j)).Perm (L ++ [d]):=(anx ks d _).trans ((J.cons d).trans (List.perm_append_singleton d L).symm)
  by_cases hfull:(t.put j).1.tooFull=true
  ·rw [aF7 (by rw [hfull];rfl)]
   rw [← g]
   refine aJ3 (av9 (s:={ s with heap:=s.heap.update a (Obj.putSet c (t.put j).1) }) x1 (by lia) (by lia) fun h' a1 R Z t2 a3 x2 F X=>?_)
   refine aJ4 (h true h' (B.trans a1) ?_)
   rw [aF8 G]
   exact ⟨R,Z,t2,a3,x2,F,X.trans K⟩
  ·rw [aF8 (by intro z;exact hfull (by simpa using z))]
   refine aJ4 ?_
   refine h true _ B ?_
   rw [aF8 G]
   refine ⟨c,ep+1,_,_,x1,?_,K⟩
   unfold SetTable.tooFull SetTable.fill at hfull
   rw [v.dum] at hfull
   simp at hfull
   lia
 ·have:=x.msk.2
  unfold SetTable.turns
  lia
end
end SH
namespace SH
open PySem PySem.W PyProof.Rows SS
section
variable {prog:Program} {w:World} {A:Around} {E:Value->Shared->Prop} {s:Shared} {U:Addr->Prop}
theorem azg (h:Heap):SetT prog w U h.objs.size [] (h.push (ab3 w)):=by
 have tok:TOk (SetTable.fresh 0 0 (!bt w)):=⟨List.Pairwise.nil,rfl,fun j a=>(nomatch a),⟨3,rfl⟩,aG2 _⟩
 have hi:HI (SetTable.fresh 0 0 (!bt w)) ([]:List (Int × Value)):=⟨rfl,fun i e j hi=>(nomatch hi)⟩
 exact ⟨#[],0,_,[],⟨⟨_,aJ7 _ rfl,⟨rfl,rfl,rfl⟩,rfl,rfl,TbI.fresh _ _ _⟩,tok,hi,rfl,⟨aA6 7,show (7:Nat)<=8191 by decide⟩,rfl,fun i e k hi=>(nomatch hi),List.nodup_nil⟩,show (0:Nat) * 5 < 7 * 3 by decide,.refl _⟩
section
variable {R:Result->Shared->Prop} {I:Addr} {fp wr:List Addr} {n:Nat} {P:Nat->Value->Prop} {St:Nat->Heap->Prop}
theorem a3h (W:Walks prog w A.in1 I fp wr n P St) (S:Addr) (M:S ∉ fp) (hu:(TK prog w).room A.in1) (h0:Heap) (val:Nat->List Int) (tup:Nat->Addr) (O:∀ i v,P i v->v=.ref (tup i)) (hU:∀ i,i < n->U (tup i)) (X:∀ b,U b->b ≠ S/\b ∉ wr) (hb:n+1<=2040)
  (g:∀ h',(∀ b o,b ≠ S->b ∉ wr->h0.get? b=some o->h'.get? b=some o)->∀ i,i < n->(TK prog w).is h' (val i) (tup i)) :
  ∀ (k i:Nat) (s:Shared) (L:List (List Int)),n - i=k->i<=n->St i s.heap->(∀ b o,b ≠ S->b ∉ wr->h0.get? b=some o->s.heap.get? b=some o)->SetT prog w U S L s.heap->L.Nodup->L.length<=i->(∀ x,x∈L ↔ ∃ j,j < i/\val j=x) ->
   (∀ h' K D,(∀ b o,b ≠ S->b ∉ wr->s.heap.get? b=some o->h'.get? b=some o)->SetT prog w U S D h'->D.Nodup->D.length<=n->(∀ x,x∈D ↔ ∃ j,j < n/\val j=x)->R (.ok (.ret .none)) { s with heap:=h',toks:=K }) ->
   codeAny (model prog w) A (.builtin "set.update.loop" ⟨[.ref S,.ref I],[]⟩) R s:=by
 have Y:S ∉ wr:=fun h=>M (W.sub _ h)
 have mv:∀ {h h':Heap} {L:List (List Int)},SetT prog w U S L h->(∀ b o,b ∉ wr->h.get? b=some o->h'.get? b=some o)->SetT prog w U S L h':=fun {h h' L} x hm=>by
  obtain ⟨es,ep,t,ks,x,r⟩:=x
  exact ⟨es,ep,t,ks,x.at (fun o e=>hm S o Y e) (fun b ks hb ⟨o,items,m,e,q⟩=>⟨o,items,m,hm b o (X b hb).2 e,q⟩),r⟩
 intro k
 induction k with
 | zero =>
  intro i s L T hi y Q Z f l d hR
  have a2:i=n:=by lia
  subst a2
  refine aL0 PyProof.Rows.F.entry_set_update_loop ?_
  rw [aK4 PyProof.Rows.F.plain_set_update_loop _]
  show wpAny _ A.in1 (pyNext (.ref I) >>= _) _ _ s
  refine aJ3 (W.done s _ _ y fun h' K T=>?_)
  show wpAny _ A.in1 (ret Value.none) _ _ _
  exact aJ4 (hR h' K L (fun b o _ hb e=>T b o hb e) (mv Z T) f l d)
 | succ k ih =>
  intro i s L T hi y Q Z f l d hR
  have c:i < n:=by lia
  refine aL0 PyProof.Rows.F.entry_set_update_loop ?_
  rw [aK4 PyProof.Rows.F.plain_set_update_loop _]
  show wpAny _ A.in1 (pyNext (.ref I) >>= _) _ _ s
  refine aJ3 (W.item i s _ _ c y fun v E K hP N u=>?_)
  have ev:=O i v hP
  subst ev
  have a1:SetT prog w U S L E:=mv Z u
  have p:∀ b o,b ≠ S->b ∉ wr->h0.get? b=some o->E.get? b=some o:=fun b o b1 B e=>u b o B (Q b o b1 B e)
  show wpAny _ A.in1 (holding [Value.ref (tup i)] (setAdd S (.ref (tup i))) >>= _) _ _ _
  refine aJ3 (aJ9 ?_)
  unfold setAdd
  refine aJ9 ?_
  refine aJ3 ((TK prog w).pyHash hu (g E p i c) ?_)
  refine aua (s:={ s with heap:=E,toks:=K+(TK prog w).draws (val i) }) hu a1 (g E p i c) (hU i c) (by lia) fun b h' C a4=>?_
  refine aJ4 ⟨plainId_quiet PyProof.Rows.F.plain_set_update_loop _,ih (i+1) _ _ (by lia) c (W.frame _ E _ N fun b hb o e=>?_) (fun b o b1 B e=>?_) a4 ?_ ?_ ?_ fun a0 J D G H n1 n2 n3=>?_⟩
  ·rw [C.2 b (fun h:b=S=>M (by rw [← h];exact hb))];exact e
  ·show h'.get? b=some o
   rw [C.2 b b1];exact p b o b1 B e
  ·split
   ·exact f
   ·rename_i hm
    rw [aE9]
    refine ⟨f,by simp,fun a ha b hb=>?_⟩
    rw [aC2] at hb;subst hb
    exact fun z=>hm (z ▸ ha)
  ·split
   ·lia
   ·rw [aB1,List.length_singleton];lia
  ·intro x
   have a3:x∈(if val i∈L then L else L ++ [val i]) ↔ x∈L\/x=val i:=by
    split
    ·rename_i hm;exact ⟨.inl,fun h=>h.elim id fun e=>e ▸ hm⟩
    ·simp
   rw [a3,d x]
   constructor
   ·rintro (⟨j,a,b⟩ | rfl)
    ·exact ⟨j,by lia,b⟩
    ·exact ⟨i,by lia,rfl⟩
   ·rintro ⟨j,a,b⟩
    by_cases e:j=i
    ·subst e;exact .inr b.symm
    ·exact .inl ⟨j,by lia,b⟩
  ·refine hR a0 J D (fun b o b1 B e=>G b o b1 B ?_) H n1 n2 n3
   show h'.get? b=some o
   rw [C.2 b b1]
   exact u b o B e
end
theorem call_setT {U:Addr->Prop} {l:Addr} {items:Array Value} {n:Nat} {val:Nat->List Int} {tup:Nat->Addr} {Q:Value->Shared->Prop}
  (hh:A.handled=none) (hu:(TK prog w).room A.in1.in1.in1) (hl:s.heap.IsList l items) (hP:∀ (i:Nat) (v:Value),items[i]?=some v->v=Value.ref (tup i)) (hi:∀ i,i < items.size->(TK prog w).is s.heap (val i) (tup i)) (hU:∀ i,i < items.size->U (tup i)) (G:∀ b,U b->b < s.heap.objs.size) (hb:items.size+1<=2040)
  (h:∀ (h':Heap) (y:Nat) (L:List (List Int)),SetT prog w U s.heap.objs.size L h'->L.Nodup->L.length<=items.size->(∀ x,x∈L ↔ ∃ j,j < items.size/\val j=x) ->
   (∀ b o,s.heap.get? b=some o->h'.get? b=some o)->Q (.ref s.heap.objs.size) { s with heap:=h',toks:=y }) :
  wpAny (model prog w) A (call (.type "set") [.ref l]) Q E s:=by
 obtain ⟨c,tl,a1⟩:=PySem.F.called_set.mro
 have P:=PySem.F.called_set.made
 have a4:=PySem.F.called_set.sub
 refine wpAny_call (codeAny_of_tree ?_)
 show wpAny _ _ (callAny (.type "set") _) _ _ _
 refine aJ4 ⟨Code.quiet_builtin _ (by decide +kernel),aL0 PySem.F.entry_type_call ?_⟩
 rw [Around.under_plain (weight_type_call_type "set" [.ref l] []) rfl]
 have h1:=PySem.F.called_set.notType
 have h2:=PySem.F.called_set.canCreate
 have a9:=PySem.F.typeCall_set_1 (.ref l)
 repeat (any_goals (first | assumption | wp_step))
 refine aJ8 (av5 (.ref l) (E:=E) (Q₁:=fun obj f=>obj=.ref s.heap.objs.size/\f={ s with heap:=s.heap.push (ab3 w) }) ⟨rfl,rfl⟩) fun r f N=>?_
 cases r with
 | error e=>exact N
 | ok fl =>
  cases fl with
  | ret obj =>
   obtain ⟨rfl,rfl⟩:=N
   have hS:(s.heap.push (ab3 w)).get? s.heap.objs.size=some (ab3 w):=aJ7 _ rfl
   have hT:Shared.TypeIs { s with heap:=s.heap.push (ab3 w) } (.ref s.heap.objs.size) "set":=⟨_,hS,rfl⟩
   have a8:=PySem.F.called_set.init.lookup
   have a7:=PySem.F.called_set.init.bind (.ref s.heap.objs.size)
   repeat (any_goals (first | assumption | wp_step))
   refine aJ8 (codeAny_call_builtin (R:=wants (fun r g=>r=.none/\∃ h' y L,g={ s with heap:=h',toks:=y }/\SetT prog w U s.heap.objs.size L h'/\L.Nodup/\L.length<=items.size/\(∀ x,x∈L ↔ ∃ j,j < items.size/\val j=x) /\
     (∀ b o,s.heap.get? b=some o->h'.get? b=some o)) E) PySem.F.called_set.init.plain PySem.F.entry_set_init (check_set_init_1 hT ?_)) fun J g a=>?_
   ·obtain ⟨ol,K,C,nl,H⟩:=hl
    obtain ⟨a2,u,T,d⟩:=ol
    simp only at C H
    subst C;subst H
    have M:(s.heap.push (ab3 w)).get? l=some { cls:=.type "list",dict:=u,data:=.seq items nl,slots:=d }:=aJ5 _ K
    have a3:=PySem.F.sub_list_set
    have a5:=PySem.F.sub_list_frozenset
    have b0:(Value.type "list" == Value.type "dict")=false:=by decide
    have D:(s.heap.push (ab3 w)).IsList l items:=⟨_,M,rfl,nl,rfl⟩
    unfold Builtin.«set.__init__» noKeywords Builtin.Frozenset.updateFrom
    generalize hPI:pyIter=PI
    unfold ab3 at *
    wp_walk
    subst hPI
    refine aK8 D ?_
    refine aJ3 (wpAny_runValue ?_)
    have I:l < s.heap.objs.size:=aJ6 K
    have O:A.in1.in1.in1.handled=none:=by simp [hh]
    have z:l ≠ (s.heap.push (ab3 w)).objs.size:=by
     rw [aK5];exact aB6 (aG0 I)
    have Y:s.heap.objs.size ∉ [(s.heap.push (ab3 w)).objs.size,l]:=by
     rw [aK5];simp only [aA9,aC2,aI6,or_false,not_or]
     exact ⟨aB6 (aJ0 _),Nat.ne_of_gt I⟩
    have a6:∀ i,i < items.size->tup i < s.heap.objs.size:=fun i h=>let ⟨_,_,_,e,_⟩:=hi i h;aJ6 e
    refine a3h (U:=U) (Walks.list O _ l z items) s.heap.objs.size Y hu s.heap val tup hP hU (fun b hb=>⟨aB6 (G b hb),by rw [aC2,aK5];exact aB6 (aG0 (G b hb))⟩) hb
     (fun h' kp i h=>let ⟨o,its,m,e,q⟩:=hi i h;⟨o,its,m,kp _ o (aB6 (aJ6 e)) (by rw [aC2,aK5];exact aB6 (aG0 (aJ6 e))) e,q⟩)
     (items.size - 0) 0 _ [] (by lia) (aG2 _)
     ⟨⟨_,aJ7 _ rfl,rfl,rfl⟩,(D.push _)⟩ (fun b o _ _ e=>aJ5 _ (aJ5 _ e)) (let ⟨es,ep,t,ks,x,r⟩:=azg s.heap;⟨es,ep,t,ks,x.at (fun o e=>aJ5 _ e) (fun b ks hb ⟨o,its,m,e,q⟩=>⟨o,its,m,aJ5 _ e,q⟩),r⟩) List.nodup_nil (aA6 _) (fun x=>by simp) fun h' y L hk p X n2 W=>?_
    show wpAny _ _ _ _ _ _
    refine aJ4 ?_
    show wpAny _ _ (ret Value.none) _ _ _
    refine aJ4 ⟨rfl,h',y,L,rfl,p,X,n2,W,fun b o e=>?_⟩
    have B:=aJ6 e
    have a0:b ≠ s.heap.objs.size:=aB6 B
    have S:b ≠ (s.heap.push (ab3 w)).objs.size:=by
     rw [aK5];exact aB6 (aG0 B)
    exact hk b o a0 (by rw [aC2];exact S) (aJ5 _ (aJ5 _ e))
   ·cases J with
    | error e=>exact a
    | ok fl₂ =>
     cases fl₂ with
     | ret r =>
      obtain ⟨rfl,h',y,L,rfl,p,X,n2,W,Z⟩:=a
      repeat (any_goals (first | assumption | wp_step))
      exact h _ _ _ p X n2 W Z
     | _=>exact a.elim
  | _=>exact N.elim
end
section
variable {prog:Program} {w:World} {A:Around} {E:Value->Shared->Prop} {s:Shared} {a:Addr}
def SetB (prog:Program) (w:World) (a:Addr) (bs:List Addr) (h:Heap):Prop:=∃ es ep t,SetR prog w a es ep t h/\(es.toList.map (·.2)).Perm (bs.map Value.ref)
theorem sorted_setT {bs:List Addr} {Q:Value->Shared->Prop} (hh:A.handled=none) (x:SetB prog w a bs s.heap) (hb:bs.length<=4000)
  (z:∀ vs:List Value,vs.Perm (bs.map Value.ref)->2<=vs.length->∀ h' f d,(∀ b o,s.heap.get? b=some o->h'.get? b=some o)->∃ κ S R,(∀ (Q:SortKind->Shared->Prop),Q κ { s with heap:=h',toks:=f,drawn:=d }->wpAny (model prog w) A.in1.in1 (keyKind' vs.toArray) Q E { s with heap:=h',toks:=f,drawn:=d })/\TS.Cmp (model prog w) A.in1.in1 E { s with heap:=h',toks:=f,drawn:=d } κ S R/\(∀ v∈vs,S (v,v)) /\
   ∀ (out:List Value) p c e,out.Perm vs->out.Pairwise (fun x y=>R (y,y) (x,x)=false)->(∀ b o,s.heap.get? b=some o->c.get? b=some o)->s.heap.objs.size<=p->c.get? p=some (seqObj "list" out.toArray e)->Q (.ref p) { s with heap:=c,toks:=f,drawn:=d })
  (I:∀ (vs:List Value) p c e f d,vs.Perm (bs.map Value.ref)->vs.length < 2->(∀ b o,s.heap.get? b=some o->c.get? b=some o)->s.heap.objs.size<=p->c.get? p=some (seqObj "list" vs.toArray e)->Q (.ref p) { s with heap:=c,toks:=f,drawn:=d }) :
  wpAny (model prog w) A (call (.builtin "sorted") [.ref a]) Q E s:=by
 obtain ⟨es,ep,t,x,G⟩:=x
 have hsz:es.size=bs.length:=by have:=G.length_eq;simpa using this
 have i:es.size<=sizeLine:=by rw [sizeLine_eq];lia
 refine Calls.call_function_entry kind_sorted plain_sorted entry_sorted (args_sorted1 _) ?_
 unfold Builtin.«sorted»
 refine aJ3 (m:=checkCount "sorted" 1 1 _) (aJ4 (aJ3 (aom (A:=A.in1) hh x i fun g f d vs kp hs H=>?_)))
 have j:=H.trans G
 have u:vs.length=bs.length:=by rw [j.length_eq,aA3]
 have r:vs.length<=sizeLine:=by rw [u,sizeLine_eq];lia
 refine aJ3 (wpAny_newList ?_ r)
 have h:(g.push (seqObj "list" vs.toArray 0)).get? g.objs.size=some (seqObj "list" vs.toArray 0):=aJ7 _ rfl
 have keep:∀ b o,s.heap.get? b=some o->(g.push (seqObj "list" vs.toArray 0)).get? b=some o:=fun b o e=>aJ5 _ (kp b o e)
 have fin:∀ out:List Value,(∀ b o,s.heap.get? b=some o->(sortedHeap (g.push (seqObj "list" vs.toArray 0)) g.objs.size vs out.toArray).get? b=some o):=fun out b o q=>by
  have lt:=aJ6 (kp b o q)
  rw [sortedHeap_old (aB6 lt) (by rw [size_push'];exact aG0 lt)]
  exact keep b o q
 refine aJ3 (aJ9 (aK6 slot_list_sort ⟨_,h,rfl⟩ entry_list_sort ?body (args_list_sort _)))
 case body =>
  refine TS.list_sort_any (s:={ s with heap:=g.push (seqObj "list" vs.toArray 0),toks:=f,drawn:=d }) h r (fun F h' J=>?_) fun B=>?_
  ·obtain ⟨κ,S,R,N,C,M,l⟩:=z vs j F h' f d fun b o e=>J b o (aB6 (aJ6 (kp b o e))) (keep b o e)
   refine ⟨κ,S,R,N,C,M,fun out K L=>⟨_,rfl,aJ4 ⟨_,rfl,?_⟩⟩⟩
   obtain ⟨e,D⟩:=sortedHeap_at (vs:=vs) (out:=out.toArray) (n:=0) h
   exact l out _ _ e K L (fin out) hs D
  ·refine ⟨_,rfl,aJ4 ⟨_,rfl,?_⟩⟩
   obtain ⟨e,D⟩:=sortedHeap_at (vs:=vs) (out:=vs.toArray) (n:=0) h
   exact I vs _ _ e f d j B (fin vs) hs D
end
end SH
namespace L2
open PySem PySem.W PyProof.Rows
def aw6 (P:Program) (w:World) (K:Frag):List V->Hp->VK->Prop:=fun xs H Q=>∃ (a:Addr) (ts:List Addr) (ps:List (List Int)),xs=[.ref a]/\SqL K H a (ts.map V.ref)/\ts.length=ps.length/\ps.length<=2030 /\
 (∀ (i:Nat) t k,ts[i]?=some t->ps[i]?=some k->H t=some (.tup (k.map V.int))) /\
 ∀ (bs:List Addr) (L:List (List Int)) (p:Addr),bs.length=L.length->L.length<=ps.length->(∀ (i:Nat) b k,bs[i]?=some b->L[i]?=some k->H b=some (.tup (k.map V.int)))->L.Nodup->(∀ x,x∈L ↔ x∈ps)->H p=none->Q (.ref p) (upd H p (.ext (SH.SetB P w p bs)))
def aqc (P:Program) (w:World):List V->Hp->VK->Prop:=fun xs H Q=>∃ (a:Addr) (bs:List Addr),xs=[.ref a]/\H a=some (.ext (SH.SetB P w a bs))/\bs.length<=4000/\(∀ b∈bs,TupI H (.ref b)) /\
 ∀ (vs':List V) (p:Addr),vs'.Perm (bs.map V.ref)->vs'.Pairwise (fun x y=>HT.lexLt (kH H y) (kH H x)=false)->H p=none->Q (.ref p) (upd H p (.lst vs'))
section
variable {X:Cx}
theorem anz {P:Program} {w:World}:∀ {its:List Value} {k:List Int},IntsAre its k->ItemsAre (intKind P w) k its
 | _,_,.nil => .nil
 | _,_,.cons i tk h => .cons (intKind_is _ _ _ _) (anz h)
theorem aw7 {H:Hp} {h:Heap} {P:Program} {w:World} (ok:HOk P w H h) {t:Addr} {k:List Int} (e:H t=some (.tup (k.map V.int))):(SH.TK P w).is h k t:=by
 obtain ⟨_,its,b,o,d,c,n,a⟩:=(show ObjOk P w H h t (.tup (k.map V.int)) from ok t _ e)
 refine ⟨o,its.toArray,n,d,c,a,?_⟩
 have hi:IntsAre its k:=by simpa using (ab5 b:IntsAre its.toArray.toList k)
 show ItemsAre (intKind P w) k its.toArray.toList
 rw [List.toList_toArray]
 exact anz hi
theorem call_setT (hc:X.calm=true) (F:X.A.units+64 < cLine):aa3 X (.type "set") (aw6 X.prog X.w X.K):=by
 intro pins s σ H xs us Q I r h
 obtain ⟨a,c,ps,rfl,ha,hl,hz,Z,q⟩:=h
 obtain ⟨u,rfl,M⟩:=abx r
 cases M
 obtain ⟨its,T,Y,_⟩:=I.list ha
 have B:its.length=c.length:=by have:=T.length;rw [aA3] at this;lia
 have hsz:its.toArray.size=c.length:=by simp [B]
 have N:∀ {i},i < c.length->c[i]?=some (c.getD i 0):=fun {i} hi=>by rw [aD4,aA0 hi];rfl
 have S:∀ {i},i < c.length->ps[i]?=some (ps.getD i []):=fun {i} hi=>by rw [aD4,aA0 (show i < ps.length by lia)];rfl
 have P:∀ i,i < c.length->H (c.getD i 0)=some (.tup ((ps.getD i []).map V.int)):=fun i hi=>Z i _ _ (N hi) (S hi)
 refine SH.call_setT (n:=0) (U:=fun b=>b∈c) (items:=its.toArray) (val:=fun i=>ps.getD i []) (tup:=fun i=>c.getD i 0) (I.ok.hd hc) (by show X.A.units+1+1+1 < cLine;lia) Y.isList (fun i v E=>?_) (fun i hi=>aw7 I.hok (P i (by lia))) (fun i hi=>aA2 (N (by lia))) (fun b hb=>?_) (by lia) fun h' tk L hS nd nl hm kp=>?_
 ·have E:its[i]?=some v:=by simpa using E
  have hi:=(aA1.mp E).1
  have l:(c.map V.ref)[i]?=some (.ref (c.getD i 0)):=by rw [aA5,N (by lia)];rfl
  obtain ⟨u,F,M⟩:=T.get l
  rw [E] at F
  cases F
  exact M
 ·obtain ⟨i,hi⟩:=aD3 hb
  have g:=(aA1.mp hi).1
  have:=P i g
  rw [aD4,hi] at this
  exact ObjOk.lt (I.hok _ _ this)
 ·obtain ⟨es,ep,t,ks,x,_,C⟩:=hS
  have f:∀ (i:Nat) (e:Int × Value) k,es.toList[i]?=some e->ks[i]?=some k->∃ b,e.2=.ref b/\H b=some (.tup (k.map V.int)):=fun i e k d D=>by
   obtain ⟨b,l,O,e3⟩:=x.gd i e k d D
   refine ⟨b,by rw [l],?_⟩
   obtain ⟨j,m⟩:=aD3 e3
   have z:=(aA1.mp m).1
   have hb:=P j z
   rw [aD4,m] at hb
   have hb:H b=some (.tup ((ps.getD j []).map V.int)):=hb
   have h3:=aw7 (I.hok.kept kp) hb
   rw [(SH.TK X.prog X.w).inj O h3]
   exact hb
  have G:∃ bs:List Addr,es.toList.map (·.2)=bs.map Value.ref/\bs.length=ks.length/\∀ (i:Nat) b k,bs[i]?=some b->ks[i]?=some k->H b=some (.tup (k.map V.int)):=by
   refine ⟨es.toList.map fun e=>match e.2 with | .ref b=>b | _=>0,?_,?_,fun i b k d D=>?_⟩
   ·rw [aE0]
    refine aF1 fun e p=>?_
    obtain ⟨i,hi⟩:=aD3 p
    have g:i < ks.length:=by rw [x.len,← aA8];exact (aA1.mp hi).1
    obtain ⟨b,l,_⟩:=f i e _ hi (aA0 g)
    simp only [Function.comp,l]
   ·rw [aA3,x.len,aA8]
   ·rw [aA5] at d
    cases p:es.toList[i]? with
    | none=>rw [p] at d;cases d
    | some e =>
     rw [p] at d
     obtain ⟨b',l,O⟩:=f i e k p D
     rw [aI4,l] at d
     cases d
     exact O
  obtain ⟨bs,b1,b2,W⟩:=G
  have J:=I.hok.fresh (a:=s.heap.objs.size) (aA6 _)
  have R:SH.SetB X.prog X.w s.heap.objs.size bs h':=⟨es,ep,t,x.r,by rw [b1]⟩
  refine ⟨.ref s.heap.objs.size,_,I.laid (t':=tk) (o:=.ext (SH.SetB X.prog X.w s.heap.objs.size bs)) kp (aA6 _) ⟨R,?_,fun d D ⟨es,ep,t,y,r⟩ k=>⟨es,ep,t,y.at k,r⟩⟩,rfl,q bs ks _ b2 ?_ W x.nd (fun y=>?_) J⟩
  ·obtain ⟨o,e,_⟩:=x.r
   exact ⟨o,e⟩
  ·rw [C.length_eq];lia
  ·rw [C.mem_iff,hm]
   constructor
   ·rintro ⟨j,m,e⟩
    rw [← e]
    exact aA2 (S (by lia))
   ·intro hy
    obtain ⟨j,m⟩:=aD3 hy
    have z:=(aA1.mp m).1
    exact ⟨j,by lia,by rw [aD4,m];rfl⟩
theorem aop (O:X.calm=true):aa3 X (.builtin "sorted") (aqc X.prog X.w):=by
 intro pins s σ H xs us Q I r h
 obtain ⟨a,bs,rfl,ha,hz,hT,q⟩:=h
 obtain ⟨u,rfl,P⟩:=abx r
 cases P
 obtain ⟨L,_,_⟩:=(show ObjOk X.prog X.w H s.heap a (.ext (SH.SetB X.prog X.w a bs)) from I.hok a _ ha)
 have f:∀ {us:List Value},us.Perm (bs.map Value.ref)->∀ u∈us,∃ b,u=.ref b/\b∈bs:=fun {us} g u B=>by
  obtain ⟨b,hb,rfl⟩:=aB7.mp (g.mem_iff.mp B)
  exact ⟨b,rfl,hb⟩
 have l:∀ {us:List Value},us.Perm (bs.map Value.ref)->Vals (us.map aby) us/\(∀ v∈us.map aby,TupI H v)/\(us.map aby).Perm (bs.map V.ref):=fun {us} g=>by
  refine ⟨ae6 fun u B=>let ⟨b,e,_⟩:=f g u B;⟨b,e⟩,fun v A=>?_,?_⟩
  ·obtain ⟨u,B,rfl⟩:=aB7.mp A
   obtain ⟨b,rfl,hb⟩:=f g u B
   exact hT b hb
  ·have:=g.map aby
   rw [aE0] at this
   exact this
 have fin:∀ (us out:List Value) p c e m d,us.Perm (bs.map Value.ref)->out.Perm us->(out.map aby).Pairwise (fun x y=>HT.lexLt (kH H y) (kH H x)=false)->(∀ b o,s.heap.get? b=some o->c.get? b=some o)->s.heap.objs.size<=p->c.get? p=some (seqObj "list" out.toArray e)->EP X pins σ Q (.ref p) { s with heap:=c,toks:=m,drawn:=d }:=by
  intro us out p c e m d g n hs kp j z
  obtain ⟨C,F,G⟩:=l (n.trans g)
  have U:out.length=bs.length:=by rw [(n.trans g).length_eq,aA3]
  have J:=I.laid (t':=m) (o:=.lst (out.map aby)) kp j (show ObjOk X.prog X.w _ c p (.lst (out.map aby)) from ⟨by rw [aA3,U,sizeLine_eq];lia,out,e,C,by rw [z]⟩)
  exact ⟨.ref p,_,J.drawn' d,rfl,q _ _ G hs (I.hok.fresh j)⟩
 refine SH.sorted_setT (I.ok.hd O) L hz (fun vs g N h' m d kp=>?_) fun vs p c e m d g D kp j z=>?_
 ·obtain ⟨C,F,G⟩:=l g
  obtain ⟨⟨fs,k1,k2,Z⟩,k4⟩:=afy I kp C F
  have E:(Value.type "int" != Value.type "tuple")=true:=by rfl
  refine ⟨tuples' true,TS.tS h' (fun a=>kH H (.ref a)),TS.tR (fun a=>kH H (.ref a)),fun Q' R=>?_,TS.cmp_tups (s:={ s with heap:=h',toks:=m,drawn:=d }) (fun a=>kH H (.ref a)),fun v A=>?_,fun out p c e n hs Y j z=>fin vs out p c e m d g n ?_ Y j z⟩
  ·refine PySem.W.kat_kind (T:=.type "int") (s:={ s with heap:=h',toks:=m,drawn:=d }) k1 (by lia) (fun v A=>?_) (by rfl) ?_
   ·obtain ⟨i,t,rfl⟩:=Z v A
    exact .now
   ·rw [E];exact R
  ·obtain ⟨a,e,M⟩:=k4 v A
   exact ⟨rfl,a,e,M⟩
  ·rw [aG3]
   refine aI2 ?_ hs
   intro x y S hy K
   obtain ⟨ax,rfl,_⟩:=f (n.trans g) x S
   obtain ⟨ay,rfl,_⟩:=f (n.trans g) y hy
   exact K
 ·exact fin vs vs p c e m d g (List.Perm.refl _) (ahs (by rw [aA3];exact D)) kp j z
end
end L2
namespace VL
open PySem PySem.Spec L2
section
variable {B:Bs} {env:En} {QO:Sl->En->Prop} {K:Frag} {ta:TA} {P:Program} {w:World}
theorem arv (h:EvA B ta env fun ds e=>∃ ps:List (Int × Int),ds=[.list (ps.map prD)]/\ps.length<=2030/\∀ qs:List (Int × Int),qs.Nodup->(∀ x,x∈qs ↔ x∈ps)->lexS (qs.map p2)->QO (.own (OL (qs.map prD))) e):EvO B (tCB (aqc P w) (aa5 (tCB (aw6 P w K) ta) tNil)) env QO:=fun σ G H F Q I k =>
 h σ G H F _ I fun vs G1 f F1 ds e1 s g1 r1 z_=>by
  obtain ⟨ps,ed,hl,q1⟩:=z_
  subst ed
  cases r1 with
  | cons r t =>
   cases t
   cases r with
   | @lst a us _ ha rs =>
    rw [← agn] at rs
    obtain ⟨t1,t2⟩:=afe s.gh rs arb
    have a1:us.length=ps.length:=by have:=congrArg List.length t2;simpa using this
    obtain ⟨m,O⟩:∃ m:List Addr,us=m.map V.ref:=⟨us.map fun v=>match v with | .ref b=>b | _=>0,by
     rw [aE0]
     conv=>lhs;rw [← List.map_id us]
     refine aF1 fun v hv=>?_
     obtain ⟨b,_,rfl,_⟩:=t1 v hv
     rfl⟩
    subst O
    have W:m.length=ps.length:=by simpa using a1
    have hk:∀ (i:Nat) t q,m[i]?=some t->(ps.map p2)[i]?=some q->f t=some (.tup (q.map V.int)):=fun i t q h1 X=>by
     have h3:(m.map V.ref)[i]?=some (.ref t):=by rw [aA5,h1];rfl
     obtain ⟨b,ns,e,hb,_⟩:=t1 _ (aA2 h3)
     cases e
     have h4:((m.map V.ref).map (kH f))[i]?=some (kH f (.ref t)):=by rw [aA5,h3];rfl
     rw [t2,X,ag3 hb] at h4
     cases h4
     exact hb
    refine ⟨a,m,ps.map p2,rfl,SqL.of (s.gh _ _ ha),by rw [aA3];exact W,by rw [aA3];exact hl,hk,fun bs L p U a0 Y nd hm hf=>?_⟩
    rw [aA3] at a0
    have J:=s.aside (p:=p) (o:=.ext (SH.SetB P w p bs)) (fun _ z=>nomatch z) (s.no_g hf) (fun j z=>s.no_f hf j z) (s.no_b hf)
    have E:∀ (i:Nat) b q,bs[i]?=some b->L[i]?=some q->upd f p (.ext (SH.SetB P w p bs)) b=some (.tup (q.map V.int)):=fun i b q h1 X=>by
     have:=Y i b q h1 X
     rw [aad (aai this hf)]
     exact this
    have n:∀ q∈L,∃ x∈ps,q=p2 x:=fun q S=>by
     obtain ⟨x,N,e⟩:=aB7.mp ((hm q).mp S)
     exact ⟨x,N,e.symm⟩
    have D:∀ b∈bs,TupI (upd f p (.ext (SH.SetB P w p bs))) (.ref b):=fun b hb=>by
     obtain ⟨i,hi⟩:=aD3 hb
     have u:i < L.length:=by rw [← U];exact (aA1.mp hi).1
     refine ⟨b,L[i],rfl,E i b _ hi (aA0 u),?_⟩
     obtain ⟨x,_,e⟩:=n _ (aF4 u)
     rw [e]
     simp
    have R:(bs.map V.ref).map (kH (upd f p (.ext (SH.SetB P w p bs))))=L:=by
     refine aG4 fun i=>?_
     rw [aA5,aA5]
     by_cases hi:i < bs.length
     ·rw [aA0 hi,aA0 (show i < L.length by lia),aI4,aI4,ag3 (E i _ _ (aA0 hi) (aA0 (by lia)))]
     ·rw [aE3 (by lia),aE3 (show L.length<=i by lia)]
      rfl
    refine ⟨p,bs,rfl,aag,by lia,D,fun C p' hp hs Z=>?_⟩
    have tw:∀ v∈C,TupI (upd f p (.ext (SH.SetB P w p bs))) v:=fun v hv=>by
     obtain ⟨b,hb,rfl⟩:=aB7.mp (hp.mem_iff.mp hv)
     exact D b hb
    have o:=Out.newL J.gh Z (af1 J.ft tw)
    have g:(C.map (kH (upd f p (.ext (SH.SetB P w p bs))))).Perm L:=by
     have:=hp.map (kH (upd f p (.ext (SH.SetB P w p bs))))
     rw [R] at this
     exact this
    obtain ⟨qs,M⟩:∃ qs:List (Int × Int),C.map (kH (upd f p (.ext (SH.SetB P w p bs))))=qs.map p2:=⟨(C.map (kH (upd f p (.ext (SH.SetB P w p bs))))).map fun l=>(l.getD 0 0,l.getD 1 0),by
     rw [aE0]
     conv=>lhs;rw [← List.map_id (C.map (kH (upd f p (.ext (SH.SetB P w p bs)))))]
     refine aF1 fun q S=>?_
     obtain ⟨x,_,rfl⟩:=n q (g.mem_iff.mp S)
     rfl⟩
    rw [M] at g o
    rw [agn] at o
    have A:∀ x y:Int × Int,p2 x=p2 y->x=y:=fun x y e=>by
     obtain ⟨a,b⟩:=x
     obtain ⟨c,d⟩:=y
     simp [p2] at e
     rw [e.1,e.2]
    refine k _ _ _ F1 _ _ e1 (J.out o).1 (g1.trans o.gg) (J.out o).2 (q1 qs ?_ (fun x=>?_) ?_)
    ·have:=g.nodup_iff.mpr nd
     rw [List.Nodup,aG3] at this
     exact this.imp fun {x y} h e=>h (by rw [e])
    ·constructor
     ·intro N
      obtain ⟨y,T,e⟩:=n _ (g.mem_iff.mp (List.mem_map_of_mem N))
      rw [A x y e]
      exact T
     ·intro N
      obtain ⟨y,T,e⟩:=aB7.mp (g.mem_iff.mpr ((hm (p2 x)).mpr (List.mem_map_of_mem N)))
      rw [← A y x e]
      exact T
    ·rw [← M]
     unfold lexS
     rw [aG3]
     exact hs
end
end VL
namespace L2
open PySem PySem.W PyProof.Rows
section
variable {X:Cx} {pins:List (Addr × Obj)} {σ:St} {H:Hp} {s:Shared} {a:Addr} {kvs:List (Key × V)} {k:Key} {A:Around} {E:Value->Shared->Prop}
end
section
variable {X:Cx} {o e f:Expr} {apos cpos:Pos} {td ty tx:TE}
end
end L2
namespace VL
open PySem PySem.Spec L2
section
variable {B:Bs} {env:En} {QO:Sl->En->Prop} {Q':PyData->En->Prop} {D':VEnds} {K:Frag} {i:Nat}
end
end VL
namespace G
open PySem L2 VL
def top (i:Nat):Stmt:=PySem.Challenge.pw_fewties_k12_whole_wide_and_far.main.body.getD i (.Pass ⟨0,0,0,0⟩)
abbrev s_is_whole:Stmt:=top 5
abbrev s_is_between:Stmt:=top 6
abbrev s_is_place:Stmt:=top 7
abbrev s_tied_places:Stmt:=top 8
abbrev s_far_from:Stmt:=top 9
abbrev s_need_place:Stmt:=top 10
abbrev s_all_far:Stmt:=top 11
abbrev s_how_far:Stmt:=top 12
abbrev s_is_joined:Stmt:=top 13
abbrev s_need_joined:Stmt:=top 15
abbrev s_far_rows:Stmt:=top 16
abbrev s_most_far:Stmt:=top 17
abbrev s_farthest_two:Stmt:=top 18
abbrev s_middles:Stmt:=top 19
abbrev s_far_paper:Stmt:=top 20
abbrev s_far_shows:Stmt:=top 21
abbrev s_is_square:Stmt:=top 22
abbrev s_is_long:Stmt:=top 23
abbrev s_number_holds:Stmt:=top 24
abbrev s_law_deck:Stmt:=top 26
abbrev s_law_draw:Stmt:=top 27
abbrev s_law_tied:Stmt:=top 28
abbrev s_law_fars:Stmt:=top 29
abbrev s_law_order:Stmt:=top 30
abbrev s_law_crowds:Stmt:=top 31
abbrev s_law_web:Stmt:=top 32
abbrev s_law_joined_web:Stmt:=top 33
abbrev s_law_one_right:Stmt:=top 34
abbrev s_law_right:Stmt:=top 35
abbrev s_law:Stmt:=top 36
structure Txt (K:Frag) (mg:Str->Option Value):Prop where
 b_ValueError:mg "ValueError" = none
 b_max:mg "max" = none
 b_min:mg "min" = none
 b_all:mg "all" = none
 b_any:mg "any" = none
 b_range:mg "range" = none
 b_dict:mg "dict" = none
 b_list:mg "list" = none
 b_isinstance:mg "isinstance" = none
 b_int:mg "int" = none
 b_len:mg "len" = none
 b_sum:mg "sum" = none
 b_sorted:mg "sorted" = none
 b_bool:mg "bool" = none
 b_set:mg "set" = none
 b_enumerate:mg "enumerate" = none
 d_is_whole:∃ f fd,DefAt K mg "is_whole" s_is_whole ["thing"] f fd
 d_is_between:∃ f fd,DefAt K mg "is_between" s_is_between ["least","most","thing"] f fd
 d_is_place:∃ f fd,DefAt K mg "is_place" s_is_place ["n","thing"] f fd
 d_tied_places:∃ f fd,DefAt K mg "tied_places" s_tied_places ["web"] f fd
 d_far_from:∃ f fd,DefAt K mg "far_from" s_far_from ["tied","start"] f fd
 d_need_place:∃ f fd,DefAt K mg "need_place" s_need_place ["web","thing"] f fd
 d_all_far:∃ f fd,DefAt K mg "all_far" s_all_far ["web","a"] f fd
 d_how_far:∃ f fd,DefAt K mg "how_far" s_how_far ["web","a","b"] f fd
 d_is_joined:∃ f fd,DefAt K mg "is_joined" s_is_joined ["web"] f fd
 d_need_joined:∃ f fd,DefAt K mg "need_joined" s_need_joined ["web"] f fd
 d_far_rows:∃ f fd,DefAt K mg "far_rows" s_far_rows ["web"] f fd
 d_most_far:∃ f fd,DefAt K mg "most_far" s_most_far ["rows"] f fd
 d_farthest_two:∃ f fd,DefAt K mg "farthest_two" s_farthest_two ["web"] f fd
 d_middles:∃ f fd,DefAt K mg "middles" s_middles ["web"] f fd
 d_far_paper:∃ f fd,DefAt K mg "far_paper" s_far_paper ["web"] f fd
 d_far_shows:∃ f fd,DefAt K mg "far_shows" s_far_shows ["web","d","paper"] f fd
 d_is_square:∃ f fd,DefAt K mg "is_square" s_is_square ["n","paper"] f fd
 d_is_long:∃ f fd,DefAt K mg "is_long" s_is_long ["n","thing"] f fd
 d_number_holds:∃ f fd,DefAt K mg "number_holds" s_number_holds ["tied","d","paper","a","b"] f fd
 d_law_deck:∃ f fd,DefAt K mg "_law_deck" s_law_deck ["script"] f fd
 d_law_draw:∃ f fd,DefAt K mg "_law_draw" s_law_draw ["deck","many"] f fd
 d_law_tied:∃ f fd,DefAt K mg "_law_tied" s_law_tied ["web"] f fd
 d_law_fars:∃ f fd,DefAt K mg "_law_fars" s_law_fars ["web"] f fd
 d_law_order:∃ f fd,DefAt K mg "_law_order" s_law_order ["deck","n"] f fd
 d_law_crowds:∃ f fd,DefAt K mg "_law_crowds" s_law_crowds ["deck"] f fd
 d_law_web:∃ f fd,DefAt K mg "_law_web" s_law_web ["deck"] f fd
 d_law_joined_web:∃ f fd,DefAt K mg "_law_joined_web" s_law_joined_web ["deck"] f fd
 d_law_one_right:∃ f fd,DefAt K mg "_law_one_right" s_law_one_right ["web"] f fd
 d_law_right:∃ f fd,DefAt K mg "_law_right" s_law_right ["deck","web"] f fd
 d_law:∃ f fd,DefAt K mg "law" s_law ["script"] f fd
local macro_rules | `(tactic| row_cond sc) => `(tactic| exact ⟨rfl,rfl,rfl,by decide +kernel,rfl,by decide +kernel,by decide +kernel⟩)
local macro_rules | `(tactic| row_cond gn) => `(tactic| first | (with_reducible first | refine evg_n0 ?_ | refine a1d ?_ | refine a1e ?_ | refine a1f ?_ | refine a1g ?_ | refine a1h ?_ | refine a1i ?_ | refine a1j ?_ | refine a1k ?_ | refine a1l ?_ | refine ayq ?_ | refine evg_n11 ?_ | refine evg_n12 ?_ | refine evg_n13 ?_ | refine evg_n14 ?_ | refine evg_n15 ?_ | refine evg_n16 ?_ | refine evg_n17 ?_ | refine evg_n18 ?_ | refine evg_n19 ?_ | refine evg_n20 ?_ | refine evg_n21 ?_ | refine evg_n22 ?_ | refine evg_n23 ?_ | refine evg_n24 ?_ | refine evg_n25 ?_) | ((with_reducible refine aa9 ?_); dsimp only [List.set_cons_zero, List.set_cons_succ]))
local macro_rules | `(tactic| row_cond dc) => `(tactic| first | assumption | lia | (with_reducible rfl))
local macro_rules | `(tactic| row_cond ar) => `(tactic| first | assumption | (refine ⟨?_, ?_, ?_⟩ <;> decide) | (constructor <;> first | assumption | lia) | (show (0 : Int) < _; first | assumption | lia) | (left; constructor <;> first | assumption | lia) | (right; constructor <;> first | assumption | lia))
local macro_rules | `(tactic| row_cond hs) => `(tactic| first | exact Or.inl rfl | exact Or.inr rfl)
local macro_rules | `(tactic| row_cond fz) => `(tactic| first | exact acw | exact a0s | exact frz_OT | exact aiw | exact ag6 | assumption)
local macro_rules | `(tactic| row_cond le) => `(tactic| first | exact Nat.le_of_ble_eq_true rfl | assumption | lia | (simp only [List.length_append, List.length_map, List.length_cons, List.length_nil, List.length_set, List.length_replicate]; lia))
local macro_rules | `(tactic| row_cond ia) => `(tactic| first | assumption | exact at0 | exact at1 | exact at2 | exact rfl)
local macro_rules | `(tactic| row_cond ty) => `(tactic| first | exact a09 | exact ayo | exact ty_tuple | exact ayp | exact ty_str | exact ty_dict)
local macro_rules | `(tactic| row_cond sEvS) => `(tactic| first | (with_reducible refine am5 (fun c_ hc_ => ?_)) | (with_reducible first | refine aya ?_ | refine a01 ?_ | refine am3 ?_) | ((with_reducible refine' avr ?h0 ?_); (case h0 => exact rfl)) | (with_reducible first | refine apg ?_ | refine ayb ?_ | refine avc ?_) | ((with_reducible refine' ard ?h0 ?_); (case h0 => exact rfl)) | ((with_reducible refine' arf ?h0 ?_); (case h0 => exact rfl)) | ((with_reducible refine' aph ?h0 ?_); (case h0 => assumption)))
local macro_rules | `(tactic| row_cond sEvG) => `(tactic| first | row_cond gn | ((with_reducible refine' apf ?h0 ?_); (case h0 => exact rfl)) | ((with_reducible refine' avq ?h0 ?_); (case h0 => row_cond hs)) | (with_reducible refine evg_st ?_))
local macro_rules | `(tactic| row_cond sEvGs) => `(tactic| first | (with_reducible first | refine agj ?_ | refine am2 ?_))
local macro_rules | `(tactic| row_cond sEv) => `(tactic| first | ((with_reducible refine' a0t ?h0 ?_); (case h0 => exact rfl)) | (with_reducible refine a0u ?_) | ((with_reducible refine' a07 ?h0 ?_); (case h0 => row_cond hs)) | (with_reducible refine awx ?_) | ((with_reducible refine' a08 ?h0 ?_); (case h0 => row_cond ty)) | ((with_reducible refine' akk ?h0 ?_); (case h0 => exact rfl)) | ((with_reducible refine' atb ?h0 ?_); (case h0 => exact rfl)) | (with_reducible refine avg ?_) | ((with_reducible refine' ax2 ?h0 ?h1 ?_); (case h0 => exact rfl); (case h1 => row_cond fz); dsimp only [List.set_cons_zero, List.set_cons_succ]) | (with_reducible first | refine a0y ?_ | refine a0z ?_ | refine a2u ?_ | refine a0v ?_ | refine a2v ?_ | refine ax7 ?_ | refine ax8 ?_ | refine avb ?_ | refine abh (te:=tCB (aik _) _) ?_ | refine abh (te:=tCB (aml _) _) ?_ | refine abh (te:=tCB ag8 _) ?_ | refine a2w ?_) | ((with_reducible refine' aq5 ?h0 ?_); (case h0 => row_cond hs)) | ((with_reducible refine' aq6 ?h0 ?_); (case h0 => row_cond hs)) | ((with_reducible refine' aok ?h0 ?_); (case h0 => row_cond hs)) | (with_reducible refine avw ?_) | ((with_reducible refine' a23 ?h0 ?_); (case h0 => decide)) | (with_reducible first | refine a1q ?_ | refine av0 ?_))
local macro_rules | `(tactic| row_cond sEvO) => `(tactic| first | (with_reducible first | refine amz (r:=rCat) ?_ | refine amz (r:=rRep) ?_ | refine abc (te:=tOp _ _ _) ?_ | refine abc (te:=tVar _) ?_ | refine abc (te:=tC _) ?_ | refine ape ?_) | (with_reducible refine apd ?_) | ((with_reducible refine' aip ?h0 ?_); (case h0 => exact rfl)) | ((with_reducible refine' aiq ?h0 ?_); (case h0 => exact rfl)) | ((with_reducible refine' as8 ?h0 ?h1 ?_); (case h0 => exact rfl); (case h1 => assumption)) | (with_reducible first | refine akh ?_ | refine ayr ?_) | ((with_reducible refine' as9 ?h0 ?_); (case h0 => decide)) | (with_reducible first | refine apu ?_) | (with_reducible first | refine atk ?_ | refine akl ?_ | refine abc (te:=tUn _ _) ?_ | refine abc (te:=aqk _ _) ?_ | refine abc (te:=aql _) ?_ | refine abc (te:=ah1 _ _ _ _ _) ?_ | refine abc (te:=alj _ _) ?_ | refine abc (te:=afj _ _) ?_ | refine abc (te:=tCB (rLen _) _) ?_ | refine abc (te:=tCB (rIsi _) _) ?_ | refine abc (te:=tCB alk _) ?_ | refine abc (te:=tCB alm _) ?_ | refine abc (te:=tCB aln _) ?_ | refine abc (te:=tCB (ae5 _) _) ?_ | refine abc (te:=tCB (aih _) _) ?_ | refine abc (te:=tCB (aq3 _) _) ?_ | refine abc (te:=tCB (rAll _) _) ?_ | refine abc (te:=tCB (rAny _) _) ?_ | refine abc (te:=tBM _ _ _ _ _) ?_))
local macro_rules | `(tactic| row_cond sEvT) => `(tactic| first | (with_reducible first | refine am1 ?_ | refine a2x ?_ | refine ax4 ?_ | refine a00 ?_ | refine ax5 ?_ | refine afo ?_) | (with_reducible refine ax6 ?_))
local macro_rules | `(tactic| row_cond sEvA) => `(tactic| first | (with_reducible first | refine am0 ?_ | refine ax3 ?_))
local macro_rules | `(tactic| row_cond sEvI) => `(tactic| first | (with_reducible first | refine ave ?_ | refine avf ?_ | refine evi_down ?_ | refine avd ?_ | refine avv ?_) | (with_reducible refine evi_tup ?_))
local macro_rules | `(tactic| row_cond sOp2) => `(tactic| first | (with_reducible first | refine ayd ?_ | refine aye ?_) | ((with_reducible refine' a05 ?h0 ?_); (case h0 => row_cond ar)) | (with_reducible first | refine ayf ?_ | refine ayg ?_) | ((with_reducible refine' ayj ?h0 ?_); (case h0 => row_cond ia)) | ((with_reducible refine' ayk ?h0 ?_); (case h0 => row_cond ia)) | (with_reducible first | refine ayi ?_ | refine aym ?_) | ((with_reducible refine' ayn ?h0 ?_); (case h0 => row_cond le)))
local macro_rules | `(tactic| row_cond sOp1) => `(tactic| first | (with_reducible refine a06 ?_))
local macro_rules | `(tactic| row_cond sOpA) => `(tactic| first | (with_reducible first | refine avj ?_ | refine avk ?_ | refine avl ?_ | refine avm ?_))
local macro_rules | `(tactic| row_cond sFQ) => `(tactic| first | (with_reducible first | refine a2t ?_ | refine acf ?_ | refine arc ?_))
local macro_rules | `(tactic| row_cond sRngA1) => `(tactic| first | ((with_reducible refine' a03 ?h0 ?h1 ?_); (case h0 => lia); (case h1 => lia)))
local macro_rules | `(tactic| row_cond sRngA2) => `(tactic| first | ((with_reducible refine' a04 ?h0 ?_); (case h0 => lia)))
local macro_rules | `(tactic| row_cond sRest) => `(tactic| first | (with_reducible first | refine x_bl ?_ | refine x_st ?_ | refine a02 ?_) | ((with_reducible refine' a21 ?h0 ?h1 ?_); (case h0 => row_cond hs); (case h1 => row_cond ia)) | ((with_reducible refine' a20 ?h0 ?_); (case h0 => row_cond le)) | (with_reducible first | refine aco ?_ | refine adk ?_ | refine apa ?_ | refine apb ?_) | ((with_reducible refine' ajc ?h0 ?_); (case h0 => row_cond dc)) | ((with_reducible refine' ajd ?h0 ?_); (case h0 => row_cond dc)) | ((with_reducible refine' au8 ?h0 ?_); (case h0 => row_cond dc)) | ((with_reducible refine' au9 ?h0 ?_); (case h0 => row_cond dc)) | ((with_reducible refine' a22 ?h0 ?_); (case h0 => first | exact rfl | row_cond hs)) | ((with_reducible refine' x_rt ?h0 ?_); (case h0 => exact rfl)) | ((with_reducible refine' a1c ?h0 ?h1 ?_); (case h0 => exact rfl); (case h1 => row_cond le); dsimp only [List.set_cons_zero, List.set_cons_succ]) | ((with_reducible refine' aq7 ?h0 ?h1 ?_); (case h0 => exact rfl); (case h1 => first | exact ixN0 | exact ixN1 | exact ixN2 | assumption); dsimp only [List.set_cons_zero, List.set_cons_succ, reS]) | (with_reducible first | refine avs ?_) | ((with_reducible refine' x_dT ?h0 ?h1 ?_); (case h0 => exact rfl); (case h1 => row_cond le); dsimp only [List.set_cons_zero, List.set_cons_succ]) | ((with_reducible refine' x_dK ?h0 ?h1 ?_); (case h0 => exact rfl); (case h1 => row_cond le); dsimp only [List.set_cons_zero, List.set_cons_succ]) | ((with_reducible refine' x_dN ?h0 ?_); (case h0 => row_cond hs)) | (with_reducible first | refine x_en ?_) | ((with_reducible refine' ayy ?h0 ?h1 ?_); (case h0 => lia); (case h1 => lia)))
local macro_rules | `(tactic| row_cond st) => `(tactic| first | ((with_reducible refine a24 ?_); row_cond sEvS) | ((with_reducible refine a25 ?_); row_cond sEvG) | ((with_reducible refine a1p ?_); row_cond sEvGs) | ((with_reducible refine g_Ev ?_); row_cond sEv) | ((with_reducible refine a26 ?_); row_cond sEvO) | ((with_reducible refine a27 ?_); row_cond sEvT) | ((with_reducible refine a28 ?_); row_cond sEvA) | ((with_reducible refine a29 ?_); row_cond sEvI) | ((with_reducible refine g_EvOp ?_); row_cond sEvOp) | ((with_reducible refine a3c ?_); row_cond sOp2) | ((with_reducible refine a3d ?_); row_cond sOp1) | ((with_reducible refine a3e ?_); row_cond sOpA) | ((with_reducible refine g_FQ ?_); row_cond sFQ) | ((with_reducible refine ay0 ?_); row_cond sRngA1) | ((with_reducible refine ay1 ?_); row_cond sRngA2) | row_cond sRest)
local macro_rules | `(tactic| row_cond go) => `(tactic| repeat row_cond st)
local macro_rules | `(tactic| row_cond hnx) => `(tactic| first | assumption | (apply Ne.symm; assumption) | exact aai (by assumption) (by assumption) | exact (aai (by assumption) (by assumption)).symm)
local macro_rules | `(tactic| row_cond hhp) => `(tactic| first | assumption | exact aag | (rw [aad (by row_cond hnx)]; row_cond hhp) | ((refine' Same.at ?ss ?hh); (case ss => assumption); (case hh => row_cond hhp)))
local macro_rules | `(tactic| row_cond hix) => `(tactic| first | assumption | exact at0 | exact at1 | exact at2)
local macro_rules | `(tactic| row_cond hst) => `(tactic| first | (with_reducible first | refine a0a ?_ | refine a0b ?_ | refine ag0 ?_ | refine a2m ?_ | refine go_c ?_ | refine a2p ?_ | refine go_U ?_ | refine asu ?_ | refine axo ?_ | refine a2n ?_ | refine a0d ?_ | refine a0e ?_ | refine a0c ?_ | refine axl ?_ | refine axm ?_ | refine a2o ?_ | refine afm ?_ | refine aes ?_ | refine axp ?_ | refine ao1 ?_ | refine ao2 ?_ | refine ao3 ?_ | refine axn ?_ | refine axz ?_ | refine a0i ?_ | refine a0k ?_ | refine a2q ?_ | refine aux ?_ | refine aic ?_ | refine aco ?_ | refine adk ?_) | ((with_reducible refine' amd ?hv ?_); (case hv => exact rfl)) | ((with_reducible refine' afx ?ha ?hv ?_); (case ha => row_cond hhp); (case hv => row_cond hix)) | ((with_reducible refine go_I ?hc ?_); (case hc => row_cond ar)) | ((with_reducible refine' ao0 ?ha ?_); (case ha => row_cond hhp)) | ((with_reducible refine' aoz ?ha ?hj ?_); (case ha => row_cond hhp); (case hj => first | exact ixN0 | exact ixN1 | exact ixN2)) | ((with_reducible refine' a0m ?ha ?_); (case ha => row_cond hhp)) | ((with_reducible refine' ae4 ?ha ?hl ?_); (case ha => row_cond hhp); (case hl => exact ad6 (by simp; lia))) | ((with_reducible refine' ajc ?hc ?_); (case hc => row_cond dc)) | ((with_reducible refine' ajd ?hc ?_); (case hc => row_cond dc)) | dsimp only [List.set_cons_zero, List.set_cons_succ])
local macro_rules | `(tactic| row_cond hgo) => `(tactic| repeat row_cond hst)
def isInt:PyData->Bool
 | .int _=>true
 | _=>false
def btwD (a b:Int):PyData->Bool
 | .int i=>decide (a<=i/\i<=b)
 | _=>false
def azh:VP:=fun ss Q=>∃ d,ss=[.st d]/\Q (.st (.bool (isInt d)))
def aub:VP:=fun ss Q=>∃ (a b:Int) (d:PyData),ss=[.st (.int a),.st (.int b),.st d]/\Q (.st (.bool (btwD a b d)))
def azi:VP:=fun ss Q=>∃ (n:Int) (d:PyData),ss=[.st (.int n),.st d]/\Q (.st (.bool (btwD 0 (n - 1) d)))
section
variable {P:Program} {w:World} {K:Frag} {mg:Str->Option Value} {base:Heap}
theorem sc_is_whole:FnScope ["thing"] ["thing"] (aal s_is_whole):=by row_cond sc
theorem agq (T:Txt K mg):Can P w K mg base "is_whole" 1 ["thing"] (spP K (azh)):=by
 obtain ⟨f,fd,D⟩:=T.d_is_whole
 refine D.can (D.fn.ok sc_is_whole (fun vs H Q E h=>lenP h fun ss a q=>by obtain ⟨d,rfl,k⟩:=q;rfl) (fun cdv A outer s H vs Q E g h=>?_))
 have nd:=sc_is_whole.nd
 refine ⟨_,(aah (aau (ahz (aak ahp (by rfl) T.b_isinstance aee (aaa (pv 0) (aaa (ai6 (v:=.ty "int") rfl T.b_int amf rfl) aab))) (ahy (az0 (aak ahp (by rfl) T.b_isinstance aee (aaa (pv 0) (aaa (ai6 (v:=.ty "bool") rfl T.b_bool axr rfl) aab)))))))),?_⟩
 refine abi h fun ss a q B c=>?_
 obtain ⟨d,rfl,k⟩:=q
 show EvS B _ _ [some (.st d)]
 row_cond go
 cases d with
 | int i => refine aco ?_; row_cond go; exact k
 | bool b => refine aco ?_; row_cond go; exact k
 | _=>refine adk ?_;exact k
theorem sc_is_between:FnScope ["least","most","thing"] ["least","most","thing"] (aal s_is_between):=by row_cond sc
theorem ajx (T:Txt K mg):Can P w K mg base "is_between" 2 ["least","most","thing"] (spP K (aub)):=by
 obtain ⟨f,fd,D⟩:=T.d_is_between
 refine D.can (D.fn.ok sc_is_between (fun vs H Q E h=>lenP h fun ss j q=>by obtain ⟨a,b,d,rfl,k⟩:=q;rfl) (fun cdv A outer s H vs Q E g h=>?_))
 have nd:=sc_is_between.nd
 refine ⟨_,(aah (aau (ahz (aaf (agq T) g (aaa (pv 2) aab)) (ahy (auo ady ady (pv 0) (pv 2) (pv 1)))))),?_⟩
 refine abi h fun ss j q B l=>?_
 obtain ⟨a,b,d,rfl,k⟩:=q
 show EvS B _ _ [some (.st (.int a)),some (.st (.int b)),some (.st d)]
 row_cond go
 refine ⟨d,rfl,?_⟩
 row_cond go
 cases d with
 | int i =>
  refine aco ?_
  row_cond go
  refine adh (fun c=>?_) (fun c=>?_)
  ·row_cond go
   have e:decide (i<=b)=btwD a b (.int i):=by
    show _=decide (a<=i/\i<=b)
    rw [aI0];simp [c]
   rw [e];exact k
  ·have e:false=btwD a b (.int i):=by
    show _=decide (a<=i/\i<=b)
    exact (aD7 (fun z=>c z.1)).symm
   rw [e];exact k
 | _=>exact adk k
theorem sc_is_place:FnScope ["n","thing"] ["n","thing"] (aal s_is_place):=by row_cond sc
theorem an0 (T:Txt K mg):Can P w K mg base "is_place" 3 ["n","thing"] (spP K (azi)):=by
 obtain ⟨f,fd,D⟩:=T.d_is_place
 refine D.can (D.fn.ok sc_is_place (fun vs H Q E h=>lenP h fun ss b q=>by obtain ⟨n,d,rfl,k⟩:=q;rfl) (fun cdv A outer s H vs Q E a h=>?_))
 have nd:=sc_is_place.nd
 refine ⟨_,(aah (aau (aaf (ajx T) a (aaa aae (aaa (aav aeo (pv 0) aae) (aaa (pv 1) aab)))))),?_⟩
 refine abi h fun ss b q B c=>?_
 obtain ⟨n,d,rfl,k⟩:=q
 show EvS B _ _ [some (.st (.int n)),some (.st d)]
 row_cond go
 exact ⟨_,_,_,rfl,k⟩
def a16:VP:=fun ss Q=>∃ (n:Int) (es:List (Int × Int)),ss=[.st (webD n es)]/\0<=n/\n<=100/\InN n es/\es.length<=10000/\∀ tl,TiedL n (Tied es) tl->(∀ us∈tl,us.length<=20000)->Q (.own (OLL (tlD tl)))
theorem sc_tied_places:FnScope ["web","n","ties","tied","a","b"] ["web"] (aal s_tied_places):=by row_cond sc
theorem adp (T:Txt K mg):Can P w K mg base "tied_places" 1 ["web"] (spP K (a16)):=by
 obtain ⟨f,fd,D⟩:=T.d_tied_places
 refine D.can (D.fn.ok sc_tied_places (fun vs H Q E h=>lenP h fun ss G q=>by obtain ⟨n,es,rfl,I,L,m,y,k⟩:=q;rfl) (fun cdv A outer s H vs Q E O h=>?_))
 have nd:=sc_tied_places.nd
 refine ⟨_,(aac (acr (pv 0) (ac9 rfl (aa0 (aaj (i:=1) nd rfl (Or.inl rfl)) (aa0 (aaj (i:=2) nd rfl (Or.inl rfl)) acp))))
  (aac (amc (i:=3) nd rfl (Or.inl rfl) rfl (N:=["place"]) (src:=[none]) (by exact abe rfl rfl rfl rfl rfl rfl) (abk rfl T.b_range (aaa (pv 1) aab)) (fun _ _ _ _=>(aaj (i:=0) (show List.Nodup (["place"]:List Str) by decide +kernel) rfl (Or.inl rfl) (hf:=Or.inr rfl))) (fun _ _ _ _=>abb) (fun _ _ _ _=>(aa8 aab)))
  (aac (abp aK0 rfl (aba (pv 2)) (ac9 rfl (aa0 (aaj (i:=4) nd rfl (Or.inl rfl)) (aa0 (aaj (i:=5) nd rfl (Or.inl rfl)) acp)))
   (aac (abj (acy PySem.F.plainAttrs_list PySem.F.slot_list_append PySem.F.type_list_append abr (aao aaq (pv 3) (pv 4) (fun _ _=>rfl)) (aaa (pv 5) aab)))
    (aah (abj (acy PySem.F.plainAttrs_list PySem.F.slot_list_append PySem.F.type_list_append abr (aao aaq (pv 3) (pv 5) (fun _ _=>rfl)) (aaa (pv 4) aab))))))
  (aah (aau (pv 3)))))),?_⟩
 refine abi h fun ss G q B M=>?_
 obtain ⟨n,es,rfl,I,L,m,y,k⟩:=q
 show EvS B _ _ [some (.st (webD n es)),none,none,none,none,none]
 row_cond go
 rw [ada]
 refine ⟨by lia,?_⟩
 row_cond go
 refine ade (fun i e=>∃ r z tl,e=[some (.st (webD n es)),some (.st (.int n)),some (.st (.list (es.map prD))),some (.own (OLL (tlD tl))),r,z]/\TiedL n (Tied (es.take i)) tl/\∀ c∈tl,c.length<=2 * i)
  ⟨none,none,List.replicate n.toNat [],by simp [tlD],⟨by simp;lia,fun i c hi w=>?_⟩,fun c C=>?_⟩ ?_ ?_
 ·rw [aH9] at hi
  split at hi
  ·cases hi;simp [Tied]
  ·cases hi
 ·have:=List.eq_of_mem_replicate C
  subst this;simp
 ·rintro i ⟨a,b⟩ e x ⟨r,z,tl,rfl,l,j⟩
  have hi:i < es.length:=(aA1.mp x).1
  obtain ⟨a0,a1,b0,b1⟩:=m _ (aA2 x)
  dsimp only at a0 a1 b0 b1
  row_cond go
  obtain ⟨c,d,_⟩:=l.get a0 a1
  have J:=j c (aA2 d)
  refine air (n:=a.toNat) (ds:=c.map .int) rfl rfl rfl (by rw [aA3];exact ais a0 (by rw [l.1];exact a1)) (adt d) (by rw [aA3];lia) ?_
  dsimp only [List.set_cons_zero,List.set_cons_succ]
  have p:=l.put (q:=b) a0 a1 d
  rw [show c.map PyData.int ++ [.int b]=(c ++ [b]).map .int by simp,ag7]
  have g:∀ us∈tl.set a.toNat (c ++ [b]),us.length<=2 * i+1:=fun us o=>by
   rcases List.mem_or_eq_of_mem_set o with h | h
   ·have:=j us h;lia
   ·subst h;simp;lia
  generalize tl.set a.toNat (c ++ [b])=tl2 at p g
  row_cond go
  obtain ⟨c,d,_⟩:=p.get b0 b1
  have J:=g c (aA2 d)
  refine air (n:=b.toNat) (ds:=c.map .int) rfl rfl rfl (by rw [aA3];exact ais b0 (by rw [p.1];exact b1)) (adt d) (by rw [aA3];lia) ?_
  dsimp only [List.set_cons_zero,List.set_cons_succ]
  rw [show c.map PyData.int ++ [.int a]=(c ++ [a]).map .int by simp,ag7]
  refine ⟨_,_,_,rfl,(p.put (q:=a) b0 b1 d).iff fun u v=>(Tied.snoc x u v).symm,fun us o=>?_⟩
  rcases List.mem_or_eq_of_mem_set o with h | h
  ·have:=g us h;lia
  ·subst h;simp;lia
 ·rintro e ⟨r,z,tl,rfl,l,j⟩
  rw [aH0] at l
  row_cond go
  exact k tl l fun us o=>by have:=j us o;lia
end
@[reducible] def tlV (tl:List (List Int)):PyData:=.list ((tlD tl).map .list)
def a3i:VP:=fun ss Q=>∃ (n a:Int) (T:Int->Int->Prop) (tl:List (List Int)),ss=[.st (tlV tl),.st (.int a)]/\n<=100/\TiedL n T tl/\(∀ u v,T u v->0<=v/\v < n)/\0<=a/\a < n/\Q (.own (OL (lab n.toNat (Gr.farO T a))))
section
variable {P:Program} {w:World} {K:Frag} {mg:Str->Option Value} {base:Heap}
theorem sc_far_from:FnScope ["tied","start","far","edge","beyond","place","other"] ["tied","start"] (aal s_far_from):=by row_cond sc
theorem agr (T:Txt K mg):Can P w K mg base "far_from" 1 ["tied","start"] (spP K (a3i)):=by
 obtain ⟨f,fd,D⟩:=T.d_far_from
 refine D.can (D.fn.ok sc_far_from (fun vs H Q E h=>lenP h fun ss Q' q=>by obtain ⟨n,a,T,tl,rfl,n1,S,hT,a0,a1,k⟩:=q;rfl) (fun cdv A outer s H vs Q E hr h=>?_))
 have nd:=sc_far_from.nd
 refine ⟨_,(aac (aan (i:=2) nd rfl (Or.inl rfl) (aav asi (aa8 (aaa alw aab)) (aak acs (by rfl) T.b_len ad7 (aaa (pv 0) aab))))
  (aac (acr aae (aga (pv 2) (pv 1) aeq))
  (aac (aan (i:=3) nd rfl (Or.inl rfl) (aa8 (aaa (pv 1) aab)))
  (aac (alz aK0 (a0r (pv 3))
   (aac (aan (i:=4) nd rfl (Or.inl rfl) (aa8 aab))
    (aac (abp aK0 rfl (aba (pv 3)) (aaj (i:=5) nd rfl (Or.inl rfl))
     (aah (abp aK0 rfl (aba (aao aaq (pv 0) (pv 5) (fun _ _=>rfl))) (aaj (i:=6) nd rfl (Or.inl rfl))
       (aah (abl (aa7 axy (aao aaq (pv 2) (pv 6) (fun _ _=>rfl)) alw (aay _))
         (aac (acr (aav abq (aao aaq (pv 2) (pv 5) (fun _ _=>rfl)) aae) (aga (pv 2) (pv 6) aeq))
          (aah (abj (acy PySem.F.plainAttrs_list PySem.F.slot_list_append PySem.F.type_list_append abr (pv 4) (aaa (pv 6) aab)))))
         aa1)))))
    (aah (aan (i:=3) nd rfl (Or.inl rfl) (pv 4))))))
  (aah (aau (pv 2))))))),?_⟩
 refine abi h fun ss Q' q B hK=>?_
 obtain ⟨n,a,T,tl,rfl,n1,S,hT,a0,a1,k⟩:=q
 show EvS B _ _ [some (.st (tlV tl)),some (.st (.int a)),none,none,none,none,none]
 have hl:tl.length=n.toNat:=by have:=S.1;lia
 row_cond go
 refine apm (by first | lia | (simp;done) | (simp;lia)) (by first | lia | (simp;done) | (simp;lia)) (by first | lia | (simp;done) | (simp;lia)) ?_
 simp only [aA3,hl]
 rw [show ((n.toNat:Nat):Int).toNat=n.toNat by lia,ayt]
 row_cond go
 refine aq7 (j:=a.toNat) rfl (by rw [ac0];exact ais a0 (by lia)) ?_
 dsimp only [List.set_cons_zero,List.set_cons_succ,reS]
 rw [show (PyData.int 0)=.int ((0:Nat):Int) from rfl,apr a0 (by lia)]
 row_cond go
 refine apo 3 rfl acw ?_
 dsimp only [List.set_cons_zero,List.set_cons_succ]
 refine akg (fun m e=>∃ Z I o far edge l,e=[some (.st (tlV tl)),some (.st (.int a)),some (.own (OL (lab n.toNat far))),some (.st (.list (edge.map .int))),Z,I,o]/\Gr.Ring T a l far edge/\(∀ v∈edge,0<=v/\v < n)/\m=2 * cnt far n.toNat+(if edge=[] then 0 else 1))
  ⟨_,none,none,none,_,[a],0,rfl,Gr.Ring.start,fun v L=>by simp at L;subst L;exact ⟨a0,a1⟩,rfl⟩ ?_
 rintro m e ⟨Z,I,o,far,edge,l,rfl,N,hb,rfl⟩
 row_cond go
 rw [aoj]
 cases hedge:edge with
 | nil =>
  subst hedge
  refine adk ?_
  row_cond go
  rw [atc (g:=Gr.farO T a) fun v _ _=>N.fin v]
  exact k
 | cons e0 er =>
  refine aco ?_
  rw [← hedge]
  have X:edge ≠ []:=by rw [hedge];simp
  row_cond go
  refine ade (fun i e=>∃ I o b beyond,e=[some (.st (tlV tl)),some (.st (.int a)),some (.own (OL (lab n.toNat b))),some (.st (.list (edge.map .int))),some (.own (OL (beyond.map .int))),I,o]/\Gr.Mid T l far edge (fun u=>u∈edge.take i) b beyond/\cnt b n.toNat+beyond.length=cnt far n.toNat/\∀ v∈beyond,0<=v/\v < n)
   ⟨I,o,far,[],rfl,Gr.Mid.start.imp fun u J=>by simp at J,rfl,fun v L=>by simp at L⟩ ?_ ?_
  ·rintro i p e hp ⟨I,o,b,beyond,rfl,y,z,c⟩
   have C:=aA2 hp
   obtain ⟨p0,p1⟩:=hb p C
   obtain ⟨ws,W,Y⟩:=S.get p0 p1
   have a3:atI ((tlD tl).map PyData.list) p=some (.list (ws.map .int)):=afr (f:=PyData.list) (adm p0 (adt W))
   row_cond go
   have O:far p=some l:=(N.lab p l).mpr ⟨(N.edg p).mp C,aA6 _⟩
   refine ade (fun j e=>∃ o b beyond,e=[some (.st (tlV tl)),some (.st (.int a)),some (.own (OL (lab n.toNat b))),some (.st (.list (edge.map .int))),some (.own (OL (beyond.map .int))),some (.st (.int p)),o]/\Gr.Mid T l far edge (fun u=>u∈edge.take i) b beyond/\cnt b n.toNat+beyond.length=cnt far n.toNat/\(∀ v∈beyond,0<=v/\v < n)/\∀ x∈ws.take j,b x ≠ none)
    ⟨o,b,beyond,rfl,y,z,c,fun x G=>by simp at G⟩ ?_ ?_
   ·rintro j u e J ⟨o,b,beyond,rfl,y,z,c,r⟩
    have tu:T p u:=(Y u).mp (aA2 J)
    obtain ⟨M,u1⟩:=hT _ _ tu
    have a4:atI (lab n.toNat b) u=some (oD (b u)):=anb M (by lia)
    have a5:atI (lab n.toNat b) p=some (.int (l:Int)):=by
     rw [anb p0 (by lia),y.old p l O];rfl
    row_cond go
    rw [ays]
    cases hf:b u with
    | none =>
     refine aco ?_
     row_cond go
     refine aq7 (j:=u.toNat) rfl (by rw [ac0];exact ais M (by lia)) ?_
     dsimp only [List.set_cons_zero,List.set_cons_succ,reS]
     rw [show (PyData.int ((l:Int)+1))=.int ((l+1:Nat):Int) by simp,apr M (by lia)]
     have a2:=aea (d:=l+1) M hf (n:=n.toNat) (by lia)
     have U:beyond.length<=cnt far n.toNat:=by lia
     have R:∀ m,cnt far m<=m:=fun m=>by
      induction m with
      | zero=>exact aA6 _
      | succ m ih=>unfold cnt;split <;> lia
     have:=R n.toNat
     row_cond go
     refine ⟨some (.st (.int u)),Gr.label b u (l+1),beyond ++ [u],by simp,y.add C tu hf,by simp;lia,fun v L=>?_,fun x G=>?_⟩
     ·rcases aA7.mp L with h | h
      ·exact c v h
      ·have:v=u:=by simpa using h
       subst this;exact ⟨M,u1⟩
     ·by_cases hx2:x=u
      ·subst hx2;rw [Gr.label_same];simp
      ·rw [Gr.label_ne hx2]
       rcases ab1 J G with h | h
       ·exact r x h
       ·exact absurd h hx2
    | some d =>
     refine adk ?_
     row_cond go
     refine ⟨_,b,beyond,rfl,y,z,c,fun x G=>?_⟩
     rcases ab1 J G with h | h
     ·exact r x h
     ·subst h;rw [hf];simp
   ·rintro e ⟨o,b,beyond,rfl,y,z,c,r⟩
    rw [aH0] at r
    refine ⟨_,_,b,beyond,rfl,?_,z,c⟩
    refine (y.did (u:=p) fun x tx=>r x ((Y x).mpr tx)).imp fun x G=>?_
    exact ab1 hp G
  ·rintro e ⟨I,o,b,beyond,rfl,y,z,c⟩
   row_cond go
   refine ⟨_,?_,_,_,_,b,beyond,l+1,rfl,N.next y fun u J=>by rw [aH0];exact J,c,rfl⟩
   rw [aF8 X]
   cases beyond with
   | nil=>rw [aF7 rfl];simp at z;lia
   | cons b0 br=>rw [aF8 (by simp)];simp at z;lia
end
def aoq:VP:=fun ss Q=>∃ (n a:Int) (es:List (Int × Int)),ss=[.st (webD n es),.st (.int a)]/\0<=a/\a < n/\Q (.st .none)
def awa:VP:=fun ss Q=>∃ (n a:Int) (es:List (Int × Int)),ss=[.st (webD n es),.st (.int a)]/\n<=100/\InN n es/\es.length<=10000/\0<=a/\a < n/\Q (.own (OL (lab n.toNat (Gr.farO (Tied es) a))))
def awb:VP:=fun ss Q=>∃ (n a b:Int) (es:List (Int × Int)),ss=[.st (webD n es),.st (.int a),.st (.int b)]/\n<=100/\InN n es/\es.length<=10000/\0<=a/\a < n/\0<=b/\b < n/\Q (.st (oD (Gr.farO (Tied es) a b)))
def awc:VP:=fun ss Q=>∃ (n:Int) (es:List (Int × Int)),ss=[.st (webD n es)]/\1<=n/\n<=100/\InN n es/\es.length<=10000/\∀ b:Bool,(b=true ↔ Joined n es)->Q (.st (.bool b))
section
variable {P:Program} {w:World} {K:Frag} {mg:Str->Option Value} {base:Heap}
theorem sc_need_place:FnScope ["web","thing"] ["web","thing"] (aal s_need_place):=by row_cond sc
theorem adx (T:Txt K mg):Can P w K mg base "need_place" 4 ["web","thing"] (spP K (aoq)):=by
 obtain ⟨f,fd,D⟩:=T.d_need_place
 refine D.can (D.fn.ok sc_need_place (fun vs H Q E h=>lenP h fun ss c q=>by obtain ⟨n,a,es,rfl,a0,a1,k⟩:=q;rfl) (fun cdv A outer s H vs Q E b h=>?_))
 have nd:=sc_need_place.nd
 refine ⟨_,(aah (abl (acn (ac1 (aaf (an0 T) b (aaa (aao aaq (pv 0) aae (fun _ _=>rfl)) (aaa (pv 1) aab)))))
   (aah aly)
   aa1)),?_⟩
 refine abi h fun ss c q B d=>?_
 obtain ⟨n,a,es,rfl,a0,a1,k⟩:=q
 show EvS B _ _ [some (.st (webD n es)),some (.st (.int a))]
 row_cond go
 refine ⟨_,_,rfl,?_⟩
 row_cond go
 have e:btwD 0 (n - 1) (.int a)=true:=aD8 ⟨a0,by lia⟩
 rw [e]
 row_cond go
 exact k
theorem sc_all_far:FnScope ["web","a"] ["web","a"] (aal s_all_far):=by row_cond sc
theorem aff (T:Txt K mg):Can P w K mg base "all_far" 5 ["web","a"] (spP K (awa)):=by
 obtain ⟨f,fd,D⟩:=T.d_all_far
 refine D.can (D.fn.ok sc_all_far (fun vs H Q E h=>lenP h fun ss i q=>by obtain ⟨n,a,es,rfl,g,b,c,a0,a1,k⟩:=q;rfl) (fun cdv A outer s H vs Q E d h=>?_))
 have nd:=sc_all_far.nd
 refine ⟨_,(aac (abj (aaf (adx T) d (aaa (pv 0) (aaa (pv 1) aab))))
  (aah (aau (aaf (agr T) d (aaa (aaf (adp T) d (aaa (pv 0) aab)) (aaa (pv 1) aab)))))),?_⟩
 refine abi h fun ss i q B l=>?_
 obtain ⟨n,a,es,rfl,g,b,c,a0,a1,k⟩:=q
 show EvS B _ _ [some (.st (webD n es)),some (.st (.int a))]
 row_cond go
 refine ⟨n,a,es,rfl,a0,a1,?_⟩
 row_cond go
 refine ⟨n,es,rfl,by lia,g,b,c,fun tl j _=>?_⟩
 refine a1m ?_
 row_cond go
 exact ⟨n,a,Tied es,tl,rfl,g,j,fun u v h=>(h.in b).2,a0,a1,k⟩
theorem sc_how_far:FnScope ["web","a","b"] ["web","a","b"] (aal s_how_far):=by row_cond sc
theorem aor (T:Txt K mg):Can P w K mg base "how_far" 6 ["web","a","b"] (spP K (awb)):=by
 obtain ⟨f,fd,D⟩:=T.d_how_far
 refine D.can (D.fn.ok sc_how_far (fun vs H Q E h=>lenP h fun ss l q=>by obtain ⟨n,a,b,es,rfl,i,c,d,a0,a1,b0,b1,k⟩:=q;rfl) (fun cdv A outer s H vs Q E g h=>?_))
 have nd:=sc_how_far.nd
 refine ⟨_,(aac (abj (aaf (adx T) g (aaa (pv 0) (aaa (pv 1) aab))))
  (aac (abj (aaf (adx T) g (aaa (pv 0) (aaa (pv 2) aab))))
  (aah (aau (aao aaq (aaf (aff T) g (aaa (pv 0) (aaa (pv 1) aab))) (pv 2) (fun _ _=>rfl)))))),?_⟩
 refine abi h fun ss l q B m=>?_
 obtain ⟨n,a,b,es,rfl,i,c,d,a0,a1,b0,b1,k⟩:=q
 show EvS B _ _ [some (.st (webD n es)),some (.st (.int a)),some (.st (.int b))]
 row_cond go
 refine ⟨n,a,es,rfl,a0,a1,?_⟩
 row_cond go
 refine ⟨n,b,es,rfl,b0,b1,?_⟩
 row_cond go
 refine ⟨n,a,es,rfl,i,c,d,a0,a1,?_⟩
 have j:atI (lab n.toNat (Gr.farO (Tied es) a)) b=some (oD (Gr.farO (Tied es) a b)):=anb b0 (by lia)
 row_cond go
 exact k
theorem sc_is_joined:FnScope ["web"] ["web"] (aal s_is_joined):=by row_cond sc
theorem ale (T:Txt K mg):Can P w K mg base "is_joined" 6 ["web"] (spP K (awc)):=by
 obtain ⟨f,fd,D⟩:=T.d_is_joined
 refine D.can (D.fn.ok sc_is_joined (fun vs H Q E h=>lenP h fun ss i q=>by obtain ⟨n,es,rfl,j,g,a,b,k⟩:=q;rfl) (fun cdv A outer s H vs Q E c h=>?_))
 have nd:=sc_is_joined.nd
 refine ⟨_,(aah (aau (abz (as4 c.units) alw (aaf (aff T) c (aaa (pv 0) (aaa aae aab))) rfl))),?_⟩
 refine abi h fun ss i q B m=>?_
 obtain ⟨n,es,rfl,j,g,a,b,k⟩:=q
 show EvS B _ _ [some (.st (webD n es))]
 row_cond go
 refine ⟨n,0,es,rfl,g,a,b,by lia,by lia,?_⟩
 row_cond go
 refine apl rfl atd (by simp [PyData.depth]) ?_
 row_cond go
 refine k _ ?_
 rw [aF7 rfl,Bool.not_eq_true',← Bool.not_eq_true,ayu]
 constructor
 ·intro h v v0 l
  cases e:Gr.farO (Tied es) 0 v with
  | some d=>exact ⟨d,Gr.farO_some.mp e⟩
  | none=>exact absurd ⟨v,v0,by lia,e⟩ h
 ·rintro h ⟨v,v0,l,e⟩
  obtain ⟨d,hd⟩:=h v v0 (by lia)
  exact Gr.farO_none.mp e d hd
end
def dsF (es:List (Int × Int)) (u v:Int):Int:=(((Gr.farO (Tied es) u v).getD 0:Nat):Int)
def rowD (n:Nat) (r:Int->Int):List PyData:=(List.range n).map fun (i:Nat) => .int (r (i:Int))
def matD (n:Nat) (m:Int->Int->Int):List PyData:=(List.range n).map fun (u:Nat) => .list (rowD n (m (u:Int)))
theorem ai2 {n:Nat} {r:Int->Int} {x:Int} (a:0<=x) (b:x < n):atI (rowD n r) x=some (.int (r x)):=by
 have:=adr (xs:=rowD n r) (j:=x.toNat) (v:=.int (r x)) (by
  unfold rowD
  rw [aA5,aA0 (by simp;lia)]
  simp [Int.max_eq_left a])
 rwa [show ((x.toNat:Nat):Int)=x by lia] at this
theorem ags {n:Nat} {m:Int->Int->Int} {x:Int} (a:0<=x) (b:x < n):atI (matD n m) x=some (.list (rowD n (m x))):=by
 have:=adr (xs:=matD n m) (j:=x.toNat) (v:=.list (rowD n (m x))) (by
  unfold matD
  rw [aA5,aA0 (by simp;lia)]
  simp [Int.max_eq_left a])
 rwa [show ((x.toNat:Nat):Int)=x by lia] at this
theorem aqd {n:Nat} {m:Int->Int->Int}:(matD n m).length=n:=by simp [matD]
theorem aex {n:Nat} {r:Int->Int}:rowD n r=((List.range n).map fun (i:Nat)=>r (i:Int)).map .int:=by simp [rowD]
theorem af4 {n:Int} {es:List (Int × Int)} (a:Joined n es) {u v:Int} (b:0<=u) (f:u < n) (v0:0<=v) (g:v < n):∃ d,Gr.farO (Tied es) u v=some d:=by
 cases e:Gr.farO (Tied es) u v with
 | some d=>exact ⟨d,rfl⟩
 | none =>
  obtain ⟨k,c⟩:=a.conn u v b f v0 g
  obtain ⟨d,_,hd⟩:=Gr.Dist.of_walk c
  exact absurd hd (Gr.farO_none.mp e d)
theorem aqe {n:Int} {es:List (Int × Int)} (a:Joined n es) {u:Int} (b:0<=u) (c:u < n):lab n.toNat (Gr.farO (Tied es) u)=rowD n.toNat (dsF es u):=by
 unfold lab rowD
 refine aF1 fun i hi=>?_
 obtain ⟨d,e⟩:=af4 a b c (show 0<=(i:Int) by lia) (by have:=aB9.mp hi;lia)
 simp only [dsF,e,oD,Option.getD_some]
theorem acx {α:Type} {K:Frag} {src:List (Option Nat)} {a:En} {te:TE} {R:List PyData->En->Prop} {xs:List α} {f : α->PyData} (g : α->PyData) (j:noIo (aas src a)=true) (z:xs.length<=999999)
  (h:∀ x∈xs,∀ c:Bs,c.K=K->Ev c te (some (.st (f x)) :: aas src a) fun y m=>y=g x/\m=some (.st (f x)) :: aas src a)
  (q:R (xs.map g) a):LcV K (none :: src) (aa4 0) tYes te (xs.map f) a R:=by
 have b:noIo (aas (none :: src) a)=true:=by
  show ((none :: aas src a).all fun s => !isIo s)=true
  rw [List.all_cons]
  exact (aH3 _ _).mpr ⟨rfl,j⟩
 refine ⟨fun i ys e=>ys=(xs.take i).map g/\∃ o,e=stO o :: aas src a,⟨by simp,none,rfl⟩,?_,?_,?_⟩
 ·rintro i ys e ⟨_,o,rfl⟩
  exact ⟨⟨isIo_stO.symm,ae8⟩,ae9 afc⟩
 ·rintro i d ys e hd ⟨rfl,o,rfl⟩ c n
  rw [aA5] at hd
  cases hx:xs[i]? with
  | none=>rw [hx] at hd;cases hd
  | some x =>
   rw [hx] at hd
   cases hd
   have hi:i < xs.length:=(aA1.mp hx).1
   have u:xs.take (i+1)=xs.take i ++ [x]:=by rw [aH6,hx];rfl
   refine aa9 (afo ?_)
   rw [aF7 rfl]
   intro σ G H F Q I k
   refine h x (aA2 hx) c n σ G H F Q I fun v G' H' F' d' m r g' w ⟨p,l⟩=>k v G' H' F' d' m r g' w ?_
   subst p l
   refine ⟨by simp;lia,by rw [u];simp,some _,rfl⟩
 ·rintro ys e ⟨rfl,o,rfl⟩
  rw [ajp b]
  simpa using q
theorem ahv {ns:List Int} {x y:Int} (h:adb ns x) (g:adb ns y):x=y:=Int.le_antisymm (g.2 x h.1) (h.2 y g.1)
theorem ajy:∀ {ns:List Int},ns ≠ []->∃ x,adb ns x
 | [a],_=>⟨a,by simp [adb]⟩
 | a :: b :: r,_=>by
  obtain ⟨x,d,hm⟩:=ajy (ns:=b :: r) (by simp)
  by_cases h:a<=x
  ·exact ⟨x,aB5 _ d,fun y c=>by
    rcases aA9.mp c with rfl | c
    ·exact h
    ·exact hm y c⟩
  ·exact ⟨a,aB8,fun y c=>by
    rcases aA9.mp c with rfl | c
    ·exact Int.le_refl _
    ·have:=hm y c;lia⟩
theorem ajz {n:Nat} (b:1<=n) (m:Int->Int->Int):∃ a:Nat->Int,∀ u:Nat,adb ((List.range n).map fun (i:Nat)=>m (u:Int) (i:Int)) (a u) :=
 ⟨fun u=>Classical.choose (ajy (ns:=(List.range n).map fun (i:Nat)=>m (u:Int) (i:Int)) (by simp;lia)),fun u=>Classical.choose_spec (ajy (ns:=(List.range n).map fun (i:Nat)=>m (u:Int) (i:Int)) (by simp;lia))⟩
def an1:VP:=fun ss Q=>∃ (n:Int) (es:List (Int × Int)),ss=[.st (webD n es)]/\1<=n/\n<=100/\InN n es/\es.length<=10000/\Joined n es/\Q (.st .none)
def akt:VP:=fun ss Q=>∃ (n:Int) (es:List (Int × Int)),ss=[.st (webD n es)]/\1<=n/\n<=100/\InN n es/\es.length<=10000/\Joined n es/\Q (.own (OL (matD n.toNat (dsF es))))
def alt (n:Nat) (m:Int->Int->Int) (x:Int):Prop:=(∃ u v:Int,0<=u/\u < n/\0<=v/\v < n/\m u v=x)/\∀ u v:Int,0<=u->u < n->0<=v->v < n->m u v<=x
def auc:VP:=fun ss Q=>∃ (n:Nat) (m:Int->Int->Int),ss=[.st (.list (matD n m))]/\1<=n/\n<=1000/\∀ x,alt n m x->Q (.st (.int x))
structure FreeAll (n:Int) (es fs:List (Int × Int)):Prop where
 mem:∀ p:Int × Int,p∈fs ↔ (0<=p.1/\p.1 < p.2/\p.2 < n/\p ∉ es)
 rise:Rise fs
section
variable {P:Program} {w:World} {K:Frag} {mg:Str->Option Value} {base:Heap}
theorem sc_need_joined:FnScope ["web"] ["web"] (aal s_need_joined):=by row_cond sc
theorem afa (T:Txt K mg):Can P w K mg base "need_joined" 7 ["web"] (spP K (an1)):=by
 obtain ⟨f,fd,D⟩:=T.d_need_joined
 refine D.can (D.fn.ok sc_need_joined (fun vs H Q E h=>lenP h fun ss l q=>by obtain ⟨n,es,rfl,d,i,a,c,g,k⟩:=q;rfl) (fun cdv A outer s H vs Q E j h=>?_))
 have nd:=sc_need_joined.nd
 refine ⟨_,(aah (abl (acn (ac1 (aaf (ale T) j (aaa (pv 0) aab))))
   (aah aly)
   aa1)),?_⟩
 refine abi h fun ss l q B m=>?_
 obtain ⟨n,es,rfl,d,i,a,c,g,k⟩:=q
 show EvS B _ _ [some (.st (webD n es))]
 row_cond go
 refine ⟨n,es,rfl,d,i,a,c,fun b hb=>?_⟩
 have:b=true:=hb.mpr g
 subst this
 row_cond go
 exact k
theorem sc_far_rows:FnScope ["web","tied"] ["web"] (aal s_far_rows):=by row_cond sc
theorem aey (T:Txt K mg):Can P w K mg base "far_rows" 8 ["web"] (spP K (akt)):=by
 obtain ⟨f,fd,D⟩:=T.d_far_rows
 refine D.can (D.fn.ok sc_far_rows (fun vs H Q E h=>lenP h fun ss p q=>by obtain ⟨n,es,rfl,m,c,a,b,l,k⟩:=q;rfl) (fun cdv A outer s H vs Q E d h=>?_))
 have nd:=sc_far_rows.nd
 refine ⟨_,(aac (abj (aaf (afa T) d (aaa (pv 0) aab)))
  (aac (aan (i:=1) nd rfl (Or.inr rfl) (aaf (adp T) d (aaa (pv 0) aab)))
  (aah (aau (acz rfl (N:=["place","tied"]) (src:=[none,some 1]) (by exact abe rfl rfl rfl rfl rfl rfl) (abk rfl T.b_range (aaa (aak acs (by rfl) T.b_len ad7 (aaa (pv 1) aab)) aab)) (fun _ _ _ _=>(aaj (i:=0) (show List.Nodup (["place","tied"]:List Str) by decide +kernel) rfl (Or.inl rfl) (hf:=Or.inr rfl))) (fun _ _ _ _=>abb) (fun _ _ _ _=>(aaf (agr T) d (aaa (pv 1) (aaa (pv 0) aab))))))))),?_⟩
 refine abi h fun ss p q B y=>?_
 obtain ⟨n,es,rfl,m,c,a,b,l,k⟩:=q
 show EvS B _ _ [some (.st (webD n es)),none]
 row_cond go
 refine ⟨n,es,rfl,m,c,a,b,l,?_⟩
 row_cond go
 refine ⟨n,es,rfl,by lia,c,a,b,fun tl o _=>?_⟩
 refine ab2 ag6 ?_
 have r:tl.length=n.toNat:=by have:=o.1;lia
 have g:((tlD tl).map PyData.list).length=n.toNat:=by simp [tlD,r]
 row_cond go
 rw [g,show (((n.toNat:Nat):Int)).toNat=n.toNat by lia]
 unfold rngD
 refine acx (fun u:Nat => .list (rowD n.toNat (dsF es (u:Int)))) rfl (by simp;lia) (fun u x C z=>?_) ?_
 ·have j:(u:Int) < n:=by have:=aB9.mp x;lia
  row_cond go
  refine ⟨n,0+(u:Int),Tied es,tl,rfl,c,o,fun u v h=>(h.in a).2,by lia,by lia,acf ⟨?_,rfl⟩⟩
  rw [Int.zero_add,aqe l (by lia) j]
 ·row_cond go
  exact k
theorem sc_most_far:FnScope ["rows"] ["rows"] (aal s_most_far):=by row_cond sc
theorem an2 (T:Txt K mg):Can P w K mg base "most_far" 1 ["rows"] (spP K (auc)):=by
 obtain ⟨f,fd,D⟩:=T.d_most_far
 refine D.can (D.fn.ok sc_most_far (fun vs H Q E h=>lenP h fun ss l q=>by obtain ⟨n,m,rfl,d,r,k⟩:=q;rfl) (fun cdv A outer s H vs Q E z h=>?_))
 have nd:=sc_most_far.nd
 refine ⟨_,(aah (aau (aak (adf rfl) (by rfl) T.b_max ach (aaa (acz rfl (N:=["row"]) (src:=[none]) (by exact abe rfl rfl rfl rfl rfl rfl) (aba (pv 0)) (fun _ _ _ _=>(aaj (i:=0) (show List.Nodup (["row"]:List Str) by decide +kernel) rfl (Or.inl rfl) (hf:=Or.inr rfl))) (fun _ _ _ _=>abb) (fun _ _ _ _=>(aak (show aa3 _ (.builtin "max") (ae5 K) from (adf rfl)) (by rfl) T.b_max ach (aaa (pv 0) aab)))) aab)))),?_⟩
 refine abi h fun ss l q B y=>?_
 obtain ⟨n,m,rfl,d,r,k⟩:=q
 show EvS B _ _ [some (.st (.list (matD n m)))]
 obtain ⟨c,a⟩:=ajz d m
 row_cond go
 unfold matD
 refine acx (fun u:Nat => .int (c u)) rfl (by simp;lia) (fun u M G C=>?_) ?_
 ·row_cond go
  rw [aex]
  exact aeu (by simp;lia) fun x b=>⟨by rw [ahv b (a u)],rfl⟩
 ·row_cond go
  rw [show (List.range n).map (fun u:Nat=>PyData.int (c u))=((List.range n).map c).map .int by rw [aE0];rfl]
  refine aeu (by simp;lia) fun x b=>?_
  row_cond go
  refine k x ⟨?_,fun u v F L v0 J=>?_⟩
  ·obtain ⟨i,hi,e⟩:=aB7.mp b.1
   obtain ⟨j,p,o⟩:=aB7.mp (a i).1
   exact ⟨i,j,by lia,by have:=aB9.mp hi;lia,by lia,by have:=aB9.mp p;lia,o.trans e⟩
  ·have g:=(a u.toNat).2 (m ((u.toNat:Nat):Int) ((v.toNat:Nat):Int)) (aB7.mpr ⟨v.toNat,aB9.mpr (by lia),rfl⟩)
   have I:=b.2 (c u.toNat) (aB7.mpr ⟨u.toNat,aB9.mpr (by lia),rfl⟩)
   rw [show ((u.toNat:Nat):Int)=u by lia,show ((v.toNat:Nat):Int)=v by lia] at g
   lia
end
structure FarOk (n:Int) (es:List (Int × Int)) (x a b:Int):Prop where
 top:alt n.toNat (dsF es) x
 a0:0<=a
 a1:a < n
 b0:0<=b
 b1:b < n
 eq:dsF es a b=x
 fst:∀ u v:Int,0<=u->u < n->0<=v->v < n->dsF es u v=x->a < u\/(a=u/\b<=v)
def arw:VP:=fun ss Q=>∃ (n:Int) (es:List (Int × Int)),ss=[.st (webD n es)]/\1<=n/\n<=100/\InN n es/\es.length<=10000/\Joined n es/\∀ x a b,FarOk n es x a b->Q (.st (.tuple [.int x,.int a,.int b]))
theorem an3 {ns:List Int} {k:Int} (h:k∈ns):∃ j:Nat,ns[j]?=some k/\∀ m:Nat,m < j->ns[m]? ≠ some k:=by
 induction ns with
 | nil=>simp at h
 | cons n ns ih =>
  by_cases e:n=k
  ·exact ⟨0,by rw [e];rfl,fun m hm=>by lia⟩
  ·obtain ⟨j,b,a⟩:=ih ((aA9.mp h).resolve_left fun z=>e z.symm)
   refine ⟨j+1,b,fun m hm=>?_⟩
   cases m with
   | zero=>simpa using e
   | succ m=>exact a m (by lia)
section
variable {P:Program} {w:World} {K:Frag} {mg:Str->Option Value} {base:Heap}
theorem sc_farthest_two:FnScope ["web","rows","far","a"] ["web"] (aal s_farthest_two):=by row_cond sc
theorem abw (T:Txt K mg):Can P w K mg base "farthest_two" 9 ["web"] (spP K (arw)):=by
 obtain ⟨f,fd,D⟩:=T.d_farthest_two
 refine D.can (D.fn.ok sc_farthest_two (fun vs H Q E h=>lenP h fun ss Q' q=>by obtain ⟨n,es,rfl,W,n1,d,o,Y,k⟩:=q;rfl) (fun cdv A outer s H vs Q E U h=>?_))
 have nd:=sc_farthest_two.nd
 refine ⟨_,(aac (aan (i:=1) nd rfl (Or.inl rfl) (aaf (aey T) U (aaa (pv 0) aab)))
  (aac (aan (i:=2) nd rfl (Or.inl rfl) (aaf (an2 T) U (aaa (pv 1) aab)))
  (aac (aan (i:=3) nd rfl (Or.inl rfl) (acy PySem.F.plainAttrs_list PySem.F.slot_list_index PySem.F.type_list_index anh (acz rfl (N:=["row"]) (src:=[none]) (by exact abe rfl rfl rfl rfl rfl rfl) (aba (pv 1)) (fun _ _ _ _=>(aaj (i:=0) (show List.Nodup (["row"]:List Str) by decide +kernel) rfl (Or.inl rfl) (hf:=Or.inr rfl))) (fun _ _ _ _=>abb) (fun _ _ _ _=>(aak (show aa3 _ (.builtin "max") (ae5 K) from (adf rfl)) (by rfl) T.b_max ach (aaa (pv 0) aab)))) (aaa (pv 2) aab)))
  (aah (aau (abd (aaa (pv 2) (aaa (pv 3) (aaa (acy PySem.F.plainAttrs_list PySem.F.slot_list_index PySem.F.type_list_index anh (aao aaq (pv 1) (pv 3) (fun _ _=>rfl)) (aaa (pv 2) aab)) aab))))))))),?_⟩
 refine abi h fun ss Q' q B hK=>?_
 obtain ⟨n,es,rfl,W,n1,d,o,Y,k⟩:=q
 show EvS B _ _ [some (.st (webD n es)),none,none,none]
 have hn:1<=n.toNat:=by lia
 obtain ⟨r,c⟩:=ajz hn (dsF es)
 row_cond go
 refine ⟨n,es,rfl,W,n1,d,o,Y,ab2 acw ?_⟩
 row_cond go
 refine ⟨n.toNat,dsF es,rfl,hn,by lia,fun x l=>?_⟩
 have M:x∈(List.range n.toNat).map r:=by
  obtain ⟨⟨u,v,G,X,v0,v1,e⟩,g⟩:=l
  refine aB7.mpr ⟨u.toNat,aB9.mpr (by lia),?_⟩
  have C:=(c u.toNat).2 (dsF es ((u.toNat:Nat):Int) ((v.toNat:Nat):Int)) (aB7.mpr ⟨v.toNat,aB9.mpr (by lia),rfl⟩)
  rw [show ((u.toNat:Nat):Int)=u by lia,show ((v.toNat:Nat):Int)=v by lia,e] at C
  obtain ⟨j,O,I⟩:=aB7.mp (c u.toNat).1
  have:=g u j G X (by lia) (by have:=aB9.mp O;lia)
  rw [show ((u.toNat:Nat):Int)=u by lia] at I
  lia
 obtain ⟨a,ha,m⟩:=an3 M
 have S:a < n.toNat:=by have:=(aA1.mp ha).1;simpa using this
 have z:r a=x:=by
  rw [aA5,aD9 S] at ha
  simpa using ha
 have L:x∈(List.range n.toNat).map fun (i:Nat)=>dsF es (a:Int) (i:Int):=by rw [← z];exact (c a).1
 obtain ⟨b,hb,p⟩:=an3 L
 have R:b < n.toNat:=by have:=(aA1.mp hb).1;simpa using this
 have y:dsF es (a:Int) (b:Int)=x:=by
  rw [aA5,aD9 R] at hb
  simpa using hb
 have Z:atI (matD n.toNat (dsF es)) (a:Int)=some (.list (rowD n.toNat (dsF es (a:Int)))):=ags (by lia) (by lia)
 row_cond go
 unfold matD
 refine acx (fun u:Nat => .int (r u)) rfl (by simp;lia) (fun u hu B' hB=>?_) ?_
 ·row_cond go
  rw [aex]
  exact aeu (by simp;lia) fun x l=>⟨by rw [ahv l (c u)],rfl⟩
 ·refine ⟨(List.range n.toNat).map r,by rw [aE0];rfl,?_⟩
  row_cond go
  refine ⟨x,a,rfl,ha,m,?_⟩
  row_cond go
  refine ⟨(List.range n.toNat).map fun (i:Nat)=>dsF es (a:Int) (i:Int),by rw [aex],?_⟩
  row_cond go
  refine ⟨x,b,rfl,hb,p,?_⟩
  row_cond go
  refine k x a b ⟨l,by lia,by lia,by lia,by lia,y,fun u v G X v0 v1 e=>?_⟩
  have hu:(a:Int)<=u:=by
   apply aD5
   intro J
   refine m u.toNat (by lia) ?_
   rw [aA5,aD9 (by lia)]
   have C:=(c u.toNat).2 (dsF es ((u.toNat:Nat):Int) ((v.toNat:Nat):Int)) (aB7.mpr ⟨v.toNat,aB9.mpr (by lia),rfl⟩)
   rw [show ((u.toNat:Nat):Int)=u by lia,show ((v.toNat:Nat):Int)=v by lia,e] at C
   obtain ⟨j,O,I⟩:=aB7.mp (c u.toNat).1
   have:=l.2 u j G (by lia) (by lia) (by have:=aB9.mp O;lia)
   rw [show ((u.toNat:Nat):Int)=u by lia] at I
   simp only [aI4,Option.some.injEq]
   lia
  by_cases hau:(a:Int) < u
  ·exact .inl hau
  ·refine .inr ⟨by lia,?_⟩
   apply aD5
   intro J
   refine p v.toNat (by lia) ?_
   rw [aA5,aD9 (by lia)]
   simp only [aI4,Option.some.injEq]
   rw [show ((v.toNat:Nat):Int)=v by lia,show (a:Int)=u by lia]
   exact e
end
structure MidOk (n:Int) (es:List (Int × Int)) (x:Int) (ps:List Int):Prop where
 lo:∀ u:Int,0<=u->u < n->∃ v:Int,0<=v/\v < n/\x<=dsF es u v
 rise:ps.Pairwise (· < ·)
 ne:ps ≠ []
 mem:∀ u:Int,u∈ps ↔ (0<=u/\u < n/\∀ v:Int,0<=v->v < n->dsF es u v<=x)
def a3j:VP:=fun ss Q=>∃ (n:Int) (es:List (Int × Int)),ss=[.st (webD n es)]/\1<=n/\n<=100/\InN n es/\es.length<=10000/\Joined n es/\∀ x ps,MidOk n es x ps->Q (.own (OW (.int x) (ps.map .int)))
theorem agt:∀ {ps qs:List Int},ps.Pairwise (· < ·)->qs.Pairwise (· < ·)->(∀ u,u∈ps ↔ u∈qs)->ps=qs
 | [],[],_,_,_=>rfl
 | [],q :: qs,_,_,h=>by have:=(h q).mpr aB8;cases this
 | p :: ps,[],_,_,h=>by have:=(h p).mp aB8;cases this
 | p :: ps,q :: qs,hp,hq,h=>by
  rw [aI8] at hp hq
  have e:p=q:=by
   rcases aA9.mp ((h p).mp aB8) with e | e
   ·exact e
   ·have c:=hq.1 p e
    rcases aA9.mp ((h q).mpr aB8) with b | b
    ·exact b.symm
    ·have:=hp.1 q b;lia
  subst e
  rw [agt hp.2 hq.2 fun u=>?_]
  constructor
  ·intro a
   have c:=hp.1 u a
   rcases aA9.mp ((h u).mp (aB5 _ a)) with e | e
   ·lia
   ·exact e
  ·intro a
   have c:=hq.1 u a
   rcases aA9.mp ((h u).mpr (aB5 _ a)) with e | e
   ·lia
   ·exact e
theorem awd (n:Nat) (a:Nat->Int):enD (List.map PyData.int (List.map a (List.range n)))=(List.range n).map fun (i:Nat) => .tuple [.int (i:Int),.int (a i)]:=by
 refine aG4 fun i=>?_
 by_cases hi:i < n
 ·have c:i < (enD (List.map PyData.int (List.map a (List.range n)))).length:=by rw [aej];simpa using hi
  obtain ⟨x,b,e⟩:=apt (aA0 c)
  rw [aA0 c,e,aA5,aD9 hi]
  rw [aA5,aA5,aD9 hi] at b
  cases b
  rfl
 ·rw [aE3 (by rw [aej];simp;lia),aE3 (by simp;lia)]
theorem a17 {n:Int} {es:List (Int × Int)} {d:Nat->Int} {x:Int} (r:1<=n) (c:∀ u:Nat,adb ((List.range n.toNat).map fun (i:Nat)=>dsF es (u:Int) (i:Int)) (d u)) (m:aig ((List.range n.toNat).map d) x) :
  MidOk n es x (((List.range n.toNat).filter fun i=>decide (d i=x)).map fun (i:Nat)=>(i:Int)):=by
 refine ⟨fun u o q=>?_,?_,fun e=>?_,fun u=>?_⟩
 ·have g:=m.2 (d u.toNat) (aB7.mpr ⟨u.toNat,aB9.mpr (by lia),rfl⟩)
  obtain ⟨j,f,e⟩:=aB7.mp (c u.toNat).1
  rw [show ((u.toNat:Nat):Int)=u by lia] at e
  exact ⟨j,by lia,by have:=aB9.mp f;lia,by lia⟩
 ·rw [aG3]
  exact (List.pairwise_lt_range.filter _).imp fun {a b} h=>by lia
 ·obtain ⟨j,f,p⟩:=aB7.mp m.1
  have:(j:Int)∈((List.range n.toNat).filter fun i=>decide (d i=x)).map fun (i:Nat)=>(i:Int):=aB7.mpr ⟨j,aE2.mpr ⟨f,by simpa using p⟩,rfl⟩
  rw [e] at this
  cases this
 ·rw [aB7]
  constructor
  ·rintro ⟨i,hi,rfl⟩
   obtain ⟨g,l⟩:=aE2.mp hi
   have g:=aB9.mp g
   have l:d i=x:=by simpa using l
   refine ⟨by lia,by lia,fun v v0 s=>?_⟩
   have:=(c i).2 (dsF es (i:Int) ((v.toNat:Nat):Int)) (aB7.mpr ⟨v.toNat,aB9.mpr (by lia),rfl⟩)
   rw [show ((v.toNat:Nat):Int)=v by lia,l] at this
   exact this
  ·rintro ⟨o,q,h⟩
   refine ⟨u.toNat,aE2.mpr ⟨aB9.mpr (by lia),?_⟩,by lia⟩
   have g:=m.2 (d u.toNat) (aB7.mpr ⟨u.toNat,aB9.mpr (by lia),rfl⟩)
   obtain ⟨j,f,e⟩:=aB7.mp (c u.toNat).1
   rw [show ((u.toNat:Nat):Int)=u by lia] at e
   have:=h j (by lia) (by have:=aB9.mp f;lia)
   simp
   lia
section
variable {P:Program} {w:World} {K:Frag} {mg:Str->Option Value} {base:Heap}
theorem sc_middles:FnScope ["web","wides","wide"] ["web"] (aal s_middles):=by row_cond sc
theorem ad1 (T:Txt K mg):Can P w K mg base "middles" 9 ["web"] (spP K (a3j)):=by
 obtain ⟨f,fd,D⟩:=T.d_middles
 refine D.can (D.fn.ok sc_middles (fun vs H Q E h=>lenP h fun ss r q=>by obtain ⟨n,es,rfl,g,m,b,c,l,k⟩:=q;rfl) (fun cdv A outer s H vs Q E o h=>?_))
 have nd:=sc_middles.nd
 refine ⟨_,(aac (amc (i:=1) nd rfl (Or.inl rfl) rfl (N:=["row"]) (src:=[none]) (by exact abe rfl rfl rfl rfl rfl rfl) (aba (aaf (aey T) o (aaa (pv 0) aab))) (fun _ _ _ _=>(aaj (i:=0) (show List.Nodup (["row"]:List Str) by decide +kernel) rfl (Or.inl rfl) (hf:=Or.inr rfl))) (fun _ _ _ _=>abb) (fun _ _ _ _=>(aak (show aa3 _ (.builtin "max") (ae5 K) from (adf rfl)) (by rfl) T.b_max ach (aaa (pv 0) aab))))
  (aac (aan (i:=2) nd rfl (Or.inr rfl) (aak (ake rfl) (by rfl) T.b_min adi (aaa (pv 1) aab)))
  (aah (aau (abd (aaa (pv 2) (aaa (acz rfl (N:=["place","sees","wide"]) (src:=[none,none,some 2]) (by exact abe rfl rfl rfl rfl rfl rfl) (ayw rfl T.b_enumerate (aaa (pv 1) aab)) (fun _ _ _ _=>(show PG _ _ (gTup K 2 (ae0 (aa4 0) (ae0 (aa4 1) gNil))) from (ac9 rfl (aa0 (aaj (i:=0) (show List.Nodup (["place","sees","wide"]:List Str) by decide +kernel) rfl (Or.inl rfl) (hf:=Or.inr rfl)) (aa0 (aaj (i:=1) (show List.Nodup (["place","sees","wide"]:List Str) by decide +kernel) rfl (Or.inl rfl) (hf:=Or.inr rfl)) acp))))) (fun _ _ _ _=>axj (aa7 aeh (pv 1) (pv 2) (aay _))) (fun _ _ _ _=>(pv 0))) aab))))))),?_⟩
 refine abi h fun ss r q B y=>?_
 obtain ⟨n,es,rfl,g,m,b,c,l,k⟩:=q
 show EvS B _ _ [some (.st (webD n es)),none,none]
 have hn:1<=n.toNat:=by lia
 obtain ⟨a,d⟩:=ajz hn (dsF es)
 row_cond go
 refine ⟨n,es,rfl,g,m,b,c,l,acf ?_⟩
 row_cond go
 unfold matD
 refine acx (fun u:Nat => .int (a u)) rfl (by simp;lia) (fun u z v p=>?_) ?_
 ·row_cond go
  rw [aex]
  exact aeu (by simp;lia) fun x j=>⟨by rw [ahv j (d u)],rfl⟩
 ·rw [show (List.range n.toNat).map (fun u:Nat=>PyData.int (a u))=((List.range n.toNat).map a).map .int by rw [aE0];rfl]
  refine ab2 acw ?_
  row_cond go
  refine avn (by simp;lia) fun x j=>?_
  repeat (first | (refine av4 ?_) | row_cond st)
  rw [awd]
  refine am9 (xs:=List.range n.toNat) (fa:=fun i:Nat => .int (i:Int)) (fb:=fun i:Nat => .int (a i)) (fun i:Nat => .int (i:Int)) (fun i=>decide (a i=x)) rfl (by simp;lia) (fun i hi v p=>?_) ?_
  ·row_cond go
   intro _
   row_cond go
   exact rfl
  ·refine ⟨_,rfl,?_⟩
   rw [show ((List.range n.toNat).filter fun i=>decide (a i=x)).map (fun i:Nat=>PyData.int (i:Int))=(((List.range n.toNat).filter fun i=>decide (a i=x)).map fun (i:Nat)=>(i:Int)).map .int by rw [aE0];rfl]
   exact k x _ (a17 g d j)
end
def ad2 (n:Int):PyData->Bool
 | .list ds=>decide ((ds.length:Int)=n)
 | _=>false
def alu:PyData->Bool
 | .list ds=>ds.all isInt
 | _=>false
def abt (n:Int):PyData->Bool
 | .list ds=>decide ((ds.length:Int)=n) && ds.all (ad2 n) && ds.all alu
 | _=>false
def adq:PyData->List PyData
 | .list ds=>ds
 | _=>[]
def a18:VP:=fun ss Q=>∃ (n:Int) (d:PyData),ss=[.st (.int n),.st d]/\Q (.st (.bool (ad2 n d)))
def awe:VP:=fun ss Q=>∃ (n:Int) (d:PyData),ss=[.st (.int n),.st d]/\n<=100/\Q (.st (.bool (abt n d)))
def afs (T:Int->Int->Prop) (d:Int) (m:Int->Int->Int) (a b:Int):Prop:=(a=b->m a b=0)/\(a ≠ b->1<=m a b/\m a b<=d/\∃ p,T a p/\m p b=m a b - 1)
def azj:VP:=fun ss Q=>∃ (n:Nat) (T:Int->Int->Prop) (tl:List (List Int)) (d:Int) (m:Int->Int->Int) (a b:Int),ss=[.st (tlV tl),.st (.int d),.st (.list (matD n m)),.st (.int a),.st (.int b)]/\n<=100/\TiedL n T tl/\(∀ u v,T u v->0<=v/\v < n)/\(∀ ws∈tl,ws.length<=20000)/\0<=a/\a < n/\0<=b/\b < n/\∀ bb:Bool,(bb=true ↔ afs T d m a b)->Q (.st (.bool bb))
def aqf (n:Int) (es:List (Int × Int)) (d:Int) (m:Int->Int->Int):Prop:=0<=d/\∀ a b:Int,0<=a->a < n->0<=b->b < n->afs (Tied es) d m a b
def azk:VP:=fun ss Q=>∃ (n d:Int) (es:List (Int × Int)) (p:PyData),ss=[.st (webD n es),.st (.int d),.st p]/\1<=n/\n<=100/\InN n es/\es.length<=10000/\Joined n es/\(abt n p=false->Q (.st (.bool false)))/\∀ m,p=.list (matD n.toNat m)->∀ bb:Bool,(bb=true ↔ aqf n es d m)->Q (.st (.bool bb))
def a3k:PyData->Int
 | .int i=>i
 | _=>0
theorem aku {n:Int} {p:PyData} (h:abt n p=true):∃ m,p=.list (matD n.toNat m):=by
 cases p with
 | list ds =>
  simp only [abt,aH3,decide_eq_true_eq,aF6] at h
  obtain ⟨⟨w,q⟩,s⟩:=h
  refine ⟨fun a b=>a3k ((adq (ds.getD a.toNat .none)).getD b.toNat .none),congrArg PyData.list ?_⟩
  refine List.ext_getElem (by rw [aqd];lia) fun i hi v=>?_
  have f:=q ds[i] (aF4 hi)
  have c:=s ds[i] (aF4 hi)
  have o:ds.getD i .none=ds[i]:=by rw [aD4,aA0 hi];rfl
  generalize ds[i]=r at f c o
  cases r with
  | list xs =>
   have y:(xs.length:Int)=n:=of_decide_eq_true f
   simp only [matD,List.getElem_map,List.getElem_range]
   refine congrArg PyData.list (List.ext_getElem (by simp [rowD];lia) fun j l u=>?_)
   have d:=aF6.mp c xs[j] (aF4 l)
   have g:xs.getD j .none=xs[j]:=by rw [aD4,aA0 l];rfl
   simp only [rowD,List.getElem_map,List.getElem_range,Int.toNat_natCast,o,adq,g]
   generalize xs[j]=x at d
   cases x with
   | int i=>rfl
   | _=>cases d
  | _=>cases f
 | _=>cases h
theorem azl {n:Nat} (r:Int->Int):alu (.list (rowD n r))=true:=by
 unfold alu rowD
 simp only [List.all_map,aF6]
 intro x _;rfl
theorem arx {n:Int} (h:0<=n) (m:Int->Int->Int):abt n (.list (matD n.toNat m))=true:=by
 unfold abt
 simp only [aqd,aH3,decide_eq_true_eq,aF6]
 refine ⟨⟨by lia,fun r a=>?_⟩,fun r a=>?_⟩
 ·unfold matD at a
  obtain ⟨u,_,rfl⟩:=aB7.mp a
  exact aD8 (by simp only [rowD,aA3,aE1];lia)
 ·unfold matD at a
  obtain ⟨u,_,rfl⟩:=aB7.mp a
  exact azl _
theorem akv {n:Int} {d:PyData} (h:ad2 n d=true):∃ ds,d=.list ds/\(ds.length:Int)=n:=by
 cases d with
 | list ds=>exact ⟨ds,rfl,of_decide_eq_true h⟩
 | _=>cases h
theorem aqg {α:Type} {k:Nat} {f:PyData->List α}:∀ (l:List PyData),(∀ u∈l,(f u).length<=k)->(l.flatMap f).length<=l.length * k
 | [],_=>by simp
 | u :: l,h=>by
  have c:=h u aB8
  have b:=aqg l fun v a=>h v (aB5 _ a)
  rw [List.flatMap_cons,aB1,aE6,Nat.add_mul]
  lia
theorem an4 {n:Nat} {c:Int->Int->Bool}:((List.range n).flatMap fun (u:Nat)=>((List.range n).filter fun _=>true).map fun (v:Nat)=>PyData.bool (c (u:Int) (v:Int)))=((List.range n).flatMap fun (u:Nat)=>(List.range n).map fun (v:Nat)=>c (u:Int) (v:Int)).map .bool:=by
 rw [List.map_flatMap]
 congr 1
 funext u
 rw [aE0,List.filter_eq_self.mpr fun _ _=>rfl]
 rfl
section
variable {P:Program} {w:World} {K:Frag} {mg:Str->Option Value} {base:Heap}
theorem sc_is_long:FnScope ["n","thing"] ["n","thing"] (aal s_is_long):=by row_cond sc
theorem ahl (T:Txt K mg):Can P w K mg base "is_long" 1 ["n","thing"] (spP K (a18)):=by
 obtain ⟨f,fd,D⟩:=T.d_is_long
 refine D.can (D.fn.ok sc_is_long (fun vs H Q E h=>lenP h fun ss a q=>by obtain ⟨n,d,rfl,k⟩:=q;rfl) (fun cdv A outer s H vs Q E c h=>?_))
 have nd:=sc_is_long.nd
 refine ⟨_,(aah (aau (ahz (aak ahp (by rfl) T.b_isinstance aee (aaa (pv 1) (aaa (ai6 (v:=.ty "list") rfl T.b_list ao6 rfl) aab))) (ahy (abz aeh (aak acs (by rfl) T.b_len ad7 (aaa (pv 1) aab)) (pv 0) (aay _)))))),?_⟩
 refine abi h fun ss a q B b=>?_
 obtain ⟨n,d,rfl,k⟩:=q
 show EvS B _ _ [some (.st (.int n)),some (.st d)]
 row_cond go
 cases d with
 | list ds =>
  refine aco ?_
  row_cond go
  exact k
 | _ =>
  refine adk ?_
  exact k
theorem sc_is_square:FnScope ["n","paper"] ["n","paper"] (aal s_is_square):=by row_cond sc
theorem alf (T:Txt K mg):Can P w K mg base "is_square" 2 ["n","paper"] (spP K (awe)):=by
 obtain ⟨f,fd,D⟩:=T.d_is_square
 refine D.can (D.fn.ok sc_is_square (fun vs H Q E h=>lenP h fun ss u q=>by obtain ⟨n,d,rfl,C,k⟩:=q;rfl) (fun cdv A outer s H vs Q E b h=>?_))
 have nd:=sc_is_square.nd
 refine ⟨_,(aac (abl (PW.pt (aez (acn (ac1 (aaf (ahl T) b (aaa (pv 0) (aaa (pv 1) aab))))) (afg (acn (ac1 (aak (agl rfl) (by rfl) T.b_all ame (aaa (acz rfl (N:=["row","n"]) (src:=[none,some 0]) (by exact abe rfl rfl rfl rfl rfl rfl) (aba (pv 1)) (fun _ _ _ _=>(aaj (i:=0) (show List.Nodup (["row","n"]:List Str) by decide +kernel) rfl (Or.inl rfl) (hf:=Or.inr rfl))) (fun _ _ _ _=>abb) (fun _ _ _ _=>(aaf (ahl T) b (aaa (pv 1) (aaa (pv 0) aab))))) aab)))))))
   (aah (aau ace))
   aa1)
  (aah (aau (aak (agl rfl) (by rfl) T.b_all ame (aaa (asr rfl (N:=["row","number"]) (src:=[none,none]) (by exact abe rfl rfl rfl rfl rfl rfl) (aba (pv 1)) (fun _ _ _ _=>(aaj (i:=0) (show List.Nodup (["row","number"]:List Str) by decide +kernel) rfl (Or.inl rfl) (hf:=Or.inr rfl))) (fun _ _ _ _=>abb) (fun _ _ _ _=>(show PI _ _ _ (aqp K _) from aba (pv 0))) (fun _ _ _ _=>(aaj (i:=1) (show List.Nodup (["row","number"]:List Str) by decide +kernel) rfl (Or.inl rfl) (hf:=Or.inr rfl))) (fun _ _ _ _=>abb) (fun _ _ _ _=>(aaf (agq T) b (aaa (pv 1) aab)))) aab))))),?_⟩
 refine abi h fun ss u q B F=>?_
 obtain ⟨n,d,rfl,C,k⟩:=q
 show EvS B _ _ [some (.st (.int n)),some (.st d)]
 row_cond go
 refine ⟨_,_,rfl,?_⟩
 cases e:ad2 n d with
 | false =>
  row_cond go
  rw [show abt n d=false by
   cases d with
   | list ds=>simp only [abt,show decide ((ds.length:Int)=n)=false from e,Bool.false_and]
   | _=>rfl] at k
  exact k
 | true =>
  obtain ⟨ds,rfl,v⟩:=akv e
  row_cond go
  refine ayc (fun r => .bool (ad2 n r)) rfl (by lia) (fun r _ g m=>?_) ?_
  ·row_cond go
   exact ⟨n,r,rfl,rfl,rfl⟩
  ·row_cond go
   rw [show (ds.map fun r=>PyData.bool (ad2 n r))=(ds.map (ad2 n)).map .bool by rw [aE0];rfl]
   refine ajr ?_
   rw [show (ds.map (ad2 n)).all id=ds.all (ad2 n) by simp [List.all_map]]
   row_cond go
   cases e2:ds.all (ad2 n) with
   | false =>
    row_cond go
    rw [show abt n (.list ds)=false by simp only [abt,e2,Bool.and_false,Bool.false_and]] at k
    exact k
   | true =>
    have b:∀ r∈ds,∃ xs,r=.list xs/\(xs.length:Int)=n:=fun r b=>akv (aF6.mp e2 r b)
    row_cond go
    have l:(ds.flatMap fun r=>((adq r).filter fun _=>true).map fun x=>PyData.bool (isInt x)).length<=999999:=by
     have:=aqg (k:=100) (f:=fun r=>((adq r).filter fun _=>true).map fun x=>PyData.bool (isInt x)) ds fun r a=>by
      obtain ⟨xs,rfl,c⟩:=b r a
      rw [aA3]
      refine aD0 (List.length_filter_le _ _) ?_
      show xs.length<=100
      lia
     have G:ds.length * 100<=100 * 100:=Nat.mul_le_mul_right _ (by lia)
     lia
    have j:ds.map id=ds:=List.map_id ds
    rw [← j]
    refine anf (xs:=ds) (fx:=id) adq id (fun _ x => .bool (isInt x)) (fun _ _=>true) (akp rfl) l ?_ ?_ ?_
    ·intro r a g m o
     obtain ⟨xs,rfl,c⟩:=b r a
     show EvI g _ (some (.st (.list xs)) :: _) _
     row_cond go
     exact ⟨(List.map_id xs).symm,rfl⟩
    ·intro r a x c g m
     show EvT g _ (some (.st r) :: some (.st x) :: _) _
     row_cond go
     intro _
     row_cond go
     exact ⟨x,rfl,rfl,rfl⟩
    ·rw [show (ds.flatMap fun r=>((adq r).filter fun _=>true).map fun x=>PyData.bool (isInt x))=(ds.flatMap fun r=>(adq r).map isInt).map .bool by
      rw [List.map_flatMap]
      congr 1
      funext r
      rw [aE0,List.filter_eq_self.mpr fun _ _=>rfl]
      rfl]
     row_cond go
     refine ajr ?_
     rw [show (ds.flatMap fun r=>(adq r).map isInt).all id=abt n (.list ds) by
      have p:(ds.flatMap fun r=>(adq r).map isInt).all id=ds.all alu:=by
       rw [aI0]
       simp only [aF6,List.mem_flatMap,aB7,id]
       constructor
       ·intro z r a
        obtain ⟨xs,rfl,_⟩:=b r a
        exact aF6.mpr fun x c=>z _ ⟨_,a,x,c,rfl⟩
       ·rintro z y ⟨r,a,x,c,rfl⟩
        obtain ⟨xs,rfl,_⟩:=b r a
        exact aF6.mp (z _ a) x c
      rw [p]
      simp only [abt,e2,show decide ((ds.length:Int)=n)=true from aD8 v,Bool.and_self,Bool.true_and]]
     row_cond go
     exact k
theorem sc_number_holds:FnScope ["tied","d","paper","a","b","number"] ["tied","d","paper","a","b"] (aal s_number_holds):=by row_cond sc
theorem ahw (T:Txt K mg):Can P w K mg base "number_holds" 1 ["tied","d","paper","a","b"] (spP K (azj)):=by
 obtain ⟨f,fd,D⟩:=T.d_number_holds
 refine D.can (D.fn.ok sc_number_holds (fun vs H Q E h=>lenP h fun ss G q=>by obtain ⟨n,T',tl,d,m,a,b,rfl,J,y,c,x,a0,a1,b0,b1,k⟩:=q;rfl) (fun cdv A outer s H vs Q E O h=>?_))
 have nd:=sc_number_holds.nd
 refine ⟨_,(aac (aan (i:=5) nd rfl (Or.inr rfl) (aao aaq (aao aaq (pv 2) (pv 3) (fun _ _=>rfl)) (pv 4) (fun _ _=>rfl)))
  (aac (abl (aa7 aeh (pv 3) (pv 4) (aay _))
   (aah (aau (abz aeh (pv 5) aae (aay _))))
   aa1)
  (aac (abl (acn (ahm ady ady aae (pv 5) (pv 1)))
   (aah (aau ace))
   aa1)
  (aah (aau (aak (ath rfl) (by rfl) T.b_any a0n (aaa (acz rfl (N:=["place","b","number","paper"]) (src:=[none,some 4,some 5,some 2]) (by exact abe rfl rfl rfl rfl rfl rfl) (aba (aao aaq (pv 0) (pv 3) (fun _ _=>rfl))) (fun _ _ _ _=>(aaj (i:=0) (show List.Nodup (["place","b","number","paper"]:List Str) by decide +kernel) rfl (Or.inl rfl) (hf:=Or.inr rfl))) (fun _ _ _ _=>abb) (fun _ _ _ _=>(abz aeh (aao (show IxR _ (ab6 K) from aaq) (aao (show IxR _ (ab6 K) from aaq) (pv 3) (pv 0) (fun _ _=>rfl)) (pv 1) (fun _ _=>rfl)) (aav aeo (pv 2) aae) (aay _)))) aab))))))),?_⟩
 refine abi h fun ss G q B M=>?_
 obtain ⟨n,T',tl,d,m,a,b,rfl,J,y,c,x,a0,a1,b0,b1,k⟩:=q
 show EvS B _ _ [some (.st (tlV tl)),some (.st (.int d)),some (.st (.list (matD n m))),some (.st (.int a)),some (.st (.int b)),none]
 have ha:=ags (n:=n) (m:=m) a0 a1
 have hb:=ai2 (n:=n) (r:=m a) b0 b1
 row_cond go
 refine adh (fun h=>?_) (fun h=>?_)
 ·row_cond go
  refine k _ ?_
  rw [decide_eq_true_iff]
  exact ⟨fun e=>⟨fun _=>e,fun z=>absurd h z⟩,fun z=>z.1 h⟩
 ·row_cond go
  obtain ⟨g,l,u⟩:=y.get (v:=a) a0 (by lia)
  have C:atI ((tlD tl).map PyData.list) a=some (.list (g.map .int)):=afr (f:=PyData.list) (adm a0 (adt l))
  have I:=x g (aA2 l)
  by_cases q1:1<=m a b
  ·by_cases q2:m a b<=d
   ·row_cond go
    refine acx (xs:=g) (f:=PyData.int) (fun p => .bool (decide (m p b=m a b - 1))) rfl (by lia) (fun p o S R=>?_) ?_
    ·have j:=c _ _ ((u p).mp o)
     have F:=ags (n:=n) (m:=m) j.1 j.2
     have L:=ai2 (n:=n) (r:=m p) b0 b1
     row_cond go
     exact rfl
    ·row_cond go
     rw [show (g.map fun p=>PyData.bool (decide (m p b=m a b - 1)))=(g.map fun p=>decide (m p b=m a b - 1)).map .bool by rw [aE0];rfl]
     refine ayx ?_
     row_cond go
     refine k _ ?_
     simp only [List.any_map,aF5,Function.comp,id,decide_eq_true_eq]
     constructor
     ·rintro ⟨p,o,e⟩
      exact ⟨fun z=>absurd z h,fun _=>⟨q1,q2,p,(u p).mp o,e⟩⟩
     ·rintro ⟨_,z⟩
      obtain ⟨_,_,p,o,e⟩:=z h
      exact ⟨p,(u p).mpr o,e⟩
   ·row_cond go
    refine k _ ⟨fun z=>(by cases z),fun z=>absurd (z.2 h).2.1 q2⟩
  ·row_cond go
   refine k _ ⟨fun z=>(by cases z),fun z=>absurd (z.2 h).1 q1⟩
theorem sc_far_shows:FnScope ["web","d","paper","n","tied"] ["web","d","paper"] (aal s_far_shows):=by row_cond sc
theorem af8 (T:Txt K mg):Can P w K mg base "far_shows" 8 ["web","d","paper"] (spP K (azk)):=by
 obtain ⟨f,fd,D⟩:=T.d_far_shows
 refine D.can (D.fn.ok sc_far_shows (fun vs H Q E h=>lenP h fun ss R q=>by obtain ⟨n,d,es,p,rfl,S,G,g,j,U,k1,I⟩:=q;rfl) (fun cdv A outer s H vs Q E C h=>?_))
 have nd:=sc_far_shows.nd
 refine ⟨_,(aac (abj (aaf (afa T) C (aaa (pv 0) aab)))
  (aac (aan (i:=3) nd rfl (Or.inr rfl) (aao aaq (pv 0) aae (fun _ _=>rfl)))
  (aac (abl (PW.pt (aez (aa7 aqr (pv 1) aae (aay _)) (afg (acn (ac1 (aaf (alf T) C (aaa (pv 3) (aaa (pv 2) aab))))))))
   (aah (aau ace))
   aa1)
  (aac (aan (i:=4) nd rfl (Or.inr rfl) (aaf (adp T) C (aaa (pv 0) aab)))
  (aah (aau (aak (agl rfl) (by rfl) T.b_all ame (aaa (asr rfl (N:=["a","b","tied","d","paper","n"]) (src:=[none,none,some 4,some 1,some 2,some 3]) (by exact abe rfl rfl rfl rfl rfl rfl) (abk rfl T.b_range (aaa (pv 3) aab)) (fun _ _ _ _=>(aaj (i:=0) (show List.Nodup (["a","b","tied","d","paper","n"]:List Str) by decide +kernel) rfl (Or.inl rfl) (hf:=Or.inr rfl))) (fun _ _ _ _=>abb) (fun _ _ _ _=>(abk rfl T.b_range (aaa (pv 5) aab))) (fun _ _ _ _=>(aaj (i:=1) (show List.Nodup (["a","b","tied","d","paper","n"]:List Str) by decide +kernel) rfl (Or.inl rfl) (hf:=Or.inr rfl))) (fun _ _ _ _=>abb) (fun _ _ _ _=>(aaf (ahw T) C (aaa (pv 2) (aaa (pv 3) (aaa (pv 4) (aaa (pv 0) (aaa (pv 1) aab)))))))) aab)))))))),?_⟩
 refine abi h fun ss R q B hK=>?_
 obtain ⟨n,d,es,p,rfl,S,G,g,j,U,k1,I⟩:=q
 show EvS B _ _ [some (.st (webD n es)),some (.st (.int d)),some (.st p),none,none]
 row_cond go
 refine ⟨n,es,rfl,S,G,g,j,U,?_⟩
 row_cond go
 have r:d < 0->R (.st (.bool false)):=fun hd=>by
  cases e:abt n p with
  | false=>exact k1 e
  | true =>
   obtain ⟨m,rfl⟩:=aku e
   exact I m rfl _ ⟨fun z=>(by cases z),fun z=>absurd z.1 (by lia)⟩
 by_cases hd:d < 0
 ·row_cond go
  exact r hd
 ·row_cond go
  refine ⟨n,_,rfl,G,?_⟩
  cases esq:abt n p with
  | false =>
   row_cond go
   exact k1 esq
  | true =>
  obtain ⟨m,rfl⟩:=aku esq
  have k:=I m rfl
  row_cond go
  refine ⟨n,es,rfl,by lia,G,g,j,fun tl ht Z=>ab2 ag6 ?_⟩
  row_cond go
  have l:∃ c:Int->Int->Bool,∀ a b,c a b=true ↔ afs (Tied es) d m a b:=⟨fun a b=>@decide (afs (Tied es) d m a b) (Classical.propDecidable _),fun a b=>@decide_eq_true_iff _ (Classical.propDecidable _)⟩
  obtain ⟨c,l⟩:=l
  have O:∀ {a b:Int} {F:Bool},(F=true ↔ afs (Tied es) d m a b)->F=c a b:=fun {a b F} h=>by rw [aI0,h,l]
  unfold rngD
  refine anf (xs:=List.range n.toNat) (fun _=>List.range n.toNat) (fun v:Nat => .int (0+(v:Int))) (fun u v => .bool (c (u:Int) (v:Int))) (fun _ _=>true) (akp rfl) ?_ ?_ ?_ ?_
  ·rw [an4,aA3,List.length_flatMap]
   have X:(List.range n.toNat).map (fun u:Nat=>((List.range n.toNat).map fun v:Nat=>c (u:Int) (v:Int)).length)=(List.range n.toNat).map fun _=>n.toNat:=aF1 fun u _=>by simp
   rw [X,List.map_const',List.sum_replicate_nat,aE1]
   have h2:n.toNat * n.toNat<=100 * 100:=Nat.mul_le_mul (by lia) (by lia)
   lia
  ·intro u x Y W o
   row_cond go
   exact rfl
  ·intro u x v J Y W
   have M:(u:Int) < n:=by have:=aB9.mp x;lia
   have L:(v:Int) < n:=by have:=aB9.mp J;lia
   row_cond go
   intro _
   row_cond go
   refine ⟨n.toNat,Tied es,tl,d,m,0+(u:Int),0+(v:Int),rfl,by lia,by rw [show ((n.toNat:Nat):Int)=n by lia];exact ht,fun u v h=>by have:=(h.in g).2;lia,Z,by lia,by lia,by lia,by lia,fun F hb=>⟨?_,rfl⟩⟩
   rw [Int.zero_add,Int.zero_add] at hb
   rw [O hb]
  ·rw [an4]
   row_cond go
   refine ajr ?_
   row_cond go
   refine k _ ?_
   simp only [aF6,List.mem_flatMap,aB7,aB9,id]
   constructor
   ·intro z
    refine ⟨by lia,fun a b a0 a1 b0 b1=>(l a b).mp (z _ ⟨a.toNat,by lia,b.toNat,by lia,?_⟩)⟩
    rw [show ((a.toNat:Nat):Int)=a by lia,show ((b.toNat:Nat):Int)=b by lia]
   ·rintro z y ⟨u,M,v,L,rfl⟩
    exact (l _ _).mpr (z.2 _ _ (by lia) (by lia) (by lia) (by lia))
end
section
variable {P:Program} {w:World} {K:Frag} {mg:Str->Option Value} {base:Heap}
theorem sc_far_paper:FnScope ["web"] ["web"] (aal s_far_paper):=by row_cond sc
theorem alg (T:Txt K mg):Can P w K mg base "far_paper" 9 ["web"] (spP K (akt)):=by
 obtain ⟨f,fd,D⟩:=T.d_far_paper
 refine D.can (D.fn.ok sc_far_paper (fun vs H Q E h=>lenP h fun ss j q=>by obtain ⟨n,es,rfl,c,g,a,b,d,k⟩:=q;rfl) (fun cdv A outer s H vs Q E i h=>?_))
 have nd:=sc_far_paper.nd
 refine ⟨_,(aah (aau (aaf (aey T) i (aaa (pv 0) aab)))),?_⟩
 refine abi h fun ss j q B l=>?_
 obtain ⟨n,es,rfl,c,g,a,b,d,k⟩:=q
 show EvS B _ _ [some (.st (webD n es))]
 row_cond go
 exact ⟨n,es,rfl,c,g,a,b,d,k⟩
end
structure Dk (H:Hp) (d p:Addr) (i:Int) (qs:List Addr):Prop where
 dd:H d=some (.lst [.ref p,.int i])
 pp:H p=some (.lst (qs.map V.ref))
 ne:qs ≠ []
 le:qs.length<=63
 dp:d ≠ p
 dq:d ∉ qs
 pq:p ∉ qs
 ql:∀ q∈qs,∃ c f k:Int,H q=some (.lst [.int c,.int f,.int k])
def aqh:Sp:=fun vs H Q _=>∃ (d p:Addr) (i many:Int) (qs:List Addr),vs=[.ref d,.int many]/\Dk H d p i qs/\0 < many/\many < 1073741824 /\
 ∀ (r:Int) (H':Hp) (i':Int),0<=r->r < many->Dk H' d p i' qs->(∀ a,a ≠ d->a ∉ qs->H' a=H a)->Q (.int r) H'
theorem Dk.pick {H:Hp} {d p:Addr} {i:Int} {qs:List Addr} (h:Dk H d p i qs) (j:Int):∃ q,q∈qs/\atI (qs.map V.ref) (j % ((qs.map V.ref).length:Int))=some (.ref q):=by
 have c:0 < qs.length:=aG1.mpr h.ne
 have b:=aE7 j (show ((qs.map V.ref).length:Int) ≠ 0 by rw [aA3];lia)
 have a:=aE8 j (show (0:Int) < ((qs.map V.ref).length:Int) by rw [aA3];lia)
 generalize j % ((qs.map V.ref).length:Int)=m at b a
 have hm:m.toNat < qs.length:=by rw [aA3] at a;lia
 exact ⟨qs[m.toNat],aF4 _,adm b (by rw [aA5,aA0 hm];rfl)⟩
theorem Dk.put {H:Hp} {d p q:Addr} {i a:Int} {qs:List Addr} (h:Dk H d p i qs) (b:q∈qs) (c f k:Int):Dk (upd (upd H d (.lst [.ref p,.int a])) q (.lst [.int c,.int f,.int k])) d p a qs:=by
 have g:d ≠ q:=fun e=>h.dq (e ▸ b)
 have j:p ≠ q:=fun e=>h.pq (e ▸ b)
 refine ⟨by rw [aad g,aag],by rw [aad j,aad h.dp.symm];exact h.pp,h.ne,h.le,h.dp,h.dq,h.pq,fun z hz=>?_⟩
 by_cases e:z=q
 ·subst e;exact ⟨c,f,k,aag⟩
 ·rw [aad e,aad (show z ≠ d from fun e=>h.dq (e ▸ hz))];exact h.ql z hz
def ODk:Own where
 P:=fun _ H v F=>∃ d p i qs,v=.ref d/\Dk H d p i qs/\∀ b,F b ↔ b=d\/b=p\/b∈qs
 mono:=fun ⟨d,p,i,qs,e,h,f⟩ _ hh=>⟨d,p,i,qs,e,⟨hh d _ ((f d).mpr (.inl rfl)) h.dd,hh p _ ((f p).mpr (.inr (.inl rfl))) h.pp,h.ne,h.le,h.dp,h.dq,h.pq,fun q hq=>by
  obtain ⟨c,g,k,e⟩:=h.ql q hq
  exact ⟨c,g,k,hh q _ ((f q).mpr (.inr (.inr hq))) e⟩⟩,f⟩
 dom:=fun ⟨d,p,i,qs,e,h,f⟩ b z=>by
  rcases (f b).mp z with rfl | rfl | z
  ·exact ⟨_,h.dd⟩
  ·exact ⟨_,h.pp⟩
  ·obtain ⟨c,g,k,e⟩:=h.ql b z
   exact ⟨_,e⟩
theorem azm {P:Program} {w:World} {K:Frag} {mg:Str->Option Value} {base:Heap} {x:Str} {k:Nat} {ps:List Str} {sp a:Sp} (c:Can P w K mg base x k ps sp) (h:∀ vs H Q E,a vs H Q E->sp vs H Q E):Can P w K mg base x k ps a:=by
 obtain ⟨f,fd,ok,m,kp,b⟩:=c
 exact ⟨f,fd,ok.imp h,m,kp,b⟩
def aud:VIo:=fun A ss Q=>∃ many:Int,A=ODk/\ss=[.st (.int many)]/\0 < many/\many < 1073741824/\∀ r:Int,0<=r->r < many->Q ODk (.st (.int r))
theorem azn {K:Frag} {vs:List V} {H:Hp} {Q:VK} {E:XK} (h:spI K aud vs H Q E):aqh vs H Q E:=by
 obtain ⟨v0,B,G,R,A,ss,F0,C,rfl,gh,ft,l,ap,fg,fr,m,⟨many,rfl,rfl,q,u,k⟩,v⟩:=h
 obtain ⟨d,p,i,qs,rfl,n,j⟩:=ap
 cases m with
 | cons ha hr =>
  cases hr
  cases (show Rp G _ (.int many) from ha)
  refine ⟨d,p,i,many,qs,rfl,n,q,u,fun r H' s w y b x=>v ODk _ (k r w y) _ G H' F0 (fun _=>False) ?_⟩
  have out:∀ a,¬ F0 a->H' a=H a:=fun a z=>x a (fun e=>z ((j a).mpr (.inl e))) (fun e=>z ((j a).mpr (.inr (.inr e))))
  have g:∀ a,F0 a->(∃ o,H' a=some o)/\∀ xs,H' a ≠ some (.tup xs):=fun a z=>by
   rcases (j a).mp z with rfl | rfl | z
   ·rw [b.dd];exact ⟨⟨_,rfl⟩,fun xs e=>by cases e⟩
   ·rw [b.pp];exact ⟨⟨_,rfl⟩,fun xs e=>by cases e⟩
   ·obtain ⟨c,f,D,e⟩:=b.ql a z
    rw [e];exact ⟨⟨_,rfl⟩,fun xs e=>by cases e⟩
  refine ⟨Same.refl _,fun a o e=>?_,fun a ks e=>?_,fun a o e => .inl e,fun a o e=>?_,fun a o e=>?_,⟨d,p,s,qs,rfl,b,j⟩,fun a z => .inl z,fg,⟨.int _,fun a z=>z⟩,fun a z=>z.elim⟩
  ·rw [out a fun z=>by rw [fg a z] at e;cases e];exact gh a o e
  ·by_cases z:F0 a
   ·exact absurd e ((g a z).2 _)
   ·rw [out a z] at e;exact ft a ks e
  ·rw [out a fun z=>by rw [fr a z] at e;cases e];exact l a o e
  ·by_cases z:F0 a
   ·exact (g a z).1
   ·rw [out a z];exact ⟨o,e⟩
def aue:VP:=fun ss Q=>∃ ns:List Int,ss=[.scr ns]/\ns.length<=63/\Q (.own ODk)
theorem aqi {K:Frag} {vs:List V} {H:Hp} {Q:VK} {E:XK} (h:spP K aue vs H Q E):∃ (a:Addr) (ns:List Int),vs=[.ref a]/\SqL K H a (ns.map V.int)/\ns.length<=63 /\
  ∀ (d p:Addr) (i:Int) (qs:List Addr) (H':Hp),Dk H' d p i qs->(∀ b,b=d\/b=p\/b∈qs->H b=none)->(∀ b,b ≠ d->b ≠ p->b ∉ qs->H' b=H b)->Q (.ref d) H':=by
 obtain ⟨G,ss,s,gh,ft,n,⟨ns,rfl,hn,k⟩,q⟩:=h
 cases n with
 | cons ha hr =>
  cases hr
  obtain ⟨a,rfl,r⟩:=(show ∃ a,_=V.ref a/\SqL K G a (ns.map V.int) from ha)
  refine ⟨a,ns,rfl,gh.seq r,hn,fun d p i qs H' l j m=>q _ k _ G H' (fun b=>b=d\/b=p\/b∈qs) ?_⟩
  have hh:Same H H':=fun a o e=>by
   rw [m a (fun z=>by rw [j a (.inl z)] at e;cases e) (fun z=>by rw [j a (.inr (.inl z))] at e;cases e) (fun z=>by rw [j a (.inr (.inr z))] at e;cases e)];exact e
  have g:∀ a,a=d\/a=p\/a∈qs->(∃ o,H' a=some o)/\∀ xs,H' a ≠ some (.tup xs):=fun a z=>by
   rcases z with rfl | rfl | z
   ·rw [l.dd];exact ⟨⟨_,rfl⟩,fun xs e=>by cases e⟩
   ·rw [l.pp];exact ⟨⟨_,rfl⟩,fun xs e=>by cases e⟩
   ·obtain ⟨c,f,u,e⟩:=l.ql a z
    rw [e];exact ⟨⟨_,rfl⟩,fun xs e=>by cases e⟩
  refine ⟨Same.refl _,gh.trans hh,hh,fun a o e => .inl e,j,fun a z=>?_,fun a z=>(g a z).1,⟨d,p,i,qs,rfl,l,fun b=>Iff.rfl⟩,fun _ a ks e=>?_⟩
  ·cases e:G a with
   | none=>rfl
   | some o=>have:=gh a o e;rw [j a z] at this;cases this
  ·by_cases z:a=d\/a=p\/a∈qs
   ·exact absurd e ((g a z).2 _)
   ·rw [m a (fun y=>z (.inl y)) (fun y=>z (.inr (.inl y))) (fun y=>z (.inr (.inr y)))] at e;exact ft a ks e
section
variable {P:Program} {w:World} {K:Frag} {mg:Str->Option Value} {base:Heap}
theorem sc_law_draw:FnScope ["deck","many","pool","found","number"] ["deck","many"] (aal s_law_draw):=by row_cond sc
theorem af9 (T:Txt K mg):Can P w K mg base "_law_draw" 1 ["deck","many"] aqh:=by
 obtain ⟨f,fd,D⟩:=T.d_law_draw
 refine D.can (D.fn.ok sc_law_draw (fun vs H Q E h=>by obtain ⟨d,p,i,many,qs,rfl,b,j,n,k⟩:=h;rfl) (fun cdv A outer s H vs Q E z h=>?_))
 obtain ⟨d,p,i,many,qs,rfl,b,j,n,k⟩:=h
 have nd:=sc_law_draw.nd
 refine ⟨_,(aac (aan (i:=2) nd rfl (Or.inl rfl) (aao aaq (aao aaq (pv 0) aae (fun _ _=>rfl)) (aav aep (aao aaq (pv 0) aae (fun _ _=>rfl)) (aak acs (by rfl) T.b_len ad7 (aaa (aao aaq (pv 0) aae (fun _ _=>rfl)) aab))) (fun _ _=>rfl)))
  (aac (acr (aav abq (aao aaq (pv 0) aae (fun _ _=>rfl)) aae) (aga (pv 0) aae aeq))
  (aac (abl (PW.pt (alx (aa7 aeh (aao aaq (pv 2) aae (fun _ _=>rfl)) aae (aay _)) (ai7 (aa7 ah0 (aao aaq (pv 2) aae (fun _ _=>rfl)) aae (aay _)))))
   (aac (aan (i:=3) nd rfl (Or.inl rfl) (aav aep (aao aaq (pv 2) aae (fun _ _=>rfl)) (pv 1)))
    (aac (acr (aav ai8 (aao aaq (pv 2) aae (fun _ _=>rfl)) (pv 1)) (aga (pv 2) aae aeq))
    (aah (aau (pv 3)))))
   aa1)
  (aac (acr (aav abq (aao aaq (pv 2) aae (fun _ _=>rfl)) aae) (aga (pv 2) aae aeq))
  (aac (aan (i:=4) nd rfl (Or.inl rfl) (aav aep (aav abq (aav aep (aao aaq (pv 2) aae (fun _ _=>rfl)) aae) (aav afh aae (aao aaq (pv 2) aae (fun _ _=>rfl)))) aae))
  (aac (aan (i:=4) nd rfl (Or.inl rfl) (aav aep (aav afh (pv 4) (pv 4)) aae))
  (aac (aan (i:=4) nd rfl (Or.inl rfl) (aav aep (aav afh (pv 4) (aav abq (pv 4) aae)) aae))
  (aah (aau (aav aep (aav ai8 (pv 4) aae) (pv 1))))))))))),?_⟩
 show (_:TS) _ [some (.ref d),some (.int many),none,none,none] H
 obtain ⟨q,g,l⟩:=b.pick i
 obtain ⟨c,f,C,u⟩:=b.ql q g
 have o:=b.dd
 have v:=b.pp
 have x:(0:Int) < ((qs.map V.ref).length:Int):=by have:=aG1.mpr b.ne;rw [aA3];lia
 have B:q ≠ d:=fun e=>b.dq (e ▸ g)
 have fin:∀ (c f k:Int) (a:Addr),a ≠ d->a ∉ qs->upd (upd H d (.lst [.ref p,.int (i+1)])) q (.lst [.int c,.int f,.int k]) a=H a:=fun c f k a r y=>by
  rw [aad (show a ≠ q from fun e=>y (e ▸ g)),aad r]
 row_cond hgo
 refine adh (fun hf=>?_) (fun hf=>?_)
 ·row_cond hgo
  refine adh (fun m=>?_) (fun m=>?_)
  ·row_cond hgo
   exact k _ _ (i+1) (aE7 _ (by lia)) (aE8 _ j) (b.put g _ _ _) (fin _ _ _)
  ·row_cond hgo
   exact k _ _ (i+1) (aE7 _ (by lia)) (aE8 _ j) (b.put g _ _ _) (fin _ _ _)
 ·row_cond hgo
  exact k _ _ (i+1) (aE7 _ (by lia)) (aE8 _ j) (b.put g _ _ _) (fin _ _ _)
theorem aam (T:Txt K mg):Can P w K mg base "_law_draw" 1 ["deck","many"] (spI K aud):=azm (af9 T) fun _ _ _ _ h=>azn h
theorem sc_law_deck:FnScope ["script","pools","k","cell"] ["script"] (aal s_law_deck):=by row_cond sc
theorem an5 (T:Txt K mg):Can P w K mg base "_law_deck" 1 ["script"] (spP K aue):=by
 obtain ⟨f,fd,D⟩:=T.d_law_deck
 refine D.can (D.fn.ok sc_law_deck (fun vs H Q E h=>by obtain ⟨a,ns,rfl,G,hn,k⟩:=aqi h;rfl) (fun cdv A outer s H vs Q E hr h=>?_))
 obtain ⟨a,ns,rfl,G,hn,k⟩:=aqi h
 have nd:=sc_law_deck.nd
 refine ⟨_,(aac (aan (i:=1) nd rfl (Or.inl rfl) (aa8 aab))
  (aac (abp aK0 rfl (abk rfl T.b_range (aaa (aak (ack rfl) (by rfl) T.b_max ach (aaa aae (aaa (aak (acl rfl) (by rfl) T.b_min adi (aaa aae (aaa (aak acs (by rfl) T.b_len ad7 (aaa (pv 0) aab)) aab))) aab))) aab)) (aaj (i:=2) nd rfl (Or.inl rfl))
   (aac (aan (i:=3) nd rfl (Or.inl rfl) aae)
    (aac (abl (aa7 aqr (pv 2) (aak acs (by rfl) T.b_len ad7 (aaa (pv 0) aab)) (aay _))
     (aah (aan (i:=3) nd rfl (Or.inl rfl) (aao aaq (pv 0) (pv 2) (fun _ _=>rfl))))
     aa1)
    (aah (abj (acy PySem.F.plainAttrs_list PySem.F.slot_list_append PySem.F.type_list_append abr (pv 1) (aaa (aa8 (aaa (pv 3) (aaa (ad5 aib (by rfl) T.b_int amf (aaa (abz a2j (pv 3) (axx (n:=1000000000000000000) (by decide) (by refine ⟨by decide,by decide,by decide⟩)) (aay _)) aab)) (aaa (aav afh aae (pv 2)) aab)))) aab)))))))
  (aah (aau (aa8 (aaa (pv 1) (aaa aae aab))))))),?_⟩
 show (_:TS) _ [some (.ref a),none,none,none] H
 row_cond hgo
 refine ⟨by show 0<=sizeLine;decide,fun p I=>?_⟩
 row_cond hgo
 refine ao5 ((abg I).seq G) ?_
 rw [aA3]
 row_cond hgo
 refine ao4 (by split <;> split <;> lia) (by split <;> split <;> lia) ?_
 refine ar7 (fun i σ H2=>∃ (u r:Option V) (qs:List Addr),σ=[some (.ref a),some (.ref p),u,r]/\H2 p=some (.lst (qs.map V.ref))/\qs.length=i/\p ∉ qs/\(∀ q∈qs,H q=none/\∃ c f k:Int,H2 q=some (.lst [.int c,.int f,.int k]))/\∀ b,b ≠ p->b ∉ qs->H2 b=H b)
  ⟨_,_,[],rfl,aag,rfl,by simp,(fun q m=>nomatch m),fun b hb _=>aad hb⟩ ?_ ?_
 ·rintro i σ H2 hi ⟨u,r,qs,rfl,j,x,pq,m,B⟩
  have S:i < 63:=by
   revert hi
   split <;> split <;> lia
  have s2:Same H H2:=fun b o e=>by
   rw [B b (fun z=>by rw [z,I] at e;cases e) (fun z=>by rw [(m b z).1] at e;cases e)];exact e
  have fin:∀ (c f k:Int) (q:Addr) (u r:Option V),H2 q=none->∃ (R L:Option V) (l:List Addr),[some (V.ref a),some (.ref p),u,r]=[some (.ref a),some (.ref p),R,L]/\upd (upd H2 q (.lst [.int c,.int f,.int k])) p (.lst (qs.map V.ref ++ [.ref q])) p=some (.lst (l.map V.ref))/\l.length=i+1/\p ∉ l/\(∀ z∈l,H z=none/\∃ c' Y W:Int,upd (upd H2 q (.lst [.int c,.int f,.int k])) p (.lst (qs.map V.ref ++ [.ref q])) z=some (.lst [.int c',.int Y,.int W]))/\∀ b,b ≠ p->b ∉ l->upd (upd H2 q (.lst [.int c,.int f,.int k])) p (.lst (qs.map V.ref ++ [.ref q])) b=H b:=fun c f k q u r g=>by
   have C:q ≠ p:=fun e=>by rw [e,j] at g;cases g
   have N:H q=none:=by
    cases e:H q with
    | none=>rfl
    | some o=>rw [s2 q o e] at g;cases g
   refine ⟨u,r,qs ++ [q],rfl,by rw [aag,aE5];rfl,by simp [x],fun z=>?_,fun z hz=>?_,fun b hb v=>?_⟩
   ·rcases aA7.mp z with z | z
    ·exact pq z
    ·exact C (aC2.mp z).symm
   ·have X:z ≠ p:=fun e=>by
     subst e
     rcases aA7.mp hz with z | z
     ·exact pq z
     ·exact C (aC2.mp z).symm
    rw [aad X]
    by_cases zq:z=q
    ·subst zq;exact ⟨N,c,f,k,aag⟩
    ·rw [aad zq]
     exact m z ((aA7.mp hz).resolve_right fun y=>zq (aC2.mp y))
   ·rw [aad hb,aad (show b ≠ q from fun e=>v (aA7.mpr (.inr (aC2.mpr e))))]
    exact B b hb fun z=>v (aA7.mpr (.inl z))
  row_cond hgo
  refine ao5 (s2.seq G) ?_
  rw [aA3]
  row_cond hgo
  refine adh (fun hk=>?_) (fun hk=>?_)
  ·have M:i < ns.length:=by lia
   have J:atI (ns.map V.int) (0+(i:Int))=some (.int ns[i]):=adm (by lia) (by rw [aA5,show (0+(i:Int)).toNat=i by lia,aA0 M];rfl)
   row_cond hgo
   refine au7 (s2.seq G) J ?_
   row_cond hgo
   refine ⟨by show 3<=sizeLine;decide,fun q g=>?_⟩
   have C:p ≠ q:=fun e=>by rw [← e,j] at g;cases g
   row_cond hgo
   exact fin _ _ _ q _ _ g
  ·row_cond hgo
   refine ⟨by show 3<=sizeLine;decide,fun q g=>?_⟩
   have C:p ≠ q:=fun e=>by rw [← e,j] at g;cases g
   row_cond hgo
   exact fin _ _ _ q _ _ g
 ·rintro σ H2 ⟨u,r,qs,rfl,j,x,pq,m,B⟩
  have s2:Same H H2:=fun b o e=>by
   rw [B b (fun z=>by rw [z,I] at e;cases e) (fun z=>by rw [(m b z).1] at e;cases e)];exact e
  row_cond hgo
  refine ⟨by show 2<=sizeLine;decide,fun d hd=>?_⟩
  have dp:d ≠ p:=fun e=>by rw [e,j] at hd;cases hd
  have dq:d ∉ qs:=fun z=>by obtain ⟨_,c,f,k,e⟩:=m d z;rw [e] at hd;cases hd
  have O:H d=none:=by
   cases e:H d with
   | none=>rfl
   | some o=>rw [s2 d o e] at hd;cases hd
  refine k d p 0 qs _ ⟨aag,by rw [aad dp.symm];exact j,?_,?_,dp,dq,pq,fun q z=>?_⟩ ?_ ?_
  ·intro e
   rw [e] at x
   revert x
   simp only [aJ2]
   split <;> split <;> lia
  ·rw [x]
   split <;> split <;> lia
  ·rw [aad (show q ≠ d from fun e=>dq (e ▸ z))];exact (m q z).2
  ·rintro b (rfl | rfl | z)
   ·exact O
   ·exact I
   ·exact (m b z).1
  ·intro b b1 Z U
   rw [aad b1];exact B b Z U
end
theorem agu {α β:Type} (f : α->β):∀ (l:List α) (k:Nat),(l.map f).eraseIdx k=(l.eraseIdx k).map f
 | [],_=>rfl
 | _ :: _,0=>rfl
 | a :: l,k+1=>by simp [agu f l k]
theorem a19 {j:Int} {n:Nat} (b:0<=j) (a:j < n):seqIndex? j n=some j.toNat:=by unfold seqIndex?;simp;lia
theorem Dk.frame {H H':Hp} {d p:Addr} {i:Int} {qs:List Addr} (h:Dk H d p i qs) (e:∀ a,a=d\/a=p\/a∈qs->H' a=H a):Dk H' d p i qs :=
 ⟨(e d (.inl rfl)).trans h.dd,(e p (.inr (.inl rfl))).trans h.pp,h.ne,h.le,h.dp,h.dq,h.pq,fun q b=>by rw [e q (.inr (.inr b))];exact h.ql q b⟩
def an6:VIo:=fun A ss Q=>∃ n:Int,A=ODk/\ss=[.st (.int n)]/\0<=n/\n<=61/\∀ row:List Int,Order n row->Q ODk (.own (OL (row.map .int)))
theorem an7 {K:Frag} {vs:List V} {H:Hp} {Q:VK} {E:XK} (h:spI K an6 vs H Q E):∃ (d p:Addr) (i n:Int) (qs:List Addr),vs=[.ref d,.int n]/\Dk H d p i qs/\0<=n/\n<=61 /\
  ∀ (row:List Int) (l:Addr) (H':Hp) (s:Int),Order n row->Dk H' d p s qs->H l=none->H' l=some (.lst (row.map V.int))->(∀ a o,a ≠ d->a ∉ qs->H a=some o->H' a=some o)->(∀ a xs,H' a=some (.tup xs)->H a=some (.tup xs))->Q (.ref l) H':=by
 obtain ⟨v0,J,G,R,A,ss,F0,L,rfl,gh,ft,u,ap,fg,fr,v,⟨n,rfl,rfl,x,y,k⟩,B⟩:=h
 obtain ⟨d,p,i,qs,rfl,r,q⟩:=ap
 cases v with
 | cons ha hr =>
  cases hr
  cases (show Rp G _ (.int n) from ha)
  refine ⟨d,p,i,n,qs,rfl,r,x,y,fun row l H' s w g j m F I=>B ODk _ (k row w) _ G H' F0 (fun b=>b=l) ?_⟩
  have out:∀ a o,¬ F0 a->H a=some o->H' a=some o:=fun a o z=>F a o (fun e=>z ((q a).mpr (.inl e))) (fun e=>z ((q a).mpr (.inr (.inr e))))
  have D:G l=none:=by
   cases e:G l with
   | none=>rfl
   | some o=>rw [gh l o e] at j;cases j
  refine ⟨Same.refl _,fun a o e=>?_,fun a ks e=>?_,fun a o e => .inl e,fun a o e=>?_,fun a o e=>?_,⟨d,p,s,qs,rfl,g,q⟩,fun a z => .inl z,fg,⟨l,row.map V.int,rfl,m,Rps.ints row,fun b=>Iff.rfl⟩,fun a z=>?_⟩
  ·exact out a o (fun z=>by rw [fg a z] at e;cases e) (gh a o e)
  ·exact ft a ks (I a _ e)
  ·exact out a o (fun z=>by rw [fr a z] at e;cases e) (u a o e)
  ·by_cases z:F0 a
   ·rcases (q a).mp z with rfl | rfl | z
    ·exact ⟨_,g.dd⟩
    ·exact ⟨_,g.pp⟩
    ·obtain ⟨c,f,C,e⟩:=g.ql a z
     exact ⟨_,e⟩
   ·exact ⟨o,out a o z e⟩
  ·subst z
   refine ⟨j,D,⟨_,m⟩,fun z=>?_⟩
   rcases (q a).mp z with rfl | rfl | z
   ·rw [r.dd] at j;cases j
   ·rw [r.pp] at j;cases j
   ·obtain ⟨c,f,C,e⟩:=r.ql a z
    rw [e] at j;cases j
section
variable {P:Program} {w:World} {K:Frag} {mg:Str->Option Value} {base:Heap}
theorem sc_law_order:FnScope ["deck","n","left"] ["deck","n"] (aal s_law_order):=by row_cond sc
theorem aef (T:Txt K mg):Can P w K mg base "_law_order" 2 ["deck","n"] (spI K an6):=by
 obtain ⟨f,fd,D⟩:=T.d_law_order
 refine D.can (D.fn.ok sc_law_order (fun vs H Q E h=>by obtain ⟨d,p,i,n,qs,rfl,J,h1,h2,k⟩:=an7 h;rfl) (fun cdv A outer s H vs Q E hr h=>?_))
 obtain ⟨d,p,i,n,qs,rfl,J,h1,h2,k⟩:=an7 h
 have nd:=sc_law_order.nd
 refine ⟨_,(aac (aan (i:=2) nd rfl (Or.inr rfl) (anc rfl T.b_list rfl T.b_range rfl (aaa (pv 1) aab)))
  (aah (aau (acz rfl (N:=["k","left","deck"]) (src:=[none,some 2,some 0]) (by exact abe rfl rfl rfl rfl rfl rfl) (abk rfl T.b_range (aaa (pv 1) aab)) (fun _ _ _ _=>(aaj (i:=0) (show List.Nodup (["k","left","deck"]:List Str) by decide +kernel) rfl (Or.inl rfl) (hf:=Or.inr rfl))) (fun _ _ _ _=>abb) (fun _ _ _ _=>(show PE _ _ (tBM K "list" al5 _ _) from (acy PySem.F.plainAttrs_list PySem.F.slot_list_pop PySem.F.type_list_pop auq (pv 1) (aaa (aaf (af9 T) hr (aaa (pv 2) (aaa (aak (show aa3 _ (.builtin "len") (rLen K) from acs) (by rfl) T.b_len ad7 (aaa (pv 1) aab)) aab))) aab)))))))),?_⟩
 show (_:TS) _ [some (.ref d),some (.int n),none] H
 row_cond hgo
 unfold ait
 row_cond hgo
 refine ⟨n,rfl,h1,by lia,fun m hm=>?_⟩
 row_cond hgo
 refine ao4 (by lia) (by lia) ?_
 intro g b
 have L:∀ a,a=d\/a=p\/a∈qs->∃ o,H a=some o:=fun a z=>by
  rcases z with rfl | rfl | z
  ·exact ⟨_,J.dd⟩
  ·exact ⟨_,J.pp⟩
  ·obtain ⟨c,f,kk,e⟩:=J.ql a z
   exact ⟨_,e⟩
 have R:∀ a,a=d\/a=p\/a∈qs->a ≠ m:=fun a z e=>by
  obtain ⟨o,I⟩:=L a z
  rw [e,hm] at I;cases I
 have U:g ≠ m:=fun e=>by rw [e,aag] at b;cases b
 rw [aad U] at b
 have S:∀ a,a=d\/a=p\/a∈qs->a ≠ g:=fun a z e=>by
  obtain ⟨o,I⟩:=L a z
  rw [e,b] at I;cases I
 refine auv (fun j ys σ H2=>∃ (v:Option V) (row left:List Int) (G:Int),σ=[v,some (.ref m),some (.ref d)]/\ys=row.map V.int/\row.length=j/\Order n (row ++ left)/\H2 m=some (.lst (left.map V.int))/\H2 g=some (.lst ys)/\Dk H2 d p G qs/\∀ a,a ≠ d->a ∉ qs->a ≠ m->a ≠ g->H2 a=H a)
  ⟨_,[],(List.range n.toNat).map fun (i:Nat)=>(i:Int),i,rfl,rfl,rfl,?_,?_,aag,?_,?_⟩ (fun j ys σ H2 h=>by obtain ⟨v,row,left,G,_,_,_,_,_,e,_⟩:=h;exact e) ?_ ?_
 ·exact Order.id n
 ·rw [aad U.symm,aag,aE0];rfl
 ·exact J.frame fun a z=>by rw [aad (S a z),aad (R a z)]
 ·intro a _ _ a1 W
  rw [aad W,aad a1]
 ·rintro j ys σ H2 hj ⟨v,row,left,G,rfl,rfl,O,C,B,q,l,u⟩
  have M:left.length=n.toNat - j:=by have:=C.len;simp at this;lia
  have md:m ≠ d:=(R d (.inl rfl)).symm
  have mq:m ∉ qs:=fun z=>R m (.inr (.inr z)) rfl
  have ad:g ≠ d:=(S d (.inl rfl)).symm
  have aq:g ∉ qs:=fun z=>S g (.inr (.inr z)) rfl
  row_cond hgo
  refine ⟨d,p,G,_,qs,rfl,l,by rw [aA3];lia,by rw [aA3];lia,fun r H3 i3 r0 r1 X x=>?_⟩
  rw [aA3] at r1
  row_cond hgo
  obtain ⟨y,Z⟩:∃ y,left[r.toNat]?=some y:=⟨_,aA0 (show r.toNat < left.length by lia)⟩
  refine auy (y:=.int y) ((x m md mq).trans B) (by lia) (by lia) (a19 r0 (by rw [aA3];exact r1)) (by rw [aA5,Z];rfl) ?_
  refine ⟨by rw [aad U];exact (x g ad aq).trans q,ad6 (by simp;lia),_,row ++ [y],left.eraseIdx r.toNat,i3,rfl,by simp,by simp [O],arh C Z,?_,aag,?_,?_⟩
  ·rw [aad U.symm,aag,agu]
  ·exact X.frame fun a z=>by rw [aad (S a z),aad (R a z)]
  ·intro a b1 b2 Y b4
   rw [aad b4,aad Y,x a b1 b2];exact u a b1 b2 Y b4
 ·rintro ys σ H2 ⟨v,row,left,G,rfl,rfl,O,C,B,q,l,u⟩
  have M:left=[]:=by have:=C.len;simp at this;exact List.length_eq_zero_iff.mp (by lia)
  subst M
  rw [aF2] at C
  row_cond hgo
  refine k row g H2 G C l b q (fun a o a1 W e=>?_) fun a xs e=>?_
  ·rw [u a a1 W (fun z=>by rw [z,hm] at e;cases e) (fun z=>by rw [z,b] at e;cases e)];exact e
  ·rw [← u a (fun z=>?_) (fun z=>?_) (fun z=>?_) (fun z=>?_)]
   ·exact e
   ·rw [z,l.dd] at e;cases e
   ·obtain ⟨c,f,kk,e2⟩:=l.ql a z
    rw [e2] at e;cases e
   ·rw [z,B] at e;cases e
   ·rw [z,q] at e;cases e
end
def auf:VIo:=fun A ss Q=>A=ODk/\ss=[]/\∀ (n:Int) (es:List (Int × Int)),1<=n->n<=60->InN n es->es.length<=1900->Q ODk (.st (webD n es))
def mmP (p:Int × Int):Int × Int:=if p.2 < p.1 then (p.2,p.1) else p
theorem a2c {p:Int × Int} {x y:Int} (b:aig [p.1,p.2] x) (a:adb [p.1,p.2] y):mmP p=(x,y):=by
 have a1:=b.2 p.1 (by simp)
 have f:=b.2 p.2 (by simp)
 have g:=a.2 p.1 (by simp)
 have h:=a.2 p.2 (by simp)
 have d:=b.1
 have c:=a.1
 simp only [aA9,aI6,or_false] at d c
 unfold mmP
 split
 ·exact Prod.ext (by show p.2=x;lia) (by show p.1=y;lia)
 ·exact Prod.ext (by lia) (by lia)
theorem a2d {n:Int} {ps:List (Int × Int)} (h:InN n ps):InN n (ps.map mmP):=fun q b=>by
 obtain ⟨p,a,rfl⟩:=aB7.mp b
 have:=h p a
 unfold mmP
 split
 ·exact ⟨this.2.2.1,this.2.2.2,this.1,this.2.1⟩
 ·exact this
theorem aug {l:List Int} (h:∀ x∈l,2<=x):0<=l.sum:=by
 induction l with
 | nil=>simp
 | cons a l ih =>
  have:=h a (by simp)
  have:=ih fun x b=>h x (by simp [b])
  simp;lia
theorem awf {sz:List Int} (h:∀ x∈sz,2<=x) {i:Nat} {x:Int} (b:sz[i]?=some x):(sz.take (i+1)).sum=(sz.take i).sum+x/\(sz.take (i+1)).sum<=sz.sum/\0<=(sz.take i).sum:=by
 refine ⟨by rw [aH6,b];simp,?_,aug fun y a=>h y (aC0 a)⟩
 have:=congrArg List.sum (aC1 (i+1) sz)
 rw [List.sum_append] at this
 have:=aug fun y (a:y∈sz.drop (i+1))=>h y (aC4 a)
 lia
section
variable {P:Program} {w:World} {K:Frag} {mg:Str->Option Value} {base:Heap}
theorem sc_law_crowds:FnScope ["deck","sizes","n","row","ties","at","size","a","b"] ["deck"] (aal s_law_crowds):=by row_cond sc
theorem aj0 (T:Txt K mg):Can P w K mg base "_law_crowds" 3 ["deck"] (spI K (auf)):=by
 obtain ⟨f,fd,D⟩:=T.d_law_crowds
 refine D.can (D.fn.ok sc_law_crowds (fun vs H Q E h=>lenI h fun A ss Q' q=>by obtain ⟨rfl,rfl,k⟩:=q;rfl) (fun cdv A outer s H vs Q E r h=>?_))
 have nd:=sc_law_crowds.nd
 refine ⟨_,(aac (aan (i:=1) nd rfl (Or.inl rfl) (aao aaq (aa8 (aaa (aa8 (aaa (aav abq aae (aaf (aam T) r (aaa (pv 0) (aaa aae aab)))) aab)) (aaa (aa8 (aaa (aav abq aae (aaf (aam T) r (aaa (pv 0) (aaa aae aab)))) (aaa (aav abq aae (aaf (aam T) r (aaa (pv 0) (aaa aae aab)))) aab))) aab))) (aaf (aam T) r (aaa (pv 0) (aaa aae aab))) (fun _ _=>rfl)))
  (aac (aan (i:=2) nd rfl (Or.inl rfl) (aav abq (aak (akf rfl) (by rfl) T.b_sum asw (aaa (pv 1) aab)) (aaf (aam T) r (aaa (pv 0) (aaa (aav aeo aae (aak (akf rfl) (by rfl) T.b_sum asw (aaa (pv 1) aab))) aab)))))
  (aac (aan (i:=3) nd rfl (Or.inr rfl) (aaf (aef T) r (aaa (pv 0) (aaa (pv 2) aab))))
  (aac (aan (i:=4) nd rfl (Or.inl rfl) (aa8 aab))
  (aac (aan (i:=5) nd rfl (Or.inl rfl) aae)
  (aac (abp aK0 rfl (aba (pv 1)) (aaj (i:=6) nd rfl (Or.inl rfl))
   (aac (abp aK0 rfl (ad4 rfl T.b_range (aaa (pv 5) (aaa (aav abq (pv 5) (pv 6)) aab))) (aaj (i:=7) nd rfl (Or.inr rfl))
     (aah (abj (acy PySem.F.plainAttrs_list PySem.F.slot_list_extend PySem.F.type_list_extend asg (pv 4) (aaa (acz rfl (N:=["b","row","a"]) (src:=[none,some 3,some 7]) (by exact abe rfl rfl rfl rfl rfl rfl) (ad4 rfl T.b_range (aaa (aav abq (pv 7) aae) (aaa (aav abq (pv 5) (pv 6)) aab))) (fun _ _ _ _=>(aaj (i:=0) (show List.Nodup (["b","row","a"]:List Str) by decide +kernel) rfl (Or.inl rfl) (hf:=Or.inr rfl))) (fun _ _ _ _=>abb) (fun _ _ _ _=>(abd (aaa (aao (show IxR _ (ab6 K) from aaq) (pv 1) (pv 2) (fun _ _=>rfl)) (aaa (aao (show IxR _ (ab6 K) from aaq) (pv 1) (pv 0) (fun _ _=>rfl)) aab))))) aab)))))
    (aah (aan (i:=5) nd rfl (Or.inl rfl) (aav abq (pv 5) (pv 6))))))
  (aac (abp aK0 rfl (ad4 rfl T.b_range (aaa (pv 5) (aaa (pv 2) aab))) (aaj (i:=8) nd rfl (Or.inl rfl))
   (aah (abl (aa7 ah0 (aaf (aam T) r (aaa (pv 0) (aaa aae aab))) aae (aay _))
     (aah (abj (acy PySem.F.plainAttrs_list PySem.F.slot_list_append PySem.F.type_list_append abr (pv 4) (aaa (abd (aaa (aao aaq (pv 3) (aaf (aam T) r (aaa (pv 0) (aaa (pv 8) aab))) (fun _ _=>rfl)) (aaa (aao aaq (pv 3) (pv 8) (fun _ _=>rfl)) aab))) aab))))
     aa1)))
  (aah (aau (abd (aaa (pv 2) (aaa (aak ail (by rfl) T.b_sorted act (aaa (acz rfl (N:=["tie"]) (src:=[none]) (by exact abe rfl rfl rfl rfl rfl rfl) (aba (pv 4)) (fun _ _ _ _=>(aaj (i:=0) (show List.Nodup (["tie"]:List Str) by decide +kernel) rfl (Or.inl rfl) (hf:=Or.inr rfl))) (fun _ _ _ _=>abb) (fun _ _ _ _=>(abd (aaa (aak (show aa3 _ (.builtin "min") (aih K) from (ake rfl)) (by rfl) T.b_min adi (aaa (pv 0) aab)) (aaa (aak (show aa3 _ (.builtin "max") (ae5 K) from (adf rfl)) (by rfl) T.b_max ach (aaa (pv 0) aab)) aab))))) aab)) aab)))))))))))),?_⟩
 refine als h fun A0 ss Q' q B hK=>?_
 obtain ⟨rfl,rfl,k⟩:=q
 show EvS B _ _ [some (.io ODk),none,none,none,none,none,none,none,none]
 row_cond go
 refine ⟨11,rfl,rfl,by lia,by lia,fun r1 b4 b2=>?_⟩
 row_cond go
 refine ⟨15,rfl,rfl,by lia,by lia,fun r2 b1 b3=>?_⟩
 row_cond go
 refine ⟨15,rfl,rfl,by lia,by lia,fun r3 b5 a7=>?_⟩
 row_cond go
 refine ⟨2,rfl,rfl,by lia,by lia,fun O b0 a8=>?_⟩
 obtain ⟨sz,m,G,a2,a1⟩:∃ sz:List Int,atI [PyData.list [.int (12+r1)],.list [.int (2+r2),.int (2+r3)]] O=some (.list (sz.map .int))/\(∀ x∈sz,2<=x)/\(2<=sz.sum/\sz.sum<=32)/\sz.length<=2:=by
  rcases (show O=0\/O=1 by lia) with rfl | rfl
  ·exact ⟨[12+r1],rfl,fun x z=>by simp at z;lia,by simp;lia,by simp⟩
  ·exact ⟨[2+r2,2+r3],rfl,fun x z=>by simp at z;lia,by simp;lia,by simp⟩
 row_cond go
 refine apn rfl ?_
 row_cond go
 refine apn rfl ?_
 row_cond go
 refine ⟨61 - sz.sum,rfl,rfl,by lia,by lia,fun r5 a6 a3=>?_⟩
 row_cond go
 refine ⟨sz.sum+r5,rfl,rfl,by lia,by lia,fun row C=>ab2 acw ?_⟩
 obtain ⟨n,hn,a4,J⟩:∃ n,n=sz.sum+r5/\sz.sum<=n/\n<=60:=⟨_,rfl,by lia,by lia⟩
 rw [← hn] at C
 rw [← hn]
 have m:∀ j:Int,0<=j->j < n->∃ x,atI (row.map PyData.int) j=some (.int x)/\0<=x/\x < n:=fun j j0 j1=>⟨aar row j,adm j0 (by rw [aA5,(C.at j0 j1).1];rfl),(C.at j0 j1).2⟩
 row_cond go
 refine ade (fun i e=>∃ v l g ps,e=[some (.io ODk),some (.st (.list (sz.map .int))),some (.st (.int n)),some (.st (.list (row.map .int))),some (.own (OL (ps.map prD))),some (.st (.int (sz.take i).sum)),v,l,g]/\InN n ps/\(ps.length:Int)<=32 * (sz.take i).sum) ⟨none,none,none,[],rfl,(fun p b=>by cases b),by simp⟩ ?_ ?_
 ·rintro i x e z ⟨v,l,g,ps,rfl,d,o⟩
  have a5:=G x (aA2 z)
  obtain ⟨t1,t2,t3⟩:=awf G z
  rw [t1] at t2
  rw [t1]
  generalize (sz.take i).sum=c at o t2 t3
  row_cond go
  refine acm (fun j e=>∃ l g ps,e=[some (.io ODk),some (.st (.list (sz.map .int))),some (.st (.int n)),some (.st (.list (row.map .int))),some (.own (OL (ps.map prD))),some (.st (.int c)),some (.st (.int x)),l,g]/\InN n ps/\(ps.length:Int)<=32 * (c+j)) ⟨_,_,ps,rfl,d,by simpa using o⟩ ?_ ?_
  ·rintro j e hj ⟨l,g,ps,rfl,d,o⟩
   have a9:c+(j:Int) < c+x:=by lia
   obtain ⟨xa,ea,Z,U⟩:=m (c+(j:Int)) (by lia) (by lia)
   row_cond go
   unfold rngD
   refine acx (fun u:Nat=>prD (xa,aar row (c+(j:Int)+1+(u:Int)))) rfl (by simp;lia) (fun u S B' hB=>?_) ?_
   ·have Y:=aB9.mp S
    have hb:=C.at (a:=c+(j:Int)+1+(u:Int)) (by lia) (by lia)
    have eb:atI (row.map PyData.int) (c+(j:Int)+1+(u:Int))=some (.int (aar row (c+(j:Int)+1+(u:Int)))):=adm (by lia) (by rw [aA5,hb.1];rfl)
    row_cond go
    rfl
   ·refine ⟨_,_,rfl,rfl,by simp;lia,?_⟩
    dsimp only [List.set_cons_zero,List.set_cons_succ]
    refine ⟨_,_,ps ++ (List.range (c+x - (c+(j:Int)+1)).toNat).map fun u:Nat=>(xa,aar row (c+(j:Int)+1+(u:Int))),by rw [aE5,aE0];rfl,fun p b=>?_,by simp;lia⟩
    rcases aA7.mp b with b | b
    ·exact d p b
    ·obtain ⟨u,S,rfl⟩:=aB7.mp b
     have Y:=aB9.mp S
     have hb:=C.at (a:=c+(j:Int)+1+(u:Int)) (by lia) (by lia)
     exact ⟨Z,U,hb.2.1,hb.2.2⟩
  ·rintro e ⟨l,g,ps,rfl,d,o⟩
   row_cond go
   exact ⟨_,_,_,ps,rfl,d,by lia⟩
 ·rintro e ⟨v,l,g,ps,rfl,d,o⟩
  rw [aH0] at o ⊢
  row_cond go
  refine acm (fun j e=>∃ v l g ps,e=[some (.io ODk),some (.st (.list (sz.map .int))),some (.st (.int n)),some (.st (.list (row.map .int))),some (.own (OL (ps.map prD))),some (.st (.int sz.sum)),v,l,g]/\InN n ps/\(ps.length:Int)<=1024+j) ⟨_,_,_,ps,rfl,d,by lia⟩ ?_ ?_
  ·rintro j e hj ⟨v,l,g,ps,rfl,d,o⟩
   obtain ⟨xb,eb,W,L⟩:=m (sz.sum+(j:Int)) (by lia) (by lia)
   row_cond go
   refine ⟨5,rfl,rfl,by lia,by lia,fun q qa qb=>?_⟩
   row_cond go
   refine adh (fun hq=>?_) (fun hq=>?_)
   ·row_cond go
    refine ⟨sz.sum+(j:Int),rfl,rfl,by lia,by lia,fun y ya yb=>?_⟩
    obtain ⟨xy,ey,M,X⟩:=m y ya (by lia)
    row_cond go
    refine ⟨_,_,_,ps ++ [(xy,xb)],by rw [aE5];rfl,fun p b=>?_,by simp;lia⟩
    rcases aA7.mp b with b | b
    ·exact d p b
    ·rw [aC2.mp b];exact ⟨M,X,W,L⟩
   ·row_cond go
    exact ⟨_,_,_,ps,rfl,d,by push_cast;lia⟩
  ·rintro e ⟨v,l,g,ps,rfl,d,o⟩
   row_cond go
   refine akn (ps:=ps.map mmP) ?_
   row_cond go
   refine acx (fun p:Int × Int=>prD (mmP p)) rfl (by lia) (fun p b B' hB=>?_) ?_
   ·row_cond go
    refine avp (ns:=[p.1,p.2]) rfl (by simp) fun m1 R=>?_
    row_cond go
    refine avo (ns:=[p.1,p.2]) rfl (by simp) fun m2 a0=>?_
    row_cond go
    exact ⟨by rw [a2c R a0],rfl⟩
   ·row_cond go
    refine ⟨by rw [aE0];rfl,fun qs b hs=>acf ?_⟩
    row_cond go
    exact k n qs (by lia) J (fun p I=>a2d d p (b.mem_iff.mp I)) (by rw [b.length_eq,aA3];lia)
end
theorem aha {n a b:Int} {ps:List (Int × Int)} (h:InN n ps) (f:0<=a) (g:a < n) (d:0<=b) (i:b < n):InN n (addP ps (a,b)):=fun p c=>by
 rcases addP_mem.mp c with c | rfl
 ·exact h p c
 ·exact ⟨f,g,d,i⟩
section
variable {P:Program} {w:World} {K:Frag} {mg:Str->Option Value} {base:Heap}
theorem sc_law_web:FnScope ["deck","n","row","kind","ties","k","heads","head","a","b"] ["deck"] (aal s_law_web):=by row_cond sc
theorem aos (T:Txt K mg):Can P w K mg base "_law_web" 4 ["deck"] (spI K (auf)):=by
 obtain ⟨f,fd,D⟩:=T.d_law_web
 refine D.can (D.fn.ok sc_law_web (fun vs H Q E h=>lenI h fun A ss Q' q=>by obtain ⟨rfl,rfl,k⟩:=q;rfl) (fun cdv A outer s H vs Q E a h=>?_))
 have nd:=sc_law_web.nd
 refine ⟨_,(aac (abl (aa7 aeh (aaf (aam T) a (aaa (pv 0) (aaa aae aab))) aae (aay _))
   (aah (aau (aaf (aj0 T) a (aaa (pv 0) aab))))
   aa1)
  (aac (aan (i:=1) nd rfl (Or.inl rfl) (aav abq aae (aaf (aam T) a (aaa (pv 0) (aaa (aao aaq (aa8 (aaa aae (aaa aae (aaa aae (aaa aae aab))))) (aaf (aam T) a (aaa (pv 0) (aaa aae aab))) (fun _ _=>rfl)) aab)))))
  (aac (aan (i:=2) nd rfl (Or.inl rfl) (aao aaq (aa8 (aaa (anc rfl T.b_list rfl T.b_range rfl (aaa (pv 1) aab)) (aaa (aaf (aef T) a (aaa (pv 0) (aaa (pv 1) aab))) aab))) (aaf (aam T) a (aaa (pv 0) (aaa aae aab))) (fun _ _=>rfl)))
  (aac (aan (i:=3) nd rfl (Or.inl rfl) (aaf (aam T) a (aaa (pv 0) (aaa aae aab))))
  (aac (aan (i:=4) nd rfl (Or.inl rfl) al8)
  (aac (abp aK0 rfl (ad4 rfl T.b_range (aaa aae (aaa (pv 1) aab))) (aaj (i:=5) nd rfl (Or.inl rfl))
   (aac (aan (i:=6) nd rfl (Or.inl rfl) (aa8 (aaa (aav aeo (pv 5) aae) (aaa (aaf (aam T) a (aaa (pv 0) (aaa (pv 5) aab))) (aaa (aak (ack rfl) (by rfl) T.b_max ach (aaa aae (aaa (aav aeo (aav aeo (pv 5) aae) (aaf (aam T) a (aaa (pv 0) (aaa aae aab)))) aab))) (aaa aae (aaa (aav ai8 (pv 5) aae) aab)))))))
    (aac (aan (i:=7) nd rfl (Or.inl rfl) (aao aaq (aav ash (pv 6) (aa8 (aaa (aaf (aam T) a (aaa (pv 0) (aaa (aak (acl rfl) (by rfl) T.b_min adi (aaa (pv 5) (aaa aae aab))) aab))) aab))) (pv 3) (fun _ _=>rfl)))
    (aah (afk (adg a) (pv 4) (abd (aaa (aak (acl rfl) (by rfl) T.b_min adi (aaa (aao aaq (pv 2) (pv 5) (fun _ _=>rfl)) (aaa (aao aaq (pv 2) (pv 7) (fun _ _=>rfl)) aab))) (aaa (aak (ack rfl) (by rfl) T.b_max ach (aaa (aao aaq (pv 2) (pv 5) (fun _ _=>rfl)) (aaa (aao aaq (pv 2) (pv 7) (fun _ _=>rfl)) aab))) aab))) ace rfl)))))
  (aac (abl (PW.pt (alx (aa7 aeh (aaf (aam T) a (aaa (pv 0) (aaa aae aab))) aae (aay _)) (ai7 (aa7 ah0 (pv 1) aae (aay _)))))
   (aah (afk (adg a) (pv 4) (abd (aaa (aak (acl rfl) (by rfl) T.b_min adi (aaa (aao aaq (pv 2) aae (fun _ _=>rfl)) (aaa (aao aaq (pv 2) (awr ar8 aae) (fun _ _=>rfl)) aab))) (aaa (aak (ack rfl) (by rfl) T.b_max ach (aaa (aao aaq (pv 2) aae (fun _ _=>rfl)) (aaa (aao aaq (pv 2) (awr ar8 aae) (fun _ _=>rfl)) aab))) aab))) ace rfl))
   aa1)
  (aac (abp aK0 rfl (abk rfl T.b_range (aaa (aao aaq (aa8 (aaa aae (aaa (aaf (aam T) a (aaa (pv 0) (aaa aae aab))) (aaa (aaf (aam T) a (aaa (pv 0) (aaa (aav abq (pv 1) aae) aab))) (aaa (aaf (aam T) a (aaa (pv 0) (aaa (aav afh aae (pv 1)) aab))) aab))))) (aaf (aam T) a (aaa (pv 0) (aaa aae aab))) (fun _ _=>rfl)) aab)) (aaj (i:=5) nd rfl (Or.inl rfl))
   (aac (aan (i:=8) nd rfl (Or.inl rfl) (aaf (aam T) a (aaa (pv 0) (aaa (pv 1) aab))))
    (aac (aan (i:=9) nd rfl (Or.inl rfl) (aaf (aam T) a (aaa (pv 0) (aaa (pv 1) aab))))
    (aah (abl (aa7 agy (pv 8) (pv 9) (aay _))
     (aah (afk (adg a) (pv 4) (abd (aaa (aak (acl rfl) (by rfl) T.b_min adi (aaa (pv 8) (aaa (pv 9) aab))) (aaa (aak (ack rfl) (by rfl) T.b_max ach (aaa (pv 8) (aaa (pv 9) aab))) aab))) ace rfl))
     aa1)))))
  (aac (abp aK0 rfl (abk rfl T.b_range (aaa (aao aaq (aa8 (aaa aae (aaa aae (aaa (aaf (aam T) a (aaa (pv 0) (aaa aae aab))) (aaa (aaf (aam T) a (aaa (pv 0) (aaa (aav abq (pv 1) aae) aab))) aab))))) (aaf (aam T) a (aaa (pv 0) (aaa aae aab))) (fun _ _=>rfl)) aab)) (aaj (i:=5) nd rfl (Or.inl rfl))
   (aah (abl (aa7 (a1t a.units) (pv 4) al8 (aay _))
     (aah (abj (av1 (adg a) (pv 4) (aao aaq (aak (afd rfl) (by rfl) T.b_sorted act (aaa (pv 4) aab)) (aaf (aam T) a (aaa (pv 0) (aaa (aak ats (by rfl) T.b_len ad7 (aaa (pv 4) aab)) aab))) (fun _ _=>rfl)) ⟨rfl,rfl,rfl,rfl⟩)))
     aa1)))
  (aah (aau (abd (aaa (pv 1) (aaa (aak (afd rfl) (by rfl) T.b_sorted act (aaa (pv 4) aab)) aab)))))))))))))),?_⟩
 refine als h fun A0 ss Q' q B hK=>?_
 obtain ⟨rfl,rfl,k⟩:=q
 show EvS B _ _ [some (.io ODk),none,none,none,none,none,none,none,none,none]
 row_cond go
 refine ⟨8,rfl,rfl,by lia,by lia,fun r0 b6 d5=>?_⟩
 row_cond go
 refine adh (fun S=>?_) (fun S=>?_)
 ·row_cond go
  exact ⟨rfl,rfl,fun n es X Z b u=>⟨ODk,rfl,k n es X Z b u⟩⟩
 ·row_cond go
  refine ⟨4,rfl,rfl,by lia,by lia,fun I f4 f0=>?_⟩
  obtain ⟨G,a6,e5,b8⟩:∃ G:Int,atI [PyData.int 4,PyData.int 12,PyData.int 12,PyData.int 60] I=some (.int G)/\4<=G/\G<=60:=by
   rcases (show I=0\/I=1\/I=2\/I=3 by lia) with rfl | rfl | rfl | rfl
   ·exact ⟨4,rfl,by lia,by lia⟩
   ·exact ⟨12,rfl,by lia,by lia⟩
   ·exact ⟨12,rfl,by lia,by lia⟩
   ·exact ⟨60,rfl,by lia,by lia⟩
  row_cond go
  refine ⟨G,rfl,rfl,by lia,by lia,fun r2 d6 f1=>?_⟩
  row_cond go
  obtain ⟨n,hn,X,Z⟩:∃ n,1+r2=n/\1<=n/\n<=60:=⟨_,rfl,by lia,by lia⟩
  rw [hn]
  row_cond go
  refine ⟨n,rfl,rfl,by lia,by lia,fun z U=>acf ?_⟩
  row_cond go
  refine ⟨2,rfl,rfl,by lia,by lia,fun M g0 c3=>?_⟩
  obtain ⟨row,a5,N⟩:∃ row:List Int,atI [PyData.list (rngD 0 n.toNat),PyData.list (z.map .int)] M=some (.list (row.map .int))/\Order n row:=by
   rcases (show M=0\/M=1 by lia) with rfl | rfl
   ·exact ⟨(List.range n.toNat).map fun (i:Nat)=>(i:Int),by show some _=some _;rw [ay2],Order.id n⟩
   ·exact ⟨z,rfl,U⟩
  have y:∀ j:Int,0<=j->j < n->∃ x,atI (row.map PyData.int) j=some (.int x)/\0<=x/\x < n:=fun j j0 j1=>⟨aar row j,adm j0 (by rw [aA5,(N.at j0 j1).1];rfl),(N.at j0 j1).2⟩
  row_cond go
  refine ⟨6,rfl,rfl,by lia,by lia,fun kind ka kb=>?_⟩
  row_cond go
  rw [a1o]
  refine acm (fun i e=>∃ o l g d c ps,e=[some (.io ODk),some (.st (.int n)),some (.st (.list (row.map .int))),some (.st (.int kind)),some (.own (OT (kE ps))),o,l,g,d,c]/\InN n ps/\ps.length<=i) ⟨_,_,_,_,_,[],rfl,(fun p v=>by cases v),aA6 _⟩ ?_ ?_
  ·rintro i e hi ⟨o,l,g,d,c,ps,rfl,b,u⟩
   have Y:1+(i:Int) < n:=by lia
   obtain ⟨xk,ek,d4,f7⟩:=y (1+(i:Int)) (by lia) Y
   have C:(kE ps).length<=999999:=by rw [aeb];lia
   row_cond go
   refine ⟨1+(i:Int),rfl,rfl,by lia,by lia,fun d1 b9 c8=>?_⟩
   row_cond go
   refine ⟨3,rfl,rfl,by lia,by lia,fun d2 e3 c5=>?_⟩
   iterate 16 row_cond st
   refine ab2 acw ?_
   row_cond go
   refine ⟨_,rfl,rfl,by split <;> lia,by split <;> lia,fun d3 c9 R=>?_⟩
   have f2:d3 < 1+(i:Int):=by split at R <;> lia
   obtain ⟨hd,b5,W,f5⟩:∃ hd:Int,atI ([PyData.int (1+(i:Int) - 1),PyData.int d1,PyData.int (if 1+(i:Int) - 1 - d2 > 0 then 1+(i:Int) - 1 - d2 else 0),PyData.int 0,PyData.int ((1+(i:Int)) / 2)] ++ [PyData.int d3]) kind=some (.int hd)/\0<=hd/\hd < 1+(i:Int):=by
    rcases (show kind=0\/kind=1\/kind=2\/kind=3\/kind=4\/kind=5 by lia) with rfl | rfl | rfl | rfl | rfl | rfl
    ·exact ⟨_,rfl,by lia,by lia⟩
    ·exact ⟨_,rfl,by lia,by lia⟩
    ·exact ⟨_,rfl,by split <;> lia,by split <;> lia⟩
    ·exact ⟨_,rfl,by lia,by lia⟩
    ·exact ⟨_,rfl,by lia,by lia⟩
    ·exact ⟨_,rfl,by lia,by lia⟩
   obtain ⟨xh,eh,c4,f3⟩:=y hd W (by lia)
   row_cond go
   rw [agm]
   exact ⟨_,_,_,_,_,_,rfl,aha b (by split <;> lia) (by split <;> lia) (by split <;> lia) (by split <;> lia),aD0 aev (by lia)⟩
  ·rintro e ⟨o,l,g,d,c,ps,rfl,b,u⟩
   have C:(kE ps).length<=999999:=by rw [aeb];lia
   obtain ⟨x0,e0,c6,e8⟩:=y 0 (by lia) (by lia)
   obtain ⟨xl,el,a7,g1⟩:∃ x,atI (row.map PyData.int) (-1)=some (.int x)/\0<=x/\x < n:=by
    obtain ⟨x,ex,x0,x1⟩:=y (n - 1) (by lia) (by lia)
    refine ⟨x,?_,x0,x1⟩
    have hl:(row.map PyData.int).length=n.toNat:=by rw [aA3];exact N.len
    have h2:ixN n.toNat (-1)=some (n.toNat - 1):=by unfold ixN;rw [aF8 (by lia),aF7 (by lia)];congr 1;lia
    have h3:ixN n.toNat (n - 1)=some (n.toNat - 1):=by unfold ixN;rw [aF7 (by lia),aF7 (by lia)];congr 1;lia
    unfold atI at ex ⊢
    rw [hl,h3] at ex
    rw [hl,h2]
    exact ex
   refine' aph (by assumption) ?_
   refine am5 (fun c_ c1=>?_)
   refine avz (fun e=>∃ ps,e=[some (.io ODk),some (.st (.int n)),some (.st (.list (row.map .int))),some (.st (.int kind)),some (.own (OT (kE ps))),o,l,g,d,c]/\InN n ps/\ps.length<=61) ?_ ?_
   ·row_cond go
    refine ⟨4,rfl,rfl,by lia,by lia,fun q qa qb=>?_⟩
    row_cond go
    refine adh (fun h=>?_) (fun h=>?_)
    ·row_cond go
     refine adh (fun h=>?_) (fun h=>?_)
     ·row_cond go
      rw [agm]
      exact ⟨_,rfl,aha b (by split <;> lia) (by split <;> lia) (by split <;> lia) (by split <;> lia),aD0 aev (by lia)⟩
     ·row_cond go
      exact ⟨ps,rfl,b,by lia⟩
    ·row_cond go
     exact ⟨ps,rfl,b,by lia⟩
   ·clear b u C ps
    rintro e ⟨ps,rfl,b,u⟩
    row_cond go
    refine ⟨4,rfl,rfl,by lia,by lia,fun a1 f9 c0=>?_⟩
    row_cond go
    refine ⟨n+1,rfl,rfl,by lia,by lia,fun a2 d7 d9=>?_⟩
    row_cond go
    refine ⟨4 * n,rfl,rfl,by lia,by lia,fun a3 e6 e1=>?_⟩
    row_cond go
    refine ⟨4,rfl,rfl,by lia,by lia,fun J b0 b4=>?_⟩
    obtain ⟨m,em,m0,m1⟩:∃ m:Int,atI [PyData.int 0,PyData.int a1,PyData.int a2,PyData.int a3] J=some (.int m)/\0<=m/\m<=240:=by
     rcases (show J=0\/J=1\/J=2\/J=3 by lia) with rfl | rfl | rfl | rfl <;> exact ⟨_,rfl,by lia,by lia⟩
    row_cond go
    refine acm (fun i e=>∃ o l g d c ps,e=[some (.io ODk),some (.st (.int n)),some (.st (.list (row.map .int))),some (.st (.int kind)),some (.own (OT (kE ps))),o,l,g,d,c]/\InN n ps/\ps.length<=61+i) ⟨_,_,_,_,_,ps,rfl,b,u⟩ ?_ ?_
    ·rintro i e hi ⟨o,l,g,d,c,ps,rfl,b,u⟩
     have C:(kE ps).length<=999999:=by rw [aeb];lia
     row_cond go
     refine ⟨n,rfl,rfl,by lia,by lia,fun ba d8 d0=>?_⟩
     row_cond go
     refine ⟨n,rfl,rfl,by lia,by lia,fun bb e2 f8=>?_⟩
     row_cond go
     refine axq (fun h=>?_) (fun h=>?_)
     ·row_cond go
      rw [agm]
      exact ⟨_,_,_,_,_,_,rfl,aha b (by split <;> lia) (by split <;> lia) (by split <;> lia) (by split <;> lia),aD0 aev (by lia)⟩
     ·row_cond go
      exact ⟨_,_,_,_,_,ps,rfl,b,by lia⟩
    ·rintro e ⟨o,l,g,d,c,ps,rfl,b,u⟩
     row_cond go
     refine ⟨6,rfl,rfl,by lia,by lia,fun b1 a9 e9=>?_⟩
     row_cond go
     refine ⟨n+1,rfl,rfl,by lia,by lia,fun b2 a8 e7=>?_⟩
     row_cond go
     refine ⟨4,rfl,rfl,by lia,by lia,fun F f6 c2=>?_⟩
     obtain ⟨m',b7,e4,c7⟩:∃ m:Int,atI [PyData.int 0,PyData.int 1,PyData.int b1,PyData.int b2] F=some (.int m)/\0<=m/\m<=61:=by
      rcases (show F=0\/F=1\/F=2\/F=3 by lia) with rfl | rfl | rfl | rfl <;> exact ⟨_,rfl,by lia,by lia⟩
     row_cond go
     have O:ps.length<=301:=by lia
     refine acm (fun i e=>∃ o l g d c ps,e=[some (.io ODk),some (.st (.int n)),some (.st (.list (row.map .int))),some (.st (.int kind)),some (.own (OT (kE ps))),o,l,g,d,c]/\InN n ps/\ps.length<=301) ⟨_,_,_,_,_,ps,rfl,b,O⟩ ?_ ?_
     ·rintro i e hi ⟨o,l,g,d,c,ps,rfl,b,u⟩
      iterate 3 row_cond st
      refine a1u (.inl rfl) ?_
      row_cond go
      cases hps:ps with
      | nil =>
       refine adk ?_
       row_cond go
       exact ⟨_,_,_,_,_,[],rfl,(fun p v=>by cases v),by simp⟩
      | cons p0 pr =>
       have a0:0 < ps.length:=by rw [hps];simp
       rw [← hps]
       rw [aF7 (show (!(kE ps).isEmpty)=true by rw [hps];rfl)]
       refine am3 (abc ?_)
       refine av2 (.inl rfl) ?_
       refine awx ?_
       refine abh (af2 (.inl rfl) fun qs v hs=>acf ?_)
       refine akk rfl ?_
       refine am0 (ay3 (.inl rfl) ?_)
       row_cond go
       rw [aeb]
       refine ⟨_,rfl,rfl,by lia,by lia,fun r ra rb=>?_⟩
       obtain ⟨q,hq⟩:∃ q,qs[r.toNat]?=some q:=⟨_,aA0 (show r.toNat < qs.length by rw [v.length_eq];lia)⟩
       have eq:atI (qs.map prD) r=some (prD q):=adm ra (by rw [aA5,hq];rfl)
       obtain ⟨j,hj⟩:=aD3 (v.mem_iff.mp (aA2 hq))
       row_cond go
       refine ⟨kE ps,[Sum.inl q.1,Sum.inl q.2],j,.bool true,rfl,rfl,by unfold kE;rw [aA5,hj];rfl,?_⟩
       dsimp only [List.set_cons_zero,List.set_cons_succ]
       row_cond go
       exact ⟨_,_,_,_,_,ps.eraseIdx j,by rw [show (kE ps).eraseIdx j=kE (ps.eraseIdx j) from agu _ _ _],fun p v=>b p ((List.eraseIdx_sublist ps j).mem v),aD0 (List.length_eraseIdx_le ps j) u⟩
     ·rintro e ⟨o,l,g,d,c,ps,rfl,b,u⟩
      iterate 6 row_cond st
      refine abh (af2 (.inl rfl) fun qs v hs=>acf ?_)
      row_cond go
      exact k n qs X Z (fun p L=>b p (v.mem_iff.mp L)) (by rw [v.length_eq];lia)
end
structure FarD (n:Int) (f:Int->Option Nat) (es:List (Key × PyData)):Prop where
 mem:∀ k d,(k,d)∈es->∃ (v:Int) (j:Nat),k=.inl v/\d=.int (j:Int)/\0<=v/\v < n/\f v=some j
 all:∀ (v:Int) (j:Nat),f v=some j->((.inl v:Key),PyData.int (j:Int))∈es
 nd:(es.map (·.1)).Nodup
 len:es.length+cnt f n.toNat=n.toNat
theorem FarD.val {n:Int} {f:Int->Option Nat} {es:List (Key × PyData)} (h:FarD n f es) (v:Int):valD es (.inl v)=(f v).map fun j => .int (j:Int):=by
 unfold valD
 cases e:es.find? fun e=>decide (e.1=(.inl v:Key)) with
 | none =>
  rw [List.find?_eq_none] at e
  cases hf:f v with
  | none=>rfl
  | some j=>exact absurd (aD8 rfl) (e _ (h.all v j hf))
 | some p =>
  obtain ⟨k,d⟩:=p
  have b:k=.inl v:=by simpa using List.find?_some e
  obtain ⟨u,j,a,c,_,_,g⟩:=h.mem k d (List.mem_of_find?_eq_some e)
  rw [b] at a
  cases a
  rw [g,c]
  rfl
theorem awg (n:Nat):cnt (fun _=>none) n=n:=by
 induction n with
 | zero=>rfl
 | succ n ih=>unfold cnt;rw [ih,aF7 rfl]
theorem FarD.start {n a:Int} (a0:0<=a) (a1:a < n):FarD n (Gr.label (fun _=>none) a 0) [(.inl a,.int 0)]:=by
 refine ⟨fun k d hm=>?_,fun v j b=>?_,by simp,?_⟩
 ·have:(k,d)=((.inl a:Key),PyData.int 0):=by simpa using hm
  cases this
  exact ⟨a,0,rfl,rfl,a0,a1,Gr.label_same⟩
 ·by_cases e:v=a
  ·subst e
   rw [Gr.label_same] at b
   cases b
   exact aC2.mpr rfl
  ·rw [Gr.label_ne e] at b
   cases b
 ·have f:=aea (far:=fun _=>none) (d:=0) a0 rfl (n:=n.toNat) (by lia)
  have c:=awg n.toNat
  simp only [aE6,aJ2]
  lia
theorem FarD.put {n v:Int} {f:Int->Option Nat} {es:List (Key × PyData)} {j:Nat} (h:FarD n f es) (v0:0<=v) (s:v < n) (q:f v=none):FarD n (Gr.label f v j) (putD es (.inl v) (.int (j:Int))):=by
 have a:∀ p∈es,p.1 ≠ (.inl v:Key):=fun p g e=>by
  obtain ⟨u,i,b,_,_,_,m⟩:=h.mem p.1 p.2 g
  rw [e] at b
  cases b
  rw [q] at m
  cases m
 have c:putD es (.inl v) (.int (j:Int))=es ++ [(.inl v,.int (j:Int))]:=by
  unfold putD
  rw [aF8]
  rw [aF5]
  rintro ⟨p,g,e⟩
  exact a p g (by simpa using e)
 rw [c]
 refine ⟨fun k d hm=>?_,fun u i l=>?_,?_,?_⟩
 ·rcases aA7.mp hm with hm | hm
  ·obtain ⟨u,i,b,r,m,A,z⟩:=h.mem k d hm
   have o:u ≠ v:=fun e=>a (k,d) hm (by rw [← e];exact b)
   exact ⟨u,i,b,r,m,A,by rw [Gr.label_ne o];exact z⟩
  ·have:(k,d)=((.inl v:Key),PyData.int (j:Int)):=by simpa using hm
   cases this
   exact ⟨v,j,rfl,rfl,v0,s,Gr.label_same⟩
 ·by_cases e:u=v
  ·subst e
   rw [Gr.label_same] at l
   cases l
   exact aB3 _ (aC2.mpr rfl)
  ·rw [Gr.label_ne e] at l
   exact aC7 _ (h.all u i l)
 ·rw [aE5,aE9]
  refine ⟨h.nd,by simp,fun x w y B=>?_⟩
  obtain ⟨p,g,rfl⟩:=aB7.mp w
  have:y=.inl v:=by simpa using B
  rw [this]
  exact a p g
 ·have b:=aea (d:=j) v0 q (n:=n.toNat) (by lia)
  have r:=h.len
  rw [aB1]
  simp only [aE6,aJ2]
  lia
theorem FarD.ne {n:Int} {f:Int->Option Nat} {es:List (Key × PyData)} (h:FarD n f es) {v:Int} {j:Nat} (a:f v=some j):es ≠ []:=fun e=>by
 have:=h.all v j a
 rw [e] at this
 cases this
theorem FarD.congr {n:Int} {f g:Int->Option Nat} {es:List (Key × PyData)} (h:FarD n f es) (e:∀ v,f v=g v):FarD n g es:=by
 have:f=g:=funext e
 rw [← this]
 exact h
theorem aw8:∀ (ns:List Int),aat (.list (ns.map .int))=true
 | []=>rfl
 | a :: ns=>by have:=aw8 ns;simp only [aat,aD1,plainDs] at *;simp [this]
theorem a2e (ns:List Int):(PyData.list (ns.map .int)).depth<=60:=by
 have:PyData.depthAll (ns.map .int)<=1:=ahj fun d hd=>by
  obtain ⟨_,_,rfl⟩:=aB7.mp hd
  simp [PyData.depth]
 simp only [PyData.depth]
 lia
theorem azo (ns:List Int):PyData.eqv (.list (ns.map .int)) (.list [])=ns.isEmpty:=by cases ns <;> rfl
structure FarsD (n:Int) (es:List (Int × Int)) (ess:List (List (Key × PyData))):Prop where
 len:(ess.length:Int)=n
 row:∀ (v:Int) fs,0<=v->ess[v.toNat]?=some fs->FarD n (Gr.farO (Tied es) v) fs
def azp:VP:=fun ss Q=>∃ (n:Int) (es:List (Int × Int)),ss=[.st (webD n es)]/\0<=n/\n<=100/\InN n es/\es.length<=10000/\∀ tl,TiedL n (Tied es) tl->Q (.own (ODL (tlD tl)))
def azq:VP:=fun ss Q=>∃ (n:Int) (es:List (Int × Int)),ss=[.st (webD n es)]/\1<=n/\n<=100/\InN n es/\es.length<=10000/\∀ ess,FarsD n es ess->Q (.own (OL (ess.map ab7)))
section
variable {P:Program} {w:World} {K:Frag} {mg:Str->Option Value} {base:Heap}
theorem sc_law_tied:FnScope ["web","found","a","b"] ["web"] (aal s_law_tied):=by row_cond sc
theorem an8 (T:Txt K mg):Can P w K mg base "_law_tied" 1 ["web"] (spP K (azp)):=by
 obtain ⟨f,fd,D⟩:=T.d_law_tied
 refine D.can (D.fn.ok sc_law_tied (fun vs H Q E h=>lenP h fun ss I q=>by obtain ⟨n,es,rfl,J,M,l,y,k⟩:=q;rfl) (fun cdv A outer s H vs Q E C h=>?_))
 have nd:=sc_law_tied.nd
 refine ⟨_,(aac (aan (i:=1) nd rfl (Or.inl rfl) (ad5 (ark rfl) (by rfl) T.b_dict ao7 (aaa (acz rfl (N:=["place"]) (src:=[none]) (by exact abe rfl rfl rfl rfl rfl rfl) (abk rfl T.b_range (aaa (aao aaq (pv 0) aae (fun _ _=>rfl)) aab)) (fun _ _ _ _=>(aaj (i:=0) (show List.Nodup (["place"]:List Str) by decide +kernel) rfl (Or.inl rfl) (hf:=Or.inr rfl))) (fun _ _ _ _=>abb) (fun _ _ _ _=>(abd (aaa (pv 0) (aaa (aa8 aab) aab))))) aab)))
  (aac (abp aK0 rfl (aba (aao aaq (pv 0) aae (fun _ _=>rfl))) (ac9 rfl (aa0 (aaj (i:=2) nd rfl (Or.inl rfl)) (aa0 (aaj (i:=3) nd rfl (Or.inl rfl)) acp)))
   (aac (abj (acy PySem.F.plainAttrs_list PySem.F.slot_list_append PySem.F.type_list_append abr (aja (adg C) (pv 1) (pv 2) (fun _ _=>rfl)) (aaa (pv 3) aab)))
    (aah (abj (acy PySem.F.plainAttrs_list PySem.F.slot_list_append PySem.F.type_list_append abr (aja (adg C) (pv 1) (pv 3) (fun _ _=>rfl)) (aaa (pv 2) aab))))))
  (aah (aau (pv 1))))),?_⟩
 refine abi h fun ss I q B O=>?_
 obtain ⟨n,es,rfl,J,M,l,y,k⟩:=q
 show EvS B _ _ [some (.st (webD n es)),none,none,none]
 row_cond go
 refine aty ?_
 row_cond go
 refine ⟨n.toNat,rfl,by lia,?_⟩
 row_cond go
 refine ade (fun i e=>∃ o x tl,e=[some (.st (webD n es)),some (.own (ODL (tlD tl))),o,x]/\TiedL n (Tied (es.take i)) tl/\∀ c∈tl,c.length<=2 * i)
  ⟨none,none,List.replicate n.toNat [],by simp [tlD],⟨by simp;lia,fun i c hi w=>?_⟩,fun c G=>?_⟩ ?_ ?_
 ·rw [aH9] at hi
  split at hi
  ·cases hi;simp [Tied]
  ·cases hi
 ·have:=List.eq_of_mem_replicate G
  subst this;simp
 ·rintro i ⟨a,b⟩ e r ⟨o,x,tl,rfl,m,j⟩
  have hi:i < es.length:=(aA1.mp r).1
  obtain ⟨a0,a1,b0,b1⟩:=l _ (aA2 r)
  dsimp only at a0 a1 b0 b1
  row_cond go
  obtain ⟨c,d,_⟩:=m.get a0 a1
  have L:=j c (aA2 d)
  refine aiz (n:=a.toNat) (ds:=c.map .int) rfl rfl rfl (by lia) (adt d) (by rw [aA3];lia) ?_
  dsimp only [List.set_cons_zero,List.set_cons_succ]
  have p:=m.put (q:=b) a0 a1 d
  rw [show c.map PyData.int ++ [.int b]=(c ++ [b]).map .int by simp,ag7]
  have g:∀ us∈tl.set a.toNat (c ++ [b]),us.length<=2 * i+1:=fun us z=>by
   rcases List.mem_or_eq_of_mem_set z with h | h
   ·have:=j us h;lia
   ·subst h;simp;lia
  generalize tl.set a.toNat (c ++ [b])=tl2 at p g
  row_cond go
  obtain ⟨c,d,_⟩:=p.get b0 b1
  have L:=g c (aA2 d)
  refine aiz (n:=b.toNat) (ds:=c.map .int) rfl rfl rfl (by lia) (adt d) (by rw [aA3];lia) ?_
  dsimp only [List.set_cons_zero,List.set_cons_succ]
  rw [show c.map PyData.int ++ [.int a]=(c ++ [a]).map .int by simp,ag7]
  refine ⟨_,_,_,rfl,(p.put (q:=a) b0 b1 d).iff fun u v=>(Tied.snoc r u v).symm,fun us z=>?_⟩
  rcases List.mem_or_eq_of_mem_set z with h | h
  ·have:=g us h;lia
  ·subst h;simp;lia
 ·rintro e ⟨o,x,tl,rfl,m,j⟩
  rw [aH0] at m
  row_cond go
  exact k tl m
theorem sc_law_fars:FnScope ["web","tied","table","place","found","ring","far","later","one","other"] ["web"] (aal s_law_fars):=by row_cond sc
theorem an9 (T:Txt K mg):Can P w K mg base "_law_fars" 2 ["web"] (spP K (azq)):=by
 obtain ⟨f,fd,D⟩:=T.d_law_fars
 refine D.can (D.fn.ok sc_law_fars (fun vs H Q E h=>lenP h fun ss Q' q=>by obtain ⟨n,es,rfl,n0,n1,O,a2,k⟩:=q;rfl) (fun cdv A outer s H vs Q E X h=>?_))
 have nd:=sc_law_fars.nd
 refine ⟨_,(aac (aan (i:=1) nd rfl (Or.inl rfl) (aaf (an8 T) X (aaa (pv 0) aab)))
  (aac (aan (i:=2) nd rfl (Or.inl rfl) (aa8 aab))
  (aac (abp aK0 rfl (abk rfl T.b_range (aaa (aao aaq (pv 0) aae (fun _ _=>rfl)) aab)) (aaj (i:=3) nd rfl (Or.inl rfl))
   (aac (aan (i:=4) nd rfl (Or.inl rfl) (axi (aut (pv 3) aae axh) rfl rfl (by simp) (by decide)))
    (aac (aan (i:=5) nd rfl (Or.inl rfl) (aa8 (aaa (pv 3) aab)))
    (aac (aan (i:=6) nd rfl (Or.inl rfl) aae)
    (aac (alz aK0 (aa7 (as0 X.units) (pv 5) (aa8 aab) (aay _))
     (aac (aan (i:=6) nd rfl (Or.inl rfl) (aav abq (pv 6) aae))
      (aac (aan (i:=7) nd rfl (Or.inl rfl) (aa8 aab))
      (aac (abp aK0 rfl (aba (pv 5)) (aaj (i:=8) nd rfl (Or.inl rfl))
       (aah (abp aK0 rfl (aba (aja (adg X) (pv 1) (pv 8) (fun _ _=>rfl))) (aaj (i:=9) nd rfl (Or.inl rfl))
         (aah (abl (ar3 (aka (adg X) (pv 9) (pv 4)))
           (aac (afk (adg X) (pv 4) (pv 9) (pv 6) rfl)
            (aah (abj (acy PySem.F.plainAttrs_list PySem.F.slot_list_append PySem.F.type_list_append abr (pv 7) (aaa (pv 9) aab)))))
           aa1)))))
      (aah (aan (i:=5) nd rfl (Or.inl rfl) (pv 7)))))))
    (aah (abj (acy PySem.F.plainAttrs_list PySem.F.slot_list_append PySem.F.type_list_append abr (pv 2) (aaa (pv 4) aab)))))))))
  (aah (aau (pv 2)))))),?_⟩
 refine abi h fun ss Q' q B hK=>?_
 obtain ⟨n,es,rfl,n0,n1,O,a2,k⟩:=q
 show EvS B _ _ [some (.st (webD n es)),none,none,none,none,none,none,none,none,none]
 row_cond go
 refine ⟨n,es,rfl,by lia,n1,O,a2,fun tl ht=>ab2 ay6 ?_⟩
 have hT:∀ u v:Int,Tied es u v->0<=v/\v < n:=fun u v h=>(h.in O).2
 have a7:(tlD tl).map PyData.list ≠ []:=fun e=>by
  have:=ht.1
  have h2:=congrArg List.length e
  simp [tlD] at h2
  rw [h2] at this
  simp at this
  lia
 have M:∀ p:Int,0<=p->p < n->∃ W:List Int,valD (kvD ((tlD tl).map PyData.list)) (.inl p)=some (.list (W.map .int))/\∀ u,u∈W ↔ Tied es p u:=fun p p0 p1=>by
  obtain ⟨W,S,hw⟩:=ht.get p0 p1
  exact ⟨W,ay5 p0 (by rw [aA5,adt S];rfl),hw⟩
 row_cond go
 refine acm (fun i e=>∃ ess v3 v4 v5 v6 U z o,e=[some (.st (webD n es)),some (.st (ab7 (kvD ((tlD tl).map PyData.list)))),some (.own (OL (List.map ab7 ess))),v3,v4,v5,v6,U,z,o]/\ess.length=i/\∀ (v:Int) fs,0<=v->ess[v.toNat]?=some fs->FarD n (Gr.farO (Tied es) v) fs) ⟨[],_,_,_,_,_,_,_,rfl,rfl,fun v fs _ h=>by simp at h⟩ ?_ ?_
 ·rintro i e hi ⟨ess,v3,v4,v5,v6,U,z,o,rfl,L,y⟩
  obtain ⟨a,ha,a0,a1⟩:∃ a:Int,a=0+(i:Int)/\0<=a/\a < n:=⟨_,rfl,by lia,by lia⟩
  rw [← ha]
  row_cond go
  refine ato rfl ?_
  row_cond go
  refine apo 5 rfl acw ?_
  dsimp only [List.set_cons_zero,List.set_cons_succ]
  refine akg (fun m e=>∃ U z o far fe edge G,e=[some (.st (webD n es)),some (.st (ab7 (kvD ((tlD tl).map PyData.list)))),some (.own (OL (List.map ab7 ess))),some (.st (.int a)),some (.own (OD fe)),some (.st (.list (edge.map .int))),some (.st (.int ((G:Nat):Int))),U,z,o]/\Gr.Ring (Tied es) a G far edge/\FarD n far fe/\(∀ v∈edge,0<=v/\v < n)/\m=2 * cnt far n.toNat+(if edge=[] then 0 else 1))
   ⟨_,_,_,_,_,_,[a],0,rfl,Gr.Ring.start,FarD.start a0 a1,fun v r=>by simp at r;subst r;exact ⟨a0,a1⟩,rfl⟩ ?_
  rintro m e ⟨U,z,o,far,fe,edge,G,rfl,hR,hF,hb,rfl⟩
  row_cond go
  refine apk (aw8 _) rfl (a2e _) ?_
  rw [azo]
  cases hedge:edge with
  | nil =>
   subst hedge
   row_cond go
   rw [aF8 (show ¬ ((!([]:List Int).isEmpty)=true) from aB0)]
   row_cond go
   refine ⟨_,rfl,by rw [aA3];lia,?_⟩
   refine ⟨ess ++ [fe],_,_,_,_,_,_,_,by rw [aE5];rfl,by rw [aB1,L];rfl,fun v fs v0 r=>?_⟩
   by_cases hvi:v.toNat < i
   ·rw [aC3 (by lia)] at r
    exact y v fs v0 r
   ·have a5:=(aA1.mp r).1
    simp at a5
    have a6:v.toNat=i:=by lia
    rw [a6,aC8 (by lia),L,aI9] at r
    cases r
    rw [show v=a by lia]
    exact hF.congr hR.fin
  | cons e0 er =>
   rw [← hedge]
   have Z:edge ≠ []:=by rw [hedge];simp
   row_cond go
   rw [aF7 (show (!edge.isEmpty)=true by rw [hedge];rfl)]
   row_cond go
   refine ade (fun i e=>∃ z o b c beyond,e=[some (.st (webD n es)),some (.st (ab7 (kvD ((tlD tl).map PyData.list)))),some (.own (OL (List.map ab7 ess))),some (.st (.int a)),some (.own (OD c)),some (.st (.list (edge.map .int))),some (.st (.int ((G:Int)+1))),some (.own (OL (beyond.map .int))),z,o]/\Gr.Mid (Tied es) G far edge (fun u=>u∈edge.take i) b beyond/\FarD n b c/\cnt b n.toNat+beyond.length=cnt far n.toNat/\∀ v∈beyond,0<=v/\v < n)
    ⟨z,o,far,fe,[],rfl,Gr.Mid.start.imp fun u N=>by simp at N,hF,rfl,fun v r=>by simp at r⟩ ?_ ?_
   ·rintro i p e hp ⟨z,o,b,c,beyond,rfl,J,g,I,l⟩
    have Y:=aA2 hp
    obtain ⟨p0,p1⟩:=hb p Y
    obtain ⟨W,S,hw⟩:=M p p0 p1
    row_cond go
    refine av3 ?_
    row_cond go
    refine ⟨kvD ((tlD tl).map PyData.list),.inl p,_,rfl,a1w a7,rfl,S,?_⟩
    row_cond go
    refine ade (fun j e=>∃ o b c beyond,e=[some (.st (webD n es)),some (.st (ab7 (kvD ((tlD tl).map PyData.list)))),some (.own (OL (List.map ab7 ess))),some (.st (.int a)),some (.own (OD c)),some (.st (.list (edge.map .int))),some (.st (.int ((G:Int)+1))),some (.own (OL (beyond.map .int))),some (.st (.int p)),o]/\Gr.Mid (Tied es) G far edge (fun u=>u∈edge.take i) b beyond/\FarD n b c/\cnt b n.toNat+beyond.length=cnt far n.toNat/\(∀ v∈beyond,0<=v/\v < n)/\∀ x∈W.take j,b x ≠ none)
     ⟨o,b,c,beyond,rfl,J,g,I,l,fun x R=>by simp at R⟩ ?_ ?_
    ·rintro j u e N ⟨o,b,c,beyond,rfl,J,g,I,l,C⟩
     have tu:Tied es p u:=(hw u).mp (aA2 N)
     obtain ⟨u0,u1⟩:=hT _ _ tu
     have a3:=g.val u
     have b1:=g.len
     have a9:c.length<=999999:=by lia
     row_cond go
     rw [a3]
     cases hf:b u with
     | none =>
      rw [aF7 (show (!((none:Option Nat).map fun (j:Nat)=>PyData.int (j:Int)).isSome)=true from rfl)]
      have a8:=aea (d:=G+1) u0 hf (n:=n.toNat) (by lia)
      have a4:∀ m,cnt far m<=m:=fun m=>by
       induction m with
       | zero=>exact aA6 _
       | succ m ih=>unfold cnt;split <;> lia
      have:=a4 n.toNat
      row_cond go
      refine ⟨some (.st (.int u)),Gr.label b u (G+1),_,beyond ++ [u],by simp,J.add Y tu hf,g.put u0 u1 hf,by simp;lia,fun v r=>?_,fun x R=>?_⟩
      ·rcases aA7.mp r with h | h
       ·exact l v h
       ·have:v=u:=by simpa using h
        subst this;exact ⟨u0,u1⟩
      ·by_cases hx2:x=u
       ·subst hx2;rw [Gr.label_same];simp
       ·rw [Gr.label_ne hx2]
        rcases ab1 N R with h | h
        ·exact C x h
        ·exact absurd h hx2
     | some d =>
      rw [aF8 (show ¬ ((!((some d:Option Nat).map fun (j:Nat)=>PyData.int (j:Int)).isSome)=true) from aB0)]
      row_cond go
      refine ⟨_,b,c,beyond,rfl,J,g,I,l,fun x R=>?_⟩
      rcases ab1 N R with h | h
      ·exact C x h
      ·subst h;rw [hf];simp
    ·rintro e ⟨o,b,c,beyond,rfl,J,g,I,l,C⟩
     rw [aH0] at C
     refine ⟨_,_,b,c,beyond,rfl,?_,g,I,l⟩
     refine (J.did (u:=p) fun x tx=>C x ((hw x).mpr tx)).imp fun x R=>?_
     exact ab1 hp R
   ·rintro e ⟨z,o,b,c,beyond,rfl,J,g,I,l⟩
    row_cond go
    refine ⟨_,?_,_,_,_,b,c,beyond,G+1,rfl,hR.next J fun u N=>by rw [aH0];exact N,g,l,rfl⟩
    rw [aF8 Z]
    cases beyond with
    | nil=>rw [aF7 rfl];simp at I;lia
    | cons b0 br=>rw [aF8 (by simp)];simp at I;lia
 ·rintro e ⟨ess,v3,v4,v5,v6,U,z,o,rfl,L,y⟩
  row_cond go
  exact k ess ⟨by lia,y⟩
end
theorem addAll_mem {p:Int × Int}:∀ {es ps:List (Int × Int)},p∈es.foldl addP ps ↔ p∈ps\/p∈es
 | [],ps=>by simp
 | e :: es,ps=>by
  rw [List.foldl_cons,addAll_mem,addP_mem,aA9,or_assoc]
theorem ai3:∀ {es ps:List (Int × Int)},(es.foldl addP ps).length<=ps.length+es.length
 | [],_=>aA6 _
 | e :: es,ps=>by
  rw [List.foldl_cons,aE6]
  have b:=ai3 (es:=es) (ps:=addP ps e)
  have a:=aev (ps:=ps) (p:=e)
  lia
theorem auh {T U:Int->Int->Prop} (h:∀ u v,T u v->U u v) {a v:Int} {d:Nat} (w:Gr.Walk T a d v):Gr.Walk U a d v:=by
 induction w with
 | refl=>exact .refl
 | step _ t ih=>exact .step ih (h _ _ t)
def azr:VIo:=fun A ss Q=>A=ODk/\ss=[]/\∀ (n:Int) (es:List (Int × Int)),1<=n->n<=60->InN n es->es.length<=2000->Joined n es->Q ODk (.st (webD n es))
section
variable {P:Program} {w:World} {K:Frag} {mg:Str->Option Value} {base:Heap}
theorem sc_law_joined_web:FnScope ["deck","n","ties","fars","more","place"] ["deck"] (aal s_law_joined_web):=by row_cond sc
theorem agv (T:Txt K mg):Can P w K mg base "_law_joined_web" 5 ["deck"] (spI K (azr)):=by
 obtain ⟨f,fd,D⟩:=T.d_law_joined_web
 refine D.can (D.fn.ok sc_law_joined_web (fun vs H Q E h=>lenI h fun A ss S q=>by obtain ⟨rfl,rfl,k⟩:=q;rfl) (fun cdv A outer s H vs Q E g h=>?_))
 have nd:=sc_law_joined_web.nd
 refine ⟨_,(aac (acr (aaf (aos T) g (aaa (pv 0) aab)) (ac9 rfl (aa0 (aaj (i:=1) nd rfl (Or.inl rfl)) (aa0 (aaj (i:=2) nd rfl (Or.inl rfl)) acp))))
  (aac (aan (i:=3) nd rfl (Or.inl rfl) (aaf (an9 T) g (aaa (abd (aaa (pv 1) (aaa (pv 2) aab))) aab)))
  (aac (aan (i:=4) nd rfl (Or.inl rfl) (ad5 (arn rfl g.units) (by rfl) T.b_dict ao7 (aaa (acz rfl (N:=["tie"]) (src:=[none]) (by exact abe rfl rfl rfl rfl rfl rfl) (aba (pv 2)) (fun _ _ _ _=>(aaj (i:=0) (show List.Nodup (["tie"]:List Str) by decide +kernel) rfl (Or.inl rfl) (hf:=Or.inr rfl))) (fun _ _ _ _=>abb) (fun _ _ _ _=>(abd (aaa (pv 0) (aaa ace aab))))) aab)))
  (aac (abp aK0 rfl (ad4 rfl T.b_range (aaa aae (aaa (pv 1) aab))) (aaj (i:=5) nd rfl (Or.inl rfl))
   (aah (abl (ar3 (aka (adg g) (pv 5) (aao aaq (pv 3) aae (fun _ _=>rfl))))
     (aah (afk (adg g) (pv 4) (abd (aaa aae (aaa (pv 5) aab))) ace rfl))
     aa1)))
  (aah (aau (abd (aaa (pv 1) (aaa (aak (afd rfl) (by rfl) T.b_sorted act (aaa (pv 4) aab)) aab))))))))),?_⟩
 refine als h fun A0 ss S q B Z=>?_
 obtain ⟨rfl,rfl,k⟩:=q
 show EvS B _ _ [some (.io ODk),none,none,none,none,none]
 row_cond go
 refine ⟨rfl,rfl,fun n es I Y m U=>?_⟩
 row_cond go
 refine ⟨n,es,rfl,I,by lia,m,by lia,fun ess l=>ab2 acw ?_⟩
 obtain ⟨fs,o⟩:∃ fs,ess[(0:Int).toNat]?=some fs:=⟨_,aA0 (by have:=l.len;simp;lia)⟩
 have J:=l.row 0 fs (by lia) o
 have M:atI (ess.map ab7) 0=some (ab7 fs):=afr (f:=ab7) (adm (by lia) o)
 have G:fs ≠ []:=J.ne (Gr.farO_self (T:=Tied es) (a:=0))
 row_cond go
 refine at3 ?_
 row_cond go
 refine ⟨es,rfl,by lia,?_⟩
 row_cond go
 refine acm (fun i e=>∃ C ps,e=[some (.io ODk),some (.st (.int n)),some (.st (.list (es.map prD))),some (.st (.list (ess.map ab7))),some (.own (OT (kE ps))),C]/\InN n ps/\ps.length<=1900+i/\(∀ p∈es,p∈ps)/\∀ v:Int,1<=v->v < 1+(i:Int)->Gr.farO (Tied es) 0 v=none->(0,v)∈ps)
  ⟨_,_,rfl,fun p c=>m p ((addAll_mem.mp c).resolve_left (by simp)),by have:=ai3 (es:=es) (ps:=[]);simp at this;lia,fun p c=>addAll_mem.mpr (.inr c),fun v h1 h2=>by lia⟩ ?_ ?_
 ·rintro i e hi ⟨C,ps,rfl,x,L,r,b⟩
  have W:(kE ps).length<=999999:=by rw [aeb];lia
  have F:1+(i:Int) < n:=by lia
  row_cond go
  refine arj ?_
  row_cond go
  refine ⟨fs,.inl (1+(i:Int)),rfl,G,rfl,?_⟩
  rw [J.val]
  row_cond go
  cases hf:Gr.farO (Tied es) 0 (1+(i:Int)) with
  | none =>
   refine aco ?_
   row_cond go
   rw [agm]
   refine ⟨_,_,rfl,aha x (by lia) (by lia) (by lia) F,by have:=aev (ps:=ps) (p:=(0,1+(i:Int)));lia,fun p c=>addP_mem.mpr (.inl (r p c)),fun v y R j=>addP_mem.mpr ?_⟩
   by_cases hvi:v=1+(i:Int)
   ·exact .inr (by rw [hvi])
   ·exact .inl (b v y (by lia) j)
  | some d =>
   refine adk ?_
   row_cond go
   refine ⟨_,_,rfl,x,by lia,r,fun v y R j=>?_⟩
   by_cases hvi:v=1+(i:Int)
   ·rw [hvi,hf] at j;cases j
   ·exact b v y (by lia) j
 ·rintro e ⟨C,ps,rfl,x,L,r,b⟩
  iterate 6 row_cond st
  refine abh (af2 (.inl rfl) fun qs c hs=>acf ?_)
  row_cond go
  have X:∀ u v,Tied es u v->Tied qs u v:=fun u v h=>by
   rcases h with h | h
   ·exact .inl (c.mem_iff.mpr (r _ h))
   ·exact .inr (c.mem_iff.mpr (r _ h))
  refine k n qs I Y (fun p z=>x p (c.mem_iff.mp z)) (by rw [c.length_eq];lia) fun v v0 y=>?_
  cases hf:Gr.farO (Tied es) 0 v with
  | some d =>
   obtain ⟨O,_⟩:=Gr.farO_some.mp hf
   obtain ⟨d',_,hd⟩:=Gr.Dist.of_walk (auh X O)
   exact ⟨d',hd⟩
  | none =>
   by_cases hv0:v=0
   ·rw [hv0];exact ⟨0,Gr.Dist.self _ _⟩
   ·have:=b v (by lia) (by lia) hf
    obtain ⟨d',_,hd⟩:=Gr.Dist.of_walk (.step .refl (show Tied qs 0 v from .inl (c.mem_iff.mpr this)))
    exact ⟨d',hd⟩
end
theorem acd {n:Int} {es:List (Int × Int)} (a:Joined n es) {u v:Int} (b:0<=u) (c:u < n) (v0:0<=v) (f:v < n):0<=dsF es u v/\Gr.Dist (Tied es) u v (dsF es u v).toNat:=by
 obtain ⟨d,e⟩:=af4 a b c v0 f
 simp only [dsF,e,Option.getD_some]
 exact ⟨by lia,by rw [show ((d:Nat):Int).toNat=d by lia];exact Gr.farO_some.mp e⟩
theorem ai4 {es:List (Int × Int)} {u v:Int} {d:Nat} (h:Gr.Dist (Tied es) u v d):dsF es u v=d:=by
 simp only [dsF,Gr.farO_some.mpr h,Option.getD_some]
theorem aoa {es gs:List (Int × Int)} (h:∀ u v,Tied es u v ↔ Tied gs u v):dsF es=dsF gs:=by
 have:Tied es=Tied gs:=funext fun u=>funext fun v=>propext (h u v)
 unfold dsF
 rw [this]
theorem aui {T T':Int->Int->Prop} (g:∀ u v,T u v->T' u v) {u v:Int} {k:Nat} (w:Gr.Walk T u k v):Gr.Walk T' u k v:=w.rec .refl fun _ t a => .step a (g _ _ t)
theorem awh {n:Int} {es:List (Int × Int)} (c:Joined n es) (b:InN n es) {u v w:Int} (d:0<=u) (f:u < n) (t:Tied es v w):dsF es u w<=dsF es u v+1:=by
 have a:=t.in b
 have h:=acd c d f a.1.1 a.1.2
 have g:=acd c d f a.2.1 a.2.2
 have:=g.2.2 _ (.step h.2.1 t)
 lia
theorem ahx (es:List (Int × Int)) (u:Int):dsF es u u=0:=by rw [ai4 (Gr.Dist.self _ u)];rfl
theorem af5 (es:List (Int × Int)) (u v:Int):dsF es u v=dsF es v u:=by unfold dsF;rw [Gr.farO_comm fun _ _ t=>t.symm]
theorem awi {n:Int} {es:List (Int × Int)} (a:Joined n es) {u c x:Int} (b:0<=u) (d:u < n) (f:0<=c) (i:c < n) (g:0<=x) (h:x < n):dsF es u x<=dsF es u c+dsF es c x:=by
 have l:=acd a b d g h
 have j:=acd a b d f i
 have m:=acd a f i g h
 have:=l.2.2 _ (j.2.1.app m.2.1)
 lia
theorem ab9 {n:Int} {row:List Int} (o:Order n row) {y:Int} (c:0<=y) (b:y < n):∃ x,0<=x/\x < n/\aar row x=y:=by
 obtain ⟨i,hi⟩:=List.mem_iff_getElem?.mp (o.mem.mpr ⟨c,b⟩)
 have d:=o.len
 have:i < row.length:=(aA1.mp hi).1
 refine ⟨(i:Int),by lia,by lia,?_⟩
 have:=(o.at (a:=(i:Int)) (by lia) (by lia)).1
 rw [Int.toNat_natCast,hi] at this
 exact (aC6 this).symm
theorem auj {n:Int} {ps:List (Int × Int)} {row:List Int} (o:Order n row) (g:InN n ps) {v y:Int} (v0:0<=v) (i:v < n) (t:Tied (ps.map (reP row)) (aar row v) y):∃ w,0<=w/\w < n/\y=aar row w/\Tied ps v w:=by
 have inj:∀ {a b:Int},0<=a->a < n->0<=b->b < n->aar row a=aar row b->a=b:=fun a0 a1 b0 b1 e=>by
  apply aD5
  intro h
  exact o.ne a0 a1 b0 b1 h e
 have:∃ p∈ps,(aar row p.1=aar row v/\aar row p.2=y)\/(aar row p.2=aar row v/\aar row p.1=y):=by
  rcases t with t | t
  ·obtain ⟨p,c,e⟩:=aB7.mp t
   refine ⟨p,c,?_⟩
   unfold reP at e
   split at e
   ·exact .inl ⟨congrArg Prod.fst e,congrArg Prod.snd e⟩
   ·exact .inr ⟨congrArg Prod.fst e,congrArg Prod.snd e⟩
  ·obtain ⟨p,c,e⟩:=aB7.mp t
   refine ⟨p,c,?_⟩
   unfold reP at e
   split at e
   ·exact .inr ⟨congrArg Prod.snd e,congrArg Prod.fst e⟩
   ·exact .inl ⟨congrArg Prod.snd e,congrArg Prod.fst e⟩
 obtain ⟨p,c,h⟩:=this
 have hb:=g p c
 rcases h with ⟨d,f⟩ | ⟨d,f⟩
 ·have e:=inj hb.1 hb.2.1 v0 i d
  exact ⟨p.2,hb.2.2.1,hb.2.2.2,f.symm,.inl (by rw [← e];exact c)⟩
 ·have e:=inj hb.2.2.1 hb.2.2.2 v0 i d
  exact ⟨p.1,hb.1,hb.2.1,f.symm,.inr (by rw [← e];exact c)⟩
theorem ai5 {n:Int} {ps:List (Int × Int)} {row:List Int} (o:Order n row) (a:InN n ps) (r:Joined n ps) {u v:Int} (g:0<=u) (j:u < n) (v0:0<=v) (i:v < n):dsF (ps.map (reP row)) (aar row u) (aar row v)=dsF ps u v:=by
 have h:=acd r g j v0 i
 have s:∀ {k:Nat} {y:Int},Gr.Walk (Tied ps) u k y->Gr.Walk (Tied (ps.map (reP row))) (aar row u) k (aar row y):=fun w=>by
  induction w with
  | refl=>exact .refl
  | step _ t ih=>exact .step ih t.re
 have dn:∀ {k:Nat} {y:Int},Gr.Walk (Tied (ps.map (reP row))) (aar row u) k y->∃ w,0<=w/\w < n/\y=aar row w/\Gr.Walk (Tied ps) u k w:=fun w=>by
  induction w with
  | refl=>exact ⟨u,g,j,rfl,.refl⟩
  | step _ t ih =>
   obtain ⟨z,c,b,e,w⟩:=ih
   subst e
   obtain ⟨q,l,p,e,t'⟩:=auj o a c b t
   exact ⟨q,l,p,e,.step w t'⟩
 rw [ai4 (d:=(dsF ps u v).toNat) ⟨s h.2.1,fun k w=>?_⟩]
 ·lia
 ·obtain ⟨z,c,b,e,m⟩:=dn w
  have:v=z:=by
   apply aD5
   intro f
   exact o.ne v0 i c b f e
  subst this
  exact h.2.2 _ m
theorem a2f {n:Int} {ps:List (Int × Int)} {row:List Int} (o:Order n row) (a:InN n ps) (d:Joined n ps) {y:Int}:alt n.toNat (dsF (ps.map (reP row))) y ↔ alt n.toNat (dsF ps) y:=by
 constructor
 ·rintro ⟨⟨u,v,c,s,v0,l,e⟩,g⟩
  obtain ⟨i,a0,a1,rfl⟩:=ab9 o c (by lia)
  obtain ⟨j,b0,b1,rfl⟩:=ab9 o v0 (by lia)
  rw [ai5 o a d a0 a1 b0 b1] at e
  refine ⟨⟨i,j,a0,by lia,b0,by lia,e⟩,fun p q p0 m b r=>?_⟩
  rw [← ai5 o a d p0 (by lia) b (by lia)]
  have h:=(o.at p0 (show p < n by lia)).2
  have f:=(o.at b (show q < n by lia)).2
  exact g _ _ h.1 (by lia) f.1 (by lia)
 ·rintro ⟨⟨u,v,c,s,v0,l,e⟩,g⟩
  have h:=(o.at c (show u < n by lia)).2
  have f:=(o.at v0 (show v < n by lia)).2
  refine ⟨⟨_,_,h.1,by lia,f.1,by lia,by rw [ai5 o a d c (by lia) v0 (by lia)];exact e⟩,fun p q p0 m b r=>?_⟩
  obtain ⟨i,a0,a1,rfl⟩:=ab9 o p0 (by lia)
  obtain ⟨j,b0,b1,rfl⟩:=ab9 o b (by lia)
  rw [ai5 o a d a0 a1 b0 b1]
  exact g _ _ a0 (by lia) b0 (by lia)
theorem aj1 {n:Int} {es:List (Int × Int)} (a:Joined n es) {u v:Int} (b:0<=u) (c:u < n) (v0:0<=v) (d:v < n) (h:dsF es u v<=0):u=v:=by
 obtain ⟨f,hd⟩:=acd a b c v0 d
 rw [show (dsF es u v).toNat=0 by lia] at hd
 cases hd.1
 rfl
theorem azs {n:Int} {es:List (Int × Int)} (g:Joined n es) (a:InN n es) {u v:Int} (i:0<=u) (j:u < n) (v0:0<=v) (c:v < n) (h:u ≠ v):∃ p,0<=p/\p < n/\Tied es u p/\dsF es p v=dsF es u v - 1:=by
 obtain ⟨r,hd⟩:=acd g v0 c i j
 obtain ⟨k,m⟩:∃ k,(dsF es v u).toNat=k+1:=by
  cases e:(dsF es v u).toNat with
  | zero=>exact absurd (aj1 g v0 c i j (by lia)).symm h
  | succ k=>exact ⟨k,rfl⟩
 rw [m] at hd
 have b:=hd.1
 cases b with
 | @step _ p _ b t =>
  have x:=t.in a
  obtain ⟨d,l,f⟩:=Gr.Dist.of_walk b
  have o:=ai4 f
  have q:=awh g a v0 c t
  have s:=af5 es v p
  have w:=af5 es v u
  exact ⟨p,by lia,by lia,t.symm,by lia⟩
theorem aqj {n:Int} {es qs:List (Int × Int)} (b:Joined n es) (hs:∀ p∈es,p∈qs) {u v:Int} (f:0<=u) (g:u < n) (v0:0<=v) (h:v < n):dsF qs u v<=dsF es u v:=by
 obtain ⟨i,hd⟩:=acd b f g v0 h
 obtain ⟨d,c,a⟩:=Gr.Dist.of_walk (aui (T':=Tied qs) (fun u v t=>t.imp (hs _) (hs _)) hd.1)
 rw [ai4 a]
 lia
theorem FarOk.le {n:Int} {es qs:List (Int × Int)} {x a b d f c:Int} (h:FarOk n es x a b) (g:FarOk n qs d f c) (i:Joined n es) (hs:∀ p∈es,p∈qs):d<=x:=by
 have l:=aqj i hs g.a0 g.a1 g.b0 g.b1
 have j:=h.top.2 f c g.a0 (by have:=g.a1;lia) g.b0 (by have:=g.b1;lia)
 have m:=g.eq
 lia
theorem FarOk.ab {n:Int} {es:List (Int × Int)} {x a b:Int} (h:FarOk n es x a b) (c:Joined n es) (f:1<=n):a < b ↔ 1 < n:=by
 have:=h.a0
 have:=h.a1
 have:=h.b0
 have:=h.b1
 constructor
 ·intro z
  lia
 ·intro z
  have g:=h.fst b a h.b0 h.b1 h.a0 h.a1 (by rw [af5];exact h.eq)
  by_cases e:a=b
  ·subst e
   have d:=h.eq
   rw [ahx] at d
   have i:=h.top.2 0 1 (by lia) (by lia) (by lia) (by lia)
   have:=aj1 c (u:=0) (v:=1) (by lia) (by lia) (by lia) (by lia) (by lia)
   lia
  ·lia
theorem azt {n:Nat} {m a:Int->Int->Int} (h:matD n m=matD n a) {u v:Int} (b:0<=u) (c:u < n) (v0:0<=v) (d:v < n):m u v=a u v:=by
 have f:=ags (m:=m) b c
 rw [h,ags b c] at f
 have i:rowD n (a u)=rowD n (m u):=PyData.list.inj (aC6 f)
 have g:=ai2 (r:=m u) v0 d
 rw [← i,ai2 v0 d] at g
 exact (PyData.int.inj (aC6 g)).symm
theorem akw {n d:Int} {es:List (Int × Int)} {m:Int->Int->Int} (j:Joined n es) (f:InN n es) (hm:matD n.toNat (dsF es)=matD n.toNat m) (s:1<=n):aqf n es d m ↔ ∀ u v:Int,0<=u->u < n->0<=v->v < n->dsF es u v<=d:=by
 have e:∀ u v:Int,0<=u->u < n->0<=v->v < n->dsF es u v=m u v:=fun u v c i v0 g=>azt hm c (by lia) v0 (by lia)
 constructor
 ·intro h u v c i v0 g
  have l:=h.2 u v c i v0 g
  have r:=e u v c i v0 g
  by_cases z:u=v
  ·have:=l.1 z
   have:=h.1
   lia
  ·have:=(l.2 z).2.1
   lia
 ·intro h
  refine ⟨?_,fun a b a0 a1 b0 b1=>⟨fun z=>?_,fun z=>?_⟩⟩
  ·have:=h 0 0 (by lia) (by lia) (by lia) (by lia)
   rw [ahx] at this
   exact this
  ·rw [← e a b a0 a1 b0 b1,z,ahx]
  ·obtain ⟨p,p0,o,t,ep⟩:=azs j f a0 a1 b0 b1 z
   rw [← e a b a0 a1 b0 b1]
   refine ⟨?_,h a b a0 a1 b0 b1,p,t,by rw [← e p b p0 o b0 b1];exact ep⟩
   have w:=(acd j a0 a1 b0 b1).1
   by_cases q:1<=dsF es a b
   ·exact q
   ·exact absurd (aj1 j a0 a1 b0 b1 (by lia)) z
theorem MidOk.far {n:Int} {es:List (Int × Int)} {w x a b:Int} {ps:List Int} (h:MidOk n es w ps) (d:FarOk n es x a b) (m:Joined n es):w<=x/\x<=2 * w:=by
 refine ⟨?_,?_⟩
 ·obtain ⟨v,v0,q,o⟩:=h.lo a d.a0 d.a1
  have:=d.top.2 a v d.a0 (by have:=d.a1;lia) v0 (by lia)
  lia
 ·obtain ⟨c,g⟩:=List.exists_mem_of_ne_nil _ h.ne
  obtain ⟨i,j,f⟩:=(h.mem c).mp g
  have p:=f a d.a0 d.a1
  have r:=f b d.b0 d.b1
  have l:=awi m (u:=a) (c:=c) (x:=b) d.a0 d.a1 i j d.b0 d.b1
  rw [af5 es a c,d.eq] at l
  lia
theorem MidOk.less {n:Int} {es qs:List (Int × Int)} {w y:Int} {ps rs:List Int} (h:MidOk n es w ps) (g:MidOk n qs y rs) (j:Joined n es) (hs:∀ p∈es,p∈qs):y<=w:=by
 obtain ⟨c,f⟩:=List.exists_mem_of_ne_nil _ h.ne
 obtain ⟨a,d,i⟩:=(h.mem c).mp f
 obtain ⟨v,v0,b,l⟩:=g.lo c a d
 have m:=i v v0 b
 have o:=aqj j hs a d v0 b
 lia
theorem a2g {n:Int} {es qs:List (Int × Int)} {row:List Int} (c:Order n row) (b:InN n es) (f:qs.Perm (es.map (reP row))):InN n qs:=fun q h=>by
 obtain ⟨p,d,rfl⟩:=aB7.mp (f.mem_iff.mp h)
 have i:=b p d
 have g:=c.at (a:=p.1) (by lia) (by lia)
 have j:=c.at (a:=p.2) (by lia) (by lia)
 unfold reP
 split <;> exact ⟨by simp only;lia,by simp only;lia,by simp only;lia,by simp only;lia⟩
theorem auk {n:Int} {es qs:List (Int × Int)} {row:List Int} (b:Order n row) (c:Joined n es) (a:qs.Perm (es.map (reP row))) (d:1<=n):Joined n qs :=
 Conn.joined ((c.conn.re b).mono fun u v t=>t.imp a.mem_iff.mpr a.mem_iff.mpr) (by lia)
theorem ahb {n:Int} {es qs:List (Int × Int)} {row:List Int} (c:Order n row) (a:InN n es) (d:Joined n es) (b:qs.Perm (es.map (reP row))) {u v:Int} (f:0<=u) (g:u < n) (v0:0<=v) (h:v < n):dsF qs (aar row u) (aar row v)=dsF es u v:=by
 rw [aoa (es:=qs) (gs:=es.map (reP row)) fun u v=>or_congr b.mem_iff b.mem_iff]
 exact ai5 c a d f g v0 h
theorem awj {n:Int} {es qs:List (Int × Int)} {row:List Int} {x a b j o p:Int} (r:Order n row) (c:InN n es) (s:Joined n es) (f:qs.Perm (es.map (reP row))) (h:FarOk n es x a b) (g:FarOk n qs j o p):j=x:=by
 have d:=g.top
 rw [aoa (es:=qs) (gs:=es.map (reP row)) fun u v=>or_congr f.mem_iff f.mem_iff] at d
 have i:=(a2f r c s).mp d
 obtain ⟨u,v,l,q,v0,m,e⟩:=i.1
 have y:=h.top.2 u v l q v0 m
 have z:=i.2 a b h.a0 (by have:=h.a1;lia) h.b0 (by have:=h.b1;lia)
 have w:=h.eq
 lia
theorem awk {n:Int} {es qs:List (Int × Int)} {row:List Int} {w y:Int} {ps rs:List Int} (b:Order n row) (f:InN n es) (z:Joined n es) (o:qs.Perm (es.map (reP row))) (h:MidOk n es w ps) (g:MidOk n qs y rs):y=w/\∀ u,u∈rs ↔ u∈ps.map (aar row):=by
 have e:y=w:=by
  have F:w<=y:=by
   obtain ⟨c,A⟩:=List.exists_mem_of_ne_nil _ g.ne
   obtain ⟨q,r,k1⟩:=(g.mem c).mp A
   obtain ⟨u,p,s,rfl⟩:=ab9 b q r
   obtain ⟨v,v0,d,B⟩:=h.lo u p s
   have a:=b.at v0 d
   have E:=k1 (aar row v) a.2.1 a.2.2
   rw [ahb b f z o p s v0 d] at E
   lia
  have a:y<=w:=by
   obtain ⟨c,A⟩:=List.exists_mem_of_ne_nil _ h.ne
   obtain ⟨q,r,k1⟩:=(h.mem c).mp A
   have a:=b.at q r
   obtain ⟨C,i,j,B⟩:=g.lo (aar row c) a.2.1 a.2.2
   obtain ⟨v,v0,d,rfl⟩:=ab9 b i j
   rw [ahb b f z o q r v0 d] at B
   have:=k1 v v0 d
   lia
  lia
 subst e
 refine ⟨rfl,fun u=>?_⟩
 rw [g.mem,aB7]
 constructor
 ·rintro ⟨p,s,k1⟩
  obtain ⟨x,l,m,rfl⟩:=ab9 b p s
  refine ⟨x,(h.mem x).mpr ⟨l,m,fun v v0 d=>?_⟩,rfl⟩
  have a:=b.at v0 d
  have:=k1 (aar row v) a.2.1 a.2.2
  rwa [ahb b f z o l m v0 d] at this
 ·rintro ⟨x,D,rfl⟩
  obtain ⟨l,m,k1⟩:=(h.mem x).mp D
  have a:=b.at l m
  refine ⟨a.2.1,a.2.2,fun v v0 d=>?_⟩
  obtain ⟨C,i,j,rfl⟩:=ab9 b v0 d
  rw [ahb b f z o l m i j]
  exact k1 C i j
theorem MidOk.sees {n:Int} {es:List (Int × Int)} {w m u:Int} {ps:List Int} (h:MidOk n es w ps) (c:0<=u) (d:u < n) (hm:adb ((List.range n.toNat).map fun (i:Nat)=>dsF es u (i:Int)) m):w<=m/\(m=w ↔ u∈ps):=by
 have a:∀ v:Int,0<=v->v < n->dsF es u v<=m:=fun v v0 b=>hm.2 _ (aB7.mpr ⟨v.toNat,aB9.mpr (by lia),by rw [show ((v.toNat:Nat):Int)=v by lia]⟩)
 obtain ⟨i,hi,o⟩:=aB7.mp hm.1
 have f:=aB9.mp hi
 obtain ⟨v,v0,b,j⟩:=h.lo u c d
 have l:=a v v0 b
 refine ⟨by lia,fun e=>(h.mem u).mpr ⟨c,d,fun v v0 b=>by have:=a v v0 b;lia⟩,fun g=>?_⟩
 have:=((h.mem u).mp g).2.2 (i:Int) (by lia) (by lia)
 lia
theorem FarOk.sees {n:Int} {es:List (Int × Int)} {x a b m u:Int} (h:FarOk n es x a b) (c:0<=u) (f:u < n) (hm:adb ((List.range n.toNat).map fun (i:Nat)=>dsF es u (i:Int)) m):m<=x:=by
 obtain ⟨i,hi,g⟩:=aB7.mp hm.1
 have d:=aB9.mp hi
 have:=h.top.2 u (i:Int) c (by lia) (by lia) (by lia)
 lia
theorem awl (ps:List Int) (u:Int):((ps.map PyData.int).any fun z=>PyData.eqv z (.int u))=decide (u∈ps):=by
 rw [aI0,aF5,decide_eq_true_iff]
 constructor
 ·rintro ⟨d,hd,e⟩
  obtain ⟨x,a,rfl⟩:=aB7.mp hd
  simp [PyData.eqv] at e
  exact e ▸ a
 ·intro h
  exact ⟨.int u,aB7.mpr ⟨u,h,rfl⟩,by simp [PyData.eqv]⟩
def ary (K:Frag):Sp:=fun vs H Q _=>∃ (a:Addr) (ns:List Int),vs=[.ref a]/\SqL K H a (ns.map V.int)/\ns.length<=63/\∀ H',Q (.bl true) H'
def aw9:VP:=fun ss Q=>∃ ns:List Int,ss=[.scr ns]/\ns.length<=63/\Q (.st (.bool true))
theorem awm {K:Frag} {vs:List V} {H:Hp} {Q:VK} {E:XK} (h:ary K vs H Q E):spP K aw9 vs H Q E:=by
 obtain ⟨a,ns,rfl,c,b,k⟩:=h
 refine ⟨H,[.scr ns],fun s=>s=.st (.bool true),Same.refl _,fun a ks h=>h,.cons ⟨a,rfl,c⟩ .nil,⟨ns,rfl,b,rfl⟩,fun s e v G' H' Fv o=>?_⟩
 subst e
 have r:=o.ok.1
 cases r
 exact k _
theorem aul (ns:List Int):plainDs (ns.map .int)=true:=(ahg _).mpr fun d hd=>by
 obtain ⟨x,_,rfl⟩:=aB7.mp hd
 rfl
theorem a2h (row:List Int) (p:Int × Int):PyData.tuple [.int (if aar row p.2 < aar row p.1 then aar row p.2 else aar row p.1),.int (if aar row p.2 > aar row p.1 then aar row p.2 else aar row p.1)]=prD (reP row p):=by
 unfold reP prD
 split <;> split <;> first | rfl | lia | (simp only [PyData.tuple.injEq,List.cons.injEq,PyData.int.injEq,and_true];lia)
theorem dueP (x:Int) (ps:List Int):aat (.tuple [.int x,.list (ps.map .int)])=true:=by
 have:=aul ps
 simp only [aat,plainDs] at this ⊢
 simp [this]
theorem a3l (x:Int) (ps:List Int):(PyData.tuple [.int x,.list (ps.map .int)]).depth<=60:=by
 have:PyData.depthAll (ps.map .int)<=1:=ahj fun d hd=>by
  obtain ⟨_,_,rfl⟩:=aB7.mp hd
  simp [PyData.depth]
 simp only [PyData.depth,PyData.depthAll]
 lia
theorem aob {n x:Int} {es:List (Int × Int)} {ps:List Int} (h:MidOk n es x ps):ps.length<=n.toNat:=by
 have hs:∀ u∈ps,u∈(List.range n.toNat).map fun (i:Nat)=>(i:Int):=fun u c=>by
  have:=(h.mem u).mp c
  exact aB7.mpr ⟨u.toNat,aB9.mpr (by lia),by lia⟩
 have:=aF0 (h.rise.imp fun {a b} d e=>by lia) hs
 rw [aA3,aE1] at this
 lia
theorem aum {n x:Int} {es qs:List (Int × Int)} {row ps c rs:List Int} (o:Order n row) (i:MidOk n es x ps) (j:MidOk n qs x c) (f:∀ u,u∈c ↔ u∈ps.map (aar row)) (l:rs.Perm (ps.map (aar row))) (hs:rs.Pairwise (·<=·)):rs=c:=by
 have g:(ps.map (aar row)).Nodup:=aG3.mpr ((List.Pairwise.and_mem.mp i.rise).imp fun {a b} h e=>by
  have ha:=(i.mem a).mp h.1
  have hb:=(i.mem b).mp h.2.1
  exact o.ne ha.1 ha.2.1 hb.1 hb.2.1 (by have:=h.2.2;lia) e)
 have m:rs.Pairwise (· < ·):=(hs.and (l.nodup_iff.mpr g)).imp fun {a b} d=>by
  have p:=d.1
  have q:=d.2
  lia
 exact agt m j.rise fun u=>by rw [l.mem_iff,f]
def arz:VP:=fun ss Q=>∃ (n:Int) (es:List (Int × Int)),ss=[.st (webD n es)]/\1<=n/\n<=60/\InN n es/\es.length<=4000/\Joined n es/\Q (.st (.bool true))
def awn:VIo:=fun A ss Q=>∃ (n:Int) (es:List (Int × Int)),A=ODk/\ss=[.st (webD n es)]/\1<=n/\n<=60/\InN n es/\es.length<=2000/\Joined n es/\Q ODk (.st (.bool true))
section
variable {P:Program} {w:World} {K:Frag} {mg:Str->Option Value} {base:Heap}
theorem sc_law_one_right:FnScope ["web","far","a","b","wide","places","paper","place","seen"] ["web"] (aal s_law_one_right):=by row_cond sc
theorem aeg (T:Txt K mg):Can P w K mg base "_law_one_right" 10 ["web"] (spP K (arz)):=by
 obtain ⟨f,fd,D⟩:=T.d_law_one_right
 refine D.can (D.fn.ok sc_law_one_right (fun vs H Q E h=>lenP h fun ss Q' q=>by obtain ⟨n,es,rfl,l,n1,c,N,g,Y⟩:=q;rfl) (fun cdv A outer s H vs Q E o h=>?_))
 have nd:=sc_law_one_right.nd
 refine ⟨_,(aac (acr (aaf (abw T) o (aaa (pv 0) aab)) (ac9 rfl (aa0 (aaj (i:=1) nd rfl (Or.inl rfl)) (aa0 (aaj (i:=2) nd rfl (Or.inl rfl)) (aa0 (aaj (i:=3) nd rfl (Or.inl rfl)) acp)))))
  (aac (acr (aaf (ad1 T) o (aaa (pv 0) aab)) (ac9 rfl (aa0 (aaj (i:=4) nd rfl (Or.inl rfl)) (aa0 (aaj (i:=5) nd rfl (Or.inl rfl)) acp))))
  (aac (abl (PW.pt (aez (aa7 agy (aaf (aor T) o (aaa (pv 0) (aaa (pv 2) (aaa (pv 3) aab)))) (pv 1) (aay _)) (aez (acn (ahm ady ady (pv 4) (pv 1) (aav afh aae (pv 4)))) (afg (aa7 agy (abz aqr (pv 2) (pv 3) (aay _)) (abz ah0 (aao aaq (pv 0) aae (fun _ _=>rfl)) aae (aay _)) (aay _))))))
   (aah (aau ace))
   aa1)
  (aac (aan (i:=6) nd rfl (Or.inl rfl) (aaf (alg T) o (aaa (pv 0) aab)))
  (aac (abl (PW.pt (aez (acn (ac1 (aaf (af8 T) o (aaa (pv 0) (aaa (pv 1) (aaa (pv 6) aab)))))) (afg (PW.pt (alx (aa7 ah0 (pv 1) aae (aay _)) (ai7 (ac1 (aaf (af8 T) o (aaa (pv 0) (aaa (aav aeo (pv 1) aae) (aaa (pv 6) aab)))))))))))
   (aah (aau ace))
   aa1)
  (aac (abp aK0 rfl (abk rfl T.b_range (aaa (aao aaq (pv 0) aae (fun _ _=>rfl)) aab)) (aaj (i:=7) nd rfl (Or.inl rfl))
   (aac (aan (i:=8) nd rfl (Or.inl rfl) (aak (adf rfl) (by rfl) T.b_max ach (aaa (aaf (aff T) o (aaa (pv 0) (aaa (pv 7) aab))) aab)))
    (aah (abl (PW.pt (aez (acn (ahm ady ady (pv 4) (pv 8) (pv 1))) (afg (aa7 agy (abz aeh (pv 8) (pv 4) (aay _)) (abz (a0q o.units) (pv 7) (pv 5) rfl) (aay _)))))
     (aah (aau ace))
     aa1))))
  (aah (aau ace)))))))),?_⟩
 refine abi h fun ss Q' q B hK=>?_
 obtain ⟨n,es,rfl,l,n1,c,N,g,Y⟩:=q
 show EvS B _ _ [some (.st (webD n es)),none,none,none,none,none,none,none,none]
 row_cond go
 refine ⟨n,es,rfl,l,by lia,c,by lia,g,fun x a b j=>?_⟩
 row_cond go
 refine ⟨n,es,rfl,l,by lia,c,by lia,g,fun U ps Z=>ab2 aiw ?_⟩
 have M:=j.ab g l
 obtain ⟨a4,a3⟩:=Z.far j g
 have p:=j.a0
 have F:=j.a1
 have r:=j.b0
 have I:=j.b1
 obtain ⟨dd,hd,ed⟩:∃ d:Nat,Gr.farO (Tied es) a b=some d/\dsF es a b=(d:Int):=by
  obtain ⟨d,e⟩:=af4 g p F r I
  exact ⟨d,e,by simp only [dsF,e,Option.getD_some]⟩
 rw [j.eq] at ed
 row_cond go
 refine ⟨n,a,b,es,rfl,by lia,c,by lia,p,by lia,r,by lia,?_⟩
 rw [hd,show oD (some dd)=PyData.int (dd:Int) from rfl]
 have G:=arx (n:=n) (by lia) (dsF es)
 have X:decide (a < b)=decide (1 < n):=by rw [decide_eq_decide];exact M
 row_cond go
 refine ⟨n,es,rfl,l,by lia,c,by lia,g,ab2 acw ?_⟩
 row_cond go
 refine ⟨n,x,es,_,rfl,l,by lia,c,by lia,g,fun z=>absurd (G.symm.trans z) (fun y=>nomatch y),fun m hm J C=>?_⟩
 obtain rfl:J=true:=C.mpr ((akw g c (PyData.list.inj hm) l).mpr fun u v u0 u1 v0 v1=>j.top.2 u v u0 (by lia) v0 (by lia))
 row_cond go
 refine' cutR (R:=EvS B ?c1 ?d1 [some (.st (webD n es)),some (.st (.int x)),some (.st (.int a)),some (.st (.int b)),some (.st (.int U)),some (.st (.list (ps.map .int))),some (.st (.list (matD n.toNat (dsF es)))),none,none]) (fun R=>?K1) ?K2
 case K1 =>
  by_cases hx:0 < x
  ·row_cond go
   refine ⟨n,x - 1,es,_,rfl,l,by lia,c,by lia,g,fun z=>absurd (G.symm.trans z) (fun y=>nomatch y),fun m hm J C=>?_⟩
   obtain rfl:J=false:=by
    cases J with
    | false=>rfl
    | true =>
     have:=(akw g c (PyData.list.inj hm) l).mp (C.mp rfl) a b p F r I
     rw [j.eq] at this
     lia
   repeat (first | exact R | row_cond st)
  ·repeat (first | exact R | row_cond st)
 case K2 =>
  row_cond go
  refine acm (fun i e=>∃ W S,e=[some (.st (webD n es)),some (.st (.int x)),some (.st (.int a)),some (.st (.int b)),some (.st (.int U)),some (.st (.list (ps.map .int))),some (.st (.list (matD n.toNat (dsF es)))),W,S]) ⟨_,_,rfl⟩ ?_ ?_
  ·rintro i e hi ⟨W,S,rfl⟩
   row_cond go
   refine ⟨n,0+(i:Int),es,rfl,by lia,c,by lia,by lia,by lia,?_⟩
   rw [aqe g (by lia) (by lia),aex]
   row_cond go
   refine aeu (by simp;lia) fun m hm=>?_
   obtain ⟨a5,L⟩:=Z.sees (by lia) (by lia) hm
   have a2:=j.sees (by lia) (by lia) hm
   row_cond go
   refine apl rfl (aul ps) (by simp [PyData.depth]) ?_
   rw [aF8 aB0,awl]
   have O:decide (m=U)=decide (0+(i:Int)∈ps):=by rw [decide_eq_decide];exact L
   row_cond go
   exact ⟨_,_,rfl⟩
  ·rintro e ⟨W,S,rfl⟩
   row_cond go
   exact Y
theorem sc_law_right:FnScope ["deck","web","n","ties","row","turned","wide","places","a","b","more"] ["deck","web"] (aal s_law_right):=by row_cond sc
theorem alh (T:Txt K mg):Can P w K mg base "_law_right" 11 ["deck","web"] (spI K (awn)):=by
 obtain ⟨f,fd,D⟩:=T.d_law_right
 refine D.can (D.fn.ok sc_law_right (fun vs H Q E h=>lenI h fun A ss Q' q=>by obtain ⟨n,es,rfl,rfl,m,n1,c,S,r,k⟩:=q;rfl) (fun cdv A outer s H vs Q E d h=>?_))
 have nd:=sc_law_right.nd
 refine ⟨_,(aac (acr (pv 1) (ac9 rfl (aa0 (aaj (i:=2) nd rfl (Or.inl rfl)) (aa0 (aaj (i:=3) nd rfl (Or.inl rfl)) acp))))
  (aac (aan (i:=4) nd rfl (Or.inr rfl) (aaf (aef T) d (aaa (pv 0) (aaa (pv 2) aab))))
  (aac (aan (i:=5) nd rfl (Or.inl rfl) (abd (aaa (pv 2) (aaa (aak ail (by rfl) T.b_sorted act (aaa (acz rfl (N:=["a","b","row"]) (src:=[none,none,some 4]) (by exact abe rfl rfl rfl rfl rfl rfl) (aba (pv 3)) (fun _ _ _ _=>(show PG _ _ (gTup K 2 (ae0 (aa4 0) (ae0 (aa4 1) gNil))) from (ac9 rfl (aa0 (aaj (i:=0) (show List.Nodup (["a","b","row"]:List Str) by decide +kernel) rfl (Or.inl rfl) (hf:=Or.inr rfl)) (aa0 (aaj (i:=1) (show List.Nodup (["a","b","row"]:List Str) by decide +kernel) rfl (Or.inl rfl) (hf:=Or.inr rfl)) acp))))) (fun _ _ _ _=>abb) (fun _ _ _ _=>(abd (aaa (aak (acl rfl) (by rfl) T.b_min adi (aaa (aao (show IxR _ (ab6 K) from aaq) (pv 2) (pv 0) (fun _ _=>rfl)) (aaa (aao (show IxR _ (ab6 K) from aaq) (pv 2) (pv 1) (fun _ _=>rfl)) aab))) (aaa (aak (ack rfl) (by rfl) T.b_max ach (aaa (aao (show IxR _ (ab6 K) from aaq) (pv 2) (pv 0) (fun _ _=>rfl)) (aaa (aao (show IxR _ (ab6 K) from aaq) (pv 2) (pv 1) (fun _ _=>rfl)) aab))) aab))))) aab)) aab))))
  (aac (acr (aaf (ad1 T) d (aaa (pv 1) aab)) (ac9 rfl (aa0 (aaj (i:=6) nd rfl (Or.inl rfl)) (aa0 (aaj (i:=7) nd rfl (Or.inl rfl)) acp))))
  (aac (abl (PW.pt (aez (acn (ac1 (aaf (aeg T) d (aaa (pv 1) aab)))) (aez (acn (ac1 (aaf (aeg T) d (aaa (pv 5) aab)))) (afg (aa7 agy (aao aaq (aaf (abw T) d (aaa (pv 5) aab)) aae (fun _ _=>rfl)) (aao aaq (aaf (abw T) d (aaa (pv 1) aab)) aae (fun _ _=>rfl)) (aay _))))))
   (aah (aau ace))
   aa1)
  (aac (abl (aa7 (as0 d.units) (aaf (ad1 T) d (aaa (pv 5) aab)) (abd (aaa (pv 6) (aaa (aak aq2 (by rfl) T.b_sorted act (aaa (acz rfl (N:=["place","row"]) (src:=[none,some 4]) (by exact abe rfl rfl rfl rfl rfl rfl) (aba (pv 7)) (fun _ _ _ _=>(aaj (i:=0) (show List.Nodup (["place","row"]:List Str) by decide +kernel) rfl (Or.inl rfl) (hf:=Or.inr rfl))) (fun _ _ _ _=>abb) (fun _ _ _ _=>(aao (show IxR _ (ab6 K) from aaq) (pv 1) (pv 0) (fun _ _=>rfl)))) aab)) aab))) (aay _))
   (aah (aau ace))
   aa1)
  (aac (aan (i:=8) nd rfl (Or.inl rfl) (aaf (aam T) d (aaa (pv 0) (aaa (pv 2) aab))))
  (aac (aan (i:=9) nd rfl (Or.inl rfl) (aaf (aam T) d (aaa (pv 0) (aaa (pv 2) aab))))
  (aac (aan (i:=10) nd rfl (Or.inl rfl) (abd (aaa (pv 2) (aaa (aak (aop rfl) (by rfl) T.b_sorted act (aaa (ad5 (call_setT rfl d.units) (by rfl) T.b_set a0o (aaa (aav ash (pv 3) (aav asi (aa8 (aaa (abd (aaa (aak (acl rfl) (by rfl) T.b_min adi (aaa (pv 8) (aaa (pv 9) aab))) (aaa (aak (ack rfl) (by rfl) T.b_max ach (aaa (pv 8) (aaa (pv 9) aab))) aab))) aab)) (ad5 aib (by rfl) T.b_int amf (aaa (abz agy (pv 8) (pv 9) (aay _)) aab)))) aab)) aab)) aab))))
  (aah (aau (ahz (abz ady (aao aaq (aaf (abw T) d (aaa (pv 10) aab)) aae (fun _ _=>rfl)) (aao aaq (aaf (abw T) d (aaa (pv 1) aab)) aae (fun _ _=>rfl)) (aay _)) (ahy (abz ady (aao aaq (aaf (ad1 T) d (aaa (pv 10) aab)) aae (fun _ _=>rfl)) (pv 6) (aay _))))))))))))))),?_⟩
 refine als h fun A0 ss Q' q B hK=>?_
 obtain ⟨n,es,rfl,rfl,m,n1,c,S,r,k⟩:=q
 show EvS B _ _ [some (.io ODk),some (.st (webD n es)),none,none,none,none,none,none,none,none,none]
 row_cond go
 refine ⟨n,rfl,rfl,by lia,by lia,fun row C=>ab2 acw ?_⟩
 row_cond go
 refine akn (ps:=es.map (reP row)) ?_
 row_cond go
 refine am9 (xs:=es) (fa:=fun p => .int p.1) (fb:=fun p => .int p.2) (fun p=>prD (reP row p)) (fun _=>true) rfl (by lia) ?_ ?_
 ·intro p y B' hB
  have J:=c p y
  have r1:=afr (f:=PyData.int) (C.atI (a:=p.1) (by lia) (by lia))
  have r2:=afr (f:=PyData.int) (C.atI (a:=p.2) (by lia) (by lia))
  refine afo ⟨rfl,rfl,fun _=>?_⟩
  row_cond go
  exact ⟨a2h row p,rfl⟩
 ·rw [aio]
  row_cond go
  refine ⟨by rw [aE0];rfl,fun qs J _=>acf ?_⟩
  have o:=a2g C c J
  have I:=auk C r J m
  have b0:qs.length<=2000:=by rw [J.length_eq,aA3];exact S
  row_cond go
  refine ⟨n,es,rfl,m,by lia,c,by lia,r,fun wd ps L=>ab2 aiw ?_⟩
  row_cond go
  refine ⟨n,es,rfl,m,n1,c,by lia,r,?_⟩
  row_cond go
  refine ⟨n,qs,rfl,m,n1,o,by lia,I,?_⟩
  row_cond go
  refine ⟨n,qs,rfl,m,by lia,o,by lia,I,fun x2 a2 b2 a3=>?_⟩
  row_cond go
  refine ⟨n,es,rfl,m,by lia,c,by lia,r,fun x a b hF=>?_⟩
  obtain rfl:=awj C c r J hF a3
  row_cond go
  refine ⟨n,qs,rfl,m,by lia,o,by lia,I,fun b3 a1 U=>arc ?_⟩
  obtain ⟨rfl,R⟩:=awk C c r J L U
  repeat (first | (refine abh (atn ?_)) | row_cond st)
  refine acx (xs:=ps) (f:=PyData.int) (fun u => .int (aar row u)) rfl (by have:=aob L;lia) (fun u hu B' hB=>?_) ?_
  ·have b7:=(L.mem u).mp hu
   have r1:=afr (f:=PyData.int) (C.atI (a:=u) (by lia) (by lia))
   row_cond go
   exact rfl
  ·row_cond go
   refine ⟨ps.map (aar row),by rw [aE0];rfl,by rw [aA3];have:=aob L;lia,fun rs Z W=>acf ?_⟩
   obtain rfl:rs=a1:=aum C L U R Z W
   row_cond go
   refine apk (dueP _ _) (dueP _ _) (a3l _ _) ?_
   rw [avy (dueP _ _)]
   row_cond go
   refine ⟨n,rfl,rfl,by lia,by lia,fun j b1 b8=>?_⟩
   row_cond go
   refine ⟨n,rfl,rfl,by lia,by lia,fun l c0 a9=>?_⟩
   obtain ⟨fs,a0,c1,Y⟩:∃ fs:List (Int × Int),(List.replicate (if (!decide (j=l))=true then (1:Int) else 0).toNat [PyData.tuple [.int (if l < j then l else j),.int (if l > j then l else j)]]).flatten=fs.map prD/\fs.length<=1/\InN n fs:=by
    by_cases e:j=l
    ·exact ⟨[],by rw [aD8 e];rfl,by simp,fun p y=>absurd y (aI6)⟩
    ·refine ⟨[(if l < j then l else j,if l > j then l else j)],by rw [aD7 e];rfl,by simp,fun p y=>?_⟩
     cases aC2.mp y
     simp only
     split <;> split <;> exact ⟨by lia,by lia,by lia,by lia⟩
   repeat (first | (refine abh (arv ?_)) | row_cond st)
   refine apm (by split <;> lia) (by split <;> lia) (by cases !decide (j=l) <;> exact Nat.le_of_ble_eq_true rfl) (acf ?_)
   rw [a0]
   row_cond go
   rw [← aE5]
   refine ⟨es ++ fs,rfl,by rw [aB1];lia,fun M nd G _=>acf ?_⟩
   have g:∀ p∈es,p∈M:=fun p y=>(G p).mpr (aA7.mpr (.inl y))
   have F:InN n M:=fun p y=>by
    rcases aA7.mp ((G p).mp y) with z | z
    ·exact c p z
    ·exact Y p z
   have b9:M.length<=2001:=aD0 (aF0 nd fun p y=>(G p).mp y) (by rw [aB1];lia)
   have O:Joined n M:=Conn.joined (r.conn.mono fun u v t=>t.imp (g _) (g _)) (by lia)
   row_cond go
   refine ⟨n,M,rfl,m,by lia,F,by lia,O,fun x5 a5 b5 a8=>?_⟩
   row_cond go
   refine ⟨n,es,rfl,m,by lia,c,by lia,r,fun x6 a6 b6 X=>?_⟩
   have c3:=X.le a8 r g
   row_cond go
   refine ⟨n,M,rfl,m,by lia,F,by lia,O,fun w7 c2 a7=>arc ?_⟩
   have h7:=L.less a7 r g
   row_cond go
   rw [aD8 h7]
   exact k
theorem sc_law:FnScope ["script","deck","k"] ["script"] (aal s_law):=by row_cond sc
theorem azu (T:Txt K mg) {f:Addr} {fd:FuncData} (D:DefAt K mg "law" s_law ["script"] f fd):FnOk P w K mg base CX0 12 f fd ["script"] (spP K (aw9)):=by
 refine D.fn.ok sc_law (fun vs H Q E h=>lenP h fun ss l q=>by obtain ⟨ns,rfl,a,j⟩:=q;rfl) (fun cdv A outer s H vs Q E b h=>?_)
 have nd:=sc_law.nd
 refine ⟨_,(aac (aan (i:=1) nd rfl (Or.inl rfl) (aaf (an5 T) b (aaa (pv 0) aab)))
  (aac (abp aK0 rfl (abk rfl T.b_range (aaa aae aab)) (aaj (i:=2) nd rfl (Or.inl rfl))
   (aah (abl (acn (ac1 (aaf (alh T) b (aaa (pv 1) (aaa (aaf (agv T) b (aaa (pv 1) aab)) aab)))))
     (aah (aau ace))
     aa1)))
  (aah (aau ace)))),?_⟩
 refine abi h fun ss l q B r=>?_
 obtain ⟨ns,rfl,a,j⟩:=q
 show EvS B _ _ [some (.scr ns),none,none]
 row_cond go
 refine ⟨ns,rfl,a,?_⟩
 row_cond go
 refine acm (fun i e=>∃ c,e=[some (.scr ns),some (.own ODk),c]) ⟨_,rfl⟩ ?_ ?_
 ·rintro i e hi ⟨c,rfl⟩
  row_cond go
  refine ⟨rfl,rfl,fun n es m p d g o=>?_⟩
  row_cond go
  refine ⟨n,es,rfl,rfl,m,p,d,g,o,?_⟩
  row_cond go
  exact ⟨_,rfl⟩
 ·rintro e ⟨c,rfl⟩
  row_cond go
  exact j
theorem a2i (T:Txt K mg) {f:Addr} {fd:FuncData} (D:DefAt K mg "law" s_law ["script"] f fd):FnOk P w K mg base CX0 12 f fd ["script"] (ary K):=(azu T D).imp fun _ _ _ _ h=>awm h
end
theorem len0 {α:Type} {us:List α} (h:us.length=0):us=[]:=aH4 h
theorem len1 {α:Type} {us:List α} (h:us.length=1):∃ a0,us=[a0]:=by
 cases us with
 | nil=>cases h
 | cons a us=>exact ⟨a,by rw [len0 (Nat.succ.inj h)]⟩
theorem len2 {α:Type} {us:List α} (h:us.length=2):∃ a0 a1,us=[a0,a1]:=by
 cases us with
 | nil=>cases h
 | cons a us=>obtain ⟨a1,e⟩:=len1 (Nat.succ.inj h);exact ⟨a,a1,by rw [e]⟩
theorem len3 {α:Type} {us:List α} (h:us.length=3):∃ a0 a1 b,us=[a0,a1,b]:=by
 cases us with
 | nil=>cases h
 | cons a us=>obtain ⟨a1,b,e⟩:=len2 (Nat.succ.inj h);exact ⟨a,a1,b,by rw [e]⟩
theorem len4 {α:Type} {us:List α} (h:us.length=4):∃ a0 a1 b c,us=[a0,a1,b,c]:=by
 cases us with
 | nil=>cases h
 | cons a us=>obtain ⟨a1,b,c,e⟩:=len3 (Nat.succ.inj h);exact ⟨a,a1,b,c,by rw [e]⟩
theorem len5 {α:Type} {us:List α} (h:us.length=5):∃ a0 a1 b c d,us=[a0,a1,b,c,d]:=by
 cases us with
 | nil=>cases h
 | cons a us=>obtain ⟨a1,b,c,d,e⟩:=len4 (Nat.succ.inj h);exact ⟨a,a1,b,c,d,by rw [e]⟩
def Bnd (x:Str) (st:Stmt) (ps:List Str):Prop:=∀ (kV doc pm:Value) (an:Option Addr) (cdv ct:Value) (us:List Value),us.length=ps.length->bindArgs (fnOf x x (acg st) (ab0 st) (aal st) .none kV doc pm an cdv ct) ⟨us,[]⟩=pure (ps.zip us)
def FnIn (K:Frag) (x:Str) (st:Stmt):Prop:=∃ f oc od kV dc pm an cd ct sl,nsIn K mainGlobals x=some (some (.ref f))/\K.lookup f=some ⟨oc,od,.func (fnOf x x (acg st) (ab0 st) (aal st) .none kV dc pm an cd ct),sl⟩/\codeIn K cd x=true/\keepIn K (.ref f)=true
theorem fn_in {K:Frag} {x:Str} {st:Stmt} {f:Addr} {od an:Option Addr} {sl:Array (Option Value)} {oc kV d pm b ct:Value} (a:nsIn K mainGlobals x=some (some (.ref f))) (l:K.lookup f=some ⟨oc,od,.func (fnOf x x (acg st) (ab0 st) (aal st) .none kV d pm an b ct),sl⟩) (c:codeIn K b x=true) (k:keepIn K (.ref f)=true):FnIn K x st:=⟨f,oc,od,kV,d,pm,an,b,ct,sl,a,l,c,k⟩
theorem bnd1 {st:Stmt} {x:Str} {ps:List Str} (c:ps.length=1) (h:∀ (kV doc pm:Value) (an:Option Addr) (cdv ct:Value) (b:Value),bindArgs (fnOf x x (acg st) (ab0 st) (aal st) .none kV doc pm an cdv ct) ⟨[b],[]⟩=pure (ps.zip [b])):Bnd x st ps:=by
 intro kV doc pm an cdv ct us a
 rw [c] at a
 obtain ⟨_,rfl⟩:=len1 a
 exact h _ _ _ _ _ _ _
theorem bnd2 {st:Stmt} {x:Str} {ps:List Str} (d:ps.length=2) (h:∀ (kV doc pm:Value) (an:Option Addr) (cdv ct:Value) (a b:Value),bindArgs (fnOf x x (acg st) (ab0 st) (aal st) .none kV doc pm an cdv ct) ⟨[a,b],[]⟩=pure (ps.zip [a,b])):Bnd x st ps:=by
 intro kV doc pm an cdv ct us c
 rw [d] at c
 obtain ⟨_,_,rfl⟩:=len2 c
 exact h _ _ _ _ _ _ _ _
theorem bnd3 {st:Stmt} {x:Str} {ps:List Str} (f:ps.length=3) (h:∀ (kV doc pm:Value) (an:Option Addr) (cdv ct:Value) (a c b:Value),bindArgs (fnOf x x (acg st) (ab0 st) (aal st) .none kV doc pm an cdv ct) ⟨[a,c,b],[]⟩=pure (ps.zip [a,c,b])):Bnd x st ps:=by
 intro kV doc pm an cdv ct us d
 rw [f] at d
 obtain ⟨_,_,_,rfl⟩:=len3 d
 exact h _ _ _ _ _ _ _ _ _
theorem bnd5 {st:Stmt} {x:Str} {ps:List Str} (i:ps.length=5) (h:∀ (kV doc pm:Value) (an:Option Addr) (cdv ct:Value) (b g a f d:Value),bindArgs (fnOf x x (acg st) (ab0 st) (aal st) .none kV doc pm an cdv ct) ⟨[b,g,a,f,d],[]⟩=pure (ps.zip [b,g,a,f,d])):Bnd x st ps:=by
 intro kV doc pm an cdv ct us c
 rw [i] at c
 obtain ⟨_,_,_,_,_,rfl⟩:=len5 c
 exact h _ _ _ _ _ _ _ _ _ _ _
theorem aaz {K:Frag} {h:Heap} {mg:Str->Option Value} {x:Str} {st:Stmt} {ps:List Str} (X:K.In h) (G:h.Ns mainGlobals mg) (q:FnIn K x st)
  (hb:Bnd x st ps):∃ f fd,DefAt K mg x st ps f fd:=by
 obtain ⟨f,oc,od,kV,b,pm,an,d,ct,sl,a,l,c,k⟩:=q
 exact ⟨_,_,have F:=az9 (st:=st) l c k;⟨F,mg_of X G a,F.binds hb⟩⟩
theorem txt_mk {K:Frag} {h:Heap} {mg:Str->Option Value} (X:K.In h) (G:h.Ns mainGlobals mg)
  (Y:FnIn K "is_whole" s_is_whole)
  (R:FnIn K "is_between" s_is_between)
  (T:FnIn K "is_place" s_is_place)
  (h3:FnIn K "tied_places" s_tied_places)
  (h4:FnIn K "far_from" s_far_from)
  (Z:FnIn K "need_place" s_need_place)
  (W:FnIn K "all_far" s_all_far)
  (U:FnIn K "how_far" s_how_far)
  (S:FnIn K "is_joined" s_is_joined)
  (Q:FnIn K "need_joined" s_need_joined)
  (x:FnIn K "far_rows" s_far_rows)
  (L:FnIn K "most_far" s_most_far)
  (u:FnIn K "farthest_two" s_farthest_two)
  (B:FnIn K "middles" s_middles)
  (D:FnIn K "far_paper" s_far_paper)
  (H:FnIn K "far_shows" s_far_shows)
  (z:FnIn K "is_square" s_is_square)
  (A:FnIn K "is_long" s_is_long)
  (w:FnIn K "number_holds" s_number_holds)
  (M:FnIn K "_law_deck" s_law_deck)
  (v:FnIn K "_law_draw" s_law_draw)
  (y:FnIn K "_law_tied" s_law_tied)
  (C:FnIn K "_law_fars" s_law_fars)
  (F:FnIn K "_law_order" s_law_order)
  (E:FnIn K "_law_crowds" s_law_crowds)
  (N:FnIn K "_law_web" s_law_web)
  (O:FnIn K "_law_joined_web" s_law_joined_web)
  (J:FnIn K "_law_one_right" s_law_one_right)
  (P:FnIn K "_law_right" s_law_right)
  (I:FnIn K "law" s_law)
  (a:nsIn K mainGlobals "ValueError" = some none)
  (l:nsIn K mainGlobals "max" = some none)
  (s:nsIn K mainGlobals "min" = some none)
  (r:nsIn K mainGlobals "all" = some none)
  (n:nsIn K mainGlobals "any" = some none)
  (f:nsIn K mainGlobals "range" = some none)
  (j:nsIn K mainGlobals "dict" = some none)
  (i:nsIn K mainGlobals "list" = some none)
  (b:nsIn K mainGlobals "isinstance" = some none)
  (m:nsIn K mainGlobals "int" = some none)
  (q:nsIn K mainGlobals "len" = some none)
  (p:nsIn K mainGlobals "sum" = some none)
  (d:nsIn K mainGlobals "sorted" = some none)
  (g:nsIn K mainGlobals "bool" = some none)
  (o:nsIn K mainGlobals "set" = some none)
  (c:nsIn K mainGlobals "enumerate" = some none)
  : Txt K mg where
  b_ValueError:=mg_none_of X G a
  b_max:=mg_none_of X G l
  b_min:=mg_none_of X G s
  b_all:=mg_none_of X G r
  b_any:=mg_none_of X G n
  b_range:=mg_none_of X G f
  b_dict:=mg_none_of X G j
  b_list:=mg_none_of X G i
  b_isinstance:=mg_none_of X G b
  b_int:=mg_none_of X G m
  b_len:=mg_none_of X G q
  b_sum:=mg_none_of X G p
  b_sorted:=mg_none_of X G d
  b_bool:=mg_none_of X G g
  b_set:=mg_none_of X G o
  b_enumerate:=mg_none_of X G c
  d_is_whole:=aaz X G Y (bnd1 rfl fun _ _ _ _ _ _ _=>rfl)
  d_is_between:=aaz X G R (bnd3 rfl fun _ _ _ _ _ _ _ _ _=>rfl)
  d_is_place:=aaz X G T (bnd2 rfl fun _ _ _ _ _ _ _ _=>rfl)
  d_tied_places:=aaz X G h3 (bnd1 rfl fun _ _ _ _ _ _ _=>rfl)
  d_far_from:=aaz X G h4 (bnd2 rfl fun _ _ _ _ _ _ _ _=>rfl)
  d_need_place:=aaz X G Z (bnd2 rfl fun _ _ _ _ _ _ _ _=>rfl)
  d_all_far:=aaz X G W (bnd2 rfl fun _ _ _ _ _ _ _ _=>rfl)
  d_how_far:=aaz X G U (bnd3 rfl fun _ _ _ _ _ _ _ _ _=>rfl)
  d_is_joined:=aaz X G S (bnd1 rfl fun _ _ _ _ _ _ _=>rfl)
  d_need_joined:=aaz X G Q (bnd1 rfl fun _ _ _ _ _ _ _=>rfl)
  d_far_rows:=aaz X G x (bnd1 rfl fun _ _ _ _ _ _ _=>rfl)
  d_most_far:=aaz X G L (bnd1 rfl fun _ _ _ _ _ _ _=>rfl)
  d_farthest_two:=aaz X G u (bnd1 rfl fun _ _ _ _ _ _ _=>rfl)
  d_middles:=aaz X G B (bnd1 rfl fun _ _ _ _ _ _ _=>rfl)
  d_far_paper:=aaz X G D (bnd1 rfl fun _ _ _ _ _ _ _=>rfl)
  d_far_shows:=aaz X G H (bnd3 rfl fun _ _ _ _ _ _ _ _ _=>rfl)
  d_is_square:=aaz X G z (bnd2 rfl fun _ _ _ _ _ _ _ _=>rfl)
  d_is_long:=aaz X G A (bnd2 rfl fun _ _ _ _ _ _ _ _=>rfl)
  d_number_holds:=aaz X G w (bnd5 rfl fun _ _ _ _ _ _ _ _ _ _ _=>rfl)
  d_law_deck:=aaz X G M (bnd1 rfl fun _ _ _ _ _ _ _=>rfl)
  d_law_draw:=aaz X G v (bnd2 rfl fun _ _ _ _ _ _ _ _=>rfl)
  d_law_tied:=aaz X G y (bnd1 rfl fun _ _ _ _ _ _ _=>rfl)
  d_law_fars:=aaz X G C (bnd1 rfl fun _ _ _ _ _ _ _=>rfl)
  d_law_order:=aaz X G F (bnd2 rfl fun _ _ _ _ _ _ _ _=>rfl)
  d_law_crowds:=aaz X G E (bnd1 rfl fun _ _ _ _ _ _ _=>rfl)
  d_law_web:=aaz X G N (bnd1 rfl fun _ _ _ _ _ _ _=>rfl)
  d_law_joined_web:=aaz X G O (bnd1 rfl fun _ _ _ _ _ _ _=>rfl)
  d_law_one_right:=aaz X G J (bnd1 rfl fun _ _ _ _ _ _ _=>rfl)
  d_law_right:=aaz X G P (bnd2 rfl fun _ _ _ _ _ _ _ _=>rfl)
  d_law:=aaz X G I (bnd1 rfl fun _ _ _ _ _ _ _=>rfl)
theorem walk {l:PySem.W.OpenLaw} {q:Program} {b:List Str} {y:(Str->Option Value)->Heap->Prop} {j:World->Heap->Prop} {d:DefRec} {K:Params->Frag} (hn:l.most=some 63) (c:d.params.defaults=[]) (i:d.name = "law")
  (v:∀ (w:World) (h:Heap),j w h->(K w.params).In h)
  (F:∀ (w:World) (mg:Str->Option Value) (h:Heap),(K w.params).In h->h.Ns mainGlobals mg->Txt (K w.params) mg) :
  PySem.W.WalkO q b y j l.row.toRowW d [] (fun f vs=>PySem.call f vs):=by
 refine L2.walk_of (n:=63) (k:=12) (x:="script") (CX:=fun _=>CX0) (sp:=fun w=>ary (K w.params)) hn (by decide) c ⟨rfl,by decide,by decide⟩ v (fun w mg fa h X G e=>?_) (fun _ _ a ns r _ p=>⟨a,ns,rfl,p,r,fun _=>rfl⟩) fun _ _ _ _ _ z=>z
 have T:=F w mg h X G
 rw [i] at e
 obtain ⟨f1,g,D⟩:=T.d_law
 have o:=e.symm.trans D.mgx
 cases o
 refine ⟨g,fun s u=>?_,fun base _ _=>?_⟩
 ·obtain ⟨oc,od,kV,doc,pm,an,cdv,ct,osl,rfl,A,m⟩:=D.fn.ex
  exact .of_eq rfl
 ·exact a2i T D
end G
end
theorem PySem.W.Fast.tw5970691468238045016 : True := trivial
theorem PySem.W.Fast.tw7820310633562295974 : True := trivial
theorem PySem.W.Fast.tw1508515162418266062 : True := trivial
theorem PySem.W.Fast.tw2091439055933770648 : True := trivial
theorem PySem.W.Fast.tw6508604245791661583 : True := trivial
theorem PySem.W.Fast.tw306839017157982731 : True := trivial
theorem PySem.W.Fast.tw5962834844909150430 : True := trivial
theorem PySem.W.Fast.tw12439670152592270313 : True := trivial
theorem PySem.W.Fast.tw3858525625760425981 : True := trivial
theorem PySem.W.Fast.tw5836198968295739746 : True := trivial
theorem PySem.W.Fast.tw11552516056673478021 : True := trivial
theorem PySem.W.Fast.tw6361280461483016330 : True := trivial
theorem PySem.W.Fast.tw15190840863952572013 : True := trivial
theorem PySem.W.Fast.tw14287544921797073447 : True := trivial
theorem PySem.W.Fast.tw14316656464602828929 : True := trivial
theorem PySem.W.Fast.tw18437544934692485989 : True := trivial
theorem PySem.W.Fast.tw10196584241646211499 : True := trivial
theorem PySem.W.Fast.tw12831435854840421088 : True := trivial
theorem PySem.W.Fast.tw11803883063660714022 : True := trivial
theorem PySem.W.Fast.tw10409094986784312173 : True := trivial
theorem PySem.W.Fast.tw8862220210298320636 : True := trivial
theorem PySem.W.Fast.tw14796021009573450550 : True := trivial
theorem PySem.W.Fast.tw16671366154951122659 : True := trivial
theorem PySem.W.Fast.tw16930603256693112781 : True := trivial
theorem PySem.W.Fast.tw3221192774765887532 : True := trivial
theorem PySem.W.Fast.tw11018445130749585478 : True := trivial
theorem PySem.W.Fast.tw6042247615592185085 : True := trivial
theorem PySem.W.Fast.tw17009521022435046437 : True := trivial
theorem PySem.W.Fast.tw10103010017335652922 : True := trivial
theorem PySem.W.Fast.tw12163072480990876947 : True := trivial
theorem PySem.W.Fast.tw16319875368017340268 : True := trivial
theorem PySem.W.Fast.tw16883217882735478659 : True := trivial
theorem PySem.W.Fast.tw8270829437768308786 : True := trivial
theorem PySem.W.Fast.tw6084831342830841106 : True := trivial
theorem PySem.W.Fast.tw13572837687492130345 : True := trivial
theorem PySem.W.Fast.tw15466066782386180509 : True := trivial
theorem PySem.W.Fast.tw3413254964891107361 : True := trivial
theorem PySem.W.Fast.tw16400759909408082776 : True := trivial
theorem PySem.W.Fast.tw4614004807320556191 : True := trivial
theorem PySem.W.Fast.tw11950810175064936793 : True := trivial
theorem PySem.W.Fast.tw15253493342205469035 : True := trivial
theorem PySem.W.Fast.tw2038389356834733301 : True := trivial
theorem PySem.W.Fast.tw3384946728494269530 : True := trivial
theorem PySem.W.Fast.tw3094216454556177843 : True := trivial
theorem PySem.W.Fast.tw7730282877430901396 : True := trivial
theorem PySem.W.Fast.tw3609055344029497955 : True := trivial
theorem PySem.W.Fast.tw6678552246700261877 : True := trivial
theorem PySem.W.Fast.tw11360828457644778816 : True := trivial
theorem PySem.W.Fast.tw13359592057350085441 : True := trivial
theorem PySem.W.Fast.tw15548473263930575295 : True := trivial
theorem PySem.W.Fast.tw15598768983635883708 : True := trivial
theorem PySem.W.Fast.tw13675239139219108042 : True := trivial
theorem PySem.W.Fast.tw5441672246795429140 : True := trivial
theorem PySem.W.Fast.tw3333824686783692504 : True := trivial
theorem PySem.W.Fast.tw7552810657979977977 : True := trivial
theorem PySem.W.Fast.tw8591815468781471225 : True := trivial
theorem PySem.W.Fast.tw10974553904147255401 : True := trivial
theorem PySem.W.Fast.tw9963384007691806450 : True := trivial
theorem PySem.W.Fast.tw6697237861200825183 : True := trivial
theorem PySem.W.Fast.tw4453269858388664652 : True := trivial
theorem PySem.W.Fast.tw16649301778982513548 : True := trivial
theorem PySem.W.Fast.tw4579935718769294762 : True := trivial
theorem PySem.W.Fast.tw9112113902864195798 : True := trivial
theorem PySem.W.Fast.tw7826226606595714233 : True := trivial
theorem PySem.W.Fast.tw12208748332709131750 : True := trivial
theorem PySem.W.Fast.tw1967806789835147083 : True := trivial
theorem PySem.W.Fast.tw442194003979534606 : True := trivial
theorem PySem.W.Fast.tw15674255351033227507 : True := trivial
theorem PySem.W.Fast.tw18442400682781945515 : True := trivial
theorem PySem.W.Fast.tw15433994397460547226 : True := trivial
theorem PySem.W.Fast.tw2558891125625986049 : True := trivial
theorem PySem.W.Fast.tw3212731212700083024 : True := trivial
theorem PySem.W.Fast.tw5942453696823870379 : True := trivial
theorem PySem.W.Fast.tw3953501751614687601 : True := trivial
theorem PySem.W.Fast.tw3292103028151295570 : True := trivial
theorem PySem.W.Fast.tw15116849110320567378 : True := trivial
theorem PySem.W.Fast.tw13148870758434368744 : True := trivial
theorem PySem.W.Fast.tw15921187718472949302 : True := trivial
theorem PySem.W.Fast.tw8215451310551179324 : True := trivial
theorem PySem.W.Fast.tw15192556765241967754 : True := trivial
theorem PySem.W.Fast.tw4598523311025997094 : True := trivial
theorem PySem.W.Fast.tw3236298526134686672 : True := trivial
theorem PySem.W.Fast.tw5199101271702220939 : True := trivial
theorem PySem.W.Fast.tw2350938400549290825 : True := trivial
theorem PySem.W.Fast.tw14009058437386266208 : True := trivial
theorem PySem.W.Fast.tw13300815821317542941 : True := trivial
theorem PySem.W.Fast.tw4446160048567369510 : True := trivial
theorem PySem.W.Fast.tw1022730878101166158 : True := trivial
theorem PySem.W.Fast.tw3885382382502922016 : True := trivial
theorem PySem.W.Fast.tw16824076977838193800 : True := trivial
theorem PySem.W.Fast.tw12666068451945074652 : True := trivial
theorem PySem.W.Fast.tw12092256987967922510 : True := trivial
theorem PySem.W.Fast.tw1326039052433137381 : True := trivial
theorem PySem.W.Fast.tw5716511646272308522 : True := trivial
theorem PySem.W.Fast.tw2879670119424444614 : True := trivial
theorem PySem.W.Fast.tw14985943393843802476 : True := trivial
theorem PySem.W.Fast.tw17663129435536248249 : True := trivial
theorem PySem.W.Fast.tw418056328369468600 : True := trivial
theorem PySem.W.Fast.tw6415850041804080982 : True := trivial
theorem PySem.W.Fast.tw10188021355517450773 : True := trivial
theorem PySem.W.Fast.tw13285827977743498316 : True := trivial
theorem PySem.W.Fast.tw1634955614942474836 : True := trivial
theorem PySem.W.Fast.tw3788887438244979727 : True := trivial
theorem PySem.W.Fast.tw15802853411142712048 : True := trivial
theorem PySem.W.Fast.tw11430234665786247352 : True := trivial
theorem PySem.W.Fast.tw9562645790854673706 : True := trivial
theorem PySem.W.Fast.tw3496884408994058096 : True := trivial
theorem PySem.W.Fast.tw9941690422006423246 : True := trivial
theorem PySem.W.Fast.tw7252870521872920336 : True := trivial
theorem PySem.W.Fast.tw8807008116385453789 : True := trivial
theorem PySem.W.Fast.tw1873868740161354659 : True := trivial
theorem PySem.W.Fast.tw18297044828211025208 : True := trivial
theorem PySem.W.Fast.tw17362692826220274083 : True := trivial
theorem PySem.W.Fast.tw1161554115124233633 : True := trivial
theorem PySem.W.Fast.tw12708539805491418998 : True := trivial
theorem PySem.W.Fast.tw2269393926788355787 : True := trivial
theorem PySem.W.Fast.tw6901410316962250935 : True := trivial
theorem PySem.W.Fast.tw3559727979900095280 : True := trivial
theorem PySem.W.Fast.tw4689052121015668386 : True := trivial
theorem PySem.W.Fast.tw6160137680871439806 : True := trivial
theorem PySem.W.Fast.tw15586780037696286142 : True := trivial
theorem PySem.W.Fast.tw18024034074421960273 : True := trivial
theorem PySem.W.Fast.tw10004508100980670855 : True := trivial
theorem PySem.W.Fast.tw8209350620246711867 : True := trivial
theorem PySem.W.Fast.tw16682625713193504849 : True := trivial
theorem PySem.W.Fast.tw8867680125489952226 : True := trivial
theorem PySem.W.Fast.tw15465199551020434969 : True := trivial
theorem PySem.W.Fast.tw10575759912337662919 : True := trivial
theorem PySem.W.Fast.tw11714372742692175048 : True := trivial
open PySem PySem.W PyProof.Rows
set_option maxRecDepth 100000 in
set_option maxHeartbeats 0 in
theorem PySem.Challenge.cw_fewties_k12_whole_wide_and_far_holds : PySem.Challenge.rw_fewties_k12_whole_wide_and_far.Holds := by
 w_on;o_law;k_head;(case hw=>w_witness2)
 k_fill
 refine G.walk (l:=PySem.Challenge.rw_fewties_k12_whole_wide_and_far) rfl rfl rfl (fun w h Y=>PySem.W.kIn_of Y) ?F
 case F =>
  intro w mg h KX GG
  refine' G.txt_mk KX GG ..
  all_goals try (refine' G.fn_in ?a_ ?l_ ?c_ ?k_;(case a_=>k_is);(case l_=>k_is);(case c_=>k_is);(case k_=>k_is))
  all_goals try k_is
#print axioms PySem.Challenge.cw_fewties_k12_whole_wide_and_far_holds
